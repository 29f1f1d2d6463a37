import PyProof.Rows.All
import Wide.All
import OpenK.AllK
import Wide.FinOn
import HandS.ForMost
import HandS.AnyAll
import HandS.GenList
import HandS.EndTab
import KE.SortData
import HandS.WideBits
import HandS.DictComp
import HandS.More
import HandS.TupAny
import HandS.TupLe
import HandS.Walk
import HandS.HeadHook4
import HandS.Head4
import HandS.SortKw
import HandS.Iter
import HandS.SetFor
import HandS.SortInts
import HandS.List
import HandS.Strs
import HandS.Gcd
import KE.KMathGC
import HandS.Style
import HandS.Small
import HandS.Dict
import PyProof.RowDictHeap
import HandS.Deep
import HandS.IsInst
import HandS.Conv
import HandS.RevRange
import HandS.Wide
import HandS.Replace
import HandS.Text
import KE.HD3
import HandS.Head3
import PySem.Challenge.RW_heardapart_k15_whole_books_put_together
set_option Elab.async false
set_option linter.all false
set_option maxRecDepth 100000
set_option maxHeartbeats 8000000
/-! A generator expression whose element may do anything, under all( ) and any( ). -/
namespace Gx
open PySem PySem.Spec PyProof.Rows L2 GxR GenW

abbrev genv (X : Cx) (sc : Scope) (C : Addr) (code : Value) : Env :=
  genEnv sc (cloFrom X.env.cells sc.names []) C code builtinsNs X.env
abbrev gcx (X : Cx) (s : Shared) (H : Hp) (sc : Scope) (C : Addr) (code : Value) (fp : List Addr) : Cx :=
  { X with
    A := X.A.in1.in1.deeper (genv X sc C code)
    s_0 := s
    H_0 := H
    env := genv X sc C code
    outer := X.stack
    stack := genv X sc C code :: X.stack
    ex := fp
    fn := fun _ => false
    calm := true
    pn := []
    xe := fun _ _ => False }

theorem over_loop_gx {A : Around} {elt : Expr} {gs : List Comprehension} {sc : Scope} {pos : Pos} {it acc : Value} {env : Env} :
    A.over (.compLoop (.GeneratorExp elt gs sc pos) 0 it acc env) [] = A.deeper env := by
  obtain ⟨a, b, c, d, e⟩ := A
  cases c <;> cases d <;>
  simp [Around.over, Around.deeper, marksOver, frameCount, unitsOf, envsOf, guardsOf, pushEnvs, pushGuards, Code.envs, Code.env?, Code.isFrame, Code.guards, Code.isGuard, Code.weight, Code.frames, Code.isCreation, Code.isCaller, Code.cUnits]
theorem over_start_gx {A : Around} {elt : Expr} {gs : List Comprehension} {sc : Scope} {pos : Pos} {it acc : Value} {env : Env} :
    A.over (.compStart (.GeneratorExp elt gs sc pos) 0 it acc env) [] = A.deeper env := by
  obtain ⟨a, b, c, d, e⟩ := A
  cases c <;> cases d <;>
  simp [Around.over, Around.deeper, marksOver, frameCount, unitsOf, envsOf, guardsOf, pushEnvs, pushGuards, Code.envs, Code.env?, Code.isFrame, Code.guards, Code.isGuard, Code.weight, Code.frames, Code.isCreation, Code.isCaller, Code.cUnits]

section
variable {X : Cx} {pins : List (Addr × Obj)} {σ : L2.St} {H : Hp} {s : Shared}

theorem clo_look {cells : List (Str × Addr)} {names : List (Str × NameKind)} {y : Str} {c : Addr} (hf : ∀ z ∈ names, z.2 = .free → ∃ c, cells.lookup z.1 = some c)
    (h : (cloFrom cells names []).lookup y = some c) : cells.lookup y = some c ∧ (y, NameKind.free) ∈ names := by
  rcases cloFrom_mem (PySem.mem_of_lookup h) with q | ⟨q1, q2⟩
  · cases q
  · obtain ⟨c', e⟩ := hf _ q1 rfl
    rw [e] at q2
    have q3 : c = c' := q2
    exact ⟨by rw [q3]; exact e, q1⟩
theorem clo_has {cells : List (Str × Addr)} {names : List (Str × NameKind)} {y : Str} (hf : ∀ z ∈ names, z.2 = .free → ∃ c, cells.lookup z.1 = some c)
    (h : (y, NameKind.free) ∈ names) : ∃ c, (cloFrom cells names []).lookup y = some c ∧ cells.lookup y = some c := by
  obtain ⟨c, e⟩ := mem_lookup (cloFrom_has (cells := cells) (acc := []) h)
  exact ⟨c, e, (clo_look hf e).1⟩

/-- the generator's frame has been made: the state as its body sees it -/
theorem gx_start {sc : Scope} {own : List (Str × Nat)} {fp : List Addr} {C : Addr} {code : Value} {h' : Heap} {g' : Array GenState} {d' : Drawn} {t' : Nat}
    (I : Inv X pins σ H s) (hh : X.A.handled = none) (ok : BlkOk X.N X.env.scope sc own) (hN : X.N.Nodup) (hcell : ∀ y ∈ sc.names, y.2 ≠ .cell)
    (hfp : ∀ b ∈ fp, FpOk X pins H b ∧ b < s.heap.objs.size) (hC : C = s.heap.objs.size) (hns : ∃ m, h'.Ns C m)
    (kp : ∀ b o, s.heap.get? b = some o → h'.get? b = some o) (hg : AllBare g') :
    Inv (gcx X s H sc C code fp) [] (wipe σ (own.map (·.2))) H { s with heap := h', gens := g', drawn := d', toks := t' } := by
  have hf : ∀ z ∈ sc.names, z.2 = .free → ∃ c, X.env.cells.lookup z.1 = some c := fun z hz e => by
    rcases ok.free z hz e with k | k
    · exact I.ok.has _ (.inl k)
    · exact I.ok.has _ (.inr k)
  have cl : ∀ {y c}, (genv X sc C code).cells.lookup y = some c → X.env.cells.lookup y = some c ∧ (y, NameKind.free) ∈ sc.names := fun {y c} e => clo_look hf e
  have clt : ∀ {y c}, X.env.cells.lookup y = some c → c < s.heap.objs.size := fun {y c} e => by
    obtain ⟨w, z⟩ := I.cell y c e
    exact z.lt
  have free_of : ∀ {y}, (genv X sc C code).kindOf y = some .cell ∨ (genv X sc C code).kindOf y = some .free → (y, NameKind.free) ∈ sc.names := fun {y} hy => by
    rcases hy with hy | hy
    · exact absurd rfl (hcell _ (PySem.mem_of_lookup (show sc.names.lookup y = some .cell from hy)))
    · exact PySem.mem_of_lookup (show sc.names.lookup y = some .free from hy)
  have okY : (gcx X s H sc C code fp).Ok :=
    { mod := I.ok.mod
      kind := ok.kind
      glob := I.ok.glob
      blt := rfl
      above := Nat.le_of_eq hC.symm
      inj := fun y z c e1 e2 => I.ok.inj y z c (cl e1).1 (cl e2).1
      has := fun y hy => by
        obtain ⟨c, e, _⟩ := clo_has (cells := X.env.cells) hf (free_of hy)
        exact ⟨c, e⟩
      cab := fun y c e => by cases e
      hd := fun _ => hh
      frames := by
        have q := I.ok.frames
        show X.A.frames.map (genv X sc C code :: ·) = _
        rw [q]
        rfl
      stk := .inr ⟨rfl, rfl⟩
      exf := fun b hb => ⟨by
          show b ≠ C
          rw [hC]
          exact Nat.ne_of_lt (hfp b hb).2, fun y c e => (hfp b hb).1.2.2.2.2.1 y c (cl e).1⟩
      bs := I.bs
      bsz := Nat.le_trans I.ok.bsz I.sz
      noex := fun b o e hb => by
        rcases (hfp b hb).1.2.2.2.1 with z | z
        · exact I.ok.noex b o e z
        · exact absurd (Nat.lt_of_lt_of_le (Heap.lt_size e) (Nat.le_trans I.ok.bsz z)) (Nat.lt_irrefl _)
      exfs := fun b hb z => by
        rcases List.mem_cons.mp (I.stkSub b z) with z | z
        · exact (hfp b hb).1.2.1 z
        · exact (hfp b hb).1.2.2.1 z
      funs := I.stack
      frf := I.stkFree }
  obtain ⟨m, hm⟩ := hns
  have hn : ∀ b, s.heap.objs.size ≤ b → H b = none := fun b hb => I.hok.fresh hb
  refine { ok := okY, os := rfl, bare := hg, base := Un.kept kp, loc := ⟨m, hm, fun i y v e1 e2 e3 => ?_⟩, cell := fun y c e => ?_, free := hn C (Nat.le_of_eq hC.symm), freeC := fun y c e => I.freeC y c (cl e).1,
           pin := fun p hp => absurd (show p ∈ ([] : List (Addr × Obj)) ++ [] from hp) (by simp), hok := I.hok.kept kp, len := by rw [wipe_length]; exact I.len }
  · obtain ⟨e2, hne⟩ := wipe_some e2
    have hfr : (y, NameKind.free) ∈ sc.names := by
      have e3' : sc.names.lookup y = some .local ∨ sc.names.lookup y = some .cell ∨ sc.names.lookup y = some .free := e3
      have own : ∀ k, (y, k) ∈ sc.names → k = .local ∨ k = .cell → False := fun k hk hk2 => by
        rcases ok.own _ hk hk2 with q | q
        · obtain ⟨p, hp, hpy⟩ := List.mem_map.mp q
          have q3 := ok.ix p hp
          rw [show p.1 = y from hpy] at q3
          exact hne (List.mem_map.mpr ⟨p, hp, nodup_ix hN q3 e1⟩)
        · exact q (List.mem_of_getElem? e1)
      rcases e3' with q | q | q
      · exact (own _ (PySem.mem_of_lookup q) (.inl rfl)).elim
      · exact (own _ (PySem.mem_of_lookup q) (.inr rfl)).elim
      · exact PySem.mem_of_lookup q
    obtain ⟨m0, _, hl⟩ := I.loc
    have vis : Vis X.env.scope y := (ok.free _ hfr rfl).elim (fun k => .inr (.inl k)) fun k => .inr (.inr k)
    obtain ⟨w, r, q⟩ := hl i y v e1 e2 vis
    obtain ⟨c, h1, h2⟩ := clo_has (cells := X.env.cells) hf hfr
    have kf : (genv X sc C code).kindOf y = some .free := ok.uniq _ hfr
    refine ⟨w, r, .inr ⟨.inr kf, c, h1, ?_⟩⟩
    rcases q with ⟨k, _⟩ | ⟨_, c', e', z⟩
    · have k' : X.env.scope.names.lookup y = some .local := k
      rcases ok.free _ hfr rfl with k2 | k2 <;> rw [show X.env.scope.names.lookup y = _ from k2] at k' <;> cases k'
    · rw [h2] at e'
      cases e'
      exact z.keeps kp
  · obtain ⟨w, z⟩ := I.cell y c (cl e).1
    exact ⟨w, z.keeps kp⟩

/-- generators, tokens and what was drawn are no matter -/
theorem inv_gens {g' : Array GenState} {d' : Drawn} {t' : Nat} (I : Inv X pins σ H s) (hg : AllBare g') : Inv X pins σ H { s with gens := g', drawn := d', toks := t' } :=
  I.step (h' := s.heap) (ch := []) (fun b hb => absurd hb (by simp)) (fun _ _ _ _ _ e _ => e) (fun _ o _ _ _ e _ => ⟨o.slots, e⟩) (fun _ _ _ _ n => n) (fun _ o _ e => ⟨o, e⟩)
    (fun _ _ e => e) (fun _ _ _ e => e) (fun _ ps e => ⟨#[], by rw [e]; simp⟩) (fun _ hm => hm) I.hok hg
theorem inv_like {s' : Shared} (I : Inv X pins σ H s) (hh : s'.heap = s.heap) (ho : s'.os = s.os) (hg : AllBare s'.gens) : Inv X pins σ H s' := by
  have J := inv_gens (g' := s'.gens) (d' := s'.drawn) (t' := s'.toks) I hg
  rw [← hh] at J
  rw [sh_eta s s' ho] at J
  exact J

/-- what is known once and for all of one run of the generator -/
structure Run (X : Cx) (s0 : Shared) (H0 : Hp) (sc : Scope) (C : Addr) (code : Value) (fp : List Addr) (tg elt : Expr) (g : TG) (te : TE) (J : It) (it : Addr) (tn : Nat → Heap → Prop) (vs : List Nat) (σ0 : L2.St)
    (sb : Bool) (W : Nat → Nat → Hp → Prop) (Q : VK) : Prop where
  turns : Turn X.prog X.w X.K tg J fp it tn
  target : PG (gcx X s0 H0 sc C code fp) tg g
  element : PE (gcx X s0 H0 sc C code fp) elt te
  nocor : sc.isCoroutine = false
  step : ∀ i m H, W i m H → (J.stop i H ∧ Q (.bl (!sb)) H) ∨ (J.go i H ∧ ∃ Nx : Hp → Prop, (∀ H', Nx H' → ∃ m', m' < m ∧ W (i + 1) m' H') ∧
    ∀ x H', J.yld i H x H' → g x σ0 H' fun σ2 H2 => wipe σ2 vs = σ0 ∧ te σ2 H2 fun y H4 => ∃ b, y = .bl b ∧ if b = sb then Q (.bl sb) H4 else Nx H4)

/-- the generator stands ahead of its i-th turn, with room for n more -/
def Ahead (X : Cx) (s0 : Shared) (H0 : Hp) (sc : Scope) (C : Addr) (code : Value) (fp : List Addr) (tn : Nat → Heap → Prop) (σ0 : L2.St) (W : Nat → Nat → Hp → Prop) (pin : Addr × Obj) (i n : Nat) (s : Shared) : Prop :=
  ∃ H m, Inv (gcx X s0 H0 sc C code fp) [pin] σ0 H s ∧ tn i s.heap ∧ (∀ b ∈ fp, H b = none) ∧ m ≤ n ∧ W i m H
/-- it hands out a truth -/
def Out (X : Cx) (s0 : Shared) (H0 : Hp) (sc : Scope) (C : Addr) (code : Value) (fp : List Addr) (pin : Addr × Obj) (sb : Bool) (Q : VK) : Protocol := fun n s₀ v s kap =>
  ∃ (b : Bool) (σ1 : L2.St) (H1 : Hp), v = .bool b ∧ Inv (gcx X s0 H0 sc C code fp) [pin] σ1 H1 s ∧ (b = sb → Q (.bl sb) H1) ∧
    (b ≠ sb → ∀ s'', s''.heap = s.heap → s''.os = s.os → AllBare s''.gens → kap (.send .none) s'')
/-- it has come to its end -/
def Over (X : Cx) (s0 : Shared) (H0 : Hp) (sc : Scope) (C : Addr) (code : Value) (fp : List Addr) (pin : Addr × Obj) (sb : Bool) (Q : VK) (n : Nat) (s₀ s : Shared) : Prop :=
  ∃ (σ1 : L2.St) (H1 : Hp), Inv (gcx X s0 H0 sc C code fp) [pin] σ1 H1 s ∧ Q (.bl (!sb)) H1

section
variable {s0 : Shared} {H0 : Hp} {sc : Scope} {C : Addr} {code : Value} {fp : List Addr} {tg elt iter : Expr} {g : TG} {te : TE} {J : It} {it : Addr} {tn : Nat → Heap → Prop} {vs : List Nat} {σ0 : L2.St} {sb : Bool} {W : Nat → Nat → Hp → Prop} {Q : VK}
  {pin : Addr × Obj} {pos : Pos}

theorem ahead_like {i n : Nat} {s s' : Shared} (h : Ahead X s0 H0 sc C code fp tn σ0 W pin i n s) (hh : s'.heap = s.heap) (ho : s'.os = s.os) (hg : AllBare s'.gens) : Ahead X s0 H0 sc C code fp tn σ0 W pin i n s' := by
  obtain ⟨H, m, I, st, n, le, w⟩ := h
  exact ⟨H, m, inv_like I hh ho hg, by rw [hh]; exact st, n, le, w⟩

abbrev LoopC (X : Cx) (elt tg iter : Expr) (sc : Scope) (pos : Pos) (it C : Addr) (code : Value) : Code := .compLoop (.GeneratorExp elt [⟨tg, iter, [], 0⟩] sc pos) 0 (.ref it) .none (genv X sc C code)
abbrev SegX (X : Cx) (s0 : Shared) (H0 : Hp) (sc : Scope) (C : Addr) (code : Value) (fp : List Addr) (pin : Addr × Obj) (sb : Bool) (Q : VK) (n : Nat) (s₀ : Shared) (c : Code) (t : Sem PySem.Fin) (s : Shared) : Prop :=
  Seg (model X.prog X.w) X.A.in1.in1 (fun n s₀ r s₁ => r = .ok .next ∧ Over X s0 H0 sc C code fp pin sb Q n s₀ s₁) (Out X s0 H0 sc C code fp pin sb Q) n s₀ c t [] s

theorem seg_turn (R : Run X s0 H0 sc C code fp tg elt g te J it tn vs σ0 sb W Q) (hp : pin.1 ∉ fp) (n i : Nat) (s₀ s : Shared) (h : Ahead X s0 H0 sc C code fp tn σ0 W pin i n s)
    (again : ∀ n' s'', n = n' + 1 → Ahead X s0 H0 sc C code fp tn σ0 W pin (i + 1) n' s'' → SegX X s0 H0 sc C code fp pin sb Q (n' + 1) s'' (LoopC X elt tg iter sc pos it C code) ((model X.prog X.w).den (LoopC X elt tg iter sc pos it C code)) s'') :
    SegX X s0 H0 sc C code fp pin sb Q (n + 1) s₀ (LoopC X elt tg iter sc pos it C code) ((model X.prog X.w).den (LoopC X elt tg iter sc pos it C code)) s := by
  have T := R.turns
  have eA : (X.A.in1.in1).over (LoopC X elt tg iter sc pos it C code) [] = (gcx X s0 H0 sc C code fp).A := over_loop_gx
  obtain ⟨H, m, I, st, nf, le, w⟩ := h
  have stat : ∀ {σ' : L2.St} {H' : Hp} {s' : Shared}, Inv (gcx X s0 H0 sc C code fp) [pin] σ' H' s' → (∀ b ∈ fp, H' b = none) → ∀ b ∈ fp, FpOk (gcx X s0 H0 sc C code fp) [pin] H' b := fun {σ' H' s'} I' hn b hb =>
    ⟨hn b hb, (I'.ok.exf b hb).1, I'.ok.exfs b hb, .inl hb, fun x c e => (I'.ok.exf b hb).2 x c e, fun p hp' => by
      have e : p = pin := by simpa using hp'
      rw [e]
      exact fun z => hp (z ▸ hb)⟩
  show Seg _ _ _ _ _ _ _ ((compTurn (.GeneratorExp elt [⟨tg, iter, [], 0⟩] sc pos) 0 (.ref it) .none (genv X sc C code)).onRaise (leaving (genv X sc C code))) _ _
  rw [compTurn_gen, Sem.onRaise_eq_wrap]
  refine seg_bind_wrap (wpAny_standAt ?_)
  rcases R.step i m H w with ⟨stop, q⟩ | ⟨go, Nx, hNx, turn⟩
  · refine seg_bind_wrap ?_
    rw [eA]
    refine wpAny_mono (T.done (gcx X s0 H0 sc C code fp) rfl rfl rfl rfl i [pin] s σ0 H (fun _ _ => False) I (stat I nf) st stop) (fun r s1 h1 => ?_) fun e s z => z.elim
    obtain ⟨hr, I1⟩ := h1
    subst hr
    exact seg_end (.ok .next) ⟨rfl, σ0, H, I1, q⟩
  · refine seg_bind_wrap ?_
    rw [eA]
    refine wpAny_mono (T.item (gcx X s0 H0 sc C code fp) rfl rfl rfl rfl i [pin] s σ0 H (fun _ _ => False) I (stat I nf) st go) (fun r s1 h1 => ?_) fun e s z => z.elim
    obtain ⟨u, hr, h1⟩ := h1
    subst hr
    refine seg_bind_wrap ?_
    rw [eA]
    refine wpAny_mono h1 (fun _ s2 h2 => ?_) fun e s z => z.elim
    obtain ⟨x, H2, I2, r2, y2, st2, nf2⟩ := h2
    have I2' := I2.pinned (stat I2 nf2) (T.obj _ _ st2)
    refine seg_bind_wrap ?_
    rw [eA]
    refine wpAny_mono (R.target.run _ s2 σ0 H2 x u _ I2' r2 (turn x H2 y2)) (fun _ s3 h3 => ?_) fun e s z => z.elim
    obtain ⟨σ3, H3, I3, hw3, q3⟩ := h3
    refine seg_bind_wrap ?_
    rw [List.forIn_nil]
    refine wpAny_pure ?_
    simp only [if_true]
    have hy : ∀ v, yieldOut (genv X sc C code) v = yieldValue v := fun v => by
      have e : (genv X sc C code).scope.isCoroutine = false := R.nocor
      simp only [yieldOut, e, Bool.false_eq_true, if_false]
    simp only [hy]
    rw [Sem.bind_eq_wrap', Sem.bind_eq_wrap', Sem.wrap_wrap, Sem.wrap_wrap]
    refine seg_wrap ?_
    rw [eA]
    refine wpAny_mono (R.element.run _ s3 σ3 H3 _ I3 q3) (fun y s4 h4 => ?_) fun e s z => z.elim
    obtain ⟨yv, H4, I4, r4, b, ey, q4⟩ := h4
    subst ey
    have er : y = Value.bool b := r4
    subst er
    have pinK : ∀ b ∈ fp, ∀ o, s2.heap.get? b = some o → s4.heap.get? b = some o ∧ H4 b = none := fun b hb o e =>
      let z := I4.pin (b, o) (List.mem_append_right _ (List.mem_append_right _ (mem_pinsAt hb e)))
      ⟨z.1, z.2.1⟩
    have hl : σ0.length = σ3.length := by rw [← hw3, wipe_length]
    have I4' : Inv (gcx X s0 H0 sc C code fp) [pin] σ0 H4 s4 := (I4.unpinned (pins := [pin])).weak hl fun j v e => by
      rw [← hw3] at e
      exact (wipe_some e).1
    refine seg_at (seg_yield rfl rfl rfl ⟨b, σ0, H4, rfl, I4', fun e => ?_, fun ne s'' hh ho hg => ?_⟩)
    · rw [if_pos e] at q4
      exact q4
    · rw [if_neg ne] at q4
      obtain ⟨m', hm, w'⟩ := hNx H4 q4
      obtain ⟨n', rfl⟩ : ∃ n', n = n' + 1 := ⟨n - 1, by omega⟩
      refine seg_again rfl (again n' s'' rfl (ahead_like (s := s4) ⟨H4, m', I4', T.keep _ _ _ st2 fun b hb o e => (pinK b hb o e).1, fun b hb => ?_, by omega, w'⟩ hh ho hg))
      obtain ⟨o, e, _⟩ := T.obj _ _ st2 b hb
      exact (pinK b hb o e).2
theorem seg_turns (R : Run X s0 H0 sc C code fp tg elt g te J it tn vs σ0 sb W Q) (hp : pin.1 ∉ fp) : ∀ (n i : Nat) (s₀ s : Shared), Ahead X s0 H0 sc C code fp tn σ0 W pin i n s →
    SegX X s0 H0 sc C code fp pin sb Q (n + 1) s₀ (LoopC X elt tg iter sc pos it C code) ((model X.prog X.w).den (LoopC X elt tg iter sc pos it C code)) s := by
  intro n
  induction n with
  | zero => exact fun i s₀ s h => seg_turn R hp 0 i s₀ s h fun n' s'' e _ => by omega
  | succ n ih =>
    refine fun i s₀ s h => seg_turn R hp (n + 1) i s₀ s h fun n' s'' e h' => ?_
    have e' : n' = n := by omega
    rw [e'] at h' ⊢
    exact ih (i + 1) s'' s'' h'
abbrev StartC (X : Cx) (elt tg iter : Expr) (sc : Scope) (pos : Pos) (it C : Addr) (code : Value) : Code := .compStart (.GeneratorExp elt [⟨tg, iter, [], 0⟩] sc pos) 0 (.ref it) .none (genv X sc C code)
theorem seg_begin (R : Run X s0 H0 sc C code fp tg elt g te J it tn vs σ0 sb W Q) (hp : pin.1 ∉ fp) (n : Nat) (s₀ s : Shared) (h : Ahead X s0 H0 sc C code fp tn σ0 W pin 0 n s) :
    SegX X s0 H0 sc C code fp pin sb Q (n + 1) s₀ (StartC X elt tg iter sc pos it C code) ((model X.prog X.w).den (StartC X elt tg iter sc pos it C code)) s := by
  have loop := seg_turns (iter := iter) (pos := pos) R hp n 0 s₀ s h
  obtain ⟨H, m, I, st, _⟩ := h
  show Seg _ _ _ _ _ _ _ ((compStart (.GeneratorExp elt [⟨tg, iter, [], 0⟩] sc pos) 0 (.ref it) .none (genv X sc C code)).onRaise (leaving (genv X sc C code))) _ _
  unfold compStart
  rw [Sem.onRaise_eq_wrap]
  show Seg _ _ _ _ _ _ _ ((ask >>= _).wrap _ _ _ _) _ _
  refine seg_bind_wrap (wpAny_askSetting ?_)
  split
  · exact seg_again rfl loop
  · refine seg_bind_wrap (wpAny_rule ?_)
    show Seg _ _ _ _ _ _ _ ((standAt iter.pos >>= _).wrap _ _ _ _) _ _
    refine seg_bind_wrap (wpAny_standAt (seg_bind_wrap ?_))
    exact R.turns.self _ 0 s _ _ st (seg_again rfl loop)
end
end
end Gx

namespace Gx
open PySem PySem.Spec PyProof.Rows L2 GxR GenW
section
variable {X : Cx} {s0 : Shared} {H0 : Hp} {sc : Scope} {C : Addr} {code : Value} {fp : List Addr} {sb : Bool} {Q : VK} {a : Addr} {go : Obj} {gi : Nat}

abbrev EndX (X : Cx) (s0 : Shared) (H0 : Hp) (sc : Scope) (C : Addr) (code : Value) (fp : List Addr) (pin : Addr × Obj) (sb : Bool) (Q : VK) : GenEnd := fun n s₀ r s₁ => r = .ok .next ∧ Over X s0 H0 sc C code fp pin sb Q n s₀ s₁
/-- the generator sleeps, n turns at most are ahead -/
def Awake (X : Cx) (s0 : Shared) (H0 : Hp) (sc : Scope) (C : Addr) (code : Value) (fp : List Addr) (sb : Bool) (Q : VK) (a : Addr) (go : Obj) (gi n : Nat) (s : Shared) : Prop :=
  (∃ σ1 H1, Inv (gcx X s0 H0 sc C code fp) [(a, go)] σ1 H1 s) ∧
  ∃ gs, s.gens[gi]? = some gs ∧ ∀ s'', s''.heap = s.heap → s''.os = s.os → AllBare s''.gens →
    gs.Goes (model X.prog X.w) X.A.in1.in1 (EndX X s0 H0 sc C code fp (a, go) sb Q) (Out X s0 H0 sc C code fp (a, go) sb Q) n (.send .none) s''
/-- what is wanted of the whole -/
def Fin' (X : Cx) (s0 : Shared) (H0 : Hp) (sc : Scope) (C : Addr) (code : Value) (fp : List Addr) (Q : VK) (a : Addr) (go : Obj) (R : Result → Shared → Prop) : Prop :=
  ∀ b σ1 H1 s1, Inv (gcx X s0 H0 sc C code fp) [(a, go)] σ1 H1 s1 → Q (.bl b) H1 → ∀ s', s'.os = s1.os → AllBare s'.gens → (∀ b o, s1.heap.get? b = some o → s'.heap.get? b = some o) → R (.ok (.ret (.bool b))) s'

theorem pin_at {σ1 : L2.St} {H1 : Hp} {s : Shared} (I : Inv (gcx X s0 H0 sc C code fp) [(a, go)] σ1 H1 s) : s.heap.get? a = some go := (I.pin (a, go) (by simp)).1

/-- one next( ) of it: a truth, or the end -/
theorem next_truth (hh : X.A.handled = none) (hd : X.A.depth < recursionLimit) (hgo : ∀ h : Heap, h.get? a = some go → h.IsGen a gi) {n : Nat} {s : Shared} (h : Awake X s0 H0 sc C code fp sb Q a go gi n s) {P : Option Value → Shared → Prop} {E : Value → Shared → Prop}
    (stop : ∀ σ1 H1 s1 s2, Inv (gcx X s0 H0 sc C code fp) [(a, go)] σ1 H1 s1 → Q (.bl sb) H1 → s2.os = s1.os → AllBare s2.gens → s2.heap = s1.heap → P (some (.bool sb)) s2)
    (more : ∀ n' s2, n = n' + 1 → Awake X s0 H0 sc C code fp sb Q a go gi n' s2 → P (some (.bool (!sb))) s2)
    (done : ∀ σ1 H1 s1 s2, Inv (gcx X s0 H0 sc C code fp) [(a, go)] σ1 H1 s1 → Q (.bl (!sb)) H1 → s2.os = s1.os → AllBare s2.gens → (∀ b o, s1.heap.get? b = some o → s2.heap.get? b = some o) → P none s2) :
    wpAny (model X.prog X.w) X.A.in1 (pyNext (.ref a)) P E s := by
  obtain ⟨⟨σ1, H1, I⟩, gs, hgs, goes⟩ := h
  have hlt : gi < s.gens.size := (Array.getElem?_eq_some_iff.mp hgs).1
  have hrun : AllBare (s.setGen gi .running).gens := allBare_setGen I.bare rfl
  refine wpAny_gsz (n := gi + 1) hlt (wpAny_pyNext_genexpQ (A := X.A.in1) (P := Over X s0 H0 sc C code fp (a, go) sb Q) hh I.nolimit hd (hgo _ (pin_at I)) hgs (goes _ rfl rfl hrun) (fun v s1 gs' hb hv => ?_) fun s1 hp h' hk => ?_)
  · intro hsz
    obtain ⟨b, σ2, H2, ev, I2, hst, hmore⟩ := hv
    subst ev
    have hb2 : AllBare (s1.setGen gi gs').gens := allBare_setGen I2.bare hb
    by_cases e : b = sb
    · rw [e]
      exact stop σ2 H2 s1 _ I2 (hst e) rfl hb2 rfl
    · have e2 : b = !sb := by cases b <;> cases sb <;> simp_all
      have q := hmore e
      cases n with
      | zero => exact (q s1 rfl rfl I2.bare).elim
      | succ n' =>
        rw [e2]
        have hlt2 : gi < s1.gens.size := by
          have z : (s1.setGen gi gs').gens.size = s1.gens.size := setGen_size _ _ _
          omega
        refine more n' _ rfl ⟨⟨σ2, H2, inv_like I2 rfl rfl hb2⟩, gs', setGen_at hlt2, fun s'' h1 h2 h3 => q s'' h1 h2 h3⟩
  · intro hsz
    obtain ⟨σ2, H2, I2, q⟩ := hp
    exact done σ2 H2 s1 _ I2 q rfl (allBare_setGen I2.bare rfl) hk

theorem all_turns (hh : X.A.handled = none) (hd : X.A.depth < recursionLimit) (hgo : ∀ h : Heap, h.get? a = some go → h.IsGen a gi) {R : Result → Shared → Prop} (fin : Fin' X s0 H0 sc C code fp Q a go R) :
    ∀ (n : Nat) (s : Shared), Awake X s0 H0 sc C code fp false Q a go gi n s → codeAny (model X.prog X.w) X.A (.builtin "all.loop" ⟨[.ref a], []⟩) R s := by
  intro n
  induction n with
  | zero =>
    intro s h
    refine codeAny_builtin F.entry_all_loop ?_
    rw [Around.under_plainId F.plain_all_loop _]
    show wpAny _ X.A.in1 (pyNext (.ref a) >>= _) _ _ s
    refine wpAny_bind (next_truth hh hd hgo h (fun σ1 H1 s1 s2 I q e1 e2 e3 => ?_) (fun n' s2 e _ => by omega) fun σ1 H1 s1 s2 I q e1 e2 e3 => ?_)
    · refine wpAny_bind (wpAny_holding (wpAny_truthy_bool ?_))
      refine wpAny_bind (wpAny_letGo ?_)
      simp only [Bool.false_eq_true, if_false]
      exact wpAny_bind (wpAny_rule (wpAny_pure (fin false σ1 H1 s1 I q s2 e1 e2 fun b o e => by rw [e3]; exact e)))
    · exact wpAny_bind (wpAny_rule (wpAny_pure (fin true σ1 H1 s1 I q s2 e1 e2 e3)))
  | succ n ih =>
    intro s h
    refine codeAny_builtin F.entry_all_loop ?_
    rw [Around.under_plainId F.plain_all_loop _]
    show wpAny _ X.A.in1 (pyNext (.ref a) >>= _) _ _ s
    refine wpAny_bind (next_truth hh hd hgo h (fun σ1 H1 s1 s2 I q e1 e2 e3 => ?_) (fun n' s2 e h2 => ?_) fun σ1 H1 s1 s2 I q e1 e2 e3 => ?_)
    · refine wpAny_bind (wpAny_holding (wpAny_truthy_bool ?_))
      refine wpAny_bind (wpAny_letGo ?_)
      simp only [Bool.false_eq_true, if_false]
      exact wpAny_bind (wpAny_rule (wpAny_pure (fin false σ1 H1 s1 I q s2 e1 e2 fun b o e => by rw [e3]; exact e)))
    · refine wpAny_bind (wpAny_holding (wpAny_truthy_bool ?_))
      refine wpAny_bind (wpAny_letGo ?_)
      simp only [Bool.not_false, if_true]
      have en : n' = n := by omega
      rw [en] at h2
      exact wpAny_pure ⟨plainId_quiet F.plain_all_loop _, ih s2 h2⟩
    · exact wpAny_bind (wpAny_rule (wpAny_pure (fin true σ1 H1 s1 I q s2 e1 e2 e3)))
theorem any_turns (hh : X.A.handled = none) (hd : X.A.depth < recursionLimit) (hgo : ∀ h : Heap, h.get? a = some go → h.IsGen a gi) {R : Result → Shared → Prop} (fin : Fin' X s0 H0 sc C code fp Q a go R) :
    ∀ (n : Nat) (s : Shared), Awake X s0 H0 sc C code fp true Q a go gi n s → codeAny (model X.prog X.w) X.A (.builtin "any.loop" ⟨[.ref a], []⟩) R s := by
  intro n
  induction n with
  | zero =>
    intro s h
    refine codeAny_builtin F.entry_any_loop ?_
    rw [Around.under_plainId F.plain_any_loop _]
    show wpAny _ X.A.in1 (pyNext (.ref a) >>= _) _ _ s
    refine wpAny_bind (next_truth hh hd hgo h (fun σ1 H1 s1 s2 I q e1 e2 e3 => ?_) (fun n' s2 e _ => by omega) fun σ1 H1 s1 s2 I q e1 e2 e3 => ?_)
    · refine wpAny_bind (wpAny_holding (wpAny_truthy_bool ?_))
      refine wpAny_bind (wpAny_letGo ?_)
      simp only [if_true]
      exact wpAny_bind (wpAny_rule (wpAny_pure (fin true σ1 H1 s1 I q s2 e1 e2 fun b o e => by rw [e3]; exact e)))
    · exact wpAny_bind (wpAny_rule (wpAny_pure (fin false σ1 H1 s1 I q s2 e1 e2 e3)))
  | succ n ih =>
    intro s h
    refine codeAny_builtin F.entry_any_loop ?_
    rw [Around.under_plainId F.plain_any_loop _]
    show wpAny _ X.A.in1 (pyNext (.ref a) >>= _) _ _ s
    refine wpAny_bind (next_truth hh hd hgo h (fun σ1 H1 s1 s2 I q e1 e2 e3 => ?_) (fun n' s2 e h2 => ?_) fun σ1 H1 s1 s2 I q e1 e2 e3 => ?_)
    · refine wpAny_bind (wpAny_holding (wpAny_truthy_bool ?_))
      refine wpAny_bind (wpAny_letGo ?_)
      simp only [if_true]
      exact wpAny_bind (wpAny_rule (wpAny_pure (fin true σ1 H1 s1 I q s2 e1 e2 fun b o e => by rw [e3]; exact e)))
    · refine wpAny_bind (wpAny_holding (wpAny_truthy_bool ?_))
      refine wpAny_bind (wpAny_letGo ?_)
      simp only [Bool.not_true, Bool.false_eq_true, if_false]
      have en : n' = n := by omega
      rw [en] at h2
      exact wpAny_pure ⟨plainId_quiet F.plain_any_loop _, ih s2 h2⟩
    · exact wpAny_bind (wpAny_rule (wpAny_pure (fin false σ1 H1 s1 I q s2 e1 e2 e3)))
end
end Gx

namespace Gx
open PySem PySem.Spec PyProof.Rows L2 GxR GenW
section
variable {X : Cx} {pins : List (Addr × Obj)} {σ : L2.St} {H : Hp} {s : Shared}

/-- what stands once the generator has been made, ahead of its first turn -/
structure Made (X : Cx) (pins : List (Addr × Obj)) (σ : L2.St) (P : Addr) (elt tg iter : Expr) (sc : Scope) (pos : Pos) (vs : List Nat) (J : It) (H1 H2 : Hp) (it : Addr) (fp : List Addr) (tn : Nat → Heap → Prop) (s0 : Shared) (C : Addr) (code : Value) (a : Addr) (go : Obj) (gi : Nat) (s5 : Shared) : Prop where
  tab : Tabbed P H1 H2
  turns : Turn X.prog X.w X.K tg J fp it tn
  st : tn 0 s5.heap
  i0 : Inv X pins σ H2 s0
  fpo : ∀ b ∈ fp, FpOk X pins H2 b ∧ b < s0.heap.objs.size
  i5 : Inv (gcx X s0 H2 sc C code fp) [(a, go)] (wipe σ vs) H2 s5
  apart : a ∉ fp
  gens : s5.gens[gi]? = some (.fresh (StartC X elt tg iter sc pos it C code))
  isgen : ∀ h : Heap, h.get? a = some go → h.IsGen a gi

theorem gen_made {c P : Addr} {elt tg iter : Expr} {gpos : Pos} {sc : Scope} {own : List (Str × Nat)} {wi : TI} {k : Nat} {Q' : Value → Shared → Prop} {R : It → Hp → Prop}
    (hr : Room k X.A) (TB : TabB X.base X.mg c P) (hcode : X.env.code = .ref c) (ok : BlkOk X.N X.env.scope sc own) (hN : X.N.Nodup) (hcell : ∀ y ∈ sc.names, y.2 ≠ .cell) (hdot : sc.names.lookup (".0" : Str) = some NameKind.local)
    (hco : sc.isCoroutine = false) (hi : PI X tg iter wi) (hs : ∀ v, genFold iter X.env v = pure v) (I : Inv X pins σ H s) (h : wi σ H fun J H1 => TabG H1 P ∧ R J H1)
    (hQ : ∀ J H1 H2 it fp tn s0 C code a go gi s5, R J H1 → Made X pins σ P elt tg iter sc gpos (own.map (·.2)) J H1 H2 it fp tn s0 C code a go gi s5 → Q' (.ref a) s5) :
    wpAny (model X.prog X.w) X.A (eval (.GeneratorExp elt [⟨tg, iter, [], 0⟩] sc gpos) X.env) Q' X.xe s := by
  have hf : ∀ z ∈ sc.names, z.2 = .free → ∃ c, X.env.cells.lookup z.1 = some c := fun z hz e => by
    rcases ok.free z hz e with k | k
    · exact I.ok.has _ (.inl k)
    · exact I.ok.has _ (.inr k)
  refine wpAny_GeneratorExp_make hco (closure_ok hf) hcell hdot ok.kind (by have := hr.dp; omega) ?_ hs
  refine thn (hi.run pins s σ H _ I h) fun xv s1 h1 => thn h1 fun itv s2 h2 => ?_
  obtain ⟨it, fp, tn, J, H1, e, I1, T, st, f1, ⟨ps, hP, htr⟩, q⟩ := h2
  subst e
  refine ⟨I1.nolimit, ?_⟩
  have hPs : s2.heap.get? P = some { cls := .none, data := .fields ps } := I1.hok P _ hP
  have cd : PySem.W.CodeHd s2.heap c P := TB.code.keeps I1.bk
  -- behind the making of the code object
  have cont : ∀ (cv : Value) (h3 : Heap) (tk : Nat) (more : Array Value), (∀ b o, b ≠ P → s2.heap.get? b = some o → h3.get? b = some o) → h3.get? P = some { cls := .none, data := .fields (ps ++ more) } → TriplesOk (ps ++ more).toList →
      wpAny (model X.prog X.w) X.A (builtinsFor X.env.globals X.env.builtins) (fun bi s4 => ∀ h', h'.Ns s4.heap.objs.size (fun y => if y = ".0" then some (.ref it) else none) → Heap.SameBut s4.heap.objs.size (s4.heap.push { cls := .type "frame", data := .dict #[] }) h' →
        Q' (.ref h'.objs.size) { s4 with
          gens := s4.gens.push (.fresh (.compStart (.GeneratorExp elt [⟨tg, iter, [], 0⟩] sc gpos) 0 (.ref it) .none (genEnv sc (cloFrom X.env.cells sc.names []) s4.heap.objs.size cv bi X.env))),
          toks := s4.toks + 1 + 1 + 1,
          heap := h'.push { cls := .type "generator", data := .fields #[.int s4.gens.size 0, .str "<genexpr>" (s4.toks + 1), .str (X.env.qual ++ "<genexpr>") (s4.toks + 1 + 1)] } }) X.xe { s2 with heap := h3, toks := tk } := by
    intro cv h3 tk more k3 hP3 ht3
    have I3 : Inv X pins σ (upd H1 P (.tbl (ps ++ more))) { s2 with heap := h3, toks := tk } := inv_tab (g' := s2.gens) (d' := s2.drawn) (t' := tk) I1 hP k3 hP3 I1.bare
    have tbd : Tabbed P H1 (upd H1 P (.tbl (ps ++ more))) := ⟨⟨ps ++ more, upd_same, ht3⟩, fun b hb => upd_ne hb⟩
    obtain ⟨bm, ob, e1, e2, e3, e4, e5, e6, e7, e8⟩ := TB.bm
    have gNs := I3.mod.glob.keeps I3.bk
    refine wpAny_builtinsFor (m := X.mg) (by rw [I3.ok.glob]; exact gNs) e1 e2 (I3.bk _ _ e5) e6 e7 e8 ?_
    intro h' hns' hsb
    generalize hH2 : upd H1 P (.tbl (ps ++ more)) = H2 at I3 tbd
    have n2 : ∀ b, H1 b = none → H2 b = none := fun b e => by
      have hne : b ≠ P := fun z => by rw [z, hP] at e; cases e
      rw [tbd.2 b hne]
      exact e
    have f3 : ∀ b ∈ fp, FpOk X pins H2 b ∧ b < h3.objs.size := fun b hb => by
      have hne : b ≠ P := fun z => by
        have := (f1 b hb).1
        rw [z, hP] at this
        cases this
      obtain ⟨o, e, _⟩ := T.obj _ _ st b hb
      exact ⟨⟨n2 b (f1 b hb).1, (f1 b hb).2⟩, Heap.lt_size (k3 b o hne e)⟩
    have hsz : h'.objs.size = h3.objs.size + 1 := by
      have z := hsb.1
      rw [Heap.size_push] at z
      exact z
    have kp : ∀ b o, h3.get? b = some o → h'.get? b = some o := fun b o e => hsb.extBut b o (Nat.ne_of_lt (Heap.lt_size e)) (Heap.get?_push_of_some _ e)
    generalize hgo : ({ cls := .type "generator", data := .fields #[.int s2.gens.size 0, .str "<genexpr>" (tk + 1), .str (X.env.qual ++ "<genexpr>") (tk + 1 + 1)] } : Obj) = go
    have ggo : (h'.push go).get? h'.objs.size = some go := Heap.get?_push_size _ (by rw [← hgo]; rfl)
    have kp5 : ∀ b o, h3.get? b = some o → (h'.push go).get? b = some o := fun b o e => Heap.get?_push_of_some _ (kp b o e)
    have bg : AllBare (s2.gens.push (.fresh (.compStart (.GeneratorExp elt [⟨tg, iter, [], 0⟩] sc gpos) 0 (.ref it) .none (genv X sc h3.objs.size cv)))) := I1.bare.push rfl
    have I5 := gx_start (C := h3.objs.size) (code := cv) (d' := s2.drawn) (t' := tk + 1 + 1 + 1) (h' := h'.push go) (s := { s2 with heap := h3, toks := tk }) I3 hr.hd ok hN hcell f3 rfl ⟨_, hns'.push _⟩ kp5 bg
    have na : h3.objs.size ≤ h'.objs.size := by rw [hsz]; exact Nat.le_succ _
    have I5' := I5.pins_of (pins' := [(h'.objs.size, go)]) fun p hp => by
      have ep : p = (h'.objs.size, go) := by simpa using hp
      subst ep
      refine ⟨ggo, I3.hok.fresh na, ?_, fun z => ?_, fun v z => ?_⟩
      · show h'.objs.size ≠ h3.objs.size
        rw [hsz]
        exact Nat.succ_ne_self _
      · rcases List.mem_cons.mp (I3.stkSub _ z) with y | y
        · have l : X.env.locals < h3.objs.size := I3.lt
          rw [← show h'.objs.size = X.env.locals from y] at l
          exact Nat.lt_irrefl _ (Nat.lt_of_lt_of_le l na)
        · exact I3.nofs (a := h'.objs.size) na y
      · rw [← hgo] at z
        cases z
    refine hQ J H1 H2 it fp tn { s2 with heap := h3, toks := tk } h3.objs.size cv h'.objs.size go s2.gens.size _ q ⟨tbd, T, ?_, I3, f3, I5', fun z => ?_, Array.getElem?_push_size .., fun h e => ⟨go, _, _, e, by rw [← hgo], by rw [← hgo], by rw [← hgo]⟩⟩
    · refine T.keep _ _ _ st fun b hb o e => kp5 b o (k3 b o (fun z => ?_) e)
      have := (f1 b hb).1
      rw [z, hP] at this
      cases this
    · exact Nat.lt_irrefl _ (Nat.lt_of_lt_of_le (f3 _ z).2 na)
  cases hf2 : codeAmong gpos ps.toList with
  | none =>
    refine wpAny_genexprCodeX hcode (cd.code hPs htr) (cd.tab hPs) hf2 fun c' h' tk hx hge hlt hco' _ htab' _ => ?_
    obtain ⟨o1, us, f1', tf, fl, tg', inF, tx, tt, op, _, _, _, _, _, _, _, _, _, htr', _⟩ := hco'
    exact cont _ h' tk _ (fun b o hb e => hx b o hb e) htab'.2 htr'
  | some cv =>
    refine wpAny_genexprCode_hit hcode (cd.code hPs htr) hf2 ?_
    exact cont cv s2.heap s2.toks #[] (fun b o _ e => e) (by rw [Array.append_empty]; exact hPs) (by rw [Array.append_empty]; exact htr)

/-- all( ), any( ) of a generator expression: sb is the truth at which it stops -/
def rTruth (P : Addr) (sb : Bool) (g : TG) (te : TE) (vs : List Nat) (σ : L2.St) (Q : VK) (J : It) (H1 : Hp) : Prop := ∀ H2, Tabbed P H1 H2 → ∃ W : Nat → Nat → Hp → Prop, (∃ m, W 0 m H2) ∧
  ∀ i m H, W i m H → (J.stop i H ∧ Q (.bl (!sb)) H) ∨ (J.go i H ∧ ∃ Nx : Hp → Prop, (∀ H', Nx H' → ∃ m', m' < m ∧ W (i + 1) m' H') ∧
    ∀ x H', J.yld i H x H' → g x (wipe σ vs) H' fun σ2 H2 => wipe σ2 vs = wipe σ vs ∧ te σ2 H2 fun y H4 => ∃ b, y = .bl b ∧ if b = sb then Q (.bl sb) H4 else Nx H4)
def tTruthG (P : Addr) (sb : Bool) (wi : TI) (g : TG) (te : TE) (vs : List Nat) : TE := fun σ H Q => wi σ H fun J H1 => TabG H1 P ∧ rTruth P sb g te vs σ Q J H1
/-- how a run of it is told -/
def Told (X : Cx) (pins : List (Addr × Obj)) (σ : L2.St) (sc : Scope) (sb : Bool) (Q : VK) (a : Addr) (s5 : Shared) : Prop :=
  ∀ R : Result → Shared → Prop, (∀ b s', EP X pins σ Q (.bool b) s' → R (.ok (.ret (.bool b))) s') → ∃ s0 H0 C code fp go gi n, Awake X s0 H0 sc C code fp sb Q a go gi n s5 ∧ (∀ h : Heap, h.get? a = some go → h.IsGen a gi) ∧ Fin' X s0 H0 sc C code fp Q a go R
/-- what the generator expression must have; the two names of it that are the program's -/
structure GxOk (X : Cx) (sc : Scope) (own : List (Str × Nat)) (c P : Addr) : Prop where
  tb : TabB X.base X.mg c P
  code : X.env.code = .ref c
  blk : BlkOk X.N X.env.scope sc own
  nd : X.N.Nodup
  nocell : ∀ y ∈ sc.names, y.2 ≠ .cell
  dot : sc.names.lookup (".0" : Str) = some NameKind.local
  nocor : sc.isCoroutine = false

section
variable {c P : Addr} {elt tg iter : Expr} {gpos p pos : Pos} {sc : Scope} {own : List (Str × Nat)} {wi : TI} {g : TG} {te : TE} {k : Nat}
theorem truth_core {sb : Bool} {Q : VK} (hr : Room k X.A) (G : GxOk X sc own c P) (hi : PI X tg iter wi) (hs : ∀ v, genFold iter X.env v = pure v)
    (hg : ∀ (s : Shared) (H : Hp) (C : Addr) (code : Value) (fp : List Addr), PG (gcx X s H sc C code fp) tg g) (he : ∀ (s : Shared) (H : Hp) (C : Addr) (code : Value) (fp : List Addr), PE (gcx X s H sc C code fp) elt te)
    (I : Inv X pins σ H s) (h : tTruthG P sb wi g te (own.map (·.2)) σ H Q) {Q' : Value → Shared → Prop}
    (hQ : ∀ a s5, s5.heap.NoLimit → (∃ gi, s5.heap.IsGen a gi) →
      Told X pins σ sc sb Q a s5 → Q' (.ref a) s5) :
    wpAny (model X.prog X.w) X.A (eval (.GeneratorExp elt [⟨tg, iter, [], 0⟩] sc gpos) X.env) Q' X.xe s := by
  have h' : wi σ H fun J H1 => TabG H1 P ∧ rTruth P sb g te (own.map (·.2)) σ Q J H1 := h
  refine gen_made (own := own)
    hr G.tb G.code G.blk G.nd G.nocell G.dot G.nocor hi hs I h' fun J H1 H2 it fp tn s0 C code a go gi s5 hR M => ?_
  obtain ⟨W, ⟨m, w0⟩, step⟩ := hR H2 M.tab
  have I5 := M.i5
  have n2 : ∀ b ∈ fp, H2 b = none := fun b hb => (M.fpo b hb).1.1
  have RR : Run X s0 H2 sc C code fp tg elt g te J it tn (own.map (·.2)) (wipe σ (own.map (·.2))) sb W Q := ⟨M.turns, hg _ _ _ _ _, he _ _ _ _ _, G.nocor, step⟩
  refine hQ a s5 I5.nolimit ⟨gi, M.isgen _ (pin_at I5)⟩ fun R hRR => ⟨s0, H2, C, code, fp, go, gi, m + 1, ⟨⟨_, _, I5⟩, _, M.gens, fun s'' e1 e2 e3 => ⟨rfl, seg_begin RR M.apart m s'' s'' (ahead_like ⟨H2, m, I5, M.st, n2, Nat.le_refl _, w0⟩ e1 e2 e3)⟩⟩, M.isgen, ?_⟩
  intro b σ1 H3 s1 I1 q s' ho hgs hk
  refine hRR b s' ⟨.bl b, H3, ?_, rfl, q⟩
  have un := I1.base.trans (Un.kept hk)
  exact M.i0.call' (ch := fp) (ho.trans I1.os) un (I1.hok.kept hk) hgs fun b hb => ⟨(M.fpo b hb).1.2.2.2.1, (M.fpo b hb).1.2.1, (M.fpo b hb).1.2.2.2.2.1, (M.fpo b hb).1.2.2.2.2.2⟩

theorem told_all {Q : VK} {a : Addr} {s5 : Shared} {R : Result → Shared → Prop} (hr : Room k X.A) (h : Told X pins σ sc false Q a s5) (hR : ∀ b s', EP X pins σ Q (.bool b) s' → R (.ok (.ret (.bool b))) s') :
    codeAny (model X.prog X.w) X.A (.builtin "all.loop" ⟨[.ref a], []⟩) R s5 := by
  obtain ⟨s0, H0, C, code, fp, go, gi, n, aw, hgo, fin⟩ := h R hR
  exact all_turns hr.hd (by have := hr.dp; omega) hgo fin n s5 aw
theorem told_any {Q : VK} {a : Addr} {s5 : Shared} {R : Result → Shared → Prop} (hr : Room k X.A) (h : Told X pins σ sc true Q a s5) (hR : ∀ b s', EP X pins σ Q (.bool b) s' → R (.ok (.ret (.bool b))) s') :
    codeAny (model X.prog X.w) X.A (.builtin "any.loop" ⟨[.ref a], []⟩) R s5 := by
  obtain ⟨s0, H0, C, code, fp, go, gi, n, aw, hgo, fin⟩ := h R hR
  exact any_turns hr.hd (by have := hr.dp; omega) hgo fin n s5 aw
theorem pe_allG (hr : Room k X.A) (G : GxOk X sc own c P) (hga : Gl X "all") (hma : X.mg "all" = none) (hb : bootBuiltins "all" = some (.builtin "all")) (hi : PI X tg iter wi)
    (hg : ∀ (s : Shared) (H : Hp) (C : Addr) (code : Value) (fp : List Addr), PG (gcx X s H sc C code fp) tg g) (he : ∀ (s : Shared) (H : Hp) (C : Addr) (code : Value) (fp : List Addr), PE (gcx X s H sc C code fp) elt te)
    (hs : ∀ v, genFold iter X.env v = pure v := by intro _; rfl)
    (hst : starEach [.GeneratorExp elt [⟨tg, iter, [], 0⟩] sc gpos] X.env = (false, eval (.GeneratorExp elt [⟨tg, iter, [], 0⟩] sc gpos) X.env) :: starEach [] X.env := by rfl) :
    PE X (.Call (.Name "all" p) [.GeneratorExp elt [⟨tg, iter, [], 0⟩] sc gpos] [] pos) (tTruthG P false wi g te (own.map (·.2))) := by
  refine ⟨fun pins s σ H Q I h => ?_⟩
  refine wpAny_Call_Name_kw (ld_blt I hga hma hb ?_)
  refine PyProof.Rows.callWith_builtin1 ?_ hst (by rfl)
  rw [hst]
  show wpAny _ _ (spliced ((false, eval (.GeneratorExp elt [⟨tg, iter, [], 0⟩] sc gpos) X.env) :: backTo pos (starEach [] X.env))) _ _ s
  refine Calls.spliced_cons (truth_core hr G hi hs hg he I h fun a s5 hl hgn hall => ?_)
  refine Calls.spliced_nil ?_
  refine call_function_tree F.kind_all F.plain_all F.entry_all (F.args_all1 _) ?_
  unfold Builtin.«all»
  refine wpAny_bind (m := oneArg "all" _) (wpAny_pure ?_)
  obtain ⟨gi, hgn⟩ := hgn
  refine wpAny_bind (wpAny_pyIter_gen hgn ?_)
  exact wpAny_pure ⟨plainId_quiet F.plain_all_loop _, told_all hr hall fun b s' h => h⟩
theorem pe_anyG (hr : Room k X.A) (G : GxOk X sc own c P) (hga : Gl X "any") (hma : X.mg "any" = none) (hb : bootBuiltins "any" = some (.builtin "any")) (hi : PI X tg iter wi)
    (hg : ∀ (s : Shared) (H : Hp) (C : Addr) (code : Value) (fp : List Addr), PG (gcx X s H sc C code fp) tg g) (he : ∀ (s : Shared) (H : Hp) (C : Addr) (code : Value) (fp : List Addr), PE (gcx X s H sc C code fp) elt te)
    (hs : ∀ v, genFold iter X.env v = pure v := by intro _; rfl)
    (hst : starEach [.GeneratorExp elt [⟨tg, iter, [], 0⟩] sc gpos] X.env = (false, eval (.GeneratorExp elt [⟨tg, iter, [], 0⟩] sc gpos) X.env) :: starEach [] X.env := by rfl) :
    PE X (.Call (.Name "any" p) [.GeneratorExp elt [⟨tg, iter, [], 0⟩] sc gpos] [] pos) (tTruthG P true wi g te (own.map (·.2))) := by
  refine ⟨fun pins s σ H Q I h => ?_⟩
  refine wpAny_Call_Name_kw (ld_blt I hga hma hb ?_)
  refine PyProof.Rows.callWith_builtin1 ?_ hst (by rfl)
  rw [hst]
  show wpAny _ _ (spliced ((false, eval (.GeneratorExp elt [⟨tg, iter, [], 0⟩] sc gpos) X.env) :: backTo pos (starEach [] X.env))) _ _ s
  refine Calls.spliced_cons (truth_core hr G hi hs hg he I h fun a s5 hl hgn hall => ?_)
  refine Calls.spliced_nil ?_
  refine call_function_tree F.kind_any F.plain_any F.entry_any (F.args_any1 _) ?_
  unfold Builtin.«any»
  refine wpAny_bind (m := oneArg "any" _) (wpAny_pure ?_)
  obtain ⟨gi, hgn⟩ := hgn
  refine wpAny_bind (wpAny_pyIter_gen hgn ?_)
  exact wpAny_pure ⟨plainId_quiet F.plain_any_loop _, told_any hr hall fun b s' h => h⟩
end
end
end Gx

/-! Defs whose callers run no repr; how they are called; repr and sorted of data; the end of a law. -/
namespace Gx
open PySem PySem.Spec PyProof.Rows L2 GxR GenW

/-- a def's promise where no repr is running around -/
structure FnG (P : Program) (w : World) (K : PySem.W.Frag) (mg : Str → Option Value) (base : Heap) (CX : CXT) (k : Nat) (f : Addr) (fd : FuncData) (ps : List Str) (sp : Sp) : Prop where
  many : ∀ vs H Q E, sp vs H Q E → vs.length = ps.length
  runs : ∀ (A : Around) (outer : List Env) (s : Shared) (H : Hp) (args : Args) (us : List Value) (vs : List V) (Q : VK) (E : XK), A.guards = some [] → Room k A →
    Env0 P w K mg base A outer s H → BindsTo s fd args (ps.zip us) → Vals vs us → sp vs H Q E → codeAny (model P w) A (.call (.ref f) args) (CR CX outer P w H s Q E) s
/-- a def of the text, with its code object's value -/
structure DefIs (K : PySem.W.Frag) (x qual : Str) (st : Stmt) (f : Addr) (fd : FuncData) (cdv : Value) : Prop where
  at_ : ∃ (oc : Value) (od : Option Addr) (kV doc pm : Value) (an : Option Addr) (ct : Value) (osl : Array (Option Value)),
    fd = PySem.W.fnOf x qual (defArgs st) (defBody st) (defScope st) .none kV doc pm an cdv ct ∧ K.lookup f = some ⟨oc, od, .func fd, osl⟩
  code : PySem.W.codeIn K cdv qual = true
  keep : PySem.W.keepIn K (.ref f) = true
theorem defIs_mk {K : PySem.W.Frag} {x qual : Str} {st : Stmt} {f : Addr} {oc : Value} {od an : Option Addr} {osl : Array (Option Value)} {kV doc pm cdv ct : Value}
    (l : K.lookup f = some ⟨oc, od, .func (PySem.W.fnOf x qual (defArgs st) (defBody st) (defScope st) .none kV doc pm an cdv ct), osl⟩) (c : PySem.W.codeIn K cdv qual = true) (kp : PySem.W.keepIn K (.ref f) = true) :
    DefIs K x qual st f (PySem.W.fnOf x qual (defArgs st) (defBody st) (defScope st) .none kV doc pm an cdv ct) cdv := ⟨⟨oc, od, kV, doc, pm, an, ct, osl, rfl, l⟩, c, kp⟩

section
variable {P : Program} {w : World} {K : PySem.W.Frag} {mg : Str → Option Value} {base : Heap} {CX : CXT}
theorem FnG.less {j k : Nat} {f : Addr} {fd : FuncData} {ps : List Str} {sp : Sp} (F : FnG P w K mg base CX j f fd ps sp) (h : j ≤ k) : FnG P w K mg base CX k f fd ps sp :=
  ⟨F.many, fun A outer s H args us vs Q E g r => F.runs A outer s H args us vs Q E g (r.mono h)⟩
/-- by its body -/
theorem DefIs.ok {x qual : Str} {st : Stmt} {f : Addr} {fd : FuncData} {cdv : Value} {N ps : List Str} {k : Nat} {sp : Sp} (D : DefIs K x qual st f fd cdv) (S : FnScope N ps (defScope st)) (len : ∀ vs H Q E, sp vs H Q E → vs.length = ps.length)
    (body : ∀ (A : Around) (outer : List Env) (s : Shared) (H : Hp) (vs : List V) (Q : VK) (E : XK), A.guards = some [] → Room k (A.deeper (envOfC qual (defScope st) s.heap.objs.size f cdv)) → sp vs H Q E →
      ∃ t, PSs (cxOf CX P w K mg base N qual (defScope st) f cdv A outer s H E) (defBody st) t ∧ t { nx := fun _ H' => Q .non H', rt := Q } (start N vs) H) : FnG P w K mg base CX (k + 1) f fd ps sp := by
  obtain ⟨oc, od, kV, doc, pm, an, ct, osl, rfl, lk⟩ := D.at_
  refine ⟨len, fun A outer s H args us vs Q E g hr e0 hb r hsp => ?_⟩
  have KX : K.In s.heap := e0.mod.kin.keeps fun b o e => (e0.bs b o e).1
  have inits : ∀ y ∈ ps.zip us, (defScope st).names.lookup y.1 = some .local ∨ ((defScope st).names.lookup y.1 = some .cell ∧ ((cellsFrom (s.heap.objs.size + 1) (defScope st).names []).lookup y.1).isSome = true) := by
    rintro ⟨n, v⟩ hy
    exact (S.par n (List.of_mem_zip hy).1).elim .inl fun q => .inr ⟨q, PySem.W.cellsFrom_some _ _ _ (.inl q)⟩
  refine codeAny_call_function hr.depth (KX _ _ lk) rfl S.co S.gen rfl (PySem.W.codeRec_of KX D.code) (hb _ _ _ _ (wpAny_newFunctionEnv_cells S.kind inits fun env he s1 x => ?_))
  subst he
  refine ⟨(e0.mod.nolimit.keeps fun b o e => (e0.bs b o e).1).keeps x.toInCall.keep, codeAny_func ?_⟩
  obtain ⟨t, ht, hq⟩ := body A outer s H vs Q E g (hr.deeper _) hsp
  refine wpAny_mono (ht.run [] s1 (start N vs) H _ (inv_start S hr.hd e0 (len _ _ _ _ hsp) r x) hq) (fun fl s' hs => ?_) fun e s' hs => hs
  cases fl with
  | ret u =>
    obtain ⟨v, σ', H', J, rv, q⟩ := hs
    exact ⟨v, H', J.os, J.bare, J.base, J.hok, rv, q⟩
  | next =>
    obtain ⟨σ', H', J, q⟩ := hs
    exact ⟨V.non, H', J.os, J.bare, J.base, J.hok, rfl, q⟩
  | brk => exact hs.elim fun _ z => z.elim fun _ y => False.elim y.2
  | cont => exact hs.elim fun _ z => z.elim fun _ y => False.elim y.2
/-- .. that nothing raised leaves -/
theorem DefIs.ok0 {x qual : Str} {st : Stmt} {f : Addr} {fd : FuncData} {cdv : Value} {N ps : List Str} {k : Nat} {sp : Sp} (D : DefIs K x qual st f fd cdv) (S : FnScope N ps (defScope st)) (len : ∀ vs H Q E, sp vs H Q E → vs.length = ps.length)
    (body : ∀ (A : Around) (outer : List Env) (s : Shared) (H : Hp) (vs : List V) (Q : VK) (E : XK), A.guards = some [] → Room k (A.deeper (envOfC qual (defScope st) s.heap.objs.size f cdv)) → sp vs H Q E →
      ∃ t, PSs (cxOf CX P w K mg base N qual (defScope st) f cdv A outer s H E).nox (defBody st) t ∧ t { nx := fun _ H' => Q .non H', rt := Q } (start N vs) H) : FnG P w K mg base CX (k + 1) f fd ps sp :=
  D.ok S len fun A outer s H vs Q E g hr hsp => let ⟨t, ht, q⟩ := body A outer s H vs Q E g hr hsp; ⟨t, ht.nox, q⟩
theorem DefIs.binds {x qual : Str} {st : Stmt} {f : Addr} {fd : FuncData} {cdv : Value} {ps : List Str} (D : DefIs K x qual st f fd cdv)
    (h : ∀ (kV doc pm : Value) (an : Option Addr) (ct : Value) (us : List Value), us.length = ps.length → bindArgs (PySem.W.fnOf x qual (defArgs st) (defBody st) (defScope st) .none kV doc pm an cdv ct) ⟨us, []⟩ = pure (ps.zip us)) : Binds K fd ps [] := by
  obtain ⟨oc, od, kV, doc, pm, an, ct, osl, rfl, lk⟩ := D.at_
  exact .all (h kV doc pm an ct)
end

/-- a def that can be called by its name: its promise, its place, how it binds -/
structure Callee (P : Program) (w : World) (K : PySem.W.Frag) (mg : Str → Option Value) (base : Heap) (CX : CXT) (k : Nat) (x : Str) (ps : List Str) (sp : Sp) : Prop where
  is : ∃ f fd, FnG P w K mg base CX k f fd ps sp ∧ mg x = some (.ref f) ∧ PySem.W.keepIn K (.ref f) = true ∧ Binds K fd ps []

section
variable {X : Cx} {CX : CXT} {k : Nat} {x : Str} {ps : List Str} {sp : Sp} {E : XK} {p pos : Pos} {e : Expr} {es : List Expr} {t : TA}
theorem run_g {pins : List (Addr × Obj)} {σ : L2.St} {H : Hp} {s : Shared} {Q : VK} {us : List Value} {vs : List V} {f : Addr} {fd : FuncData} (F : FnG X.prog X.w X.K X.mg X.base CX k f fd ps sp) (g : X.A.guards = some []) (hr : Room k X.A) (hb : Binds X.K fd ps []) (hx : Passes CX X E)
    (I : Inv X pins σ H s) (r : Vals vs us) (h : sp vs H Q E) : wpAny (model X.prog X.w) X.A (call (.ref f) us) (EP X pins σ Q) X.xe s := by
  have hl : (us ++ ([] : List Value)).length = ps.length := by rw [List.append_nil, ← r.length]; exact F.many _ _ _ _ h
  have hB := hb s us I.kIn hl
  rw [List.append_nil] at hB
  refine wpAny_call (codeAny_mono (F.runs X.A X.stack s H ⟨us, []⟩ us vs Q E g hr I.env0 hB r h) fun q s' hq => ?_)
  match q, hq with
  | .error e, hq => exact hx pins σ H s e s' I hq
  | .ok (.ret u), hq => exact I.after hq
/-- f(e, ..) -/
theorem pe_g (C : Callee X.prog X.w X.K X.mg X.base CX k x ps sp) (g : X.A.guards = some []) (hr : Room k X.A) (hx : Passes CX X E) (ha : PA X (e :: es) t) (hg : Gl X x := by rfl)
    (hdb : (x == ("__debug__" : Str)) = false := by decide) (he : starEach (e :: es) X.env = (false, eval e X.env) :: starEach es X.env := by rfl) (hpl : (backTo pos (starEach es X.env)).any (·.1) = false := by rfl) :
    PE X (.Call (.Name x p) (e :: es) [] pos) (tCall sp [] E t) := by
  obtain ⟨f, fd, F, hm, hk, hb⟩ := C.is
  refine ⟨fun pins s σ H Q I h => wpAny_Call_Name_kw (ld_glob I hg hm (PySem.W.callWith_K (h₀ := X.base) I.ok.mod.kin hk (thn (ha.run pos pins s σ H _ I h) fun us s1 h1 => ?_) he hpl) hdb)⟩
  obtain ⟨vs, H1, I1, r, q⟩ := h1
  rw [List.append_nil] at q
  exact ⟨I1.kIn, run_g F g hr hb hx I1 r q⟩
theorem pe_g0 (C : Callee X.prog X.w X.K X.mg X.base CX k x ps sp) (g : X.A.guards = some []) (hr : Room k X.A) (hx : Passes CX X E) (hg : Gl X x := by rfl) (hdb : (x == ("__debug__" : Str)) = false := by decide) :
    PE X (.Call (.Name x p) [] [] pos) (tCall sp [] E tNil) := by
  obtain ⟨f, fd, F, hm, hk, hb⟩ := C.is
  exact ⟨fun pins s σ H Q I h => wpAny_Call_Name_kw (ld_glob I hg hm (PySem.W.callWith_K0 I.kIn hk (run_g (us := []) F g hr hb hx I .nil h)) hdb)⟩
/-- a statement, a block that is never come to -/
theorem ps_dead {st : Stmt} : PS X st (fun _ _ _ => False) := ⟨fun _ _ _ _ _ _ h => h.elim⟩
theorem pss_dead {st : List Stmt} : PSs X st (fun _ _ _ => False) := ⟨fun _ _ _ _ _ _ h => h.elim⟩
theorem pe_dead {e : Expr} : PE X e (fun _ _ _ => False) := ⟨fun _ _ _ _ _ _ h => h.elim⟩
end
end Gx

namespace Gx
open PySem PySem.Spec PyProof.Rows L2 GxR GenW

/-! ### repr and sorted of data -/
section
variable {X : Cx}
def rRepr (K : PySem.W.Frag) : List V → Hp → VK → Prop := fun xs H Q => ∃ x d, xs = [x] ∧ Dp K H x d ∧ d.showable = true ∧ d.hasDict = false ∧ d.depth ≤ 60 ∧ d.shown.length ≤ sizeLine ∧ Q (.str d.shown) H
theorem cr_repr (g : X.A.guards = some []) (hu : X.A.units + 64 < cLine) : CallR X (.builtin "repr") (rRepr X.K) := by
  intro pins s σ H xs us Q I r h
  obtain ⟨x, d, rfl, hD, hs, hd, hp, hz, q⟩ := h
  obtain ⟨u, rfl, rx⟩ : ∃ u, us = [u] ∧ RelV x u := by
    cases r with
    | cons r1 r2 => cases r2; exact ⟨_, rfl, r1⟩
  obtain ⟨as, rd⟩ := Dp.reads I d x u hD rx
  have refs : ∀ a, x = .ref a → wpAny (model X.prog X.w) X.A (call (.builtin "repr") [u]) (EP X pins σ Q) X.xe s := fun a e => by
    subst e
    have e2 : u = .ref a := rx
    subst e2
    exact repr_of_reads' rd hs (PyData.noDict_hsm hd) g (by omega) (fun _ _ e => e) (fun h' v tk hk => ⟨.str _, H, I.kept hk, ⟨_, rfl⟩, q⟩) hz
  cases hD with
  | non =>
    have e2 : u = .none := rx
    subst e2
    exact PySem.P.repr_of_none ⟨.str _, H, I.tok _, ⟨_, rfl⟩, q⟩
  | bl b =>
    have e2 : u = .bool b := rx
    subst e2
    refine PySem.P.repr_of_bool ⟨.str _, H, I.tok _, ⟨_, rfl⟩, ?_⟩
    cases b <;> exact q
  | int i =>
    obtain ⟨t, rfl⟩ := rx
    exact PySem.P.repr_of_int (of_decide_eq_true hs) ⟨.str _, H, I.tok _, ⟨_, rfl⟩, q⟩
  | str z =>
    obtain ⟨t, rfl⟩ := rx
    exact PySem.P.repr_of_str ⟨.str _, H, I.tok _, ⟨_, rfl⟩, q⟩ hz
  | lst h1 h2 => exact refs _ rfl
  | tup h1 h2 => exact refs _ rfl

/-- sorted of a list of data, all of one shape -/
def rSortG (K : PySem.W.Frag) {β : Type} (val : β → V) (enc : β → PyData) : List V → Hp → VK → Prop := fun vs H Q => ∃ (a : Addr) (bs : List β), vs = [V.ref a] ∧ SqL K H a (bs.map val) ∧
  (∀ b ∈ bs, Dp K H (val b) (enc b) ∧ (enc b).depth ≤ 60) ∧ PySem.W.AllAlike (bs.map enc) ∧ PySem.W.Sortable (bs.map enc) ∧ bs.length ≤ sizeLine ∧
  ∀ p, H p = none → Q (.ref p) (upd H p (.lst ((bs.mergeSort (PySem.W.dataLe false enc)).map val)))
theorem each_vals {β : Type} {val : β → V} : ∀ {bs : List β} {us : List Value}, Vals (bs.map val) us → PySem.W.EachIs (fun u b => RelV (val b) u) us bs
  | [], _, .nil => .nil
  | _ :: _, _, .cons r t => .cons r (each_vals t)
theorem vals_each {β : Type} {val : β → V} : ∀ {bs : List β} {us : List Value}, PySem.W.EachIs (fun u b => RelV (val b) u) us bs → Vals (bs.map val) us
  | _, _, .nil => .nil
  | _, _, .cons r t => .cons r (vals_each t)
theorem each_mem {α β : Type} {R S : α → β → Prop} : ∀ {as : List α} {bs : List β}, PySem.W.EachIs R as bs → (∀ a b, b ∈ bs → R a b → S a b) → PySem.W.EachIs S as bs
  | _, _, .nil, _ => .nil
  | _, _, .cons r t, f => .cons (f _ _ List.mem_cons_self r) (each_mem t fun a b hb => f a b (List.mem_cons_of_mem _ hb))
theorem cr_sortG {β : Type} {val : β → V} {enc : β → PyData} (hu : X.A.units + 64 < cLine) : CallR X (.builtin "sorted") (rSortG X.K val enc) := by
  intro pins s σ H xs us Q I r h
  obtain ⟨a, bs, rfl, hL, hD, hal, hk, hz, q⟩ := h
  obtain ⟨u, rfl, rx⟩ : ∃ u, us = [u] ∧ RelV (.ref a) u := by
    cases r with
    | cons r1 r2 => cases r2; exact ⟨_, rfl, r1⟩
  have e2 : u = .ref a := rx
  subst e2
  obtain ⟨its, rv, pl, hz'⟩ := I.list hL
  have ev := each_vals rv
  have er : PySem.W.EachIs (fun v b => ∃ as, Reads s.heap v (enc b) as) its bs := each_mem ev fun v b hb rb => Dp.reads I (enc b) (val b) v (hD b hb).1 rb
  refine PySem.W.sorted_data pl.isList ev er hal hk hz (fun b hb => by have := (hD b hb).2; omega) fun out ho eo => ?_
  obtain ⟨n, hat⟩ := sortedAll_at s.heap its out.toArray
  have rout : Vals ((bs.mergeSort (PySem.W.dataLe false enc)).map val) out := vals_each eo
  have hlen : ((bs.mergeSort (PySem.W.dataLe false enc)).map val).length ≤ sizeLine := by rw [rout.length, ho]; exact hz
  have hf : H (s.heap.objs.size + 1) = none := I.hok.fresh (Nat.le_succ _)
  exact ⟨.ref (s.heap.objs.size + 1), upd H (s.heap.objs.size + 1) (.lst _), I.laid (t' := s.toks) (fun b o e => sortedAll_old e) (Nat.le_succ _) ⟨hlen, out, n, rout, hat⟩, rfl, q _ hf⟩
end

/-! ### the end of a law -/
section
variable {P : Program} {w : World} {K : PySem.W.Frag} {mg mb : Str → Option Value} {k : Nat} {fa a : Addr} {cs : List (Addr × Addr)} {fd : FuncData} {x : Str} {sp : Sp} {s₁ : Shared} {vs : List Value} {ns : List Int}
abbrev scriptObj (vs : List Value) : Obj := { cls := .type "list", data := .seq vs.toArray }
abbrev tabObj : Obj := { cls := .none, data := .fields #[] }
/-- the law's call from a heap in which the script and the tables alone are told -/
theorem law_from (H : Hp) (hT : ∀ p ∈ cs, H p.2 = some (.tbl #[])) (hall : ∀ b u, H b = some u → (b ∈ cs.map Prod.snd ∧ u = .tbl #[]) ∨ (b = a ∧ K.lookup a = none ∧ u = .frz (scriptObj vs) (.lst (ns.map V.int))))
    (KX : K.In s₁.heap) (hns : s₁.heap.Ns mainGlobals mg) (hb : s₁.heap.Ns builtinsNs mb) (hbb : ∀ x : Str, x ≠ "__name__" → mb x = bootBuiltins x) (hlim : s₁.heap.NoLimit) (hg : s₁.gens = #[])
    (tabs : ∀ p ∈ cs, s₁.heap.get? p.2 = some tabObj ∧ K.lookup p.2 = none ∧ PySem.W.CodeHd s₁.heap p.1 p.2)
    (hbm : ∃ (bm : Addr) (ob : Obj), mg "__builtins__" = some (.ref bm) ∧ bm ≠ builtinsNs ∧ s₁.heap.get? bm = some ob ∧ ob.cls = .type "module" ∧ ob.dict = some builtinsNs ∧ ob.data = .plain)
    (ha : s₁.heap.get? a = some (scriptObj vs)) (rv : Vals (ns.map V.int) vs) (hl : ns.length ≤ sizeLine) (hS : SqL K H a (ns.map V.int)) (hr : Room k callerA)
    (F : ∀ base : Heap, K.In base → base.Ns mainGlobals mg → (∀ p ∈ cs, TabB base mg p.1 p.2) → FnG P w K mg base CX0 k fa fd [x] sp) (hbind : ∀ (s : Shared) (u : Value), BindsTo s fd ⟨[u], []⟩ [(x, u)])
    (hsp : sp [.ref a] H (fun v _ => v = .bl true) E0) :
    codeAny (model P w) callerA (.call (.ref fa) ⟨[.ref a], []⟩) (fun r s' => r = .ok (.ret (.bool true)) ∧ OldK s₁.heap s'.heap ∧ s'.os = s₁.os ∧ AllBare s'.gens) s₁ := by
  have isT : ∀ b ∈ cs.map Prod.snd, s₁.heap.get? b = some tabObj := fun b h => by
    obtain ⟨p, hp, rfl⟩ := List.mem_map.mp h
    exact (tabs p hp).1
  -- what is of another kind is not told of
  have un : ∀ {b : Addr} {o : Obj}, s₁.heap.get? b = some o → o.data ≠ (scriptObj vs).data → o.data ≠ tabObj.data → H b = none := fun {b o} e n1 n2 => by
    cases q : H b with
    | none => rfl
    | some u =>
      rcases hall b u q with ⟨hm, _⟩ | ⟨rfl, _, _⟩
      · rw [isT b hm] at e
        exact (n2 (by rw [← Option.some.inj e])).elim
      · rw [ha] at e
        exact (n1 (by rw [← Option.some.inj e])).elim
  have unD : ∀ {b : Addr} {o : Obj} {es : Array DictEntry} {ep : Nat}, s₁.heap.get? b = some o → o.data = .dict es ep → H b = none := fun e d => un e (fun z => by rw [d] at z; cases z) fun z => by rw [d] at z; cases z
  have nsK : ∀ {b : Addr} {m : Str → Option Value}, s₁.heap.Ns b m → (hidT s₁.heap H).Ns b m := fun ⟨o, es, ep, e, d, r⟩ => ⟨o, es, ep, hidT_get e (unD e d), d, r⟩
  have hKb : K.In (hidT s₁.heap H) := fun b o e => hidT_get (KX b o e) (by
    cases q : H b with
    | none => rfl
    | some u =>
      rcases hall b u q with ⟨hm, _⟩ | ⟨rfl, hk, _⟩
      · obtain ⟨p, hp, rfl⟩ := List.mem_map.mp hm
        rw [(tabs p hp).2.1] at e
        cases e
      · rw [hk] at e
        cases e)
  have hok : HOk P w H s₁.heap := fun b u q => by
    rcases hall b u q with ⟨hm, rfl⟩ | ⟨rfl, _, rfl⟩
    · exact isT b hm
    · exact ⟨ha, by rw [List.length_map]; exact hl, vs, _, rv, ha⟩
  have TB : ∀ p ∈ cs, TabB (hidT s₁.heap H) mg p.1 p.2 := fun p hp => by
    obtain ⟨t1, t2, o, us, file, tf, flags, tg, inF, text, tt, e1, r1, r2, r3, rr⟩ := tabs p hp
    have nMain : mainGlobals ≠ p.2 := fun z => by
      obtain ⟨o, es, ep, e, d, _⟩ := hns
      rw [z, t1] at e
      cases e
      cases d
    refine ⟨⟨o, us, file, tf, flags, tg, inF, text, tt, hidT_get e1 (un e1 (fun z => ?_) fun z => ?_), r1, r2, r3, rr⟩, ?_, nMain⟩
    · rw [r2] at z
      cases z
    · rw [r2] at z
      cases z
      simp at r3
    · obtain ⟨bm, ob, b1, b2, b3, b4, b5, b6⟩ := hbm
      refine ⟨bm, ob, b1, b2, fun z => ?_, fun z => ?_, hidT_get b3 (un b3 (fun z => ?_) fun z => ?_), b4, b5, b6⟩
      · obtain ⟨o, es, ep, e, d, _⟩ := hns
        rw [z, e] at b3
        cases b3
        rw [d] at b6
        cases b6
      · rw [z, t1] at b3
        cases b3
        cases b6
      · rw [b6] at z
        cases z
      · rw [b6] at z
        cases z
  have lim2 : (hidT s₁.heap H).NoLimit := hlim.elim fun mc h => ⟨mc, nsK h.1, h.2⟩
  have e0 : Env0 P w K mg (hidT s₁.heap H) callerA [] s₁ H :=
    { frames := rfl, mod := ⟨hKb, nsK hns, ⟨mb, nsK hb, hbb⟩, lim2⟩, bs := fun b o e => of_hidT e, bsz := Nat.le_of_eq (hidT_size _ _), funs := trivial, frf := fun b hb => absurd (show b ∈ ([] : List Addr) from hb) (by simp), hok := hok, bare := .of_eq hg }
  refine codeAny_mono ((F _ hKb (nsK hns) TB).runs callerA [] s₁ H ⟨[.ref a], []⟩ [.ref a] [.ref a] _ _ rfl hr e0 (hbind s₁ (.ref a)) (.cons rfl .nil) hsp) fun r s' h => ?_
  match r, h with
  | .ok (.ret u), h =>
    obtain ⟨v, H', os, bare, U, hok', ru, ev⟩ := h
    subst ev
    have eu : u = .bool true := ru
    subst eu
    have kept : ∀ b o, b ∉ cs.map Prod.snd → s₁.heap.get? b = some o → s'.heap.get? b = some o := fun b o nb e => by
      cases q : H b with
      | none => exact U.keep b o e q (fun z => absurd (show b ∈ ([] : List Addr) from z) (by simp)) (by simp)
      | some u =>
        rcases hall b u q with ⟨hm, _⟩ | ⟨rfl, _, rfl⟩
        · exact (nb hm).elim
        · obtain ⟨e1, _⟩ := hok b _ q
          obtain ⟨e2, _⟩ := hok' b _ (U.frzs b _ _ q)
          rw [e] at e1
          rw [e1]
          exact e2
    have grown : ∀ p ∈ cs, ∃ more : Array Value, s'.heap.get? p.2 = some { cls := .none, data := .fields more } := fun p hp => by
      obtain ⟨more, z⟩ := U.tbls p.2 #[] (hT p hp)
      exact ⟨_, hok' p.2 _ z⟩
    refine ⟨rfl, ⟨fun b o e => ?_, fun b o e => ?_⟩, os, bare⟩
    · by_cases hm : b ∈ cs.map Prod.snd
      · obtain ⟨p, hp, rfl⟩ := List.mem_map.mp hm
        obtain ⟨more, hmore⟩ := grown p hp
        rw [(tabs p hp).1] at e
        cases e
        exact .inr (.inl ⟨((tabs p hp).2.2.tab (tabs p hp).1).isCodeTable, rfl, #[], more, rfl, by rw [Array.empty_append]; exact hmore⟩)
      · exact .inl (kept b o hm e)
    · by_cases hm : b ∈ cs.map Prod.snd
      · obtain ⟨p, hp, rfl⟩ := List.mem_map.mp hm
        exact (grown p hp).elim fun more h => ⟨_, h⟩
      · exact ⟨o, kept b o hm e⟩
/-- what is known of the law's promise at the heap h behind the top -/
def LawG (l : PySem.W.OpenLaw) (w : World) (K : PySem.W.Frag) (k n : Nat) (x : Str) (mg : Str → Option Value) (fa : Addr) (h : Heap) : Prop :=
  ∃ (fd : FuncData) (cs : List (Addr × Addr)) (sp : Sp), (∀ p ∈ cs, h.get? p.2 = some tabObj ∧ K.lookup p.2 = none ∧ PySem.W.CodeHd h p.1 p.2) ∧ (∀ (s : Shared) (u : Value), BindsTo s fd ⟨[u], []⟩ [(x, u)]) ∧
    (∀ (H : Hp) (a : Addr) (ns : List Int), ns.length ≤ n → (∀ z ∈ ns, Builtin.Int.intBits z ≤ 1048576) → (∀ p ∈ cs, H p.2 = some (.tbl #[])) → SqL K H a (ns.map V.int) → sp [.ref a] H (fun v _ => v = .bl true) E0) ∧
    ∀ base : Heap, K.In base → base.Ns mainGlobals mg → (∀ p ∈ cs, TabB base mg p.1 p.2) → FnG l.prog w K mg base CX0 k fa fd [x] sp
theorem walk_G {l : PySem.W.OpenLaw} {n k : Nat} {q : Program} {loose : List Str} {XP : (Str → Option Value) → Heap → Prop} {YP : World → Heap → Prop} {d : DefRec} {K : Params → PySem.W.Frag} {x : Str}
    (hn : l.most = some n) (hn2 : n ≤ sizeLine) (hdf : d.params.defaults = []) (hr : Room k callerA) (hY : ∀ (w : World) (h : Heap), YP w h → (K w.params).In h)
    (F : ∀ (w : World) (mg : Str → Option Value) (fa : Addr) (h : Heap), YP w h → (K w.params).In h → h.Ns mainGlobals mg → mg d.name = some (.ref fa) → LawG l w (K w.params) k n x mg fa h) :
    PySem.W.WalkO q loose XP YP l.row.toRowW d [] (fun f vs => PySem.call f vs) := by
  refine Att.attach_callB hn hdf fun w s₀ s₁ mg mb fa o pm cd doc a vs ns G Y ho hd hcd hmg hobj hints hlen hbits hg => ?_
  have KX := hY w _ Y
  obtain ⟨fd, cs, sp, hT, hb, hsp, hF⟩ := F w mg fa _ Y KX G.T.g hmg
  have aT : a ∉ cs.map Prod.snd := fun z => by
    obtain ⟨p, hp, e⟩ := List.mem_map.mp z
    have q := (hT p hp).1
    rw [e, hobj] at q
    have z' : Data.seq vs.toArray _ = Data.fields #[] := congrArg Obj.data (Option.some.inj q)
    cases z'
  have rv := vals_ints hints
  cases hk : (K w.params).lookup a with
  | some o2 =>
    have e := KX a o2 hk
    rw [hobj] at e
    cases e
    have sl : SqL (K w.params) (fun b => if b ∈ cs.map Prod.snd then some (.tbl #[]) else none) a (ns.map V.int) :=
      .inr ⟨_, vs.toArray, _, hk, rfl, rfl, rfl, by rw [List.size_toArray, hints.length]; exact Nat.le_trans hlen hn2, by simpa using rv⟩
    have hT' : ∀ p ∈ cs, (fun b => if b ∈ cs.map Prod.snd then some (HO.tbl #[]) else none) p.2 = some (.tbl #[]) := fun p hp => if_pos (List.mem_map.mpr ⟨p, hp, rfl⟩)
    refine law_from _ hT' (fun b u z => ?_) KX G.T.g G.T.b G.T.builtins G.T.nolimit hg hT G.T.bmain hobj rv (Nat.le_trans hlen hn2) sl hr hF hb (hsp _ a ns hlen hbits hT' sl)
    by_cases hm : b ∈ cs.map Prod.snd
    · exact .inl ⟨hm, Option.some.inj (z.symm.trans (if_pos hm))⟩
    · have z' := z.symm.trans (if_neg hm)
      cases z'
  | none =>
    have sl : SqL (K w.params) (fun b => if b = a then some (.frz (scriptObj vs) (.lst (ns.map V.int))) else if b ∈ cs.map Prod.snd then some (.tbl #[]) else none) a (ns.map V.int) := .inl (.inr ⟨scriptObj vs, if_pos rfl⟩)
    have hT' : ∀ p ∈ cs, (fun b => if b = a then some (HO.frz (scriptObj vs) (.lst (ns.map V.int))) else if b ∈ cs.map Prod.snd then some (.tbl #[]) else none) p.2 = some (.tbl #[]) := fun p hp =>
      (if_neg (show ¬ p.2 = a from fun z => aT (by rw [← z]; exact List.mem_map.mpr ⟨p, hp, rfl⟩))).trans (if_pos (List.mem_map.mpr ⟨p, hp, rfl⟩))
    refine law_from _ hT' (fun b u z => ?_) KX G.T.g G.T.b G.T.builtins G.T.nolimit hg hT G.T.bmain hobj rv (Nat.le_trans hlen hn2) sl hr hF hb (hsp _ a ns hlen hbits hT' sl)
    by_cases hm : b = a
    · exact .inr ⟨hm, hk, Option.some.inj (z.symm.trans (if_pos hm))⟩
    · have z1 := z.symm.trans (if_neg hm)
      by_cases hm2 : b ∈ cs.map Prod.snd
      · exact .inl ⟨hm2, Option.some.inj (z1.trans (if_pos hm2))⟩
      · have z' := z1.trans (if_neg hm2)
        cases z'
end
end Gx

/-! set( ) of a list of keys of any kind, fewer than 4,000; len(set( )) of a list of texts -/
namespace Gx
open PySem PySem.Spec PyProof.Rows L2 GxR GenW
/-- the unlike ones, in their order -/
def uq {κ : Type} [DecidableEq κ] : List κ → List κ → List κ
  | acc, [] => acc
  | acc, x :: r => uq (if x ∈ acc then acc else acc ++ [x]) r
theorem uq_append {κ : Type} [DecidableEq κ] : ∀ (l acc : List κ) (x : κ), uq acc (l ++ [x]) = if x ∈ uq acc l then uq acc l else uq acc l ++ [x]
  | [], acc, x => rfl
  | y :: r, acc, x => uq_append r _ x
theorem uq_len {κ : Type} [DecidableEq κ] : ∀ (l acc : List κ), (uq acc l).length ≤ acc.length + l.length
  | [], acc => Nat.le_refl _
  | x :: r, acc => by
    have h := uq_len r (if x ∈ acc then acc else acc ++ [x])
    have e : (if x ∈ acc then acc else acc ++ [x]).length ≤ acc.length + 1 := by split <;> simp
    show (uq _ r).length ≤ acc.length + (r.length + 1)
    omega
theorem uq_mem {κ : Type} [DecidableEq κ] : ∀ (l acc : List κ) (k : κ), k ∈ uq acc l ↔ k ∈ acc ∨ k ∈ l
  | [], acc, k => by simp [uq]
  | x :: r, acc, k => by
    show k ∈ uq (if x ∈ acc then acc else acc ++ [x]) r ↔ _
    rw [uq_mem r]
    by_cases h : x ∈ acc
    · rw [if_pos h]
      constructor
      · rintro (h1 | h1)
        · exact .inl h1
        · exact .inr (List.mem_cons_of_mem _ h1)
      · rintro (h1 | h1)
        · exact .inl h1
        · rcases List.mem_cons.mp h1 with e | h2
          · exact .inl (e ▸ h)
          · exact .inr h2
    · rw [if_neg h]
      simp only [List.mem_append, List.mem_cons, List.not_mem_nil, or_false]
      constructor
      · rintro ((h1 | h1) | h1)
        · exact .inl h1
        · exact .inr (.inl h1)
        · exact .inr (.inr h1)
      · rintro (h1 | h1 | h1)
        · exact .inl (.inl h1)
        · exact .inl (.inr h1)
        · exact .inr h1
theorem uq_nodup {κ : Type} [DecidableEq κ] : ∀ (l acc : List κ), (acc ++ l).Nodup → uq acc l = acc ++ l
  | [], acc, _ => by simp [uq]
  | x :: r, acc, h => by
    have hx : x ∉ acc := fun hm => by
      rw [List.nodup_append] at h
      exact h.2.2 x hm x List.mem_cons_self rfl
    show uq (if x ∈ acc then acc else acc ++ [x]) r = _
    rw [if_neg hx]
    have e : acc ++ x :: r = (acc ++ [x]) ++ r := by simp
    rw [e] at h ⊢
    exact uq_nodup r _ h
theorem uq_short {κ : Type} [DecidableEq κ] : ∀ (l acc : List κ), acc.Nodup → ¬ (acc ++ l).Nodup → (uq acc l).length < acc.length + l.length
  | [], acc, h, h2 => absurd (by simpa using h) h2
  | x :: r, acc, h, h2 => by
    show (uq (if x ∈ acc then acc else acc ++ [x]) r).length < acc.length + (r.length + 1)
    by_cases hx : x ∈ acc
    · rw [if_pos hx]
      have := uq_len r acc
      omega
    · rw [if_neg hx]
      have hn : (acc ++ [x]).Nodup := by
        rw [List.nodup_append]
        refine ⟨h, by simp, fun a ha b hb => ?_⟩
        have e : b = x := by simpa using hb
        rw [e]
        exact fun z => hx (z ▸ ha)
      have e : acc ++ x :: r = (acc ++ [x]) ++ r := by simp
      rw [e] at h2
      have := uq_short r (acc ++ [x]) hn h2
      rw [List.length_append, List.length_singleton] at this
      omega

section
variable {prog : Program} {w : World} {A : Around} {κ : Type} [DecidableEq κ] {knd : PySem.KeyKind prog w κ}
/-- the loop that fills it -/
theorem fill_set {R : Result → Shared → Prop} {it : Addr} {fp wr : List Addr} {G : Array GenState → Array GenState → Prop} {n : Nat} {P : Nat → Value → Prop} {St : Nat → Shared → Prop} (W : WalksS prog w A.in1 it fp wr G n P St) {Z : Addr} (zf : Z ∉ fp)
    (ks : List κ) (hn : ks.length = n) (hv : ∀ (i : Nat) (v : Value), P i v → v.scannable = true ∧ ∃ k, ks[i]? = some k ∧ knd.is k v = true) (hb : n + 1 < scanBound) :
    ∀ (m i : Nat) (s : Shared), n = i + m → St i s → s.heap.SetOf knd Z (fun k => decide (k ∈ ks.take i)) (uq [] (ks.take i)).length →
      (∀ s', Moved (Z :: wr) G s s' → s'.heap.SetOf knd Z (fun k => decide (k ∈ ks)) (uq [] ks).length → R (.ok (.ret .none)) s') →
      codeAny (model prog w) A (.builtin "set.update.loop" ⟨[.ref Z, .ref it], []⟩) R s := by
  have zw : Z ∉ wr := fun z => zf (W.sub _ z)
  have more : ∀ b ∈ wr, b ∈ Z :: wr := fun b hb => List.mem_cons_of_mem _ hb
  have stays : ∀ {s s' : Shared} {T : κ → Bool} {c : Nat}, Moved wr G s s' → s.heap.SetOf knd Z T c → s'.heap.SetOf knd Z T c := fun mv ⟨o, es, ep, tb, ho, r⟩ => ⟨o, es, ep, tb, mv.heap Z _ zw ho, r⟩
  intro m
  induction m with
  | zero =>
    intro i s hi hst hS hR
    have e1 : i = n := by omega
    subst e1
    have e2 : ks.take ks.length = ks := List.take_length
    refine codeAny_builtin PyProof.Rows.F.entry_set_update_loop ?_
    rw [Around.under_plainId PyProof.Rows.F.plain_set_update_loop _]
    show wpAny (model prog w) A.in1 (pyNext (.ref it) >>= _) _ _ s
    refine wpAny_bind (W.done s _ _ hst fun s' mv => ?_)
    show wpAny (model prog w) A.in1 (ret Value.none) _ _ s'
    refine wpAny_pure (hR s' (mv.mono more) ?_)
    have q := stays mv hS
    rw [← hn, e2] at q
    exact q
  | succ m ih =>
    intro i s hi hst hS hR
    have il : i < n := by omega
    refine codeAny_builtin PyProof.Rows.F.entry_set_update_loop ?_
    rw [Around.under_plainId PyProof.Rows.F.plain_set_update_loop _]
    show wpAny (model prog w) A.in1 (pyNext (.ref it) >>= _) _ _ s
    refine wpAny_bind (W.item i s _ _ il hst fun v s' hP hst' mv => ?_)
    obtain ⟨hsc, k, hk, his⟩ := hv i v hP
    have hS' := stays mv hS
    show wpAny (model prog w) A.in1 (holding [v] (setAdd Z v) >>= _) _ _ s'
    refine wpAny_bind (wpAny_holding ?_)
    unfold setAdd
    refine wpAny_holding (wpAny_bind (knd.pyHash his ?_))
    have room : (uq [] (ks.take i)).length + 1 < scanBound := by
      have h1 := uq_len (ks.take i) ([] : List κ)
      have h2 : (ks.take i).length ≤ i := by rw [List.length_take]; omega
      simp only [List.length_nil] at h1
      omega
    refine wpAny_setAddHashed_of (knd := knd) (s := { s' with toks := s'.toks + 1 }) his hsc hS' room fun h' sb hS2 => ?_
    have et : ks.take (i + 1) = ks.take i ++ [k] := by rw [List.take_add_one, hk]; rfl
    have hS3 : h'.SetOf knd Z (fun k => decide (k ∈ ks.take (i + 1))) (uq [] (ks.take (i + 1))).length := by
      have e1 : (fun k' => decide (k' ∈ ks.take i) || decide (k' = k)) = fun k' => decide (k' ∈ ks.take (i + 1)) := by
        funext k'
        rw [et]
        by_cases c1 : k' ∈ ks.take i <;> by_cases c2 : k' = k <;> simp [c1, c2]
      have e2 : (if decide (k ∈ ks.take i) = true then (uq [] (ks.take i)).length else (uq [] (ks.take i)).length + 1) = (uq [] (ks.take (i + 1))).length := by
        rw [et, uq_append]
        by_cases c : k ∈ ks.take i
        · have c2 : k ∈ uq [] (ks.take i) := (uq_mem _ _ _).mpr (.inr c)
          rw [if_pos c2, if_pos (decide_eq_true c)]
        · have c2 : k ∉ uq [] (ks.take i) := fun z => by
            rcases (uq_mem _ _ _).mp z with y | y
            · cases y
            · exact c y
          rw [if_neg c2, if_neg (by simpa using c), List.length_append, List.length_singleton]
      rw [← e1, ← e2]
      exact hS2
    have same : ∀ b o, b ≠ Z → s'.heap.get? b = some o → h'.get? b = some o := fun b o hb e => by rw [sb.2 b hb]; exact e
    refine wpAny_pure ⟨plainId_quiet PyProof.Rows.F.plain_set_update_loop _, ih (i + 1) _ (by omega) (W.frame _ s' _ _ hst' (Nat.le_succ _) fun b hb o e => same b o (fun z => zf (z ▸ hb)) e) hS3 fun s'' mv2 hS4 => ?_⟩
    exact hR s'' (Moved.trans W.gtrans ((mv.mono more).then_heap (Nat.le_succ _) fun b o hb e => same b o (fun z => hb (by rw [z]; exact List.mem_cons_self)) e) mv2) hS4

/-- set(l), l a list of keys -/
theorem set_of_list {E : Value → Shared → Prop} {s : Shared} {l : Addr} {items : Array Value} {ks : List κ} {Q : Value → Shared → Prop} (hh : A.handled = none) (hl : s.heap.IsList l items) (hn : ks.length = items.size)
    (hv : ∀ (i : Nat) (v : Value), items[i]? = some v → v.scannable = true ∧ ∃ k, ks[i]? = some k ∧ knd.is k v = true) (hb : items.size + 1 < scanBound)
    (h : ∀ (h' : Heap) (tk : Nat), h'.SetOf knd s.heap.objs.size (fun k => decide (k ∈ ks)) (uq [] ks).length → (∀ b o, s.heap.get? b = some o → h'.get? b = some o) → Q (.ref s.heap.objs.size) { s with heap := h', toks := tk }) :
    wpAny (model prog w) A (call (.type "set") [.ref l]) Q E s := by
  obtain ⟨c0, tl0, mro0⟩ := PySem.F.called_set.mro
  have made0 := PySem.F.called_set.made; have sub0 := PySem.F.called_set.sub
  have nt0 := PySem.F.called_set.notType; have cc0 := PySem.F.called_set.canCreate
  have tc0 := PySem.F.typeCall_set_1 (.ref l)
  refine wpAny_call (codeAny_of_tree ?_)
  show wpAny (model prog w) _ (callAny (.type "set") _) _ _ _
  refine wpAny_pure ⟨Code.quiet_builtin _ (by decide +kernel), codeAny_builtin PySem.F.entry_type_call ?_⟩
  rw [Around.under_plain (weight_type_call_type "set" [.ref l] []) rfl]
  repeat any_goals first | assumption | wp_step
  refine codeAny_mono (code_set_new_1 (.ref l) (E := E) (Q₁ := fun z t => ∃ led : Bool, z = .ref s.heap.objs.size ∧ t = { s with heap := s.heap.push { cls := .type "set", dict := none, data := .set #[] 0 (.fresh 0 0 led) } }) fun led => ⟨led, rfl, rfl⟩) fun r1 t1 q1 => ?_
  match r1, q1 with
  | .error e, q1 => exact q1
  | .ok (.ret z), q1 =>
    obtain ⟨led, rfl, rfl⟩ := q1
    have gS : (s.heap.push { cls := .type "set", dict := none, data := .set #[] 0 (.fresh 0 0 led) }).get? s.heap.objs.size = some { cls := .type "set", dict := none, data := .set #[] 0 (.fresh 0 0 led) } := Heap.get?_push_size _ rfl
    have tS : Shared.TypeIs { s with heap := s.heap.push { cls := .type "set", dict := none, data := .set #[] 0 (.fresh 0 0 led) } } (.ref s.heap.objs.size) "set" := ⟨_, gS, rfl⟩
    have li := PySem.F.called_set.init.lookup; have bi := PySem.F.called_set.init.bind (.ref s.heap.objs.size)
    repeat any_goals first | assumption | wp_step
    refine codeAny_mono (codeAny_call_builtin (R := wants (fun r t => r = .none ∧ ∃ h' tk, t = { s with heap := h', toks := tk } ∧ h'.SetOf knd s.heap.objs.size (fun k => decide (k ∈ ks)) (uq [] ks).length ∧
        ∀ b o, s.heap.get? b = some o → h'.get? b = some o) E) PySem.F.called_set.init.plain PySem.F.entry_set_init (check_set_init_1 tS ?_)) fun r2 t2 q2 => ?_
    · obtain ⟨ol, gl, cl, nl, dl⟩ := hl
      obtain ⟨oc, od, ot, os⟩ := ol
      simp only at cl dl
      subst cl; subst dl
      have ll : l < s.heap.objs.size := Heap.lt_size gl
      have gl' : (s.heap.push { cls := .type "set", dict := none, data := .set #[] 0 (.fresh 0 0 led) }).get? l = some { cls := .type "list", dict := od, data := .seq items nl, slots := os } := Heap.get?_push_of_some _ gl
      have il : (s.heap.push { cls := .type "set", dict := none, data := .set #[] 0 (.fresh 0 0 led) }).IsList l items := ⟨_, gl', rfl, nl, rfl⟩
      have s1 := PySem.F.sub_list_set; have s2 := PySem.F.sub_list_frozenset
      have nd : (Value.type "list" == Value.type "dict") = false := by decide
      unfold Builtin.«set.__init__» noKeywords Builtin.Frozenset.updateFrom
      generalize hp : pyIter = pI
      wp_walk
      subst hp
      refine wpAny_pyIter_list il (wpAny_bind (wpAny_runValue ?_))
      have h3 : A.in1.in1.in1.handled = none := by simp [hh]
      have ni : l ≠ (s.heap.push { cls := .type "set", dict := none, data := .set #[] 0 (.fresh 0 0 led) }).objs.size := by rw [Heap.size_push]; exact Nat.ne_of_lt (Nat.lt_succ_of_lt ll)
      have zf : s.heap.objs.size ∉ [(s.heap.push { cls := .type "set", dict := none, data := .set #[] 0 (.fresh 0 0 led) }).objs.size, l] := by
        rw [Heap.size_push]; simp only [List.mem_cons, List.mem_singleton, List.not_mem_nil, or_false, not_or]
        exact ⟨Nat.ne_of_lt (Nat.lt_succ_self _), Nat.ne_of_gt ll⟩
      refine fill_set ((Walks.list h3 _ l ni items).toS) zf ks hn hv hb items.size 0 _ (by omega) ⟨⟨_, Heap.get?_push_size _ rfl, rfl, rfl⟩, il.push _⟩ ?_ fun t mv hS => ?_
      · have g2 : ((s.heap.push { cls := .type "set", dict := none, data := .set #[] 0 (.fresh 0 0 led) }).push { cls := .type "list_iterator", data := .fields #[.ref l, .int 0 0] }).get? s.heap.objs.size =
            some { cls := .type "set", dict := none, data := .set #[] 0 (.fresh 0 0 led) } := Heap.get?_push_of_some _ gS
        have q := (PyProof.Rows.setObjOf_fresh (knd := knd) led).setOf g2 (by unfold scanBound; omega)
        have e : (fun k => decide (k ∈ ks.take 0)) = fun _ : κ => false := by funext k; simp
        rw [e]
        exact q
      · obtain ⟨h', g', d', tk', os'⟩ := t
        obtain rfl : g' = s.gens := mv.gens
        obtain rfl : d' = s.drawn := mv.drawn
        obtain rfl : os' = s.os := mv.os
        show wpAny (model prog w) _ _ _ _ _
        refine wpAny_pure ?_
        show wpAny (model prog w) _ (ret Value.none) _ _ _
        refine wpAny_pure ⟨rfl, h', tk', rfl, hS, fun b o e => ?_⟩
        have lb := Heap.lt_size e
        refine mv.heap b o (fun z => ?_) (Heap.get?_push_of_some _ (Heap.get?_push_of_some _ e))
        rcases List.mem_cons.mp z with y | y
        · exact Nat.ne_of_lt lb y
        · rcases List.mem_cons.mp y with y | y
          · rw [Heap.size_push] at y
            exact Nat.ne_of_lt (Nat.lt_succ_of_lt lb) y
          · cases y
    · match r2, q2 with
      | .error e, q2 => exact q2
      | .ok (.ret r), q2 =>
        obtain ⟨rfl, h', tk, rfl, hS, hk⟩ := q2
        repeat any_goals first | assumption | wp_step
        exact h _ _ hS hk
end
end Gx
namespace Gx
open PySem PySem.Spec PyProof.Rows L2 GxR GenW
section
variable {X : Cx}
/-- len(set(xs)) of a list of texts -/
def tLenSetS (K : PySem.W.Frag) (ta : TE) : TE := fun σ H Q => ta σ H fun x H1 => ∃ (l : Addr) (xs : List Str), x = .ref l ∧ SqL K H1 l (xs.map V.str) ∧ xs.length ≤ 4000 ∧ Q (.int ((uq [] xs).length : Nat)) H1
theorem pe_lenSetS {a : Expr} {ta : TE} {p p2 q pos : Pos} (hg : Gl X "len") (hm : X.mg "len" = none) (hg2 : Gl X "set") (hm2 : X.mg "set" = none) (hh : X.A.handled = none) (ha : PE X a ta)
    (na : starEach [a] X.env = (false, eval a X.env) :: starEach [] X.env := by rfl) : PE X (.Call (.Name "len" p) [.Call (.Name "set" p2) [a] [] q] [] pos) (tLenSetS X.K ta) := by
  refine ⟨fun pins s σ H Q I h => Call_ (ld_blt I hg hm boot_len (PyProof.Rows.callWith_builtin1 (PyProof.Rows.args_cons (Call_ (ld_blt I hg2 hm2 boot_set ?_)) rfl) rfl rfl))⟩
  refine PyProof.Rows.callWith_type1 (PyProof.Rows.args_cons (thn (ha.run pins s σ H _ I h) fun v s1 h1 => PyProof.Rows.args_nil ?_) na) na rfl
  obtain ⟨x, H1, I1, r1, l, xs, rfl, hq, hz, q1⟩ := h1
  have e : v = .ref l := r1
  subst e
  obtain ⟨its, rv, pl, _⟩ := I1.list hq
  have hlen : xs.length = its.length := by have := rv.length; rw [List.length_map] at this; exact this
  refine set_of_list (knd := PySem.strKind X.prog X.w) hh pl.isList (ks := xs) (by rw [List.size_toArray]; exact hlen) (fun i v hv => ?_) (by rw [List.size_toArray, ← hlen]; unfold scanBound; omega) fun h' tk hS hk => ?_
  · have hv' : its[i]? = some v := by simpa using hv
    have hi : i < xs.length := by rw [hlen]; exact (List.getElem?_eq_some_iff.mp hv').1
    have e1 : (xs.map V.str)[i]? = some (V.str xs[i]) := by rw [List.getElem?_map, List.getElem?_eq_getElem hi]; rfl
    obtain ⟨u, hu, t, rfl⟩ := rv.get e1
    rw [hv'] at hu
    obtain rfl := Option.some.inj hu
    exact ⟨rfl, xs[i], List.getElem?_eq_getElem hi, PySem.strKind_is _ _ _ _⟩
  · obtain ⟨o, es, ep, t, ho, hex, hd, _, _, _, hf, hn⟩ := hS
    have I2 : Inv X pins σ H1 { s1 with heap := h', toks := tk } := I1.kept hk
    have hle : (uq ([] : List Str) xs).length ≤ 4000 := by have := uq_len xs ([] : List Str); simp only [List.length_nil] at this; omega
    exact PyProof.Rows.args_nil (call_len_set ho hex hd hf (by rw [hn]; omega) ⟨.int _, H1, I2.tok _, ⟨_, by rw [hn]⟩, q1⟩)
end
end Gx

/-! What else the programs want: powers, generator expressions by their scopes, what stays of a heap. -/
namespace Gx
open PySem PySem.Spec PyProof.Rows L2 GxR GenW
theorem bits_le {x : Int} {n : Nat} (h0 : 0 < n) (h : x.natAbs < 2 ^ n) : Builtin.Int.intBits x ≤ n := by
  have l := PySem.Flt.log2_lt_of h0 h
  unfold Builtin.Int.intBits
  split <;> omega
section
variable {X : Cx}
/-- ** of any base, together below 2 ^ 27 bits -/
def CPowX (i j : Int) : Prop := 0 ≤ j ∧ (Builtin.Int.intBits i : Int) * j ≤ 2 ^ 27
theorem op_powX : OpR X (binaryOp .Pow) (rI CPowX fun i j => .int (i ^ j.toNat)) := opI fun _ _ _ _ _ _ _ hc q => pow_int hc.1 hc.2 q
theorem room_gx {k : Nat} {s : Shared} {H : Hp} {sc : Scope} {C : Addr} {code : Value} {fp : List Addr} (r : Room (k + 3) X.A) : Room k (gcx X s H sc C code fp).A := r.in1.in1.deeper _
def gxC (sc : Scope) : Bool := (sc.names.all fun y => match y.2 with | .cell => false | _ => true) && (match sc.names.lookup (".0" : Str) with | some .local => true | _ => false) && !sc.isCoroutine
theorem gx_ok {gsc dsc : Scope} {own : List (Str × Nat)} {c P : Addr} {N : List Str} (tb : TabB X.base X.mg c P) (nd : N.Nodup) (b : blkC N dsc gsc own = true) (h2 : gxC gsc = true)
    (e1 : X.N = N := by rfl) (e2 : X.env.scope = dsc := by rfl) (e3 : X.env.code = .ref c := by rfl) : GxOk X gsc own c P := by
  unfold gxC at h2
  rw [Bool.and_eq_true, Bool.and_eq_true, List.all_eq_true] at h2
  refine ⟨tb, e3, ?_, by rw [e1]; exact nd, fun y hy e => ?_, ?_, ?_⟩
  · rw [e1, e2]
    exact blkOk_by b
  · have := h2.1.1 y hy
    rw [e] at this
    cases this
  · have := h2.1.2
    split at this
    · assumption
    · cases this
  · simpa using h2.2
end

/-! ### what stays -/
/-- all but tables and what stands at ex is as it was; tables may have grown -/
structure Grow (ex : List Addr) (H H' : Hp) : Prop where
  keep : ∀ b o, b ∉ ex → H b = some o → (∀ ps, o ≠ .tbl ps) → H' b = some o
  tabs : ∀ b, TabG H b → TabG H' b
theorem Grow.refl (ex : List Addr) (H : Hp) : Grow ex H H := ⟨fun _ _ _ e _ => e, fun _ t => t⟩
theorem Grow.trans {ex : List Addr} {H H1 H2 : Hp} (a : Grow ex H H1) (b : Grow ex H1 H2) : Grow ex H H2 := ⟨fun c o h e t => b.keep c o h (a.keep c o h e t) t, fun c t => b.tabs c (a.tabs c t)⟩
theorem Grow.mono {ex ex' : List Addr} {H H1 : Hp} (a : Grow ex H H1) (h : ∀ b ∈ ex, b ∈ ex') : Grow ex' H H1 := ⟨fun c o n e t => a.keep c o (fun z => n (h c z)) e t, a.tabs⟩
theorem Grow.any {ex : List Addr} {H H1 : Hp} (a : Grow [] H H1) : Grow ex H H1 := a.mono fun _ z => by cases z
theorem Grow.lst {ex : List Addr} {H H' : Hp} (a : Grow ex H H') {p : Addr} {xs : List V} (n : p ∉ ex) (h : H p = some (.lst xs)) : H' p = some (.lst xs) := a.keep p _ n h fun ps z => by cases z
theorem Grow.tup {ex : List Addr} {H H' : Hp} (a : Grow ex H H') {p : Addr} {xs : List V} (n : p ∉ ex) (h : H p = some (.tup xs)) : H' p = some (.tup xs) := a.keep p _ n h fun ps z => by cases z
theorem Grow.seq {K : PySem.W.Frag} {ex : List Addr} {H H' : Hp} (a : Grow ex H H') {p : Addr} {xs : List V} (n : p ∉ ex) (h : SqL K H p xs) : SqL K H' p xs := by
  rcases h with (h | ⟨o, h⟩) | h
  · exact .inl (.inl (a.lst n h))
  · exact .inl (.inr ⟨o, a.keep p _ n h fun ps z => by cases z⟩)
  · exact .inr h
theorem Grow.seq0 {K : PySem.W.Frag} {H H' : Hp} (a : Grow [] H H') {p : Addr} {xs : List V} (h : SqL K H p xs) : SqL K H' p xs := a.seq (by simp) h
/-- a new object -/
theorem grow_new {ex : List Addr} {H : Hp} {p : Addr} {o : HO} (h : H p = none) : Grow ex H (upd H p o) :=
  ⟨fun b u _ e _ => by rw [upd_ne (ne_of_none e h)]; exact e, fun b ⟨ps, e, t⟩ => ⟨ps, by rw [upd_ne (ne_of_none e h)]; exact e, t⟩⟩
/-- what stands at p, no table, is changed -/
theorem grow_at {ex : List Addr} {H : Hp} {p : Addr} {o u : HO} (h : H p = some u) (hu : ∀ ps, u ≠ .tbl ps) (hp : p ∈ ex) : Grow ex H (upd H p o) :=
  ⟨fun b v n e _ => by rw [upd_ne (show b ≠ p from fun z => n (by rw [z]; exact hp))]; exact e, fun b ⟨ps, e, t⟩ => ⟨ps, by rw [upd_ne (show b ≠ p from fun z => by rw [z, h] at e; exact hu ps (Option.some.inj e))]; exact e, t⟩⟩
theorem grow_tab {ex : List Addr} {P : Addr} {H H' : Hp} (h : TabG H P) (t : Tabbed P H H') : Grow ex H H' :=
  ⟨fun b o _ e no => by
    have n : b ≠ P := fun z => by
      obtain ⟨ps, e2, _⟩ := h
      rw [z, e2] at e
      exact no ps (Option.some.inj e).symm
    rw [t.2 b n]
    exact e, fun b ht => by
    by_cases z : b = P
    · rw [z]
      exact t.1
    · obtain ⟨ps, e, q⟩ := ht
      exact ⟨ps, by rw [t.2 b z]; exact e, q⟩⟩
/-- what was not told of before may be dropped from ex -/
theorem Grow.less {ex : List Addr} {p : Addr} {H H' : Hp} (a : Grow (p :: ex) H H') (h : H p = none) : Grow ex H H' :=
  ⟨fun b o n e t => a.keep b o (fun z => by
    rcases List.mem_cons.mp z with y | y
    · rw [y, h] at e
      cases e
    · exact n y) e t, a.tabs⟩
/-- nothing stood there, or a table did -/
def Fresh (H : Hp) (p : Addr) : Prop := ∀ o, H p = some o → ∃ ps, o = .tbl ps
theorem fresh_none {H : Hp} {p : Addr} (h : H p = none) : Fresh H p := fun o e => by
  rw [h] at e
  cases e
theorem Grow.fresh {ex : List Addr} {H H' : Hp} (a : Grow ex H H') {p : Addr} (n : p ∉ ex) (h : Fresh H' p) : Fresh H p := fun o e => by
  cases o with
  | tbl ps => exact ⟨ps, rfl⟩
  | _ => exact h _ (a.keep p _ n e (fun ps z => by cases z))
theorem Grow.fresh0 {H H' : Hp} (a : Grow [] H H') {p : Addr} (h : H' p = none) : Fresh H p := a.fresh (by simp) (fresh_none h)
theorem Fresh.ne {H : Hp} {p b : Addr} {o : HO} (n : Fresh H p) (h : H b = some o) (ho : ∀ ps, o ≠ .tbl ps) : b ≠ p := fun z => by
  rw [z] at h
  obtain ⟨ps, e⟩ := n o h
  exact ho ps e
/-- what is new may be changed -/
theorem Grow.put {ex : List Addr} {p : Addr} {o u : HO} {H H' : Hp} (a : Grow ex H H') (n : Fresh H p) (h : H' p = some u) (hu : ∀ ps, u ≠ .tbl ps) : Grow ex H (upd H' p o) :=
  ⟨fun b v z e t => by
    rw [upd_ne (n.ne e t)]
    exact a.keep b v z e t, fun b t => by
    obtain ⟨ps, e, q⟩ := a.tabs b t
    exact ⟨ps, by rw [upd_ne (show b ≠ p from fun z => by rw [z, h] at e; exact hu ps (Option.some.inj e))]; exact e, q⟩⟩
theorem Grow.drop {ex : List Addr} {p : Addr} {H H' : Hp} (a : Grow (p :: ex) H H') (n : Fresh H p) : Grow ex H H' :=
  ⟨fun b o nb e t => a.keep b o (fun z => by
    rcases List.mem_cons.mp z with y | y
    · exact n.ne e t y
    · exact nb y) e t, a.tabs⟩
theorem Grow.new {ex : List Addr} {p : Addr} {o : HO} {H H' : Hp} (a : Grow ex H H') (h : H' p = none) : Grow ex H (upd H' p o) := a.trans (grow_new h)
/-! ### data -/
mutual
theorem Dp.grow {K : PySem.W.Frag} {H H' : Hp} (a : Grow [] H H') : ∀ {x : V} {d : PyData}, Dp K H x d → Dp K H' x d
  | _, _, .non => .non
  | _, _, .bl b => .bl b
  | _, _, .int i => .int i
  | _, _, .str x => .str x
  | _, _, .lst h1 h2 => .lst (a.seq0 h1) (DpAll.grow a h2)
  | _, _, .tup h1 h2 => .tup (by
      rcases h1 with (h | ⟨o, h⟩) | h
      · exact .inl (.inl (a.keep _ _ (by simp) h fun ps z => by cases z))
      · exact .inl (.inr ⟨o, a.keep _ _ (by simp) h fun ps z => by cases z⟩)
      · exact .inr h) (DpAll.grow a h2)
theorem DpAll.grow {K : PySem.W.Frag} {H H' : Hp} (a : Grow [] H H') : ∀ {x : List V} {d : List PyData}, DpAll K H x d → DpAll K H' x d
  | _, _, .nil => .nil
  | _, _, .cons h t => .cons (Dp.grow a h) (DpAll.grow a t)
end
theorem dp_strs {K : PySem.W.Frag} {H : Hp} : ∀ xs : List Str, DpAll K H (xs.map V.str) (xs.map PyData.str)
  | [] => .nil
  | x :: r => .cons (.str x) (dp_strs r)
theorem dp_book {K : PySem.W.Frag} {H : Hp} {p : Addr} {xs : List Str} (h : SqL K H p (xs.map V.str)) : Dp K H (.ref p) (.list (xs.map PyData.str)) := .lst h (dp_strs xs)

theorem tyB_str {K : PySem.W.Frag} {H : Hp} {z : Str} {p : String → Prop} : (∃ U, TyB K H (.str z) U ∧ p U) ↔ p "str" := by
  constructor
  · rintro ⟨U, t, h⟩
    cases t
    exact h
  · exact fun h => ⟨_, .str z, h⟩
theorem tyB_int {K : PySem.W.Frag} {H : Hp} {z : Int} {p : String → Prop} : (∃ U, TyB K H (.int z) U ∧ p U) ↔ p "int" := by
  constructor
  · rintro ⟨U, t, h⟩
    cases t
    exact h
  · exact fun h => ⟨_, .int z, h⟩

/-! ### all( ), any( ) over items that are known -/
section
variable {sb : Bool} {g : TG} {te : TE} {vs : List Nat} {σ : L2.St} {Q : VK} {P : Addr} {J : It} {H1 : Hp}
theorem truth_by {items : List V} (Pv : Nat → Hp → Prop) (h0 : ∀ H2, Tabbed P H1 H2 → Pv 0 H2) (yld : ∀ i H x H', Pv i H → J.yld i H x H' → H' = H ∧ items[i]? = some x) (go : ∀ i H, i < items.length → Pv i H → J.go i H)
    (stop : ∀ H, Pv items.length H → J.stop items.length H) (step : ∀ i x H, items[i]? = some x → Pv i H → g x (wipe σ vs) H fun σ2 H2 => wipe σ2 vs = wipe σ vs ∧ te σ2 H2 fun y H4 => ∃ b, y = .bl b ∧ if b = sb then Q (.bl sb) H4 else Pv (i + 1) H4)
    (fin : ∀ H, Pv items.length H → Q (.bl (!sb)) H) : rTruth P sb g te vs σ Q J H1 := by
  refine fun H2 t => ⟨fun i m H => m = items.length - i ∧ i ≤ items.length ∧ Pv i H, ⟨_, rfl, Nat.zero_le _, h0 H2 t⟩, fun i m H hw => ?_⟩
  obtain ⟨rfl, hi, hp⟩ := hw
  by_cases hl : i < items.length
  · refine .inr ⟨go i H hl hp, Pv (i + 1), fun H' h' => ⟨items.length - (i + 1), by omega, rfl, hl, h'⟩, fun x H' hy => ?_⟩
    obtain ⟨rfl, hx⟩ := yld i H x H' hp hy
    exact step i x _ hx hp
  · have e : i = items.length := by omega
    subst e
    exact .inl ⟨stop H hp, fin H hp⟩
theorem truth_list {K : PySem.W.Frag} {a : Addr} {xs : List V} (Pv : Nat → Hp → Prop) (h0 : ∀ H2, Tabbed P H1 H2 → Pv 0 H2) (hl : ∀ i H, Pv i H → SqL K H a xs)
    (step : ∀ i x H, xs[i]? = some x → Pv i H → g x (wipe σ vs) H fun σ2 H2 => wipe σ2 vs = wipe σ vs ∧ te σ2 H2 fun y H4 => ∃ b, y = .bl b ∧ if b = sb then Q (.bl sb) H4 else Pv (i + 1) H4)
    (fin : ∀ H, Pv xs.length H → Q (.bl (!sb)) H) : rTruth P sb g te vs σ Q (Itl K a) H1 :=
  truth_by (items := xs) Pv h0 (fun i H x H' hp hy => ⟨hy.1, hy.2 xs (hl i H hp)⟩) (fun i H hi hp => ⟨xs, xs[i], hl i H hp, List.getElem?_eq_getElem hi⟩) (fun H hp => ⟨xs, hl _ H hp, Nat.le_refl _⟩) step fin
theorem truth_text {z : Str} (Pv : Nat → Hp → Prop) (h0 : ∀ H2, Tabbed P H1 H2 → Pv 0 H2)
    (step : ∀ (i : Nat) (c : Nat) H, z.cps.toList[i]? = some c → Pv i H → g (.str ⟨#[c]⟩) (wipe σ vs) H fun σ2 H2 => wipe σ2 vs = wipe σ vs ∧ te σ2 H2 fun y H4 => ∃ b, y = .bl b ∧ if b = sb then Q (.bl sb) H4 else Pv (i + 1) H4)
    (fin : ∀ H, Pv z.cps.toList.length H → Q (.bl (!sb)) H) : rTruth P sb g te vs σ Q (Its z) H1 := by
  have el : (z.cps.toList.map fun c => V.str ⟨#[c]⟩).length = z.cps.toList.length := by rw [List.length_map]
  refine truth_by (items := z.cps.toList.map fun c => V.str ⟨#[c]⟩) Pv h0 (fun i H x H' hp hy => ?_) (fun i H hi hp => ?_) (fun H hp => ?_) (fun i x H hx hp => ?_) fun H hp => fin H (by rw [← el]; exact hp)
  · obtain ⟨e, c, hc, rfl⟩ := hy
    refine ⟨e, ?_⟩
    rw [List.getElem?_map, Array.getElem?_toList, hc]
    rfl
  · rw [el] at hi
    show i < z.cps.size
    simpa using hi
  · show z.cps.size ≤ _
    rw [el]
    simp
  · rw [List.getElem?_map] at hx
    cases hc : z.cps.toList[i]? with
    | none => rw [hc] at hx; cases hx
    | some c =>
      rw [hc] at hx
      cases hx
      exact step i c H hc hp
end

theorem put_len {κ : Type} [DecidableEq κ] (c : List (κ × V)) (k : κ) (x : V) : (putK c k x).length ≤ c.length + 1 := by
  unfold putK
  split
  · rw [List.length_map]
    omega
  · rw [List.length_append]
    exact Nat.le_refl _
/-! ### readings within a block -/
section
variable {X : Cx}
theorem blk_K {s : Shared} {H : Hp} {sc : Scope} {ce : Env} {fp : List Addr} : (X.blk s H sc ce fp).K = X.K := rfl
theorem gcx_K {s : Shared} {H : Hp} {sc : Scope} {C : Addr} {code : Value} {fp : List Addr} : (gcx X s H sc C code fp).K = X.K := rfl
theorem pe_to {e : Expr} {t t' : TE} (p : PE X e t) (h : t = t' := by first | exact rfl | (simp only [Gx.blk_K, Gx.gcx_K]; exact rfl)) : PE X e t' := h ▸ p
theorem pg_to {e : Expr} {t t' : TG} (p : PG X e t) (h : t = t' := by first | exact rfl | (simp only [Gx.blk_K, Gx.gcx_K]; exact rfl)) : PG X e t' := h ▸ p
theorem pts_to {e : List Expr} {t t' : TT} (p : PTs X e t) (h : t = t' := by first | exact rfl | (simp only [Gx.blk_K, Gx.gcx_K]; exact rfl)) : PTs X e t' := h ▸ p
theorem pi_to {tg e : Expr} {t t' : TI} (p : PI X tg e t) (h : t = t' := by first | exact rfl | (simp only [Gx.blk_K, Gx.gcx_K]; exact rfl)) : PI X tg e t' := h ▸ p
end
/-! ### things that are known, lists that are names -/
theorem _root_.L2.TyB.grow {K : PySem.W.Frag} {H H' : Hp} {x : V} {U : String} (g : Grow [] H H') (t : TyB K H x U) : TyB K H' x U := by
  cases t with
  | non => exact .non
  | bl b => exact .bl b
  | int i => exact .int i
  | str z => exact .str z
  | byt b => exact .byt b
  | lst h => exact .lst (g.seq0 h)
  | @tup p xs h =>
    refine .tup (xs := xs) ?_
    rcases h with (h | ⟨o, h⟩) | h
    · exact .inl (.inl (g.keep _ _ (by simp) h fun ps z => by cases z))
    · exact .inl (.inr ⟨o, g.keep _ _ (by simp) h fun ps z => by cases z⟩)
    · exact .inr h
  | dK h => exact .dK (g.keep _ _ (by simp) h fun ps z => by cases z)
/-- a text of no great length, or of a kind that is told -/
def Known (K : PySem.W.Frag) (H : Hp) (x : V) : Prop := (∃ z : Str, x = .str z ∧ z.length ≤ sizeLine) ∨ ∃ U, U ≠ "str" ∧ TyB K H x U
theorem Known.grow {K : PySem.W.Frag} {H H' : Hp} {x : V} (g : Grow [] H H') : Known K H x → Known K H' x
  | .inl h => .inl h
  | .inr ⟨U, n, t⟩ => .inr ⟨U, n, t.grow g⟩
/-- a text's own -/
def theStr : V → Str
  | .str z => z
  | _ => Str.empty
theorem strs_of {p : V → Bool} (hp : ∀ x, p x = true → ∃ z, x = .str z) : ∀ {xs : List V}, xs.all p = true → xs = (xs.map theStr).map V.str
  | [], _ => rfl
  | x :: r, h => by
    rw [List.all_cons, Bool.and_eq_true] at h
    obtain ⟨z, rfl⟩ := hp x h.1
    show V.str z :: r = V.str z :: (r.map theStr).map V.str
    rw [← strs_of hp h.2]
theorem nodup_str {zs : List Str} : (zs.map V.str).Nodup ↔ zs.Nodup := by
  constructor
  · exact fun h => (List.pairwise_map.mp h).imp fun q e => q (congrArg V.str e)
  · exact fun h => List.pairwise_map.mpr (h.imp fun q e => q (V.str.inj e))
theorem uq_same {κ : Type} [DecidableEq κ] (l : List κ) : decide (((uq [] l).length : Int) = (l.length : Int)) = decide l.Nodup := by
  by_cases h : l.Nodup
  · rw [decide_eq_true h, uq_nodup l [] (by simpa using h)]
    exact decide_eq_true rfl
  · rw [decide_eq_false h]
    have := uq_short l [] List.nodup_nil (by simpa using h)
    simp only [List.length_nil] at this
    exact decide_eq_false (by omega)
end Gx

/-! Dict comprehensions and comprehensions of two clauses over walks; data that no list is in. -/
namespace Gx
open PySem PySem.Spec PyProof.Rows L2 GxR
section
variable {J J1 : It} {n : Nat} {G : Hp → Prop} {Y : Nat → Hp → V → Hp → Prop}
theorem dc_it (w : Walk J n G Y) {g : TG} {tt : TT} {tk tv : TE} {vs : List Nat} {σ : L2.St} {H1 : Hp} {D : Addr} {Qd : Hp → Prop} (Pv : Nat → Hp → Prop) (h0 : Pv 0 (upd H1 D (.dK []))) (hG : ∀ i H, i ≤ n → Pv i H → G H)
    (hs : ∀ i x H H', i < n → Pv i H → Y i H x H' → g x (wipe σ vs) H' fun σ2 H2 => wipe σ2 vs = wipe σ vs ∧ tt σ2 H2 fun b H3 =>
      if b = true then tk σ2 H3 fun y H4 => tv σ2 H4 fun z H5 => ∃ kvs k, y = kV k ∧ H5 D = some (.dK kvs) ∧ kvs.length < sizeLine ∧ Pv (i + 1) (upd H5 D (.dK (putK kvs k z))) else Pv (i + 1) H3) (hd : ∀ H, Pv n H → Qd H) :
    ∃ W : Nat → Nat → Hp → Prop, (∃ m, W 0 m (upd H1 D (.dK []))) ∧ ∀ i m H, W i m H →
      (J.stop i H ∧ Qd H) ∨ (J.go i H ∧ ∃ Nx : Hp → Prop, (∀ H', Nx H' → ∃ m', m' < m ∧ W (i + 1) m' H') ∧ ∀ x H', J.yld i H x H' → g x (wipe σ vs) H' fun σ2 H2 => wipe σ2 vs = wipe σ vs ∧ tt σ2 H2 fun b H3 =>
        if b = true then tk σ2 H3 fun y H4 => tv σ2 H4 fun z H5 => ∃ kvs k, y = kV k ∧ H5 D = some (.dK kvs) ∧ kvs.length < sizeLine ∧ Nx (upd H5 D (.dK (putK kvs k z))) else Nx H3) := by
  refine ⟨fun i m H => m = n - i ∧ i ≤ n ∧ Pv i H, ⟨n, by simp, Nat.zero_le _, h0⟩, ?_⟩
  rintro i m H ⟨rfl, hi, p⟩
  by_cases hlt : i < n
  · exact .inr ⟨w.goes i H hlt (hG i H hi p), Pv (i + 1), fun H' p' => ⟨n - (i + 1), by omega, rfl, hlt, p'⟩, fun x H' y => hs i x H H' hlt p (w.yields i H x H' hlt (hG i H hi p) y)⟩
  · have e : i = n := by omega
    subst e
    exact .inl ⟨w.stops H (hG _ H hi p), hd H p⟩
/-- the loop of the second clause -/
abbrev In1 (D : Addr) (g1 : TG) (tt1 : TT) (te : TE) (vs1 : List Nat) (σ2 : L2.St) (Nx : Hp → Prop) (J1 : It) (H4 : Hp) : Prop := ∃ W1 : Nat → Nat → Hp → Prop, (∃ m, W1 0 m H4) ∧ ∀ j k H, W1 j k H →
  (J1.stop j H ∧ Nx H) ∨ (J1.go j H ∧ ∃ Nx1 : Hp → Prop, (∀ H', Nx1 H' → ∃ k', k' < k ∧ W1 (j + 1) k' H') ∧ ∀ x H', J1.yld j H x H' → g1 x (wipe σ2 vs1) H' fun σ3 H5 => wipe σ3 vs1 = wipe σ2 vs1 ∧ tt1 σ3 H5 fun b H6 =>
    if b = true then te σ3 H6 fun y H7 => ∃ acc, H7 D = some (.lst acc) ∧ acc.length < sizeLine ∧ Nx1 (upd H7 D (.lst (acc ++ [y]))) else Nx1 H6)
theorem lc2_it (w : Walk J n G Y) {g g1 : TG} {tt tt1 : TT} {wi1 : TI} {te : TE} {vs vs1 : List Nat} {σ : L2.St} {H1 : Hp} {D : Addr} {Qd : Hp → Prop} (Pv : Nat → Hp → Prop) (h0 : Pv 0 (upd H1 D (.lst []))) (hG : ∀ i H, i ≤ n → Pv i H → G H)
    (hs : ∀ i x H H', i < n → Pv i H → Y i H x H' → g x (wipe σ vs) H' fun σ2 H2 => wipe σ2 vs = wipe σ vs ∧ tt σ2 H2 fun b H3 =>
      if b = true then wi1 σ2 H3 fun J1 H4 => In1 D g1 tt1 te vs1 σ2 (Pv (i + 1)) J1 H4 else Pv (i + 1) H3) (hd : ∀ H, Pv n H → Qd H) :
    ∃ W : Nat → Nat → Hp → Prop, (∃ m, W 0 m (upd H1 D (.lst []))) ∧ ∀ i m H, W i m H →
      (J.stop i H ∧ Qd H) ∨ (J.go i H ∧ ∃ Nx : Hp → Prop, (∀ H', Nx H' → ∃ m', m' < m ∧ W (i + 1) m' H') ∧ ∀ x H', J.yld i H x H' → g x (wipe σ vs) H' fun σ2 H2 => wipe σ2 vs = wipe σ vs ∧ tt σ2 H2 fun b H3 =>
        if b = true then wi1 σ2 H3 fun J1 H4 => In1 D g1 tt1 te vs1 σ2 Nx J1 H4 else Nx H3) := by
  refine ⟨fun i m H => m = n - i ∧ i ≤ n ∧ Pv i H, ⟨n, by simp, Nat.zero_le _, h0⟩, ?_⟩
  rintro i m H ⟨rfl, hi, p⟩
  by_cases hlt : i < n
  · exact .inr ⟨w.goes i H hlt (hG i H hi p), Pv (i + 1), fun H' p' => ⟨n - (i + 1), by omega, rfl, hlt, p'⟩, fun x H' y => hs i x H H' hlt p (w.yields i H x H' hlt (hG i H hi p) y)⟩
  · have e : i = n := by omega
    subst e
    exact .inl ⟨w.stops H (hG _ H hi p), hd H p⟩
theorem in1_it (w : Walk J1 n G Y) {g1 : TG} {tt1 : TT} {te : TE} {vs1 : List Nat} {σ2 : L2.St} {H4 : Hp} {D : Addr} {Nx : Hp → Prop} (Pw : Nat → Hp → Prop) (h0 : Pw 0 H4) (hG : ∀ i H, i ≤ n → Pw i H → G H)
    (hs : ∀ i x H H', i < n → Pw i H → Y i H x H' → g1 x (wipe σ2 vs1) H' fun σ3 H5 => wipe σ3 vs1 = wipe σ2 vs1 ∧ tt1 σ3 H5 fun b H6 =>
      if b = true then te σ3 H6 fun y H7 => ∃ acc, H7 D = some (.lst acc) ∧ acc.length < sizeLine ∧ Pw (i + 1) (upd H7 D (.lst (acc ++ [y]))) else Pw (i + 1) H6) (hd : ∀ H, Pw n H → Nx H) :
    In1 D g1 tt1 te vs1 σ2 Nx J1 H4 := by
  refine ⟨fun i m H => m = n - i ∧ i ≤ n ∧ Pw i H, ⟨n, by simp, Nat.zero_le _, h0⟩, ?_⟩
  rintro i m H ⟨rfl, hi, p⟩
  by_cases hlt : i < n
  · exact .inr ⟨w.goes i H hlt (hG i H hi p), Pw (i + 1), fun H' p' => ⟨n - (i + 1), by omega, rfl, hlt, p'⟩, fun x H' y => hs i x H H' hlt p (w.yields i H x H' hlt (hG i H hi p) y)⟩
  · have e : i = n := by omega
    subst e
    exact .inl ⟨w.stops H (hG _ H hi p), hd H p⟩
end

theorem yes_if {σ : L2.St} {H : Hp} {A B : Hp → Prop} (h : A H) : tYes σ H fun b H3 => if b = true then A H3 else B H3 := by
  show if true = true then A H else B H
  rw [if_pos rfl]
  exact h
theorem if_yes {A B : Hp → Prop} {H : Hp} (h : A H) : (fun (b : Bool) H3 => if b = true then A H3 else B H3) true H := by
  show if true = true then A H else B H
  rw [if_pos rfl]
  exact h
theorem if_no {A B : Hp → Prop} {H : Hp} (h : B H) : (fun (b : Bool) H3 => if b = true then A H3 else B H3) false H := by
  show if false = true then A H else B H
  rw [if_neg Bool.false_ne_true]
  exact h
theorem tyl {K : PySem.W.Frag} {H : Hp} {p : Addr} {xs : List V} (h : H p = some (.lst xs)) : tyV K "list" (.ref p) H := .inl ⟨rfl, xs, .inl (.inl h)⟩
theorem erase_map {α β} (f : α → β) (l : List α) (i : Nat) : (l.map f).eraseIdx i = (l.eraseIdx i).map f := by
  simp [List.eraseIdx_eq_take_drop_succ, List.map_take, List.map_drop]
theorem erase_perm {α} : ∀ (l : List α) (i : Nat) (h : i < l.length), (l[i] :: l.eraseIdx i).Perm l
  | x :: r, 0, _ => .refl _
  | x :: r, i + 1, h => (List.Perm.swap x _ _).trans ((erase_perm r i (Nat.lt_of_succ_lt_succ h)).cons x)
theorem cut_lo (xs : List V) (k : Nat) : cutV xs (some (k : Int)) none = xs.drop k := by
  unfold cutV
  rw [HT.sIx_none, HT.sIx_nat]
  by_cases h : k ≤ xs.length
  · rw [Nat.min_eq_left h]
    exact List.take_of_length_le (by rw [List.length_drop]; exact Nat.le_refl _)
  · rw [Nat.min_eq_right (by omega), Nat.sub_self, List.take_zero, List.drop_of_length_le (by omega)]
theorem cut_hi (xs : List V) (k : Nat) : cutV xs none (some (k : Int)) = xs.take k := by
  unfold cutV
  rw [HT.sIx_none, HT.sIx_nat, List.drop_zero, Nat.sub_zero]
  by_cases h : k ≤ xs.length
  · rw [Nat.min_eq_left h]
  · rw [Nat.min_eq_right (by omega), List.take_length, List.take_of_length_le (by omega)]
theorem swap_perm {α : Type} (xs : List α) (a : Nat) (h : a + 1 < xs.length) : (xs.take a ++ [xs[a + 1], xs[a]] ++ xs.drop (a + 2)).Perm xs := by
  have e : xs = xs.take a ++ [xs[a], xs[a + 1]] ++ xs.drop (a + 2) := by
    have h1 : xs.drop a = xs[a] :: xs[a + 1] :: xs.drop (a + 2) := by rw [List.drop_eq_getElem_cons (by omega), List.drop_eq_getElem_cons h]
    conv => lhs; rw [← List.take_append_drop a xs, h1]
    simp
  conv => rhs; rw [e]
  exact List.Perm.append_right _ (List.Perm.append_left _ (List.Perm.swap _ _ _))
theorem turn_perm {α : Type} (xs : List α) (a : Nat) : (xs.drop a ++ xs.take a).Perm xs := List.perm_append_comm.trans (by rw [List.take_append_drop])
theorem cut_from (xs : List V) (k : Nat) : cutV xs (some ((k : Int) + 1)) none = xs.drop (k + 1) := by
  unfold cutV
  have e : ((k : Int) + 1) = ((k + 1 : Nat) : Int) := by omega
  rw [e, HT.sIx_none, HT.sIx_nat]
  by_cases h : k + 1 ≤ xs.length
  · rw [Nat.min_eq_left h]
    exact List.take_of_length_le (by rw [List.length_drop]; exact Nat.le_refl _)
  · rw [Nat.min_eq_right (by omega), Nat.sub_self, List.take_zero, List.drop_of_length_le (by omega)]
/-- a cut: what holds behind the statement, and from there the rest -/
def tCut (I : L2.St → Hp → Prop) (t u : TS) : TS := fun D σ H => t { D with nx := I } σ H ∧ ∀ σ' H', I σ' H' → u D σ' H'
theorem pss_cut {X : Cx} {st : Stmt} {rest : List Stmt} {t u : TS} (I : L2.St → Hp → Prop) (h1 : PS X st t) (h2 : PSs X rest u) : PSs X (st :: rest) (tCut I t u) := by
  refine ⟨fun pins s σ H D J h => ?_⟩
  refine wpAny_execs_cons (thn (h1.run pins s σ H { D with nx := I } J h.1) fun f s1 q => ?_)
  cases f with
  | next =>
    obtain ⟨σ', H', I', q⟩ := q
    exact h2.run pins s1 σ' H' D I' (h.2 σ' H' q)
  | ret v => exact q
  | brk => exact q
  | cont => exact q
theorem valV_none {κ : Type} [DecidableEq κ] {k : κ} : ∀ {kvs : List (κ × V)}, k ∉ kvs.map Prod.fst → valV kvs k = none
  | [], _ => rfl
  | p :: r, h => by
    rw [valV_neg fun e => h (by rw [← e]; exact List.mem_cons_self)]
    exact valV_none fun z => h (List.mem_cons_of_mem _ z)
theorem valV_some {κ : Type} [DecidableEq κ] {k : κ} {v : V} : ∀ {kvs : List (κ × V)} {j : Nat}, (kvs.map Prod.fst).Nodup → kvs[j]? = some (k, v) → valV kvs k = some v
  | p :: r, 0, _, e => by
    cases e
    exact valV_pos rfl
  | p :: r, j + 1, nd, e => by
    obtain ⟨h1, h2⟩ := List.nodup_cons.mp nd
    have hk : k ∈ r.map Prod.fst := List.mem_map.mpr ⟨(k, v), List.mem_of_getElem? (i := j) e, rfl⟩
    rw [valV_neg fun q => h1 (by rw [q]; exact hk)]
    exact valV_some (j := j) h2 e
/-! ### data that no list is in -/
mutual
inductive DpT (K : PySem.W.Frag) (H : Hp) : V → PyData → Prop
  | non : DpT K H .non .none
  | bl (b : Bool) : DpT K H (.bl b) (.bool b)
  | int (i : Int) : DpT K H (.int i) (.int i)
  | str (z : Str) : DpT K H (.str z) (.str z)
  | tup {a : Addr} {xs : List V} {ds : List PyData} : H a = some (.tup xs) → DpTs K H xs ds → DpT K H (.ref a) (.tuple ds)
inductive DpTs (K : PySem.W.Frag) (H : Hp) : List V → List PyData → Prop
  | nil : DpTs K H [] []
  | cons {x : V} {d : PyData} {xs : List V} {ds : List PyData} : DpT K H x d → DpTs K H xs ds → DpTs K H (x :: xs) (d :: ds)
end
mutual
theorem DpT.dp {K : PySem.W.Frag} {H : Hp} : ∀ {x : V} {d : PyData}, DpT K H x d → Dp K H x d
  | _, _, .non => .non
  | _, _, .bl b => .bl b
  | _, _, .int i => .int i
  | _, _, .str z => .str z
  | _, _, .tup h t => .tup (.inl (.inl h)) (DpTs.dp t)
theorem DpTs.dp {K : PySem.W.Frag} {H : Hp} : ∀ {x : List V} {d : List PyData}, DpTs K H x d → DpAll K H x d
  | _, _, .nil => .nil
  | _, _, .cons h t => .cons (DpT.dp h) (DpTs.dp t)
end
/-- where only lists (or nothing) stood, they stay -/
def Lists (ex : List Addr) (H : Hp) : Prop := ∀ b ∈ ex, ∀ xs, H b ≠ some (.tup xs)
theorem lists_none (H : Hp) : Lists [] H := fun b h => by cases h
theorem lists_one {H : Hp} {a : Addr} {xs : List V} (h : H a = some (.lst xs)) : Lists [a] H := fun b hb ys e => by
  rw [List.mem_singleton.mp hb, h] at e
  cases e
mutual
theorem DpT.grow {K : PySem.W.Frag} {ex : List Addr} {H H' : Hp} (a : Grow ex H H') (l : Lists ex H) : ∀ {x : V} {d : PyData}, DpT K H x d → DpT K H' x d
  | _, _, .non => .non
  | _, _, .bl b => .bl b
  | _, _, .int i => .int i
  | _, _, .str z => .str z
  | _, _, .tup (a := p) (xs := xs) h t => .tup (a.keep p _ (fun z => l p z xs h) h fun ps z => by cases z) (DpTs.grow a l t)
theorem DpTs.grow {K : PySem.W.Frag} {ex : List Addr} {H H' : Hp} (a : Grow ex H H') (l : Lists ex H) : ∀ {x : List V} {d : List PyData}, DpTs K H x d → DpTs K H' x d
  | _, _, .nil => .nil
  | _, _, .cons h t => .cons (DpT.grow a l h) (DpTs.grow a l t)
end
theorem dpT_str {K : PySem.W.Frag} {H : Hp} (z : Str) : DpT K H (.str z) (.str z) := .str z
theorem dpT_int {K : PySem.W.Frag} {H : Hp} (z : Int) : DpT K H (.int z) (.int z) := .int z
theorem dpT_strs {K : PySem.W.Frag} {H : Hp} : ∀ xs : List Str, DpTs K H (xs.map V.str) (xs.map PyData.str)
  | [] => .nil
  | x :: r => .cons (dpT_str x) (dpT_strs r)
theorem DpTs.snoc {K : PySem.W.Frag} {H : Hp} : ∀ {xs : List V} {ds : List PyData} {x : V} {d : PyData}, DpTs K H xs ds → DpT K H x d → DpTs K H (xs ++ [x]) (ds ++ [d])
  | _, _, _, _, .nil, q => .cons q .nil
  | _, _, _, _, .cons h t, q => .cons h (t.snoc q)
theorem DpTs.app {K : PySem.W.Frag} {H : Hp} : ∀ {xs ys : List V} {ds es : List PyData}, DpTs K H xs ds → DpTs K H ys es → DpTs K H (xs ++ ys) (ds ++ es)
  | _, _, _, _, .nil, q => q
  | _, _, _, _, .cons h t, q => .cons h (t.app q)
theorem DpTs.get {K : PySem.W.Frag} {H : Hp} : ∀ {xs : List V} {ds : List PyData} {i : Nat} {x : V}, DpTs K H xs ds → xs[i]? = some x → ∃ d, ds[i]? = some d ∧ DpT K H x d
  | _, _, 0, _, .cons h _, e => ⟨_, rfl, by cases e; exact h⟩
  | _, _, _ + 1, _, .cons _ t, e => t.get e
theorem DpTs.zip {K : PySem.W.Frag} {H : Hp} : ∀ {xs : List V} {ds : List PyData}, DpTs K H xs ds → ∀ b ∈ xs.zip ds, DpT K H b.1 b.2
  | _, _, .nil, b, hb => by cases hb
  | _, _, .cons h t, b, hb => by
    rcases List.mem_cons.mp hb with rfl | hb
    · exact h
    · exact t.zip b hb
theorem dpTs_of {K : PySem.W.Frag} {H : Hp} : ∀ {bs : List (V × PyData)}, (∀ b ∈ bs, DpT K H b.1 b.2) → DpTs K H (bs.map Prod.fst) (bs.map Prod.snd)
  | [], _ => .nil
  | b :: r, h => .cons (h b List.mem_cons_self) (dpTs_of fun c hc => h c (List.mem_cons_of_mem _ hc))
theorem DpTs.length {K : PySem.W.Frag} {H : Hp} : ∀ {xs : List V} {ds : List PyData}, DpTs K H xs ds → xs.length = ds.length
  | _, _, .nil => rfl
  | _, _, .cons _ t => congrArg (· + 1) t.length
/-- a list of such data -/
def LstT (K : PySem.W.Frag) (H : Hp) (D : Addr) (ds : List PyData) : Prop := ∃ xs, H D = some (.lst xs) ∧ DpTs K H xs ds
theorem LstT.dp {K : PySem.W.Frag} {H : Hp} {D : Addr} {ds : List PyData} (h : LstT K H D ds) : Dp K H (.ref D) (.list ds) := by
  obtain ⟨xs, h1, h2⟩ := h
  exact .lst (.inl (.inl h1)) h2.dp
theorem LstT.grow {K : PySem.W.Frag} {ex : List Addr} {H H' : Hp} {D : Addr} {ds : List PyData} (h : LstT K H D ds) (a : Grow ex H H') (l : Lists ex H) (n : D ∉ ex) : LstT K H' D ds := by
  obtain ⟨xs, h1, h2⟩ := h
  exact ⟨xs, a.lst n h1, h2.grow a l⟩
/-- one more at the end -/
theorem LstT.push {K : PySem.W.Frag} {H H' : Hp} {D : Addr} {ds : List PyData} {x : V} {d : PyData} (h : LstT K H D ds) (g : Grow [] H H') (q : DpT K H' x d) :
    ∃ acc, H' D = some (.lst acc) ∧ acc.length = ds.length ∧ LstT K (upd H' D (.lst (acc ++ [x]))) D (ds ++ [d]) := by
  obtain ⟨xs, h1, h2⟩ := h
  have e := g.lst (p := D) (by simp) h1
  have gr : Grow [D] H' (upd H' D (.lst (xs ++ [x]))) := grow_at e (fun ps z => by cases z) (by simp)
  exact ⟨xs, e, h2.length, _, upd_same, ((h2.grow g (lists_none H)).snoc q).grow gr (lists_one e)⟩
/-- the items of another such list behind them -/
theorem LstT.ext {K : PySem.W.Frag} {H : Hp} {D F : Addr} {ds es : List PyData} (h : LstT K H D ds) (k : LstT K H F es) :
    ∃ xs zs, H D = some (.lst xs) ∧ H F = some (.lst zs) ∧ xs.length = ds.length ∧ zs.length = es.length ∧ LstT K (upd H D (.lst (xs ++ zs))) D (ds ++ es) := by
  obtain ⟨xs, h1, h2⟩ := h
  obtain ⟨zs, k1, k2⟩ := k
  have gr : Grow [D] H (upd H D (.lst (xs ++ zs))) := grow_at h1 (fun ps z => by cases z) (by simp)
  exact ⟨xs, zs, h1, k1, h2.length, k2.length, _, upd_same, (h2.app k2).grow gr (lists_one h1)⟩
/-- list.index of a text that is in -/
theorem index_str {K : PySem.W.Frag} {H : Hp} {m : Addr} {ws : List Str} {b : Str} {Q : VK} (h : SqL K H m (ws.map V.str)) (hb : b ∈ ws) (q : Q (.int (ws.idxOf b : Nat)) H) : rIndex K (.ref m) [.str b] H Q := by
  have h1 := List.idxOf_lt_length_of_mem hb
  refine ⟨m, ws.map V.str, .str b, ws.idxOf b, .str b, rfl, rfl, h, rfl, ?_, ?_, by simp [eqV], fun j z' hj hz => ?_, q⟩
  · rw [List.all_map, List.all_eq_true]
    exact fun x _ => rfl
  · rw [List.getElem?_map, List.getElem?_eq_getElem h1, List.getElem_idxOf h1]
    rfl
  · rw [List.getElem?_map] at hz
    cases hw : ws[j]? with
    | none => rw [hw] at hz; cases hz
    | some z =>
      rw [hw] at hz
      cases hz
      have : z ≠ b := fun e => by
        subst e
        have h2 := List.not_of_lt_findIdx (p := (· == z)) (xs := ws) hj
        obtain ⟨h3, h4⟩ := List.getElem?_eq_some_iff.mp hw
        rw [h4] at h2
        simp at h2
      simp [eqV, this]
end Gx

/-! Sorted rows of data: what is a rearrangement of another sorts alike. -/
namespace Gx
open PySem PySem.Spec PyProof.Rows L2 GxR
open PySem.W in
theorem sort_same {β : Type} {enc : β → PyData} {xs ys : List β} (p : xs.Perm ys) (inj : ∀ a b, keyToks (enc a) = keyToks (enc b) → a = b) : xs.mergeSort (dataLe false enc) = ys.mergeSort (dataLe false enc) := by
  have tot := sortLe_total (listOrd itemOrd) false fun b => keyToks (enc b)
  refine List.Perm.eq_of_pairwise (le := fun a b => dataLe false enc a b = true) (fun a b _ _ h h' => ?_) (sort_pairwise tot xs) (sort_pairwise tot ys) ((List.mergeSort_perm xs _).trans (p.trans (List.mergeSort_perm ys _).symm))
  have h1 : (listOrd itemOrd).blt (keyToks (enc b)) (keyToks (enc a)) = false := by simpa [dataLe, sortLe] using h
  have h2 : (listOrd itemOrd).blt (keyToks (enc a)) (keyToks (enc b)) = false := by simpa [dataLe, sortLe] using h'
  exact inj a b ((listOrd itemOrd).total _ _ h2 h1)
theorem str_cps {x y : Str} (h : x.cps.toList = y.cps.toList) : x = y := by
  cases x; cases y
  congr 1
  exact Array.ext' h
theorem toks_str {a b : Str} (h : PySem.W.keyToks (.str a) = PySem.W.keyToks (.str b)) : a = b := by
  simp only [PySem.W.keyToks] at h
  exact str_cps (by simpa using h)
/-- a pair of texts -/
def encP (p : Str × Str) : PyData := .tuple [.str p.1, .str p.2]
theorem toks_pair {a b : Str × Str} (h : PySem.W.keyToks (encP a) = PySem.W.keyToks (encP b)) : a = b := by
  unfold encP at h
  simp only [PySem.W.keyToks, PySem.W.keyToksAll] at h
  simp at h
  exact Prod.ext (by have := h.1; exact str_cps (by simpa using this)) (by have := h.2; exact str_cps (by simpa using this))
theorem alike_strs (zs : List Str) : PySem.W.AllAlike (zs.map PyData.str) := PySem.W.AllAlike.of fun b b' => by simp [PySem.W.alike]
theorem sortable_strs (zs : List Str) : PySem.W.Sortable (zs.map PyData.str) := PySem.W.Sortable.others (enc := PyData.str) fun b => ⟨(nomatch ·), fun xs => (nomatch ·)⟩
theorem alike_pairs (ps : List (Str × Str)) : PySem.W.AllAlike (ps.map encP) := PySem.W.AllAlike.of fun b b' => by simp [encP, PySem.W.alike, PySem.W.alikeAll]
theorem sortable_pairs (ps : List (Str × Str)) : PySem.W.Sortable (ps.map encP) := PySem.W.Sortable.tuples fun b => ⟨_, _, rfl⟩

/-- of a pair of texts -/
theorem pair_inv {K : PySem.W.Frag} {H : Hp} {x : V} {p : Str × Str} (h : DpT K H x (encP p)) : ∃ r, x = .ref r ∧ H r = some (.tup [.str p.1, .str p.2]) := by
  unfold encP at h
  cases h with
  | tup e t =>
    cases t with
    | cons a t =>
      cases t with
      | cons b t =>
        cases t
        cases a
        cases b
        exact ⟨_, rfl, e⟩
/-- sorted of a list of pairs of texts -/
theorem sort_pairs {K : PySem.W.Frag} {H : Hp} {D : Addr} {ps : List (Str × Str)} {Q : VK} (h : LstT K H D (ps.map encP)) (hl : ps.length ≤ 1000000)
    (q : ∀ p o, H p = none → LstT K (upd H p o) p ((ps.mergeSort (PySem.W.dataLe false encP)).map encP) → Q (.ref p) (upd H p o)) : rSortG K Prod.fst Prod.snd [.ref D] H Q := by
  obtain ⟨xs, e, t⟩ := h
  have hlen := t.length
  have m1 : (xs.zip (ps.map encP)).map Prod.fst = xs := List.map_fst_zip (Nat.le_of_eq hlen)
  have m2 : (xs.zip (ps.map encP)).map Prod.snd = ps.map encP := List.map_snd_zip (Nat.le_of_eq hlen.symm)
  refine ⟨D, xs.zip (ps.map encP), rfl, .inl (.inl (by rw [m1]; exact e)), fun b hb => ⟨(t.zip b hb).dp, ?_⟩, by rw [m2]; exact alike_pairs ps, by rw [m2]; exact sortable_pairs ps, ?_, fun p np => q p _ np ⟨_, upd_same, ?_⟩⟩
  · have := List.mem_map_of_mem (f := Prod.snd) hb
    rw [m2] at this
    obtain ⟨y, _, hy⟩ := List.mem_map.mp this
    rw [← hy]
    simp [encP, PyData.depth, PyData.depthAll]
  · rw [List.length_zip, hlen, Nat.min_self, List.length_map]
    unfold sizeLine
    omega
  · have k : ((xs.zip (ps.map encP)).mergeSort (PySem.W.dataLe false Prod.snd)).map Prod.snd = (ps.mergeSort (PySem.W.dataLe false encP)).map encP := by
      rw [List.map_mergeSort (f := Prod.snd) (r := PySem.W.dataLe false Prod.snd) (s := PySem.W.dataLe false id) fun a _ b _ => rfl, m2,
        ← List.map_mergeSort (f := encP) (r := PySem.W.dataLe false encP) (s := PySem.W.dataLe false id) fun a _ b _ => rfl]
    rw [← k]
    exact (dpTs_of fun b hb => t.zip b ((List.mergeSort_perm _ _).mem_iff.mp hb)).grow (grow_new (ex := []) np) (lists_none _)
/-- data that can be shown, compared, sorted: no deeper than n, no more than m -/
structure Fine (d : PyData) (n m : Nat) : Prop where
  lay : d.canLay0 = true
  show_ : d.showable = true
  nod : d.hasDict = false
  leaves : d.leavesShort 8 = true
  deep : d.depth ≤ n
  bulk : d.bulk ≤ m
structure Fines (ds : List PyData) (n m : Nat) : Prop where
  lay : PyData.canLayAll0 ds = true
  show_ : PyData.showableAll ds = true
  nod : PyData.hasDictAll ds = false
  leaves : PyData.leavesShortAll 8 ds = true
  deep : PyData.depthAll ds ≤ n
  bulk : PyData.bulkAll ds ≤ ds.length * (m + 1)
theorem fines {n m : Nat} : ∀ {ds : List PyData}, (∀ d ∈ ds, Fine d n m) → Fines ds n m
  | [], _ => ⟨rfl, rfl, rfl, rfl, Nat.zero_le _, by simp [PyData.bulkAll]⟩
  | d :: r, h => by
    have h1 := h d List.mem_cons_self
    have h2 := fines (ds := r) fun d q => h d (List.mem_cons_of_mem _ q)
    refine ⟨?_, ?_, ?_, ?_, ?_, ?_⟩
    · rw [PyData.canLayAll0, h1.lay, h2.lay]; rfl
    · rw [PyData.showableAll, h1.show_, h2.show_]; rfl
    · rw [PyData.hasDictAll, h1.nod, h2.nod]; rfl
    · rw [PyData.leavesShortAll, h1.leaves, h2.leaves]; rfl
    · rw [PyData.depthAll]
      exact Nat.max_le.mpr ⟨h1.deep, h2.deep⟩
    · rw [PyData.bulkAll, List.length_cons, Nat.succ_mul]
      have := h1.bulk
      have := h2.bulk
      omega
theorem Fine.list {n m k : Nat} {ds : List PyData} (h : ∀ d ∈ ds, Fine d n m) (hk : ds.length * (m + 1) ≤ k) : Fine (.list ds) (n + 1) k := by
  have f := fines h
  exact ⟨by rw [PyData.canLay0]; exact f.lay, by rw [PyData.showable]; exact f.show_, by rw [PyData.hasDict]; exact f.nod, by rw [PyData.leavesShort]; exact f.leaves, by rw [PyData.depth]; exact Nat.succ_le_succ f.deep, by rw [PyData.bulk]; exact Nat.le_trans f.bulk hk⟩
theorem Fine.tuple {n m k : Nat} {ds : List PyData} (h : ∀ d ∈ ds, Fine d n m) (hk : ds.length * (m + 1) ≤ k) : Fine (.tuple ds) (n + 1) k := by
  have f := fines h
  exact ⟨by rw [PyData.canLay0]; exact f.lay, by rw [PyData.showable]; exact f.show_, by rw [PyData.hasDict]; exact f.nod, by rw [PyData.leavesShort]; exact f.leaves, by rw [PyData.depth]; exact Nat.succ_le_succ f.deep, by rw [PyData.bulk]; exact Nat.le_trans f.bulk hk⟩
theorem Fine.str {z : Str} {m : Nat} (h : ∀ c ∈ z.cps.toList, c < 0x110000) (l : z.length ≤ m) : Fine (.str z) 0 m := by
  refine ⟨?_, rfl, rfl, ?_, Nat.le_refl _, l⟩
  · show PyData.strOk z = true
    unfold PyData.strOk
    rw [← Array.all_toList, List.all_eq_true]
    exact fun c hc => decide_eq_true (h c hc)
  · show (z.cps.toList.all fun c => decide (c < 16 ^ 8)) = true
    rw [List.all_eq_true]
    exact fun c hc => decide_eq_true (Nat.lt_of_lt_of_le (h c hc) (by decide))
theorem Fine.shaped {d : PyData} {n m : Nat} (f : Fine d n m) (hn : n ≤ 60) : SeqAt.shaped d = true := by
  unfold SeqAt.shaped
  rw [f.lay, decide_eq_true (by have := f.deep; omega)]
  rfl
theorem Fine.shown {d : PyData} {n m : Nat} (f : Fine d n m) (h : 10 * m + 8 ≤ sizeLine) : d.shown.length ≤ sizeLine := by
  have := PyData.shown_le_bulk 8 (by decide) d f.leaves
  have := f.bulk
  omega
theorem Fine.eqv {d : PyData} {n m : Nat} (f : Fine d n m) : PyData.eqv d d = true := PySem.SeqAt.eqv_refl d f.lay
end Gx

/-! The end of a law over a head whose facts are told by names. -/
namespace Gx
open PySem PySem.Spec PyProof.Rows L2 GxR GenW
/-- a def without defaults, from the head's word of it -/
theorem DefIs.of {K : PySem.W.Frag} {x qual : Str} {st : Stmt} {fd : FuncData} {p : He.Defn} (F : FunD K x qual (defArgs st) (defBody st) (defScope st) [] [] (He.fAd K p) fd) : DefIs K x qual st (He.fAd K p) fd (.ref (He.cT K p).1) := by
  obtain ⟨oc, od, dV, kV, doc, pm, an, cdv, ct, osl, rfl, lk, hcd, hd, _⟩ := F.ex
  obtain ⟨c, rfl⟩ := He.codeIn_ref hcd
  rcases hd with ⟨_, rfl⟩ | ⟨h, _⟩
  · have e : He.codeOf K p = c := He.codeOf_eq lk rfl
    show DefIs K x qual st (He.fAd K p) _ (.ref (He.codeOf K p))
    rw [e]
    exact ⟨⟨oc, od, kV, doc, pm, an, ct, osl, rfl, lk⟩, hcd, F.kp⟩
  · exact absurd rfl h
section
theorem walk_GE {l : PySem.W.OpenLaw} {n k : Nat} {q : Program} {loose : List Str} {XP : (Str → Option Value) → Heap → Prop} {YP : World → Heap → Prop} {d : DefRec} {x : Str}
    (hn : l.most = some n) (hn2 : n ≤ sizeLine) (hdf : d.params.defaults = []) (hr : Room k callerA)
    (F : ∀ (w : World) (mg : Str → Option Value) (fa : Addr) (h : Heap), YP w h → h.Ns mainGlobals mg → mg d.name = some (.ref fa) → ∃ K : PySem.W.Frag, K.In h ∧ LawG l w K k n x mg fa h) :
    PySem.W.WalkO q loose XP YP l.row.toRowW d [] (fun f vs => PySem.call f vs) := by
  refine Att.attach_callB hn hdf fun w s₀ s₁ mg mb fa o pm cd doc a vs ns G Y ho hd hcd hmg hobj hints hlen hbits hg => ?_
  obtain ⟨K, KX, fd, cs, sp, hT, hb, hsp, hF⟩ := F w mg fa _ Y G.T.g hmg
  have aT : a ∉ cs.map Prod.snd := fun z => by
    obtain ⟨p, hp, e⟩ := List.mem_map.mp z
    have q := (hT p hp).1
    rw [e, hobj] at q
    have z' : Data.seq vs.toArray _ = Data.fields #[] := congrArg Obj.data (Option.some.inj q)
    cases z'
  have rv := vals_ints hints
  cases hk : K.lookup a with
  | some o2 =>
    have e := KX a o2 hk
    rw [hobj] at e
    cases e
    have sl : SqL K (fun b => if b ∈ cs.map Prod.snd then some (.tbl #[]) else none) a (ns.map V.int) :=
      .inr ⟨_, vs.toArray, _, hk, rfl, rfl, rfl, by rw [List.size_toArray, hints.length]; exact Nat.le_trans hlen hn2, by simpa using rv⟩
    have hT' : ∀ p ∈ cs, (fun b => if b ∈ cs.map Prod.snd then some (HO.tbl #[]) else none) p.2 = some (.tbl #[]) := fun p hp => if_pos (List.mem_map.mpr ⟨p, hp, rfl⟩)
    refine law_from _ hT' (fun b u z => ?_) KX G.T.g G.T.b G.T.builtins G.T.nolimit hg hT G.T.bmain hobj rv (Nat.le_trans hlen hn2) sl hr hF hb (hsp _ a ns hlen hbits hT' sl)
    by_cases hm : b ∈ cs.map Prod.snd
    · exact .inl ⟨hm, Option.some.inj (z.symm.trans (if_pos hm))⟩
    · have z' := z.symm.trans (if_neg hm)
      cases z'
  | none =>
    have sl : SqL K (fun b => if b = a then some (.frz (scriptObj vs) (.lst (ns.map V.int))) else if b ∈ cs.map Prod.snd then some (.tbl #[]) else none) a (ns.map V.int) := .inl (.inr ⟨scriptObj vs, if_pos rfl⟩)
    have hT' : ∀ p ∈ cs, (fun b => if b = a then some (HO.frz (scriptObj vs) (.lst (ns.map V.int))) else if b ∈ cs.map Prod.snd then some (.tbl #[]) else none) p.2 = some (.tbl #[]) := fun p hp =>
      (if_neg (show ¬ p.2 = a from fun z => aT (by rw [← z]; exact List.mem_map.mpr ⟨p, hp, rfl⟩))).trans (if_pos (List.mem_map.mpr ⟨p, hp, rfl⟩))
    refine law_from _ hT' (fun b u z => ?_) KX G.T.g G.T.b G.T.builtins G.T.nolimit hg hT G.T.bmain hobj rv (Nat.le_trans hlen hn2) sl hr hF hb (hsp _ a ns hlen hbits hT' sl)
    by_cases hm : b = a
    · exact .inr ⟨hm, hk, Option.some.inj (z.symm.trans (if_pos hm))⟩
    · have z1 := z.symm.trans (if_neg hm)
      by_cases hm2 : b ∈ cs.map Prod.snd
      · exact .inl ⟨hm2, Option.some.inj (z1.trans (if_pos hm2))⟩
      · have z' := z1.trans (if_neg hm2)
        cases z'
end
end Gx

/-! max( ) of whole numbers with a default. -/
namespace Gx
open PySem PySem.Spec PyProof.Rows L2
def MaxA (a d : Value) : Args := ⟨[a], [(Str.ofString "default", d)]⟩
theorem maxA_ok (a d : Value) : argsOk "max" (MaxA a d) := by
  unfold argsOk MaxA
  kernel_rfl
section
variable {prog : Program} {w : World} {A : Around} {R : Result → Shared → Prop} {I : Addr} {fp wr : List Addr} {n : Nat} {P : Nat → Value → Prop} {St : Nat → Heap → Prop}
/-- what the loop holds: nothing yet, or the best so far -/
def MaxHeld (P : Nat → Value → Prop) (bt : Nat → Nat → Bool) (j : Nat) (vs : Array Value) : Prop := (j = 0 ∧ vs = #[]) ∨ ∃ v, vs = #[v, v] ∧ 0 < j ∧ P (argBest bt (j - 1)) v
def MaxOut (P : Nat → Value → Prop) (bt : Nat → Nat → Bool) (n : Nat) (d v : Value) : Prop := (n = 0 ∧ v = d) ∨ (0 < n ∧ P (argBest bt (n - 1)) v)
theorem max_rounds (W : Walks prog w A.in1 I fp wr n P St) (bt : Nat → Nat → Bool) (hcmp : CmpOf prog w A.in1 .Gt P bt) (S : Addr) (hS0 : S ∉ fp) (d : Value) :
    ∀ (k j : Nat) (s : Shared) (vs : Array Value) (c : Nat), n - j = k → j ≤ n → St j s.heap → MaxHeld P bt j vs → s.heap.get? S = some { cls := .type "list", dict := none, data := .seq vs c, slots := #[] } →
    (∀ v h2 tk, MaxOut P bt n d v → (∀ b o, b ∉ wr → b ≠ S → s.heap.get? b = some o → h2.get? b = some o) → R (.ok (.ret v)) { s with heap := h2, toks := tk }) →
    codeAny (model prog w) A (.builtin "max.loop" ⟨[.ref I, .none, .ref S], [(Str.ofString "default", d)]⟩) R s := by
  have sw : S ∉ wr := fun h => hS0 (W.sub _ h)
  have nm : (toString "max" ++ toString ".loop" : String) = "max.loop" := by decide
  intro k
  induction k with
  | zero =>
    intro j s vs c e hj st held hS fin
    have ej : j = n := by omega
    subst ej
    refine codeAny_builtin F.entry_max_loop (by
      rw [Around.under_plainId F.plain_max_loop _]
      show wpAny _ A.in1 (seqItems? (.ref S) >>= _) _ _ s
      refine wpAny_bind (wpAny_seqItems hS rfl ?_)
      show wpAny _ A.in1 (tryCatch (pyNext (.ref I)) _ >>= _) _ _ s
      refine wpAny_bind (wpAny_tryCatch (W.done s _ _ st fun h2 tk keep => ?_))
      have hS2 := keep S _ sw hS
      rcases held with ⟨e0, rfl⟩ | ⟨v, rfl, j0, hv⟩
      · show wpAny _ A.in1 (rule _ >>= _) _ _ _
        refine wpAny_bind (wpAny_rule ?_)
        refine wpAny_pure ?_
        exact fin d h2 tk (.inl ⟨e0, rfl⟩) fun b o hw _ q => keep b o hw q
      · show wpAny _ A.in1 (updateSeq S (fun _ => #[]) >>= _) _ _ _
        refine wpAny_bind (wpAny_updateSeq hS2 rfl (wpAny_bind (wpAny_letGo (wpAny_pure ?_))))
        exact fin v _ tk (.inr ⟨j0, hv⟩) fun b o hw hb q => (Heap.get?_update_other _ _ (Ne.symm hb)).trans (keep b o hw q))
  | succ k ih =>
    intro j s vs c e hj st held hS fin
    have hlt : j < n := by omega
    refine codeAny_builtin F.entry_max_loop (by
      rw [Around.under_plainId F.plain_max_loop _]
      show wpAny _ A.in1 (seqItems? (.ref S) >>= _) _ _ s
      refine wpAny_bind (wpAny_seqItems hS rfl ?_)
      show wpAny _ A.in1 (tryCatch (pyNext (.ref I)) _ >>= _) _ _ s
      refine wpAny_bind (wpAny_tryCatch (W.item j s _ _ hlt st fun v h2 tk hP st2 keep => ?_))
      have hS2 := keep S _ sw hS
      rcases held with ⟨rfl, rfl⟩ | ⟨b0, rfl, j0, hb0⟩
      · show wpAny _ A.in1 (updateSeq S (fun _ => #[v, v]) >>= _) _ _ _
        refine wpAny_bind (wpAny_updateSeq hS2 rfl ?_)
        rw [nm]
        refine wpAny_pure ⟨plainId_quiet F.plain_max_loop _, ih 1 _ #[v, v] _ (by omega) (by omega) (W.frame _ _ _ st2 fun b hb o q => (Heap.get?_update_other _ _ (fun h : S = b => hS0 (by rw [h]; exact hb))).trans q) (.inr ⟨v, rfl, Nat.one_pos, hP⟩) (Heap.get?_update_self _ hS2 rfl) fun v3 h3 tk3 out keep3 => ?_⟩
        exact fin v3 h3 tk3 out fun b o hw hb q => keep3 b o hw hb ((Heap.get?_update_other _ _ (Ne.symm hb)).trans (keep b o hw q))
      · show wpAny _ A.in1 (tryCatch (holding [v, v] (richCompare .Gt v b0 >>= _)) _ >>= _) _ _ _
        refine wpAny_bind (wpAny_tryCatch (wpAny_holding (wpAny_bind (hcmp j (argBest bt (j - 1)) v b0 _ _ _ hP hb0 ?_))))
        refine wpAny_bind (wpAny_holding (wpAny_truthy_bool (wpAny_bind (wpAny_letGo (wpAny_pure ?_)))))
        have ea : ∀ q, bt j (argBest bt (j - 1)) = q → argBest bt j = if q = true then j else argBest bt (j - 1) := fun q hq => by
          obtain ⟨i, rfl⟩ : ∃ i, j = i + 1 := ⟨j - 1, by omega⟩
          rw [argBest]
          rw [show i + 1 - 1 = i from rfl] at hq ⊢
          rw [hq]
        cases hb : bt j (argBest bt (j - 1)) with
        | true =>
          have eb := ea true hb
          rw [if_pos rfl] at eb ⊢
          refine wpAny_bind (wpAny_updateSeq hS2 rfl (wpAny_bind (wpAny_letGo ?_)))
          rw [nm]
          refine wpAny_pure ⟨plainId_quiet F.plain_max_loop _, ih (j + 1) _ #[v, v] _ (by omega) (by omega) (W.frame _ _ _ st2 fun b hb o q => (Heap.get?_update_other _ _ (fun h : S = b => hS0 (by rw [h]; exact hb))).trans q) (.inr ⟨v, rfl, Nat.succ_pos _, by rw [Nat.add_sub_cancel, eb]; exact hP⟩) (Heap.get?_update_self _ hS2 rfl) fun v3 h3 tk3 out keep3 => ?_⟩
          exact fin v3 h3 tk3 out fun b o hw hb q => keep3 b o hw hb ((Heap.get?_update_other _ _ (Ne.symm hb)).trans (keep b o hw q))
        | false =>
          have eb := ea false hb
          rw [if_neg Bool.false_ne_true] at eb ⊢
          refine wpAny_bind (wpAny_letGo ?_)
          rw [nm]
          refine wpAny_pure ⟨plainId_quiet F.plain_max_loop _, ih (j + 1) _ #[b0, b0] c (by omega) (by omega) st2 (.inr ⟨b0, rfl, Nat.succ_pos _, by rw [Nat.add_sub_cancel, eb]; exact hb0⟩) hS2 fun v3 h3 tk3 out keep3 => ?_⟩
          exact fin v3 h3 tk3 out fun b o hw hb q => keep3 b o hw hb (keep b o hw q))
end
end Gx
namespace Gx
open PySem PySem.Spec PyProof.Rows L2
section
variable {prog : Program} {w : World} {A : Around} {E : Value → Shared → Prop} {s : Shared}
theorem max_def_walk {x d : Value} {Q : Value → Shared → Prop}
    (h : wpAny (model prog w) A.in1 (pyIter x) (fun it s2 => ∃ I fp wr n P St bt, it = .ref I ∧ Walks prog w A.in1 I fp wr n P St ∧ St 0 s2.heap ∧ (∀ b ∈ fp, b < s2.heap.objs.size) ∧ CmpOf prog w A.in1 .Gt P bt ∧
      ∀ v h2 tk, MaxOut P bt n d v → (∀ b o, b ∉ wr → s2.heap.get? b = some o → h2.get? b = some o) → Q v { s2 with heap := h2, toks := tk }) E s) :
    wpAny (model prog w) A (call (.builtin "max") [x] [(Str.ofString "default", d)]) Q E s := by
  have nm : (toString "max" ++ toString ".loop" : String) = "max.loop" := by decide
  refine wpAny_call (codeAny_call_builtin F.plain_max F.entry_max ?_)
  simp only [checkBuiltinCall, F.kind_max]
  have body : wpAny (model prog w) A.in1 (Builtin.«max» (MaxA x d)) (fun fin s' => match fin with
      | .done f => (match (Except.ok f : Result) with | .ok (.ret v) => Q v s' | .ok _ => False | .error e => E e s')
      | .again c' => c'.quiet = true ∧ codeAny (model prog w) A c' (fun r s' => match r with | .ok (.ret v) => Q v s' | .ok _ => False | .error e => E e s') s') E s := by
    show wpAny _ A.in1 (Builtin.Builtins.bindParams "max" ["key", "default"] 0 ⟨[], [(Str.ofString "default", d)]⟩ >>= _) _ _ s
    refine wpAny_bind (wpAny_of_eq (show Builtin.Builtins.bindParams "max" ["key", "default"] 0 ⟨[], [(Str.ofString "default", d)]⟩ = pure [none, some d] from rfl) ?_)
    refine wpAny_bind (wpAny_pure ?_)
    refine wpAny_bind (wpAny_mono h (fun it s2 h2 => ?_) fun _ _ e => e)
    obtain ⟨I, fp, wr, n, P, St, bt, rfl, W, hst, hfp, hcmp, hQ⟩ := h2
    refine wpAny_bind (wpAny_newObj_type ?_)
    have sf : s2.heap.objs.size ∉ fp := fun hm => Nat.lt_irrefl _ (hfp _ hm)
    rw [nm]
    refine wpAny_pure ⟨plainId_quiet F.plain_max_loop _, max_rounds W bt hcmp s2.heap.objs.size sf d n 0 _ #[] _ rfl (Nat.zero_le _) (W.frame _ _ _ hst fun b _ o e => Heap.get?_push_of_some _ e) (.inl ⟨rfl, rfl⟩) (Heap.get?_push_size _ rfl) fun v h3 tk out keep => ?_⟩
    exact hQ v h3 tk out fun b o hbw e => keep b o hbw (Nat.ne_of_lt (Heap.lt_size e)) (Heap.get?_push_of_some _ e)
  cases hsig : Manifest.signature? "max" with
  | none => exact wpAny_pure body
  | some sig =>
    have ok := maxA_ok x d
    simp only [argsOk, hsig] at ok
    have h2 : Bind.checkArgs "max" sig (MaxA x d) = pure () := ok
    show wpAny _ A.in1 (Bind.checkArgs "max" sig (MaxA x d)) _ _ s
    rw [h2]
    exact wpAny_pure body
end
end Gx
namespace Gx
open PySem PySem.Spec PyProof.Rows L2
/-- what max(ns, default=d) is -/
def TopOf (d : Int) (ns : List Int) (m : Int) : Prop := (ns = [] ∧ m = d) ∨ (m ∈ ns ∧ ∀ y ∈ ns, y ≤ m)
section
variable {prog : Program} {w : World} {A : Around} {E : Value → Shared → Prop} {s : Shared}
theorem max_def_ints {l : Addr} {its : List Value} {ns : List Int} {d : Int} {dt : Tok} {Q : Value → Shared → Prop} (hh : A.handled = none) (hl : s.heap.IsList l its.toArray) (hi : IntsAre its ns)
    (h : ∀ h2 tk m t2, (∀ b o, s.heap.get? b = some o → h2.get? b = some o) → TopOf d ns m → Q (.int m t2) { s with heap := h2, toks := tk }) : wpAny (model prog w) A (call (.builtin "max") [.ref l] [(Str.ofString "default", .int d dt)]) Q E s := by
  obtain ⟨xs, e⟩ := hi.allInts.items
  have hn : numsOf (intItems xs).toList = ns := by rw [← e]; exact hi.numsOf
  rw [nums_intItems] at hn
  subst hn
  rw [e] at hl
  refine max_def_walk (iter_intList hl fun s2 e2 st hfp hlI => ?_)
  subst e2
  refine ⟨_, _, _, _, _, _, _, rfl, Walks.list (A := A.in1) hh _ l hlI (intItems xs), st, hfp, CmpOf.ints_gt (numAt xs) (fun _ _ => intItems_at), fun v h2 tk out keep => ?_⟩
  rcases out with ⟨e0, rfl⟩ | ⟨n0, hv⟩
  · refine h h2 tk d dt (old_kept keep) (.inl ⟨?_, rfl⟩)
    have : xs.toList = [] := List.eq_nil_of_length_eq_zero (by simpa [intItems] using e0)
    rw [this]
    rfl
  · obtain ⟨t, rfl⟩ := intItems_at hv
    obtain ⟨h1, h2'⟩ := argBest_gt (numAt xs) ((intItems xs).size - 1)
    have hs : (intItems xs).size = xs.size := by simp [intItems]
    rw [hs] at h1 h2' n0
    rw [hs]
    refine h h2 tk _ t (old_kept keep) (.inr ⟨?_, fun a ha => ?_⟩)
    · rw [numAt_eq]
      exact PySem.getD_mem (by rw [List.length_map, Array.length_toList]; omega)
    · obtain ⟨j, hj, rfl⟩ := mem_getD ha
      rw [List.length_map, Array.length_toList] at hj
      rw [← numAt_eq]
      exact h2' j (by omega)
end
section
variable {X : Cx}
def rMaxDef (K : PySem.W.Frag) : List V → List V → Hp → VK → Prop := fun vs zs H Q => ∃ (a : Addr) (ns : List Int) (d : Int), vs = [V.ref a] ∧ zs = [V.int d] ∧ SqL K H a (ns.map V.int) ∧ ∀ m, TopOf d ns m → Q (.int m) H
theorem cr_maxDef (hc : X.calm = true) : CallRK X (.builtin "max") [Str.ofString "default"] (rMaxDef X.K) := by
  intro pins s σ H xs zs us ws Q I r1 r2 h
  obtain ⟨a, ns, d, rfl, rfl, hs, q⟩ := h
  obtain ⟨its, rv, hl, _⟩ := I.list hs
  rw [Vals.ref1 r1]
  cases r2 with
  | cons r rr =>
    cases rr
    obtain ⟨t, rfl⟩ := r
    exact max_def_ints (I.ok.hd hc) hl.isList rv.ints fun h2 tk m t2 keep top => ⟨.int m, H, I.kept keep, ⟨_, rfl⟩, q m top⟩
end
end Gx

/-! max(d.values(), default=k) of whole numbers. -/
namespace Gx
open PySem PySem.Spec PyProof.Rows L2
theorem topOf_out {ns : List Int} {d : Int} {n : Nat} (hn : n = ns.length) {P : Nat → Value → Prop} (hP : ∀ i v, P i v → i < n ∧ ∃ t, v = .int (ns.getD i 0) t) {dv v : Value} {dt : Tok} (hd : dv = .int d dt)
    (out : MaxOut P (fun i j => decide (ns.getD i 0 > ns.getD j 0)) n dv v) : ∃ m t, v = .int m t ∧ TopOf d ns m := by
  rcases out with ⟨e0, rfl⟩ | ⟨n0, hv⟩
  · exact ⟨d, dt, hd, .inl ⟨List.eq_nil_of_length_eq_zero (by omega), rfl⟩⟩
  · obtain ⟨hi, t, rfl⟩ := hP _ _ hv
    obtain ⟨h1, h2⟩ := argBest_gt (fun i => ns.getD i 0) (n - 1)
    refine ⟨_, t, rfl, .inr ⟨PySem.getD_mem (by omega), fun a ha => ?_⟩⟩
    obtain ⟨j, hj, rfl⟩ := mem_getD ha
    exact h2 j (by omega)
section
variable {X : Cx}
def tMaxVals (td : TE) (k : Int) : TE := fun σ H Q => td σ H fun x H1 => ∃ (d : Addr) (kvs : List (Key × V)) (ns : List Int), x = .ref d ∧ H1 d = some (.dK kvs) ∧ kvs.map Prod.snd = ns.map V.int ∧ ∀ m, TopOf k ns m → Q (.int m) H1
theorem pe_maxVals {e : Expr} {td : TE} {p apos cpos kpos kp pos : Pos} {k : Int} {kk : Nat} (hc : X.calm = true) (hg : Gl X "max") (hm : X.mg "max" = none) (he : PE X e td)
    (hbase : attributeBase e "values" X.env (eval e X.env) = eval e X.env := by rfl) (hline : (apos.endLine == cpos.line) = true := by rfl) :
    PE X (.Call (.Name "max" p) [.Call (.Attribute e "values" apos) [] [] cpos] [⟨some "default", .Constant (.int k) kk kp, kpos⟩] pos) (tMaxVals td k) := by
  refine ⟨fun pins s σ H Q I h => ?_⟩
  refine wpAny_Call_Name_kw (ld_blt I hg hm (show bootBuiltins "max" = some (.builtin "max") by decide +kernel) ?_)
  refine PyProof.Rows.callWith_kw ?_
  refine Calls.spliced_cons ?_
  refine wpAny_Call_method (T := "dict") (id := "dict.values") hbase rfl hline F.plainAttrs_dict F.slot_dict_values F.type_dict_values (thn (he.run pins s σ H _ I h) fun u s1 h1 => ?_)
  obtain ⟨x, H1, I1, rx, d, kvs, ns, rfl, hd, hv, q⟩ := h1
  obtain rfl : u = Value.ref d := rx
  obtain ⟨hz, hs, vs, kv, o1, es, ep, ho, hx, hdt, r⟩ := I1.hok d _ hd
  have hD : s1.heap.DictAt (mixKind X.prog X.w) d vs ep := ⟨o1, es, ho, hx, hdt, r⟩
  have hl : kvs.length = vs.length := Paired.length kv
  have hln : kvs.length = ns.length := by have := congrArg List.length hv; rwa [List.length_map, List.length_map] at this
  refine ⟨hD.dictOf.typeIs, hD.dictOf.mapOf.noDict, ?_⟩
  refine method_meetsIn F.slot_dict_values F.entry_dict_values rfl (PySem.evalArgs_none ⟨rfl, hD.dictOf.typeIs, F.args_dict_values_1 _, _, meets_dict_values (mixKind X.prog X.w) d hs, ⟨vs, hD.dictOf⟩, ?_⟩)
  have I2 : L2.Inv X pins σ H1 { s1 with heap := s1.heap.push { cls := .type "dict_values", data := .fields #[.ref d] } } := I1.kept (t' := s1.toks) fun b ob z => Heap.get?_push_of_some _ z
  have nb : H1 s1.heap.objs.size = none := I1.hok.fresh (Nat.le_refl _)
  have I3 := I2.pinned (fp := [s1.heap.objs.size]) (fun b hb => by
    rw [List.mem_singleton.mp hb]
    exact I1.fpOk (Nat.le_refl _) nb) (fun b hb => by
    rw [List.mem_singleton.mp hb]
    exact ⟨_, Heap.get?_push_size _ rfl, fun v z => by cases z⟩)
  show wpAny _ _ (spliced []) _ _ _
  refine Calls.spliced_nil ?_
  refine thn ((pk_cons pe_int pk_nil).run pos _ _ σ H1 _ I3 (show tCons (tC (.int k)) tNil σ H1 (fun zs H2 => zs = [V.int k] ∧ H2 = H1) from ⟨rfl, rfl⟩)) fun ws s4 h4 => ?_
  obtain ⟨zs, H2, I4, rz, rfl, rfl⟩ := h4
  obtain ⟨t, rfl⟩ : ∃ t, ws = [Value.int k t] := by
    cases rz with
    | cons r0 rr =>
      cases rr
      obtain ⟨t, rfl⟩ := r0
      exact ⟨t, rfl⟩
  obtain ⟨_, _, us, ku, o4, es4, ep4, ho4, hx4, hdt4, r4⟩ := I4.hok d _ hd
  have hD4 : s4.heap.DictAt (mixKind X.prog X.w) d us ep4 := ⟨o4, es4, ho4, hx4, hdt4, r4⟩
  have hlu : kvs.length = us.length := Paired.length ku
  have view : s4.heap.get? s1.heap.objs.size = some { cls := .type "dict_values", data := .fields #[.ref d] } :=
    (I4.pin (s1.heap.objs.size, { cls := .type "dict_values", data := .fields #[.ref d] }) (List.mem_append_right _ (List.mem_append_right _ (mem_pinsAt (List.mem_singleton.mpr rfl) (Heap.get?_push_size _ rfl))))).1
  show wpAny _ _ (call (.builtin "max") [.ref s1.heap.objs.size] [(Str.ofString "default", .int k t)]) _ _ _
  have vals : ∀ i v, (∃ key, us[i]? = some (key, v)) → i < us.length ∧ ∃ t, v = .int (ns.getD i 0) t := fun i v hk => by
    obtain ⟨key, hk⟩ := hk
    have hi := (List.getElem?_eq_some_iff.mp hk).1
    obtain ⟨⟨k2, x2⟩, hk2⟩ : ∃ q, kvs[i]? = some q := ⟨kvs[i]'(by omega), List.getElem?_eq_getElem (by omega)⟩
    obtain ⟨u2, hu2, ru2⟩ := kv_get ku hk2
    rw [hk] at hu2
    cases hu2
    have e1 := congrArg (fun l => l[i]?) hv
    simp only [List.getElem?_map, hk2] at e1
    have hni : i < ns.length := by omega
    rw [List.getElem?_eq_getElem hni] at e1
    have e2 : x2 = V.int ns[i] := Option.some.inj e1
    subst e2
    obtain ⟨t2, rfl⟩ := ru2
    exact ⟨hi, t2, by rw [List.getD_eq_getElem?_getD, List.getElem?_eq_getElem hni]; rfl⟩
  refine max_def_walk (wpAny_pyIter_values (d := d) (knd := mixKind X.prog X.w) ⟨_, view, rfl, rfl⟩ hD4 ?_)
  have hlt : d < s4.heap.objs.size := by
    obtain ⟨_, _, e, _⟩ := hD4
    exact Heap.lt_size e
  refine ⟨s4.heap.objs.size, _, _, _, _, _, fun i j => decide (ns.getD i 0 > ns.getD j 0), rfl, Walks.dictValues (A := X.A.in1) (knd := mixKind X.prog X.w) (I.ok.hd hc) s4.heap.objs.size d (Nat.ne_of_lt hlt) us ep4, ⟨⟨_, Heap.get?_push_size _ rfl, rfl, rfl⟩, hD4.push _⟩, fun b hb => ?_, CmpOf.ints_gt (fun i => ns.getD i 0) (fun i v hk => (vals i v hk).2), fun v h2 tk out keep => ?_⟩
  · show b < (s4.heap.push _).objs.size
    rw [Heap.size_push]
    rcases List.mem_cons.mp hb with rfl | hb
    · exact Nat.lt_succ_self _
    · rw [List.mem_singleton.mp hb]
      exact Nat.lt_succ_of_lt hlt
  · obtain ⟨m, t3, rfl, top⟩ := topOf_out (by omega) vals rfl out
    refine ⟨.int m, H2, (I4.unpinned.kept fun b o e => ?_), ⟨_, rfl⟩, q m top⟩
    exact keep b o (fun z => by rw [List.mem_singleton.mp z] at e; exact absurd (Heap.lt_size e) (Nat.lt_irrefl _)) (Heap.get?_push_of_some _ e)
end
end Gx
namespace Gx
open PySem PySem.Spec PyProof.Rows L2
theorem kv_vals {κ : Type} : ∀ {kvs : List (κ × V)} {us : List (κ × Value)} {vs : List Value}, KV kvs us → vs = us.map Prod.snd → Vals (kvs.map Prod.snd) vs
  | _, _, _, .nil, rfl => .nil
  | _, _, _, .cons h t, rfl => .cons h.2 (kv_vals t rfl)
section
variable {X : Cx}
/-- list(d.values()) -/
def tListVals (td : TE) : TE := fun σ H Q => td σ H fun x H1 => ∃ (d : Addr) (kvs : List (Key × V)), x = .ref d ∧ H1 d = some (.dK kvs) ∧ ∀ l, H1 l = none → Q (.ref l) (upd H1 l (.lst (kvs.map Prod.snd)))
theorem pe_listVals {e : Expr} {td : TE} {p apos cpos pos : Pos} (hc : X.calm = true) (hg : Gl X "list") (hm : X.mg "list" = none) (he : PE X e td)
    (hbase : attributeBase e "values" X.env (eval e X.env) = eval e X.env := by rfl) (hline : (apos.endLine == cpos.line) = true := by rfl) (na : starEach [(.Call (.Attribute e "values" apos) [] [] cpos : Expr)] X.env = (false, eval (.Call (.Attribute e "values" apos) [] [] cpos) X.env) :: starEach [] X.env := by rfl) :
    PE X (.Call (.Name "list" p) [.Call (.Attribute e "values" apos) [] [] cpos] [] pos) (tListVals td) := by
  refine ⟨fun pins s σ H Q I h => Call_ (ld_blt I hg hm (show bootBuiltins "list" = some (.type "list") by decide +kernel) ?_)⟩
  refine PyProof.Rows.callWith_type1 (PyProof.Rows.args_cons ?_ na) na rfl
  refine wpAny_Call_method (T := "dict") (id := "dict.values") hbase rfl hline F.plainAttrs_dict F.slot_dict_values F.type_dict_values (thn (he.run pins s σ H _ I h) fun u s1 h1 => ?_)
  obtain ⟨x, H1, I1, rx, d, kvs, rfl, hd, q⟩ := h1
  obtain rfl : u = Value.ref d := rx
  obtain ⟨hz, hs, vs, kv, o1, es, ep, ho, hx, hdt, r⟩ := I1.hok d _ hd
  have hD : s1.heap.DictAt (mixKind X.prog X.w) d vs ep := ⟨o1, es, ho, hx, hdt, r⟩
  have hl : kvs.length = vs.length := Paired.length kv
  refine ⟨hD.dictOf.typeIs, hD.dictOf.mapOf.noDict, ?_⟩
  refine method_meetsIn F.slot_dict_values F.entry_dict_values rfl (PySem.evalArgs_none ⟨rfl, hD.dictOf.typeIs, F.args_dict_values_1 _, _, meets_dict_values (mixKind X.prog X.w) d hs, ⟨vs, hD.dictOf⟩, PyProof.Rows.args_nil ?_⟩)
  have I2 : L2.Inv X pins σ H1 { s1 with heap := s1.heap.push { cls := .type "dict_values", data := .fields #[.ref d] } } := I1.kept (t' := s1.toks) fun b ob z => Heap.get?_push_of_some _ z
  refine PySem.W.kdl_call (PySem.W.kdl_values (knd := mixKind X.prog X.w) (d := d) (r := s1.heap.objs.size) (kvs := vs) (ep := ep)) (I.ok.hd hc) ⟨⟨_, Heap.get?_push_size _ rfl, rfl, rfl⟩, hD.push _⟩ (by omega) fun h2 tk acc c keep new items => ?_
  have ev : acc.toList = vs.map Prod.snd := PySem.W.kdl_vals_eq acc.toList (by rw [Array.length_toList]; exact items.1) fun j v e => items.2 j v (by rw [← Array.getElem?_toList]; exact e)
  refine ⟨.ref _, _, I2.laid (t' := tk) (h' := h2) keep (Nat.le_refl _) (show ObjOk X.prog X.w _ h2 _ (.lst (kvs.map Prod.snd)) from ⟨by rw [List.length_map]; exact hz, acc.toList, c, kv_vals kv ev, ?_⟩), rfl, q _ (I2.hok.fresh (Nat.le_refl _))⟩
  rw [Array.toArray_toList]
  exact new
end
end Gx

/-! sorted(set(xs)) of a list of whole numbers -/
namespace Gx
open PySem PySem.Spec PyProof.Rows L2
section
variable {prog : Program} {w : World} {A : Around}
/-- set(l), l a list of whole numbers, with the order of its members -/
theorem set_of_ints {E : Value → Shared → Prop} {s : Shared} {l : Addr} {items : Array Value} {ns : List Int} {Q : Value → Shared → Prop} (hh : A.handled = none) (hl : s.heap.IsList l items) (hi : IntsAre items.toList ns) (hb : ns.length + 1 < scanBound)
    (h : ∀ (h' : Heap) (tk c : Nat), SetR w h' s.heap.objs.size (fun j => decide (j ∈ ns)) c → c ≤ ns.length → (∀ b o, s.heap.get? b = some o → h'.get? b = some o) → Q (.ref s.heap.objs.size) { s with heap := h', toks := tk }) :
    wpAny (model prog w) A (call (.type "set") [.ref l]) Q E s := by
  have hn : ns.length = items.size := by have q := IntsAre.length hi; rw [Array.length_toList] at q; exact q.symm
  obtain ⟨led, hled⟩ : ∃ led : Bool, (!w.params.followText "set-order") = led := ⟨_, rfl⟩
  obtain ⟨c0, tl0, mro0⟩ := PySem.F.called_set.mro
  have made0 := PySem.F.called_set.made; have sub0 := PySem.F.called_set.sub
  have nt0 := PySem.F.called_set.notType; have cc0 := PySem.F.called_set.canCreate
  have tc0 := PySem.F.typeCall_set_1 (.ref l)
  refine wpAny_call (codeAny_of_tree ?_)
  show wpAny (model prog w) _ (callAny (.type "set") _) _ _ _
  refine wpAny_pure ⟨Code.quiet_builtin _ (by decide +kernel), codeAny_builtin PySem.F.entry_type_call ?_⟩
  rw [Around.under_plain (weight_type_call_type "set" [.ref l] []) rfl]
  repeat any_goals first | assumption | wp_step
  refine codeAny_mono (code_set_led1 (.ref l) (E := E) (Q₁ := fun z t => z = .ref s.heap.objs.size ∧ t = { s with heap := s.heap.push { cls := .type "set", dict := none, data := .set #[] 0 (.fresh 0 0 (!w.params.followText "set-order")) } }) ⟨rfl, rfl⟩) fun r1 t1 q1 => ?_
  match r1, q1 with
  | .error e, q1 => exact q1
  | .ok (.ret z), q1 =>
    obtain ⟨rfl, rfl⟩ := q1
    have gS : (s.heap.push { cls := .type "set", dict := none, data := .set #[] 0 (.fresh 0 0 (!w.params.followText "set-order")) }).get? s.heap.objs.size = some { cls := .type "set", dict := none, data := .set #[] 0 (.fresh 0 0 (!w.params.followText "set-order")) } := Heap.get?_push_size _ rfl
    have tS : Shared.TypeIs { s with heap := s.heap.push { cls := .type "set", dict := none, data := .set #[] 0 (.fresh 0 0 (!w.params.followText "set-order")) } } (.ref s.heap.objs.size) "set" := ⟨_, gS, rfl⟩
    have li := PySem.F.called_set.init.lookup; have bi := PySem.F.called_set.init.bind (.ref s.heap.objs.size)
    repeat any_goals first | assumption | wp_step
    refine codeAny_mono (codeAny_call_builtin (R := wants (fun r t => r = .none ∧ ∃ h' tk c, t = { s with heap := h', toks := tk } ∧ SetR w h' s.heap.objs.size (fun j => decide (j ∈ ns)) c ∧ c ≤ ns.length ∧
        ∀ b o, s.heap.get? b = some o → h'.get? b = some o) E) PySem.F.called_set.init.plain PySem.F.entry_set_init (check_set_init_1 tS ?_)) fun r2 t2 q2 => ?_
    · obtain ⟨ol, gl, cl, nl, dl⟩ := hl
      obtain ⟨oc, od, ot, os⟩ := ol
      simp only at cl dl
      subst cl; subst dl
      have ll : l < s.heap.objs.size := Heap.lt_size gl
      have gl' : (s.heap.push { cls := .type "set", dict := none, data := .set #[] 0 (.fresh 0 0 (!w.params.followText "set-order")) }).get? l = some { cls := .type "list", dict := od, data := .seq items nl, slots := os } := Heap.get?_push_of_some _ gl
      have il : (s.heap.push { cls := .type "set", dict := none, data := .set #[] 0 (.fresh 0 0 (!w.params.followText "set-order")) }).IsList l items := ⟨_, gl', rfl, nl, rfl⟩
      have s1 := PySem.F.sub_list_set; have s2 := PySem.F.sub_list_frozenset
      have nd : (Value.type "list" == Value.type "dict") = false := by decide
      unfold Builtin.«set.__init__» noKeywords Builtin.Frozenset.updateFrom
      generalize hp : pyIter = pI
      wp_walk
      subst hp
      refine wpAny_pyIter_list il ?_
      refine wpAny_bind (wpAny_runValue ?_)
      have h3 : A.in1.in1.in1.handled = none := by simp [hh]
      have ni : l ≠ (s.heap.push { cls := .type "set", dict := none, data := .set #[] 0 (.fresh 0 0 (!w.params.followText "set-order")) }).objs.size := by rw [Heap.size_push]; exact Nat.ne_of_lt (Nat.lt_succ_of_lt ll)
      have zf : s.heap.objs.size ∉ [(s.heap.push { cls := .type "set", dict := none, data := .set #[] 0 (.fresh 0 0 (!w.params.followText "set-order")) }).objs.size, l] := by
        rw [Heap.size_push]; simp only [List.mem_cons, List.mem_singleton, List.not_mem_nil, or_false, not_or]
        exact ⟨Nat.ne_of_lt (Nat.lt_succ_self _), Nat.ne_of_gt ll⟩
      have hv : ∀ (i : Nat) (v : Value), items[i]? = some v → ∃ k t, ns[i]? = some k ∧ v = .int k t := fun i v q => by
        have il2 : i < ns.length := by rw [hn]; exact (Array.getElem?_eq_some_iff.mp q).1
        obtain ⟨t, e⟩ := PyProof.Rows.IntsAre.int_at hi i v (by rw [Array.getElem?_toList]; exact q)
        refine ⟨ns[i], t, List.getElem?_eq_getElem il2, ?_⟩
        rw [e, List.getD_eq_getElem?_getD, List.getElem?_eq_getElem il2] <;> rfl
      refine set_update_ints ((Walks.list h3 _ l ni items).toS) s.heap.objs.size zf ns hn.symm hb hv (items.size - 0) 0 _ (by omega) (Nat.zero_le _) ⟨⟨_, Heap.get?_push_size _ rfl, rfl, rfl⟩, il.push _⟩ ?_ fun t c mv hc hS => ?_
      · refine ⟨0, Nat.le_refl 0, setR_new_at ?_⟩
        exact Heap.get?_push_of_some _ gS
      · obtain ⟨h', g', d', tk', os'⟩ := t
        obtain rfl : g' = s.gens := mv.gens
        obtain rfl : d' = s.drawn := mv.drawn
        obtain rfl : os' = s.os := mv.os
        show wpAny (model prog w) _ _ _ _ _
        refine wpAny_pure ?_
        show wpAny (model prog w) _ (ret Value.none) _ _ _
        refine wpAny_pure ⟨rfl, h', tk', c, rfl, hS, by omega, fun b o e => ?_⟩
        have lb := Heap.lt_size e
        refine mv.heap b o (fun z => ?_) (Heap.get?_push_of_some _ (Heap.get?_push_of_some _ e))
        rcases List.mem_cons.mp z with y | y
        · exact Nat.ne_of_lt lb y
        · rcases List.mem_cons.mp y with y | y
          · rw [Heap.size_push] at y
            exact Nat.ne_of_lt (Nat.lt_succ_of_lt lb) y
          · cases y
    · match r2, q2 with
      | .error e, q2 => exact q2
      | .ok (.ret r), q2 =>
        obtain ⟨rfl, h', tk, c, rfl, hS, hc, hk⟩ := q2
        repeat any_goals first | assumption | wp_step
        exact h _ _ _ hS hc hk
/-- sorted(s), s a set of whole numbers, any number of them -/
theorem sorted_setN {E : Value → Shared → Prop} {s : Shared} {a : Addr} {S : Int → Bool} {n : Nat} {Q : Value → Shared → Prop} (R : SetR w s.heap a S n) (hh : A.handled = none)
    (hQ : ∀ s' p (out : Array Value) (c : Nat) (ns : List Int), (∀ b o, s.heap.get? b = some o → s'.heap.get? b = some o) → s'.gens = s.gens → s'.os = s.os → s.heap.objs.size ≤ p →
      s'.heap.get? p = some (seqObj "list" out c) → IntsAre out.toList ns → ns.Pairwise (· < ·) → (∀ k, k ∈ ns ↔ S k = true) → ns.length = n → Q (.ref p) s') :
    wpAny (model prog w) A (call (.builtin "sorted") [.ref a]) Q E s := by
  obtain ⟨o, es, ep, t, ho, hex, hd, g, nd, hm, hb, hf, hn, hr, hl⟩ := R
  refine Calls.call_function_entry kind_sorted plain_sorted entry_sorted (args_sorted1 _) ?_
  unfold Builtin.«sorted»
  refine wpAny_bind (m := checkCount "sorted" 1 1 _) (wpAny_pure (wpAny_bind (collect_set (A := A.in1) hh ⟨o, ho, hex.1, hd⟩ hf hb hr hl fun s1 vs keep le g1 o1 pm => ?_)))
  have lv : vs.length = n := by rw [pm.length_eq, List.length_map, Array.length_toList]; exact hn
  have lz : vs.length ≤ sizeLine := by rw [lv, ← hn]; unfold scanBound at hb; unfold sizeLine; omega
  have hI : IntsAre vs (vs.map Builtin.Re.reRawOf) := ints_of vs fun v hv => by
    obtain ⟨e, he, q⟩ := List.mem_map.mp (pm.mem_iff.mp hv)
    obtain ⟨k, tk, h1, _⟩ := g e he
    exact ⟨k, tk, q.symm.trans h1⟩
  have pk : (vs.map Builtin.Re.reRawOf).Perm (es.toList.map keyOf) := by
    have q := pm.map Builtin.Re.reRawOf
    rwa [List.map_map] at q
  refine wpAny_bind (wpAny_newList ?_ lz)
  have gL : (s1.heap.push (seqObj "list" vs.toArray 0)).get? s1.heap.objs.size = some (seqObj "list" vs.toArray 0) := Heap.get?_push_size _ rfl
  refine wpAny_bind (wpAny_holding (wpAny_call_entry slot_list_sort ⟨_, gL, rfl⟩ entry_list_sort (SrtO.list_sort_ord SrtO.swo_int gL lz (fun h2 => SrtO.ints_sortable hI h2) fun out a1 a2 => ⟨_, rfl, ?_⟩) (args_list_sort _)))
  obtain ⟨k1, k2, k3⟩ := SrtO.ints_out hI a1 a2
  obtain ⟨c, hc⟩ := sortedHeap_at (vs := vs) (out := out.toArray) gL
  have pn : (out.map SrtO.iv).Perm (es.toList.map keyOf) := k2.trans pk
  refine wpAny_pure ⟨_, rfl, hQ _ s1.heap.objs.size out.toArray c _ (fun b u e => ?_) g1 o1 le hc k1 (lt_of_le_nodup _ k3 (pn.nodup_iff.mpr nd)) (fun k => by rw [pn.mem_iff, ← hm k]) ?_⟩
  · have q := keep b u e
    have hlt := Heap.lt_size q
    show (sortedHeap (s1.heap.push (seqObj "list" vs.toArray 0)) s1.heap.objs.size vs out.toArray).get? b = some u
    rw [sortedHeap_old (Nat.ne_of_lt hlt) (by rw [size_push']; exact Nat.lt_succ_of_lt hlt)]
    exact Heap.get?_push_of_some _ q
  · rw [pn.length_eq, List.length_map, Array.length_toList]; exact hn
end
section
variable {X : Cx}
/-- sorted(set(xs)) of a list of whole numbers -/
def tSortedSetI (K : PySem.W.Frag) (ta : TE) : TE := fun σ H Q => ta σ H fun x H1 => ∃ (l : Addr) (ns : List Int), x = .ref l ∧ SqL K H1 l (ns.map V.int) ∧ ns.length ≤ 4000 ∧
  ∀ (ms : List Int) p, ms.Pairwise (· < ·) → (∀ k, k ∈ ms ↔ k ∈ ns) → H1 p = none → Q (.ref p) (upd H1 p (.lst (ms.map V.int)))
theorem pe_sortedSetI {a : Expr} {ta : TE} {p p2 q pos : Pos} (hg : Gl X "sorted") (hm : X.mg "sorted" = none) (hg2 : Gl X "set") (hm2 : X.mg "set" = none) (hh : X.A.handled = none) (ha : PE X a ta)
    (na : starEach [a] X.env = (false, eval a X.env) :: starEach [] X.env := by rfl) : PE X (.Call (.Name "sorted" p) [.Call (.Name "set" p2) [a] [] q] [] pos) (tSortedSetI X.K ta) := by
  refine ⟨fun pins s σ H Q I h => Call_ (ld_blt I hg hm (show bootBuiltins "sorted" = some (.builtin "sorted") by decide +kernel) (PyProof.Rows.callWith_builtin1 (PyProof.Rows.args_cons (Call_ (ld_blt I hg2 hm2 boot_set ?_)) rfl) rfl rfl))⟩
  refine PyProof.Rows.callWith_type1 (PyProof.Rows.args_cons (thn (ha.run pins s σ H _ I h) fun v s1 h1 => PyProof.Rows.args_nil ?_) na) na rfl
  obtain ⟨x, H1, I1, r1, l, ns, rfl, hq, hz, q1⟩ := h1
  have e : v = .ref l := r1
  subst e
  obtain ⟨its, rv, pl, _⟩ := I1.list hq
  refine set_of_ints hh pl.isList (ns := ns) (by simpa using rv.ints) (by unfold scanBound; omega) fun h' tk c hS hc hk => ?_
  have I2 : Inv X pins σ H1 { s1 with heap := h', toks := tk } := I1.kept hk
  refine PyProof.Rows.args_nil ?_
  obtain ⟨s2, hs2⟩ : ∃ s2 : Shared, s2 = { s1 with heap := h', toks := tk } := ⟨_, rfl⟩
  rw [← hs2] at I2 ⊢
  refine sorted_setN (by rw [hs2]; exact hS) hh fun s' p out c ms k g o hp hgp hi hs hm hl => ?_
  have hlen : (ms.map V.int).length ≤ sizeLine := by rw [List.length_map, hl]; unfold sizeLine; omega
  have hn : H1 p = none := I2.hok.fresh hp
  have J : Inv X pins σ (upd H1 p (.lst (ms.map V.int))) { s2 with heap := s'.heap, gens := s'.gens, drawn := s'.drawn, toks := s'.toks } :=
    I2.call (ch := []) (Un.laid k hp hn) (I2.hok.laid k hp ⟨hlen, out.toList, c, vals_of_ints hi, hgp⟩) (by rw [g]; exact I2.bare) (fun _ z => nomatch z)
  have e : s' = { s2 with heap := s'.heap, gens := s'.gens, drawn := s'.drawn, toks := s'.toks } := by
    cases s'
    cases s2
    cases o
    rfl
  rw [e]
  exact ⟨.ref p, _, J, rfl, q1 ms p hs (fun k => by rw [hm k]; exact decide_eq_true_iff) hn⟩
end
end Gx
namespace Gx
open L2
theorem room65 {A : PySem.Around} {k : Nat} (r : Room k A) : A.units + 65 < PySem.cLine := by have := r.un; omega
end Gx

/-! ### xs[i:j] = ys of another list, where j may lie behind the end -/
namespace Gx
open PySem PySem.Spec PyProof.Rows L2
section
variable {prog : Program} {w : World} {A : Around} {E : Value → Shared → Prop} {s : Shared}
theorem bounds_one {m n : Nat} (h : m ≤ n) : sliceBounds (some (m : Int)) (some ((m : Int) + 1)) none n = ((m : Int), ((min (m + 1) n : Nat) : Int), 1) := by
  have a1 : ¬ ((m : Int) < 0) := by omega
  have a2 : ¬ ((m : Int) + 1 < 0) := by omega
  have a3 : min (m : Int) (n : Int) = m := by omega
  have a4 : min ((m : Int) + 1) (n : Int) = ((min (m + 1) n : Nat) : Int) := by omega
  unfold sliceBounds
  rw [Option.getD_none]
  have a5 : max (0 : Int) (m : Int) = m := by omega
  have a6 : max (0 : Int) ((min (m + 1) n : Nat) : Int) = ((min (m + 1) n : Nat) : Int) := by omega
  simp only [a1, a2, if_false, show (1 : Int) > 0 by decide, if_true, a3, a4, a5, a6]
theorem setItem_cut {x y z : Addr} {us vs : Array Value} {n1 n2 : Nat} {u v : Value} {lo hi : Option Int} {m k : Nat} {Q : Unit → Shared → Prop}
    (ex : s.heap.get? x = some { cls := .type "list", data := .seq us n1 }) (ey : s.heap.get? y = some { cls := .type "list", data := .seq vs n2 }) (xy : x ≠ y)
    (ez : s.heap.IsSliceOf z u v .none) (pu : IsPart u lo) (pv : IsPart v hi) (bd : sliceBounds lo hi none us.size = ((m : Int), (k : Int), 1)) (hmk : m ≤ k) (hk : k ≤ us.size)
    (room : us.size + vs.size ≤ sizeLine) (fin : Q () { s with heap := s.heap.update x (Obj.mapSeq fun q => q.extract 0 m ++ vs ++ q.extract k q.size) }) :
    wpAny (model prog w) A (setItem (.ref x) (.ref z) (.ref y)) Q E s := by
  have lx := PySem.IsL.isList ex
  have ly := PySem.IsL.isList ey
  have ⟨oz, gz, cz, dz⟩ := ez
  have tz : s.TypeIs (.ref z) "slice" := ⟨oz, gz, cz⟩
  have no : Builtin.List.listSameRef (.ref x) (.ref y) = false := beq_eq_false_iff_ne.mpr xy
  have top : (max (m : Int) (k : Int)).toNat = k := by omega
  have big : ((fun q : Array Value => q.extract 0 m ++ vs ++ q.extract k q.size) us).size ≤ sizeLine + 1 := by
    simp only [Array.size_append, Array.size_extract]; omega
  unfold setItem
  try with_reducible refine wpAny_holding ?_
  first | (refine wpAny_bind (wpAny_pure ?_)) | skip
  refine wpAny_bind (wpAny_sequenceKey lx.typeIs (by decide) (wpAny_bind (wpAny_callSpecial?_slot (name := Str.ofString "__setitem__") lx.typeIs slot_list_setitem
    (wpAny_call_entry slot_list_setitem lx.typeIs entry_list_setitem ?_ (args_list_setitem _ _ _)))))
  show wpAny _ _ (Builtin.List.listSubscript? (.ref z) >>= _) _ _ s
  unfold Builtin.List.listSubscript?
  refine wpAny_bind (wpAny_bind (wpAny_specialOf tz slice_no_index ?_))
  rw [if_pos (show (none : Option Value).isNone = true from rfl)]
  refine wpAny_pure ?_
  show wpAny _ _ (typeOf (.ref z) >>= _) _ _ s
  refine wpAny_bind (wpAny_typeOf tz ?_)
  first
    | (rw [if_neg (by decide)]; skip)
    | (refine PySem.W.KFB.if_not (by decide) ?_; skip)
  rw [listSliceParts_eq]
  refine wpAny_bind (wpAny_bind (wpAny_field gz dz (x := .none) rfl (wpAny_bind (wpAny_listPart .none ?_))))
  rw [if_neg (show ¬ ((rawPart none == rawInt 0) = true) from Bool.false_ne_true)]
  refine wpAny_bind (wpAny_field gz dz (x := u) rfl (wpAny_bind (wpAny_listPart pu (wpAny_bind (wpAny_field gz dz (x := v) rfl (wpAny_bind (wpAny_listPart pv (wpAny_pure ?_))))))))
  first
    | (simp only [no, Bool.false_eq_true, if_false]; skip)
    | (refine PySem.W.KFB.if_not no ?_; skip)
    | (dsimp only; rw [if_neg (by rw [no]; exact Bool.false_ne_true)])
  refine wpAny_bind (m := Builtin.List.listAllItems (.ref y) "must assign iterable to extended slice") ?_
  unfold Builtin.List.listAllItems
  refine wpAny_bind (wpAny_typeOf ly.typeIs ?_)
  first
    | (refine PySem.W.KFB.if_so (by decide) ?_; skip)
    | (rw [if_pos (by decide)]; skip)
    | (simp only [beq_self_eq_true, Bool.true_or, if_true]; skip)
  unfold Builtin.List.listItems
  refine wpAny_bind (wpAny_seqItems ey rfl (wpAny_pure (wpAny_bind (wpAny_bind (wpAny_seqItems ex rfl (wpAny_pure ?_))))))
  refine wpAny_bind (wpAny_of_eq ((sliceIndices_raw lo hi none us.size (by simp)).trans (congrArg (pure : Int × Int × Int → Sem (Int × Int × Int)) bd)) ?_)
  show wpAny _ _ (if ((1 : Int) == 1) = true then _ else _) _ _ s; rw [if_pos (by decide)]
  refine wpAny_bind (wpAny_rule ?_)
  first
    | (simp only [notLongL room, Bool.false_eq_true, if_false]; skip)
    | (refine PySem.W.KFB.if_not (notLongL room) ?_; skip)
  first | (refine wpAny_bind (wpAny_pure ?_)) | skip
  show wpAny _ _ (updateSeq x (fun q => q.extract 0 ((m : Int)).toNat ++ vs ++ q.extract (max (m : Int) (k : Int)).toNat q.size) >>= _) _ _ s
  rw [top, Int.toNat_natCast]
  refine wpAny_bind (wpAny_updateSeq (hz := Nat.le_trans (Nat.le_add_right _ _) room) (_hz' := big) ex rfl (wpAny_bind (wpAny_letGo ?_)))
  first
    | (exact wpAny_bind (wpAny_pure (wpAny_pure ⟨.none, rfl, wpAny_pure fin⟩)))
    | (exact wpAny_pure ⟨.none, rfl, wpAny_pure fin⟩)
end
section
variable {X : Cx}
/-- xs[m:m+1] = ys, m no greater than xs is long -/
def sSlc (te : TE) (tl th : TO) (tv : TE) : TS := fun D σ H => tv σ H fun y H1 => te σ H1 fun x H2 => tl σ H2 fun l H3 => th σ H3 fun u H4 =>
  ∃ (a b : Addr) (xs ys : List V) (m : Nat), x = .ref a ∧ y = .ref b ∧ l = some (m : Int) ∧ u = some ((m : Int) + 1) ∧ a ≠ b ∧ H4 a = some (.lst xs) ∧ H4 b = some (.lst ys) ∧ m ≤ xs.length ∧
    xs.length + ys.length ≤ sizeLine ∧ D.nx σ (upd H4 a (.lst (xs.take m ++ ys ++ xs.drop (m + 1))))
theorem ps_slc {e value : Expr} {lo hi : Option Expr} {p1 p2 pos : Pos} {te tv : TE} {tl th : TO} (he : PE X e te) (hl : PO X lo tl) (hh : PO X hi th) (hv : PE X value tv)
    (hs : swapsWith value (some (.Subscript e (.Slice lo hi none p1) p2)) pos.line X.env = pure false) : PS X (.Assign [.Subscript e (.Slice lo hi none p1) p2] value pos) (sSlc te tl th tv) := by
  refine ⟨fun pins s σ H D I h => ?_⟩
  refine wpAny_Assign_Subscript (thn (hv.run pins s σ H _ I h) fun r s1 ⟨y, H1, I1, ry, q1⟩ => thn (he.run pins s1 σ H1 _ I1 q1) fun v s2 ⟨x, H2, I2, rx, q2⟩ => ?_) hs
  refine wpAny_Slice (thn (hl.run pins s2 σ H2 _ I2 q2) fun vl s3 ⟨l, H3, I3, pl, q3⟩ => thn (hh.run pins s3 σ H3 _ I3 q3) fun vu s4 ⟨u, H4, I4, pu, q4⟩ => ?_)
  rw [evalPart_none]
  refine wpAny_pure ?_
  obtain ⟨a, b, xs, ys, m, ex, ey, el, eu, ab, ha, hb, hm, hz, q⟩ := q4
  subst ex ey el eu
  cases rx
  cases ry
  have I5 : Inv X pins σ H4 { s4 with heap := s4.heap.push { cls := .type "slice", data := .fields #[vl, vu, .none] } } := I4.kept (t' := s4.toks) fun _ _ q => Heap.get?_push_of_some _ q
  obtain ⟨z1, its, n1, r1, l1, e1⟩ := I5.lstM ha
  obtain ⟨z2, jts, n2, r2, l2, e2⟩ := I5.lstM hb
  have len1 : its.toArray.size = xs.length := by rw [List.size_toArray]; exact l1.symm
  have len2 : jts.toArray.size = ys.length := by rw [List.size_toArray]; exact l2.symm
  refine setItem_cut (m := m) (k := min (m + 1) xs.length) e1 e2 ab (Heap.IsSliceOf.new ..) pl pu (by rw [len1]; exact bounds_one hm) (by omega) (by rw [len1]; omega) (by rw [len1, len2]; exact hz) ⟨σ, _, ?_, q⟩
  have ed : its.drop (min (m + 1) xs.length) = its.drop (m + 1) := by
    by_cases hc : m + 1 ≤ xs.length
    · rw [Nat.min_eq_left hc]
    · rw [List.drop_eq_nil_of_le (by omega), List.drop_eq_nil_of_le (by omega)]
  refine I5.lset (its' := its.take m ++ jts ++ its.drop (m + 1)) (t' := s4.toks) ha e1 ?_ (Vals.append (Vals.append (r1.take _) r2) (r1.drop _)) ?_
  · rw [← ed]
    exact splice_eq its jts m (min (m + 1) xs.length)
  · rw [List.length_append, List.length_append, List.length_take, List.length_drop]
    omega
end
end Gx

/-! name = {key: value for ..}, the name a local of its def -/
namespace Gx
open PySem PySem.Spec PyProof.Rows L2 GxR
section
variable {X : Cx}
theorem swD_true {k v : Expr} {gs : List Comprehension} {sc : Scope} {p q : Pos} {n : Str} {ln : Nat} {en : Env} (k1 : en.scope.kind = .function) (k2 : en.scope.names.lookup n = some .local) (k3 : (q.line == p.line) = true)
    (k4 : (sc.names.any fun (z, y) => z == n && (y == .local || y == .cell)) = false) : swapsWith (.DictComp k v gs sc p) (some (.Name n q)) ln en = pure true := by
  have e1 : en.kindOf n = some .local := k2
  have e2 : en.blockKind = .function := by
    unfold Env.blockKind
    rw [k1]
    rfl
  unfold swapsWith
  simp only [e2, e1, k4, Expr.pos, k3]
  rfl
theorem ps_setDc {n : Nat} {x : Str} {px p sp : Pos} {ke ve tg it : Expr} {ifs : List Expr} {sc : Scope} {own : List (Str × Nat)} {w : TI} {g : TG} {tt : TT} {tk tv : TE}
    (calm : X.calm = true) (nd : X.N.Nodup) (at_ : X.N[n]? = some x) (loc : X.env.scope.names.lookup x = some .local) (used : swapsWith (.DictComp ke ve [⟨tg, it, ifs, 0⟩] sc p) (some (.Name x px)) sp.line X.env = pure true)
    (hw : PI X tg it w) (ok : BlkOk X.N X.env.scope sc own)
    (hg : ∀ (s : Shared) (H : Hp) (C : Addr) (cl : List (Str × Addr)) (fp : List Addr),
      PG (X.blk s H sc (compEnvC sc cl C X.env) fp) tg g)
    (ht : ∀ (s : Shared) (H : Hp) (C : Addr) (cl : List (Str × Addr)) (fp : List Addr),
      PTs (X.blk s H sc (compEnvC sc cl C X.env) fp) ifs tt)
    (hk : ∀ (s : Shared) (H : Hp) (C : Addr) (cl : List (Str × Addr)) (fp : List Addr),
      PE (X.blk s H sc (compEnvC sc cl C X.env) fp) ke tk)
    (hv : ∀ (s : Shared) (H : Hp) (C : Addr) (cl : List (Str × Addr)) (fp : List Addr),
      PE (X.blk s H sc (compEnvC sc cl C X.env) fp) ve tv)
    (fold : ∀ z, foldedSetIterable it X.env z = pure z := by intro _; rfl) :
    PS X (.Assign [.Name x px] (.DictComp ke ve [⟨tg, it, ifs, 0⟩] sc p) sp) (tAsg (tDc w g tt tk tv (own.map (·.2))) (gName n)) := by
  refine ⟨fun pins s σ H J I h => ?_⟩
  rw [exec_Assign_Name_used _ _ _ _ used]
  refine wpAny_bind (wpAny_standAt (wpAny_bind ?_))
  show wpAny _ X.A (do
    let _ ← comprehension (.DictComp ke ve [⟨tg, it, ifs, 0⟩] sc p) sc X.env (firstIterPos [⟨tg, it, ifs, 0⟩] p) newDict false (eval it X.env) (some (assign (.Name x px) X.env))) _ _ s
  have h2 : tDc w g tt tk tv (own.map (·.2)) σ H (fun y H1 => gName n y σ H1 J.nx) := h
  refine wpAny_bind (thn (dc_core (Qf := fun _ s' => SP X pins J .next s') calm nd I hw ok hg ht hk hv fold h2 fun L C t m H' I' q ns fr => ?_) fun _ t hq => wpAny_pure (wpAny_pure hq))
  show wpAny _ _ (assign (.Name x px) X.env (.ref L)) _ _ _
  refine wpAny_assign_Name (store_ok2 (v := V.ref L) I' nd at_ (.inl loc) rfl (fun t2 I2 hb => ?_) (.inr loc))
  obtain ⟨b, sb, hb⟩ := hb
  obtain ⟨r0, r1, r2, r3, r4, r5⟩ := fr
  have ne : C ≠ b := by
    rcases hb with z | z
    · rw [z]
      exact r1
    · exact fun e => r4 x b z e.symm
  refine ⟨m, ns.sameBut sb ne, fun h3 sb3 => ⟨_, H', I2.turned (t' := t2.toks) (fun c o hc e => ?_) r0 r1 r3 r4 r5, q⟩⟩
  exact (sb3.2 c hc).trans e
end
end Gx

/-! Tuples whose objects are known to have no names of their own: made by tuple( ), and their methods. -/
namespace Gx
open PySem PySem.Spec PyProof.Rows L2 GxR
section
variable {X : Cx}
def rTupF (K : PySem.W.Frag) : List V → Hp → VK → Prop := fun xs H Q => ∃ (p : Addr) (ys : List V), xs = [.ref p] ∧ SqL K H p ys ∧ ∀ (l : Addr) (o : Obj), H l = none → o.dict = none → Q (.ref l) (upd H l (.frz o (.tup ys)))
theorem call_tupleF : CallR X (.type "tuple") (rTupF X.K) := by
  intro pins s σ H xs us Q I r h
  obtain ⟨p, ys, rfl, hq, q⟩ := h
  obtain ⟨u, rfl, rx⟩ := vals1 r
  obtain rfl : u = Value.ref p := rx
  obtain ⟨its, rv, pl, hz⟩ := I.list hq
  have hlen := rv.length
  refine call_tuple_list pl.isList (fun g keep => ?_) (by rw [List.size_toArray]; omega)
  have J : Inv X pins σ H { s with heap := g } := I.kept (t' := s.toks) keep
  have J2 : Inv X pins σ (upd H g.objs.size (.frz { cls := .type "tuple", data := .seq its.toArray } (.tup ys))) { s with heap := g.push { cls := .type "tuple", data := .seq its.toArray } } :=
    J.laid (t' := s.toks) (fun b o e => Heap.get?_push_of_some _ e) (Nat.le_refl _)
      (show ObjOk X.prog X.w _ _ _ (.frz _ (.tup ys)) from ⟨Heap.get?_push_size _ rfl, hz, its, rv, IsTup.new _ _⟩)
  exact ⟨.ref g.objs.size, _, J2, rfl, q _ _ (J.hok.fresh (Nat.le_refl _)) rfl⟩
/-- t.name(..), t such a tuple -/
def tBMF (r : V → List V → Hp → VK → Prop) (to : TE) (t : TA) : TE := fun σ H Q => to σ H fun x H1 => (∃ (p : Addr) (o : Obj) (ys : List V), x = .ref p ∧ H1 p = some (.frz o (.tup ys)) ∧ o.dict = none) ∧ t σ H1 fun xs H2 => r x xs H2 Q
variable {o e : Expr} {es : List Expr} {to : TE} {t : TA} {name : Str} {apos cpos : Pos} {id : String} {r : V → List V → Hp → VK → Prop}
theorem pe_bmF (slot : Slot "tuple" name id) (hty : typeOf (.builtin id) = pure (.type "method_descriptor")) (hm : MtR X id r) (ho : PE X o to) (ha : PA X (e :: es) t)
    (base : attributeBase o name X.env (eval o X.env) = eval o X.env := by rfl)
    (few : ((backTo cpos (starEach (e :: es) X.env)).all (fun x => !x.1) && (backToKw cpos (keywordEach [] X.env)).all (fun x => x.1.isSome) && decide ((e :: es).length + ([] : List Keyword).length + (if ([] : List Keyword).isEmpty then 0 else 1) < 30)) = true := by rfl)
    (line : (apos.endLine == cpos.line) = true := by rfl) (star : starEach (e :: es) X.env = (false, eval e X.env) :: starEach es X.env := by rfl)
    (plain : (backTo cpos (starEach es X.env)).any (·.1) = false := by rfl) :
    PE X (.Call (.Attribute o name apos) (e :: es) [] cpos) (tBMF r to t) := by
  refine ⟨fun pins s σ H Q I h => ?_⟩
  refine wpAny_Call_method_late base few line rfl (thn (ho.run pins s σ H _ I h) fun v s1 hx => ?_)
  obtain ⟨x, H1, I1, r1, ⟨p, ob, ys, rfl, hp, hd⟩, q1⟩ := hx
  obtain rfl : v = Value.ref p := r1
  obtain ⟨g, _, its, _, o2, g2, c2, _⟩ := I1.hok p _ hp
  have ty : s1.TypeIs (.ref p) "tuple" := ⟨o2, g2, c2⟩
  refine ⟨"tuple", id, PySem.F.plainAttrs_tuple, slot, hty, ty, fun a ea => ?_, ?_⟩
  · cases ea
    exact ⟨ob, g, hd⟩
  · have hA := ha.run cpos pins s1 σ H1 _ I1 q1
    rw [star] at hA ⊢
    refine Calls.callWith_builtin (by show (false || (backTo cpos (starEach es X.env)).any (·.1)) = false; rw [plain] <;> rfl) (Calls.evalArgs_plain ?_)
    exact thn hA fun us s2 hu => by
      obtain ⟨vs, H2, I2, r2, q2⟩ := hu
      exact hm pins s2 σ H2 (.ref p) vs (.ref p) us Q I2 rfl r2 q2
end
end Gx

namespace L2
open PySem PySem.Spec PyProof.Rows
section
variable {X : Cx}
/-- math.comb of two whole numbers -/
def rComb : List V → Hp → VK → Prop := fun vs H Q => ∃ a b : Int, vs = [.int a, .int b] ∧ 0 ≤ a ∧ a < 2 ^ 64 ∧ 0 ≤ b ∧ b ≤ 9000 ∧ Q (.int (PySem.W.mcComb a b)) H
theorem cr_comb : CallR X (.builtin "math.comb") rComb := by
  intro pins s σ H vs us Q I r h
  obtain ⟨a, b, rfl, a0, a1, b0, b1, q⟩ := h
  obtain ⟨t, u, rfl⟩ := Vals.int2 r
  exact PySem.W.mc_comb (by omega) (by omega) (by omega) (by omega) fun _ => ⟨.int _, H, I.tok _, ⟨_, rfl⟩, q⟩
end
end L2
namespace Gx
/-! ### choosing -/
def binom : Nat → Nat → Nat
  | _, 0 => 1
  | 0, _ + 1 => 0
  | n + 1, k + 1 => binom n k + binom n (k + 1)
theorem binom_zero (n : Nat) : binom n 0 = 1 := by cases n <;> rfl
theorem binom_above : ∀ {n k : Nat}, n < k → binom n k = 0
  | 0, k + 1, _ => rfl
  | n + 1, k + 1, h => by
    rw [binom, binom_above (n := n) (k := k) (by omega), binom_above (n := n) (k := k + 1) (by omega)]
theorem binom_self : ∀ n : Nat, binom n n = 1
  | 0 => rfl
  | n + 1 => by rw [binom, binom_self n, binom_above (Nat.lt_succ_self n)]
/-- the falling product -/
def fall : Nat → Nat → Nat
  | _, 0 => 1
  | n, k + 1 => fall n k * (n - k)
theorem fall_eq (n : Nat) : ∀ k : Nat, k ≤ n → PySem.Builtin.Math.fallingProduct (n : Int) k = (fall n k : Nat)
  | 0, _ => PySem.W.mc_fp_zero _
  | k + 1, h => by
    rw [PySem.W.mc_fp_succ, fall_eq n k (by omega), fall, Int.natCast_mul]
    congr 1
    omega
theorem fall_step (n : Nat) : ∀ k : Nat, fall (n + 1) (k + 1) = (n + 1) * fall n k
  | 0 => by show 1 * (n + 1 - 0) = (n + 1) * 1; omega
  | k + 1 => by
    rw [fall, fall_step n k, fall, Nat.mul_assoc, show n + 1 - (k + 1) = n - k by omega]
theorem fall_zero : ∀ k : Nat, fall 0 (k + 1) = 0
  | 0 => rfl
  | k + 1 => by rw [fall, fall_zero k, Nat.zero_mul]
theorem fall_binom : ∀ n k : Nat, fall n k = binom n k * fall k k
  | n, 0 => by rw [binom_zero]; rfl
  | 0, k + 1 => by rw [fall_zero]; show 0 = 0 * _; rw [Nat.zero_mul]
  | n + 1, k + 1 => by
    have h1 := fall_binom n k
    have h2 := fall_binom n (k + 1)
    have h3 : fall n (k + 1) = fall n k * (n - k) := rfl
    rw [fall_step, fall_step k k] at *
    rw [binom, Nat.add_mul (binom n k), ← h2, h3]
    by_cases h : k ≤ n
    · rw [h1]
      obtain ⟨d, rfl⟩ : ∃ d, n = k + d := ⟨n - k, by omega⟩
      rw [Nat.add_sub_cancel_left]
      generalize binom (k + d) k = x
      generalize fall k k = y
      rw [show x * ((k + 1) * y) = (k + 1) * (x * y) by rw [Nat.mul_left_comm], Nat.mul_comm (x * y) d, ← Nat.add_mul]
      congr 1
      omega
    · rw [h1, binom_above (show n < k by omega)]
      simp
theorem fall_pos : ∀ {n k : Nat}, k ≤ n → 0 < fall n k
  | _, 0, _ => Nat.one_pos
  | n, k + 1, h => Nat.mul_pos (fall_pos (by omega)) (by omega)
theorem fact_split : ∀ n k : Nat, fall (n + k) n * fall k k = fall (n + k) (n + k)
  | 0, k => by rw [Nat.zero_add]; show 1 * _ = _; rw [Nat.one_mul]
  | n + 1, k => by
    rw [show n + 1 + k = (n + k) + 1 by omega, fall_step, fall_step, Nat.mul_assoc, fact_split n k]
theorem binom_sym (n k : Nat) : binom (n + k) n = binom (n + k) k := by
  have h1 := fall_binom (n + k) n
  have h2 := fall_binom (n + k) k
  have h3 := fact_split n k
  have h4 := fact_split k n
  rw [h1] at h3
  rw [Nat.add_comm k n, h2] at h4
  have p1 := fall_pos (Nat.le_refl n)
  have p2 := fall_pos (Nat.le_refl k)
  refine Nat.eq_of_mul_eq_mul_right (Nat.mul_pos p1 p2) ?_
  rw [← Nat.mul_assoc, h3, Nat.mul_comm (fall n n), ← Nat.mul_assoc, h4]
theorem comb_binom (a b : Nat) : PySem.W.mcComb (a : Int) (b : Int) = (binom a b : Nat) := by
  by_cases h : b ≤ a
  · obtain ⟨d, rfl⟩ : ∃ d, a = b + d := ⟨a - b, by omega⟩
    obtain ⟨m, hm, hb⟩ : ∃ m : Nat, min (b : Int) (((b + d : Nat) : Int) - b) = m ∧ binom (b + d) b = binom (b + d) m := by
      by_cases hbd : b ≤ d
      · exact ⟨b, by omega, rfl⟩
      · exact ⟨d, by omega, binom_sym b d⟩
    rw [PySem.W.mcComb_at (m := m) (by omega) (by omega) hm, Int.toNat_natCast, fall_eq _ _ (by omega), fall_eq _ _ (Nat.le_refl m), hb, fall_binom (b + d) m, Int.natCast_mul]
    exact Int.mul_ediv_cancel _ (by have := fall_pos (Nat.le_refl m); omega)
  · rw [PySem.W.mcComb_above (by omega), binom_above (by omega)]
    rfl
end Gx

/-! xs[i] op= v, xs a list -/
namespace L2
open PySem PySem.Spec PyProof.Rows
section
variable {X : Cx}
def rGetL (K : PySem.W.Frag) : V → V → Hp → VK → Prop := fun o i H Q => ∃ p xs k z, o = .ref p ∧ i = .int k ∧ SqL K H p xs ∧ 0 ≤ k ∧ xs[k.toNat]? = some z ∧ Q z H
theorem get_list : PGet X (rGetL X.K) := by
  intro pins s σ H o i ov iv Q I ro ri h
  obtain ⟨p, xs, k, z, rfl, rfl, hq, h0, he, q⟩ := h
  cases ro
  obtain ⟨t, rfl⟩ := ri
  obtain ⟨its, r, pl, hz⟩ := I.list hq
  obtain ⟨w, ew, rw'⟩ := r.get he
  have hl := (List.getElem?_eq_some_iff.mp he).1
  have hn := line63
  exact wpAny_getItem_list pl.isList h0 (by omega) (by simpa using ew) ⟨z, H, I, rw', q⟩
theorem ip_or : PIp X .BitOr (rI0 fun i j => .int (Builtin.bitOr i j)) := fun pins s σ H x y v u Q I r1 r2 h => iop_or pins s σ H x y v u Q I r1 r2 h
end
end L2

/-! ### repr of a list in which dicts from texts to whole numbers stand -/
namespace Gx
open PySem PySem.Spec PyProof.Rows L2 GxR GenW
def encN (ps : List (Str × Int)) : PyData := .dict (ps.map fun p => (.str p.1, .int p.2))
inductive Dm (K : PySem.W.Frag) (H : Hp) : V → PyData → Prop
  | p {v : V} {d : PyData} : Dp K H v d → d.hasDict = false → Dm K H v d
  | k {a : Addr} {ps : List (Str × Int)} : H a = some (.dK (ps.map fun p => ((Sum.inr p.1 : Key), V.int p.2))) → Dm K H (.ref a) (encN ps)
inductive Dms (K : PySem.W.Frag) (H : Hp) : List V → List PyData → Prop
  | nil : Dms K H [] []
  | cons {v : V} {d : PyData} {vs : List V} {ds : List PyData} : Dm K H v d → Dms K H vs ds → Dms K H (v :: vs) (d :: ds)
section
variable {X : Cx} {pins : List (Addr × Obj)} {σ : L2.St} {H : Hp} {s : Shared}
theorem pairs_read {h : Heap} : ∀ {ps : List (Str × Int)} {vs : List (Key × Value)}, KV (ps.map fun p => ((Sum.inr p.1 : Key), V.int p.2)) vs →
    PyProof.V.PairsRead h (fun k : Key => match k with | .inl i => PyData.int i | .inr x => PyData.str x) vs (ps.map fun p => (.str p.1, .int p.2)) []
  | [], _, h => by
    unfold KV at h
    rw [List.map_nil] at h
    cases h
    exact .nil
  | p :: ps, _, h => by
    unfold KV at h
    rw [List.map_cons] at h
    cases h with
    | @cons a b as bs r t =>
      obtain ⟨k, u⟩ := b
      obtain ⟨e, t2, eu⟩ := r
      have e : Sum.inr p.1 = k := e
      have eu : u = Value.int p.2 t2 := eu
      subst e eu
      exact PyProof.V.PairsRead.cons (as := []) (bs := []) (Reads.int _ _) (pairs_read t)
theorem Dm.shows (I : Inv X pins σ H s) {v : V} {u : Value} {d : PyData} (h : Dm X.K H v d) (r : RelV v u) (hs : d.showable = true) (hz : d.shown.length ≤ sizeLine) :
    ∃ as bs, Reads s.heap u d as ∧ ReadAtMost s.heap d.depth bs ∧ ReprK X.prog X.w bs s.heap d.depth u d.shown := by
  cases h with
  | p hd nod =>
    obtain ⟨as, rd⟩ := Dp.reads I d v u hd r
    obtain ⟨bs, h1, h2⟩ := ReprK.of_reads (prog := X.prog) (w := X.w) rd hs (PyData.noDict_hsm nod) hz
    exact ⟨as, bs, rd, h1, h2⟩
  | @k a ps e =>
    cases r
    obtain ⟨_, lo, vs, rel, dd⟩ := dk_of I.hok e
    have rd : Reads s.heap (.ref a) (encN ps) [a] := PyProof.V.reads_dictOf (fun k key hk => by
      rcases keyIs_shape hk with ⟨i, t, rfl, rfl⟩ | ⟨x, t, rfl, rfl⟩
      · exact Reads.int i t
      · exact Reads.str x t) dd (pairs_read rel)
    obtain ⟨bs, h1, h2⟩ := ReprK.of_reads (prog := X.prog) (w := X.w) rd hs (fun _ hm => by
      rw [List.mem_singleton.mp hm] at lo
      exact absurd lo (by simp)) hz
    exact ⟨_, bs, rd, h1, h2⟩
theorem Dms.shows (I : Inv X pins σ H s) : ∀ {vs : List V} {us : List Value} {ds : List PyData}, Dms X.K H vs ds → Vals vs us → PyData.showableAll ds = true → (∀ t ∈ PyData.shownAll ds, t.length ≤ sizeLine) →
    ∃ as bs, ReadsAll s.heap us ds as ∧ ReadAtMost s.heap (PyData.depthAll ds) bs ∧ ReprAllK X.prog X.w bs s.heap (PyData.depthAll ds) us (PyData.shownAll ds)
  | _, _, _, .nil, r, _, _ => by
    cases r
    exact ⟨[], [], .nil, (fun _ h => nomatch h), by simp only [PyData.shownAll]; exact .nil⟩
  | _, _, _, .cons (d := d) (ds := ds) h t, r, hs, hz => by
    cases r with
    | cons r1 r2 =>
      rw [PyData.showableAll, Bool.and_eq_true] at hs
      obtain ⟨as, bs, a1, a2, a3⟩ := h.shows I r1 hs.1 (hz _ (by rw [PyData.shownAll]; exact List.mem_cons_self))
      obtain ⟨cs, ds', b1, b2, b3⟩ := t.shows I r2 hs.2 fun t ht => hz t (by rw [PyData.shownAll]; exact List.mem_cons_of_mem _ ht)
      refine ⟨_, bs ++ ds', .cons a1 b1, (a2.mono ?_).append (b2.mono ?_), ?_⟩
      · rw [PyData.depthAll]
        exact Nat.le_max_left _ _
      · rw [PyData.depthAll]
        exact Nat.le_max_right _ _
      · rw [PyData.shownAll, PyData.depthAll]
        exact .cons ((a3.more fun b hb => List.mem_append_left _ hb).level_le (Nat.le_max_left _ _)) (b3.more_le (fun b hb => List.mem_append_right _ hb) (Nat.le_max_right _ _))
end
section
variable {X : Cx}
def rReprM (K : PySem.W.Frag) : List V → Hp → VK → Prop := fun xs H Q => ∃ (L : Addr) (v : V) (vs : List V) (ds : List PyData), xs = [.ref L] ∧ H L = some (.lst (v :: vs)) ∧ Dms K H (v :: vs) ds ∧ PyData.showableAll ds = true ∧
  PyData.depthAll ds ≤ 60 ∧ (PyData.list ds).shown.length ≤ sizeLine ∧ Q (.str (PyData.list ds).shown) H
theorem cr_reprM (g : X.A.guards = some []) (hu : X.A.units + 64 < cLine) : CallR X (.builtin "repr") (rReprM X.K) := by
  intro pins s σ H xs us Q I r h
  obtain ⟨L, v, vs, ds, rfl, hL, hD, hs, hd, hz, q⟩ := h
  obtain ⟨u, rfl, rx⟩ : ∃ u, us = [u] ∧ RelV (.ref L) u := by
    cases r with
    | cons r1 r2 => cases r2; exact ⟨_, rfl, r1⟩
  cases rx
  obtain ⟨z, its, n, ri, hl, e⟩ := I.lstM hL
  have hz2 : (listText (PyData.shownAll ds)).length ≤ sizeLine := by simpa only [PyData.shown] using hz
  obtain ⟨as, bs, a1, a2, a3⟩ := hD.shows I ri hs fun t ht => Nat.le_trans (listText_mem_le ht) hz2
  have rd : Reads s.heap (.ref L) (.list ds) (L :: as) := Reads.list e rfl rfl (by simpa using a1)
  have hna : L ∉ bs := not_mem_of_deeper rd (by simp only [PyData.depth]; omega) a2
  cases ri with
  | @cons _ y _ ys r1 r2 =>
    refine call_repr_slot (T := "list") (by omega) ⟨_, e, rfl⟩ F.slot_list_repr.toG ?_
    refine call_list_reprK e rfl rfl hna (by simpa using a3.length_eq) (fun i y e => a3.item i y (by simpa using e)) g (fun b _ => Clear.nil b) (by show X.A.units + 1 + (_ + 1) < cLine; omega) (fun _ _ e => e) (fun h' u tk hk => ?_) hz2
    refine ⟨_, _, rfl, .str _, H, I.kept hk, ⟨_, rfl⟩, ?_⟩
    have : (PyData.list ds).shown = listText (PyData.shownAll ds) := by simp only [PyData.shown]
    rw [this] at q
    exact q
end
end Gx

namespace Lw
open PySem PySem.Spec PyProof.Rows L2 GxR Gx
def topS (i : Nat) : Stmt := PySem.Challenge.pw_heardapart_k15_whole_books_put_together.main.body.getD i (.Pass ⟨0, 0, 0, 0⟩)
abbrev st_is_name : Stmt := topS 9
abbrev N_is_name : List Str := ["thing", "letter"]
theorem sc_is_name : FnScope N_is_name ["thing"] (defScope st_is_name) := ⟨rfl, rfl, rfl, by decide +kernel, rfl, by decide +kernel, by decide +kernel⟩
abbrev st_are_unlike_names : Stmt := topS 10
abbrev N_are_unlike_names : List Str := ["thing", "name"]
theorem sc_are_unlike_names : FnScope N_are_unlike_names ["thing"] (defScope st_are_unlike_names) := ⟨rfl, rfl, rfl, by decide +kernel, rfl, by decide +kernel, by decide +kernel⟩
abbrev st_is_book : Stmt := topS 13
abbrev N_is_book : List Str := ["thing"]
theorem sc_is_book : FnScope N_is_book ["thing"] (defScope st_is_book) := ⟨rfl, rfl, rfl, by decide +kernel, rfl, by decide +kernel, by decide +kernel⟩
abbrev st_turned_pairs : Stmt := topS 14
abbrev N_turned_pairs : List Str := ["book", "other"]
theorem sc_turned_pairs : FnScope N_turned_pairs ["book", "other"] (defScope st_turned_pairs) := ⟨rfl, rfl, rfl, by decide +kernel, rfl, by decide +kernel, by decide +kernel⟩
abbrev st_longest_turned : Stmt := topS 15
abbrev N_longest_turned : List Str := ["book", "other", "ranks", "row", "wanted", "word"]
theorem sc_longest_turned : FnScope N_longest_turned ["book", "other"] (defScope st_longest_turned) := ⟨rfl, rfl, rfl, by decide +kernel, rfl, by decide +kernel, by decide +kernel⟩
abbrev st_fewest_lots : Stmt := topS 16
abbrev N_fewest_lots : List Str := ["book", "other", "ranks", "lots", "_", "word"]
theorem sc_fewest_lots : FnScope N_fewest_lots ["book", "other"] (defScope st_fewest_lots) := ⟨rfl, rfl, rfl, by decide +kernel, rfl, by decide +kernel, by decide +kernel⟩
abbrev st_roads_between : Stmt := topS 17
abbrev N_roads_between : List Str := ["book", "other", "ranks"]
theorem sc_roads_between : FnScope N_roads_between ["book", "other"] (defScope st_roads_between) := ⟨rfl, rfl, rfl, by decide +kernel, rfl, by decide +kernel, by decide +kernel⟩
abbrev st_how_many_numberings : Stmt := topS 18
abbrev N_how_many_numberings : List Str := ["book", "other", "roads", "ways", "used", "many"]
theorem sc_how_many_numberings : FnScope N_how_many_numberings ["book", "other", "roads"] (defScope st_how_many_numberings) := ⟨rfl, rfl, rfl, by decide +kernel, rfl, by decide +kernel, by decide +kernel⟩
abbrev st_is_whole : Stmt := topS 19
abbrev N_is_whole : List Str := ["thing", "least"]
theorem sc_is_whole : FnScope N_is_whole ["thing", "least"] (defScope st_is_whole) := ⟨rfl, rfl, rfl, by decide +kernel, rfl, by decide +kernel, by decide +kernel⟩
abbrev st_check_books : Stmt := topS 20
abbrev N_check_books : List Str := ["book", "other"]
theorem sc_check_books : FnScope N_check_books ["book", "other"] (defScope st_check_books) := ⟨rfl, rfl, rfl, by decide +kernel, rfl, by decide +kernel, by decide +kernel⟩
abbrev st_check_roads : Stmt := topS 21
abbrev N_check_roads : List Str := ["thing"]
theorem sc_check_roads : FnScope N_check_roads ["thing"] (defScope st_check_roads) := ⟨rfl, rfl, rfl, by decide +kernel, rfl, by decide +kernel, by decide +kernel⟩
abbrev st_places_of : Stmt := topS 22
abbrev N_places_of : List Str := ["book", "place", "word"]
theorem sc_places_of : FnScope N_places_of ["book"] (defScope st_places_of) := ⟨rfl, rfl, rfl, by decide +kernel, rfl, by decide +kernel, by decide +kernel⟩
abbrev st_pairs_turned : Stmt := topS 23
abbrev N_pairs_turned : List Str := ["book", "other", "places", "k", "a", "b"]
theorem sc_pairs_turned : FnScope N_pairs_turned ["book", "other"] (defScope st_pairs_turned) := ⟨rfl, rfl, rfl, by decide +kernel, rfl, by decide +kernel, by decide +kernel⟩
abbrev st_ranks_of : Stmt := topS 24
abbrev N_ranks_of : List Str := ["book", "other", "places", "ranks", "lasts", "word", "many"]
theorem sc_ranks_of : FnScope N_ranks_of ["book", "other"] (defScope st_ranks_of) := ⟨rfl, rfl, rfl, by decide +kernel, rfl, by decide +kernel, by decide +kernel⟩
abbrev st_how_many_above : Stmt := topS 25
abbrev N_how_many_above : List Str := ["falling", "least", "low", "high", "middle"]
theorem sc_how_many_above : FnScope N_how_many_above ["falling", "least"] (defScope st_how_many_above) := ⟨rfl, rfl, rfl, by decide +kernel, rfl, by decide +kernel, by decide +kernel⟩
abbrev st_ways_by_numbers : Stmt := topS 26
abbrev N_ways_by_numbers : List Str := ["pairs", "places", "above", "_", "a", "b", "counts", "ways"]
theorem sc_ways_by_numbers : FnScope N_ways_by_numbers ["pairs", "places"] (defScope st_ways_by_numbers) := ⟨rfl, rfl, rfl, by decide +kernel, rfl, by decide +kernel, by decide +kernel⟩
abbrev st_with_one_number_more : Stmt := topS 27
abbrev N_with_one_number_more : List Str := ["counts", "above", "told", "k", "words"]
theorem sc_with_one_number_more : FnScope N_with_one_number_more ["counts", "above"] (defScope st_with_one_number_more) := ⟨rfl, rfl, rfl, by decide +kernel, rfl, by decide +kernel, by decide +kernel⟩
abbrev st_law_pot : Stmt := topS 29
abbrev N_law_pot : List Str := ["script", "k", "cell"]
theorem sc_law_pot : FnScope N_law_pot ["script", "k"] (defScope st_law_pot) := ⟨rfl, rfl, rfl, by decide +kernel, rfl, by decide +kernel, by decide +kernel⟩
abbrev st_law_take : Stmt := topS 30
abbrev N_law_take : List Str := ["pot", "many", "found", "mixed"]
theorem sc_law_take : FnScope N_law_take ["pot", "many"] (defScope st_law_take) := ⟨rfl, rfl, rfl, by decide +kernel, rfl, by decide +kernel, by decide +kernel⟩
abbrev st_law_some : Stmt := topS 31
abbrev N_law_some : List Str := ["pot", "things", "many", "left", "found"]
theorem sc_law_some : FnScope N_law_some ["pot", "things", "many"] (defScope st_law_some) := ⟨rfl, rfl, rfl, by decide +kernel, rfl, by decide +kernel, by decide +kernel⟩
abbrev st_law_names : Stmt := topS 32
abbrev N_law_names : List Str := ["pot", "many", "some"]
theorem sc_law_names : FnScope N_law_names ["pot", "many"] (defScope st_law_names) := ⟨rfl, rfl, rfl, by decide +kernel, rfl, by decide +kernel, by decide +kernel⟩
abbrev st_law_other : Stmt := topS 33
abbrev N_law_other : List Str := ["pot", "book", "other", "way", "turn", "at"]
theorem sc_law_other : FnScope N_law_other ["pot", "book"] (defScope st_law_other) := ⟨rfl, rfl, rfl, by decide +kernel, rfl, by decide +kernel, by decide +kernel⟩
abbrev st_law_called : Stmt := topS 34
abbrev N_law_called : List Str := ["book", "letters", "word", "sign"]
theorem sc_law_called : FnScope N_law_called ["book"] (defScope st_law_called) := ⟨rfl, rfl, rfl, by decide +kernel, rfl, by decide +kernel, by decide +kernel⟩
abbrev st_law_joined_right : Stmt := topS 35
abbrev N_law_joined_right : List Str := ["one", "more", "roads", "book", "other", "later", "beyond", "pairs", "most", "many", "crossed", "a", "b", "row"]
theorem sc_law_joined_right : FnScope N_law_joined_right ["one", "more", "roads"] (defScope st_law_joined_right) := ⟨rfl, rfl, rfl, by decide +kernel, rfl, by decide +kernel, by decide +kernel⟩
abbrev st_law_more_right : Stmt := topS 36
abbrev N_law_more_right : List Str := ["book", "other", "pairs", "lots", "ends", "word", "pair", "lot", "back", "b", "a"]
theorem sc_law_more_right : FnScope N_law_more_right ["book", "other"] (defScope st_law_more_right) := ⟨rfl, rfl, rfl, by decide +kernel, rfl, by decide +kernel, by decide +kernel⟩
abbrev st_law : Stmt := topS 37
abbrev N_law : List Str := ["script", "k", "pot", "names", "book", "later", "one", "more"]
theorem sc_law : FnScope N_law ["script"] (defScope st_law) := ⟨rfl, rfl, rfl, by decide +kernel, rfl, by decide +kernel, by decide +kernel⟩
/-- names that the top leaves to the built-ins -/
structure Nb (mg : Str → Option Value) : Prop where
  n_all : mg "all" = none
  n_enumerate : mg "enumerate" = none
  n_int : mg "int" = none
  n_len : mg "len" = none
  n_list : mg "list" = none
  n_max : mg "max" = none
  n_min : mg "min" = none
  n_range : mg "range" = none
  n_reversed : mg "reversed" = none
  n_set : mg "set" = none
  n_sorted : mg "sorted" = none
  n_str : mg "str" = none
  n_sum : mg "sum" = none
  n_tuple : mg "tuple" = none
  n_type : mg "type" = none
section
variable {P : Program} {w : World} {K : PySem.W.Frag} {mg : Str → Option Value} {base : Heap}
/-! ### is_name -/
def nameC (c : Nat) : Bool := decide (97 ≤ c) && decide (c ≤ 122)
def isNm (z : Str) : Bool := decide (1 ≤ z.length) && decide (z.length ≤ 8) && z.cps.toList.all nameC
def spIsName (K : PySem.W.Frag) (T : Addr) : Sp := fun vs H Q _ => ∃ x, vs = [x] ∧ TabG H T ∧
  ((∃ z : Str, x = .str z ∧ z.length ≤ sizeLine ∧ ∀ H', Grow [] H H' → Q (.bl (isNm z)) H') ∨ ∃ U, U ≠ "str" ∧ TyB K H x U ∧ Q (.bl false) H)
theorem lt1 (a b : Nat) : decide ([a] < [b]) = decide (a < b) := by
  have h : ([a] < [b]) ↔ a < b := by
    rw [List.cons_lt_cons_iff]
    simp
  exact decide_eq_decide.mpr h
theorem ge_a (c : Nat) : (!decide ([c] < [97])) = decide (97 ≤ c) := by
  rw [lt1]
  by_cases h : 97 ≤ c
  · rw [decide_eq_true h, decide_eq_false (by omega)]; rfl
  · rw [decide_eq_false h, decide_eq_true (by omega)]; rfl
theorem le_z (c : Nat) : (!decide ([122] < [c])) = decide (c ≤ 122) := by
  rw [lt1]
  by_cases h : c ≤ 122
  · rw [decide_eq_true h, decide_eq_false (by omega)]; rfl
  · rw [decide_eq_false h, decide_eq_true (by omega)]; rfl
theorem ok_is_name {f c T : Addr} {fd : FuncData} {tk : Tok} (B : Nb mg) (D : DefIs K "is_name" "is_name" st_is_name f fd (.ref c)) (x_is_name : TabB base mg c T) (k_MOST_LETTERS : mg "MOST_LETTERS" = some (.int 8 tk)) :
    FnG P w K mg base CX0 4 f fd ["thing"] (spIsName K T) := by
  refine D.ok0 (k := 3) sc_is_name (fun vs H Q E h => ?_) (fun A outer s H vs Q E g hr h => ?_)
  · obtain ⟨x, rfl, _⟩ := h
    rfl
  obtain ⟨x, rfl, tT, h⟩ := h
  refine ⟨_,
      (pss_cons (ps_if (PW.pt (pw_or (pt_cmpR (op_notTyB) (pe_callTy call_type1 rfl B.n_type (by decide +kernel) (pa_cons (pv 0) pa_nil)) (pe_bltn (v := .ty "str") rfl B.n_str (by decide +kernel) rfl) (nomark _)) (pw_or1 (pt_not (pt_chain (op_le) (op_le) pe_int (pe_callB call_len_str rfl B.n_len PySem.boot_len (pa_cons (pv 0) pa_nil)) (pe_glob (v := .int 8) rfl k_MOST_LETTERS ⟨_, rfl⟩)))))) (
        (pss_one (ps_ret pe_bl))) pss_nil)
      (pss_one (ps_ret (pe_allG (own := [("letter", 1)]) hr (gx_ok (N := N_is_name) (dsc := defScope st_is_name) x_is_name sc_is_name.nd (by decide +kernel) (by decide +kernel)) rfl B.n_all (by decide +kernel) (pi_str (pv 0)) (fun _ _ _ _ _ => (pg_name (i := 1) sc_is_name.nd rfl (.inl rfl))) (fun _ _ _ _ _ => pe_to (pe_chain (op_le_str) (op_le_str) pe_str (pv 1) pe_str)))))), ?_⟩
  rcases h with ⟨z, rfl, hz, q⟩ | ⟨U, hU, ty, q⟩
  · refine ⟨.str z, rfl, _, "str", rfl, .str z, "str", "str", rfl, rfl, _, rfl, iteNS rfl ⟨.str z, rfl, z, rfl, hz, 1, z.length, rfl, rfl, _, rfl, ?_⟩⟩
    have no : isNm z = false → Q (.bl false) H := fun e => by
      rw [← e]
      exact q H (Grow.refl _ _)
    by_cases h1 : (1 : Int) ≤ z.length
    · rw [if_pos (decide_eq_true h1)]
      refine ⟨z.length, 8, rfl, rfl, _, rfl, ?_⟩
      by_cases h8 : (z.length : Int) ≤ 8
      · rw [decide_eq_true h8]
        refine iteF ⟨.str z, rfl, z, rfl, tT, ?_⟩
        have hall : ∀ b : Bool, b = z.cps.toList.all nameC → ∀ H', Grow [] H H' → Q (.bl b) H' := fun b e H' gr => by
          have e2 : isNm z = b := by
            unfold isNm
            rw [decide_eq_true (by omega : 1 ≤ z.length), decide_eq_true (by omega : z.length ≤ 8), e]
            rfl
          rw [← e2]
          exact q H' gr
        refine truth_text (fun i H' => Grow [] H H' ∧ (z.cps.toList.take i).all nameC = true) (fun H2 t => ⟨grow_tab tT t, rfl⟩) (fun i cc H' hc hp => ?_) fun H' hp => ?_
        · have e1 : (!decide ((⟨#[cc]⟩ : Str).cps.toList < (Str.ofString "a").cps.toList)) = decide (97 ≤ cc) := ge_a cc
          have e2 : (!decide ((Str.ofString "z").cps.toList < (⟨#[cc]⟩ : Str).cps.toList)) = decide (cc ≤ 122) := le_z cc
          have out : nameC cc = false → Q (.bl false) H' := fun e => by
            refine hall false ?_ H' hp.1
            refine (List.all_eq_false.mpr ⟨cc, List.mem_of_getElem? hc, ?_⟩).symm
            rw [e]
            exact Bool.false_ne_true
          refine ⟨rfl, .str ⟨#[cc]⟩, rfl, _, _, rfl, rfl, _, rfl, ?_⟩
          rw [e1]
          by_cases ca : 97 ≤ cc
          · rw [if_pos (decide_eq_true ca)]
            refine ⟨_, _, rfl, rfl, _, rfl, ?_⟩
            rw [e2]
            by_cases cz : cc ≤ 122
            · rw [if_neg (by rw [decide_eq_true cz]; exact fun z => Bool.noConfusion z)]
              refine ⟨hp.1, ?_⟩
              rw [List.take_add_one, hc, List.all_append, hp.2]
              show (true && (nameC cc && true)) = true
              unfold nameC
              rw [decide_eq_true ca, decide_eq_true cz]
              rfl
            · rw [if_pos (decide_eq_false cz)]
              refine out ?_
              unfold nameC
              rw [decide_eq_false cz, Bool.and_false]
          · rw [if_neg (by rw [decide_eq_false ca]; exact Bool.false_ne_true)]
            refine ⟨false, rfl, ?_⟩
            rw [if_pos rfl]
            refine out ?_
            unfold nameC
            rw [decide_eq_false ca, Bool.false_and]
        · refine hall true ?_ H' hp.1
          have := hp.2
          rw [List.take_length] at this
          exact this.symm
      · rw [decide_eq_false h8]
        refine iteT (no ?_)
        unfold isNm
        rw [decide_eq_false (by omega : ¬ z.length ≤ 8), Bool.and_false, Bool.false_and]
    · rw [decide_eq_false h1]
      refine iteF ⟨_, rfl, iteT (no ?_)⟩
      unfold isNm
      rw [decide_eq_false (by omega : ¬ 1 ≤ z.length), Bool.false_and, Bool.false_and]
  · refine ⟨x, rfl, _, U, rfl, ty, U, "str", rfl, rfl, _, rfl, ?_⟩
    rw [decide_eq_false hU]
    exact iteT (iteT q)
end

section
variable {P : Program} {w : World} {K : PySem.W.Frag} {mg : Str → Option Value} {base : Heap}
/-! ### are_unlike_names, is_book -/
def nameV : V → Bool
  | .str z => isNm z
  | _ => false
def bookV (xs : List V) : Bool := xs.all nameV && decide xs.Nodup
theorem nameV_str (x : V) (h : nameV x = true) : ∃ z, x = .str z := by
  cases x with
  | str z => exact ⟨z, rfl⟩
  | _ => cases h
def spUnlike (K : PySem.W.Frag) (T1 T2 : Addr) : Sp := fun vs H Q _ => ∃ x, vs = [x] ∧ TabG H T1 ∧ TabG H T2 ∧
  ((∃ (l : Addr) (xs : List V), x = .ref l ∧ SqL K H l xs ∧ (∀ x ∈ xs, Known K H x) ∧ xs.length ≤ 4000 ∧ ∀ H', Grow [] H H' → Q (.bl (bookV xs)) H') ∨ ∃ U, U ≠ "list" ∧ TyB K H x U ∧ Q (.bl false) H)
theorem ok_are_unlike_names {f c T1 T : Addr} {fd : FuncData} (B : Nb mg) (D : DefIs K "are_unlike_names" "are_unlike_names" st_are_unlike_names f fd (.ref c)) (x_are_unlike_names : TabB base mg c T)
    (c_is_name : Callee P w K mg base CX0 4 "is_name" ["thing"] (spIsName K T1)) : FnG P w K mg base CX0 8 f fd ["thing"] (spUnlike K T1 T) := by
  refine D.ok0 (k := 7) sc_are_unlike_names (fun vs H Q E h => ?_) (fun A outer s H vs Q E g hr h => ?_)
  · obtain ⟨x, rfl, _⟩ := h
    rfl
  obtain ⟨x, rfl, t1, tT, h⟩ := h
  refine ⟨_,
      (pss_cons (ps_if (PW.pt (pw_or (pt_cmpR (op_notTyB) (pe_callTy call_type1 rfl B.n_type (by decide +kernel) (pa_cons (pv 0) pa_nil)) (pe_bltn (v := .ty "list") rfl B.n_list (by decide +kernel) rfl) (nomark _)) (pw_or1 (pt_not (pt_val (pe_allG (own := [("name", 1)]) hr (gx_ok (N := N_are_unlike_names) (dsc := defScope st_are_unlike_names) x_are_unlike_names sc_are_unlike_names.nd (by decide +kernel) (by decide +kernel)) rfl B.n_all (by decide +kernel) (pi_list (pv 0)) (fun _ _ _ _ _ => (pg_name (i := 1) sc_are_unlike_names.nd rfl (.inl rfl))) (fun _ _ _ _ _ => pe_to (pe_g c_is_name g ((room_gx hr).mono (by decide)) pass0 (pa_cons (pv 1) pa_nil))))))))) (
        (pss_one (ps_ret pe_bl))) pss_nil)
      (pss_one (ps_ret (pe_cmpR (op_eq) (pe_lenSetS rfl B.n_len rfl B.n_set hr.hd (pv 0)) (pe_callB call_len_seq rfl B.n_len PySem.boot_len (pa_cons (pv 0) pa_nil)) (nomark _))))), ?_⟩
  rcases h with ⟨l, xs, rfl, hl, hk, hz, q⟩ | ⟨U, hU, ty, q⟩
  · refine ⟨.ref l, rfl, _, "list", rfl, .lst hl, "list", "list", rfl, rfl, _, rfl, iteNS rfl ⟨.ref l, rfl, l, rfl, ⟨xs, hl⟩, tT, ?_⟩⟩
    refine truth_list (xs := xs) (fun i H' => Grow [] H H' ∧ (xs.take i).all nameV = true) (fun H2 t => ⟨grow_tab tT t, rfl⟩) (fun i H' hp => hp.1.seq0 hl) (fun i x H' hx hp => ?_) fun H' hp => ?_
    · refine ⟨rfl, x, rfl, x, rfl, hp.1.tabs _ t1, ?_⟩
      have key : ∀ b, b = nameV x → ∀ H2, Grow [] H' H2 → (b = false → Q (.bl false) H2) ∧ (b = true → Grow [] H H2 ∧ (xs.take (i + 1)).all nameV = true) := fun b e H2 gr => by
        refine ⟨fun hb => ?_, fun hb => ⟨hp.1.trans gr, ?_⟩⟩
        · have eb : bookV xs = false := by
            unfold bookV
            rw [(List.all_eq_false.mpr ⟨x, List.mem_of_getElem? hx, by rw [← e, hb]; exact Bool.false_ne_true⟩ : xs.all nameV = false), Bool.false_and]
          rw [← eb]
          exact q H2 (hp.1.trans gr)
        · rw [List.take_add_one, hx, List.all_append, hp.2]
          show (true && (nameV x && true)) = true
          rw [← e, hb]
          rfl
      rcases (hk x (List.mem_of_getElem? hx)).grow hp.1 with ⟨z, rfl, hz'⟩ | ⟨U, nU, tU⟩
      · refine .inl ⟨z, rfl, hz', fun H2 gr => ?_⟩
        obtain ⟨k1, k2⟩ := key (isNm z) rfl H2 gr
        refine ⟨isNm z, rfl, ?_⟩
        cases hb : isNm z with
        | false =>
          rw [if_pos rfl]
          exact ⟨false, rfl, iteT (k1 hb)⟩
        | true =>
          rw [if_neg (fun z => Bool.noConfusion z)]
          exact k2 hb
      · refine .inr ⟨U, nU, tU, ?_⟩
        have e : nameV x = false := by
          cases hb : nameV x with
          | false => rfl
          | true =>
            obtain ⟨z, rfl⟩ := nameV_str x hb
            cases tU
            exact absurd rfl nU
        refine ⟨false, rfl, ?_⟩
        rw [if_pos rfl]
        exact ⟨false, rfl, iteT ((key false e.symm H' (Grow.refl _ _)).1 rfl)⟩
    · have hall : xs.all nameV = true := by
        have := hp.2
        rwa [List.take_length] at this
      have ex := strs_of nameV_str hall
      refine ⟨true, rfl, iteF ?_⟩
      refine ⟨.ref l, rfl, l, xs.map theStr, rfl, by rw [← ex]; exact hp.1.seq0 hl, by rw [List.length_map]; exact hz, ?_⟩
      refine ⟨.ref l, rfl, l, xs, rfl, .inl (hp.1.seq0 hl), ?_⟩
      have e : decide (V.int ((uq [] (xs.map theStr)).length : Nat) = V.int (xs.length : Nat)) = bookV xs := by
        unfold bookV
        rw [hall, Bool.true_and]
        have e1 : decide (V.int ((uq [] (xs.map theStr)).length : Nat) = V.int (xs.length : Nat)) = decide (((uq [] (xs.map theStr)).length : Int) = ((xs.map theStr).length : Int)) :=
          decide_eq_decide.mpr ⟨fun h => by rw [List.length_map]; exact V.int.inj h, fun h => by rw [List.length_map] at h; rw [h]⟩
        rw [e1, uq_same]
        exact decide_eq_decide.mpr (Iff.trans nodup_str.symm (by rw [← ex]))
      show rEq _ _ _ _
      refine ⟨rfl, ?_⟩
      rw [e]
      exact q H' hp.1
  · refine ⟨x, rfl, _, U, rfl, ty, U, "list", rfl, rfl, _, rfl, ?_⟩
    rw [decide_eq_false hU]
    exact iteT (iteT q)
end

section
variable {K : PySem.W.Frag}
/-! ### books -/
/-- a book -/
structure Bk (zs : List Str) : Prop where
  nm : zs.all isNm = true
  nd : zs.Nodup
  len : zs.length ≤ 200
theorem Bk.perm {zs ws : List Str} (b : Bk zs) (p : zs.Perm ws) : Bk ws :=
  ⟨by rw [List.all_eq_true] at *; exact fun x h => List.all_eq_true.mp b.nm x (p.mem_iff.mpr h), p.nodup_iff.mp b.nd, by rw [← p.length_eq]; exact b.len⟩
theorem Bk.v {zs : List Str} (b : Bk zs) : bookV (zs.map V.str) = true := by
  unfold bookV
  rw [decide_eq_true (nodup_str.mpr b.nd), Bool.and_true, List.all_map]
  exact b.nm
theorem Bk.short {zs : List Str} (b : Bk zs) {z : Str} (h : z ∈ zs) : z.length ≤ 8 := by
  have := List.all_eq_true.mp b.nm z h
  unfold isNm at this
  rw [Bool.and_eq_true, Bool.and_eq_true, decide_eq_true_iff, decide_eq_true_iff] at this
  exact this.1.2
theorem Bk.known {zs : List Str} (b : Bk zs) {H : Hp} : ∀ x ∈ zs.map V.str, Known K H x := fun x h => by
  obtain ⟨z, hz, rfl⟩ := List.mem_map.mp h
  exact .inl ⟨z, rfl, Nat.le_trans (b.short hz) (by decide)⟩
theorem nm_lt {z : Str} (h : isNm z = true) : ∀ c ∈ z.cps.toList, c < 0x110000 := fun c hc => by
  unfold isNm at h
  rw [Bool.and_eq_true] at h
  have := List.all_eq_true.mp h.2 c hc
  unfold nameC at this
  rw [Bool.and_eq_true, decide_eq_true_iff, decide_eq_true_iff] at this
  omega
theorem Bk.fine {zs : List Str} (b : Bk zs) {z : Str} (h : z ∈ zs) : Fine (.str z) 0 8 := .str (nm_lt (List.all_eq_true.mp b.nm z h)) (b.short h)
theorem fine_name {z : Str} (h1 : isNm z = true) : Fine (.str z) 0 8 := by
  refine .str (nm_lt h1) ?_
  unfold isNm at h1
  rw [Bool.and_eq_true, Bool.and_eq_true, decide_eq_true_iff, decide_eq_true_iff] at h1
  exact h1.1.2
theorem fine_names {zs : List Str} (hn : zs.all isNm = true) (hz : zs.length ≤ 200) : Fine (.list (zs.map PyData.str)) 1 1800 := Fine.list (n := 0) (m := 8) (fun d hd => by
  obtain ⟨z, h, rfl⟩ := List.mem_map.mp hd
  have h1 := List.all_eq_true.mp hn z h
  refine .str (nm_lt h1) ?_
  unfold isNm at h1
  rw [Bool.and_eq_true, Bool.and_eq_true, decide_eq_true_iff, decide_eq_true_iff] at h1
  exact h1.1.2) (by rw [List.length_map]; omega)
theorem all_perm {zs ws : List Str} (h : zs.all isNm = true) (p : ws.Perm zs) : ws.all isNm = true := List.all_eq_true.mpr fun x hx => List.all_eq_true.mp h x (p.mem_iff.mp hx)
theorem seqIndex_nat {v : Int} {n : Nat} (h0 : 0 ≤ v) (h : v < n) : seqIndex? v n = some v.toNat := by
  have e : seqIndex? v n = if (decide (0 ≤ (if v < 0 then v + n else v)) && decide ((if v < 0 then v + n else v) < n)) = true then some (if v < 0 then v + n else v).toNat else none := rfl
  rw [e, if_neg (by omega : ¬ v < 0), decide_eq_true h0, decide_eq_true h]
  rfl
end

section
variable {P : Program} {w : World} {K : PySem.W.Frag} {mg : Str → Option Value} {base : Heap}
/-! ### is_book -/
theorem ok_is_book {f c T1 T : Addr} {fd : FuncData} (D : DefIs K "is_book" "is_book" st_is_book f fd (.ref c))
    (c_are_unlike_names : Callee P w K mg base CX0 8 "are_unlike_names" ["thing"] (spUnlike K T1 T)) : FnG P w K mg base CX0 9 f fd ["thing"] (spUnlike K T1 T) := by
  refine D.ok0 (k := 8) sc_is_book (fun vs H Q E h => ?_) (fun A outer s H vs Q E g hr h => ?_)
  · obtain ⟨x, rfl, _⟩ := h
    rfl
  obtain ⟨x, rfl, t1, tT, h⟩ := h
  refine ⟨_,
      (pss_one (ps_ret (pe_g c_are_unlike_names g (hr.mono (by decide)) pass0 (pa_cons (pv 0) pa_nil)))), ?_⟩
  exact ⟨x, rfl, x, rfl, t1, tT, h⟩
end

section
variable {P : Program} {w : World} {K : PySem.W.Frag} {mg : Str → Option Value} {base : Heap}
/-! ### check_books -/
def spCheck (K : PySem.W.Frag) (T1 T : Addr) : Sp := fun vs H Q _ => ∃ (l m : Addr) (zs ws : List Str), vs = [.ref l, .ref m] ∧ TabG H T1 ∧ TabG H T ∧ SqL K H l (zs.map V.str) ∧ SqL K H m (ws.map V.str) ∧ Bk zs ∧ zs.Perm ws ∧ ∀ H', Grow [] H H' → Q V.non H'
theorem ok_check_books {f c T1 T : Addr} {fd : FuncData} (B : Nb mg) (D : DefIs K "check_books" "check_books" st_check_books f fd (.ref c))
    (c_is_book : Callee P w K mg base CX0 9 "is_book" ["thing"] (spUnlike K T1 T)) : FnG P w K mg base CX0 10 f fd ["book", "other"] (spCheck K T1 T) := by
  refine D.ok0 (k := 9) sc_check_books (fun vs H Q E h => ?_) (fun A outer s H vs Q E g hr h => ?_)
  · obtain ⟨l, m, zs, ws, rfl, _⟩ := h
    rfl
  obtain ⟨l, m, zs, ws, rfl, t1, tT, hl, hm, bz, pm, q⟩ := h
  have bw := bz.perm pm
  refine ⟨_,
      (pss_cons (ps_if (pt_not (pt_val (pe_g c_is_book g (hr.mono (by decide)) pass0 (pa_cons (pv 0) pa_nil)))) (
        (pss_one ps_dead)) pss_nil)
      (pss_cons (ps_if (pt_not (pt_val (pe_g c_is_book g (hr.mono (by decide)) pass0 (pa_cons (pv 1) pa_nil)))) (
        (pss_one ps_dead)) pss_nil)
      (pss_one (ps_if (pt_cmpR (op_neD hr.units) (pe_callB (cr_sortG (val := V.str) (enc := PyData.str) hr.units) rfl B.n_sorted (by decide +kernel) (pa_cons (pv 0) pa_nil)) (pe_callB (cr_sortG (val := V.str) (enc := PyData.str) hr.units) rfl B.n_sorted (by decide +kernel) (pa_cons (pv 1) pa_nil)) (nomark _)) (
        (pss_one ps_dead)) pss_nil)))), ?_⟩
  refine ⟨.ref l, rfl, .ref l, rfl, t1, tT, .inl ⟨l, _, rfl, hl, bz.known, by rw [List.length_map]; have := bz.len; omega, fun H1 g1 => ?_⟩⟩
  rw [bz.v]
  refine ⟨true, rfl, iteF ⟨.ref m, rfl, .ref m, rfl, g1.tabs _ t1, g1.tabs _ tT, .inl ⟨m, _, rfl, g1.seq0 hm, bw.known, by rw [List.length_map]; have := bw.len; omega, fun H2 g2 => ?_⟩⟩⟩
  rw [bw.v]
  have gg := g1.trans g2
  have fz : ∀ xs : List Str, Bk xs → Fine (.list (xs.map PyData.str)) 1 1800 := fun xs b => Fine.list (n := 0) (m := 8) (fun d hd => by
    obtain ⟨z, hz, rfl⟩ := List.mem_map.mp hd
    exact b.fine hz) (by rw [List.length_map]; have := b.len; omega)
  refine ⟨true, rfl, iteF ⟨.ref l, rfl, l, zs, rfl, gg.seq0 hl, fun z hz => ⟨.str z, by show 0 ≤ 60; decide⟩, alike_strs zs, sortable_strs zs, by have := bz.len; unfold sizeLine; omega, fun p1 n1 => ?_⟩⟩
  have g3 : Grow [] H (upd H2 p1 (.lst ((zs.mergeSort (PySem.W.dataLe false PyData.str)).map V.str))) := gg.trans (grow_new n1)
  refine ⟨.ref m, rfl, m, ws, rfl, g3.seq0 hm, fun z hz => ⟨.str z, by show 0 ≤ 60; decide⟩, alike_strs ws, sortable_strs ws, by have := bw.len; unfold sizeLine; omega, fun p2 n2 => ?_⟩
  have pz := List.mergeSort_perm zs (PySem.W.dataLe false PyData.str)
  have bs := bz.perm pz.symm
  rw [sort_same pm fun a b => toks_str] at g3 n2 ⊢
  have e1 : upd (upd H2 p1 (.lst ((ws.mergeSort (PySem.W.dataLe false PyData.str)).map V.str))) p2 (.lst ((ws.mergeSort (PySem.W.dataLe false PyData.str)).map V.str)) p1 = some (.lst ((ws.mergeSort (PySem.W.dataLe false PyData.str)).map V.str)) := by
    rw [upd_ne (ne_of_none upd_same n2)]
    exact upd_same
  have bq := bw.perm (List.mergeSort_perm ws (PySem.W.dataLe false PyData.str)).symm
  have f := fz _ bq
  refine ⟨_, _, dp_book (.inl (.inl e1)), dp_book (.inl (.inl upd_same)), f.shaped (by decide), f.shaped (by decide), ?_⟩
  rw [f.eqv]
  exact ⟨false, rfl, iteF (q _ (g3.trans (grow_new n2)))⟩
end

section
variable {P : Program} {w : World} {K : PySem.W.Frag} {mg : Str → Option Value} {base : Heap}
/-! ### places_of -/
def spPlaces (K : PySem.W.Frag) : Sp := fun vs H Q _ => ∃ (l : Addr) (zs : List Str), vs = [.ref l] ∧ SqL K H l (zs.map V.str) ∧ zs.Nodup ∧ zs.length ≤ 200 ∧
  ∀ D H' kvs, Fresh H D → Grow [] H H' → H' D = some (.dK kvs) → (∀ z ∈ zs, valV kvs (.inr z) = some (.int (zs.idxOf z : Nat))) → kvs.map Prod.fst = zs.map Sum.inr → Q (.ref D) H'
theorem ok_places_of {f c : Addr} {fd : FuncData} (B : Nb mg) (D : DefIs K "places_of" "places_of" st_places_of f fd (.ref c)) : FnG P w K mg base CX0 4 f fd ["book"] (spPlaces K) := by
  refine D.ok0 (k := 3) sc_places_of (fun vs H Q E h => ?_) (fun A outer s H vs Q E g hr h => ?_)
  · obtain ⟨l, zs, rfl, _⟩ := h
    rfl
  obtain ⟨l, zs, rfl, hl, nd, len, q⟩ := h
  refine ⟨_,
      (pss_one (ps_ret (pe_dc (own := [("place", 1), ("word", 2)]) (g := (gTup _ 2 (gCons (gName 1) (gCons (gName 2) gNil)))) (tt := tYes) rfl sc_places_of.nd (pi_enum rfl B.n_enumerate (pa_cons (pv 0) pa_nil)) (blkOk_by (N := N_places_of) (sc := defScope st_places_of) (by decide +kernel)) (fun _ _ _ _ _ => (pg_tup rfl (pgs_cons (pg_name (i := 1) sc_places_of.nd rfl (.inl rfl)) (pgs_cons (pg_name (i := 2) sc_places_of.nd rfl (.inl rfl)) pgs_nil)))) (fun _ _ _ _ _ => pts_nil) (fun _ _ _ _ _ => pe_to (pv 2)) (fun _ _ _ _ _ => pe_to (pv 1))))), ?_⟩
  refine ⟨.ref l, rfl, l, _, rfl, hl, fun D n => ?_⟩
  refine dc_it walk_enum (fun i H' => Grow [] H H' ∧ ∃ kvs, H' D = some (.dK kvs) ∧ kvs.length ≤ i ∧ kvs.map Prod.fst = (zs.take i).map Sum.inr ∧ ∀ (j : Nat) (z : Str), j < i → zs[j]? = some z → valV kvs (.inr z) = some (.int j)) ?_ (fun i H' _ h => h.1.seq0 hl) (fun i x H1 H2 hi hp hy => ?_) (fun H' hp => ?_)
  · exact ⟨grow_new n, [], upd_same, Nat.le_refl _, rfl, fun j z hj => absurd hj (Nat.not_lt_zero _)⟩
  · obtain ⟨gr, kvs, e, el, ek, hk⟩ := hp
    obtain ⟨T, x1, x2, rfl, nT, rfl, ei, ex⟩ := hy
    replace ex : (zs.map V.str)[i]? = some x2 := ex
    rw [List.getElem?_map] at ex
    cases ez : zs[i]? with
    | none => rw [ez] at ex; cases ex
    | some z =>
      rw [ez] at ex
      cases ex
      cases ei
      have gr2 : Grow [] H (upd H1 T (.tup [.int (i : Nat), .str z])) := gr.new nT
      have eD : upd H1 T (.tup [.int (i : Nat), .str z]) D = some (.dK kvs) := by rw [upd_ne (ne_of_none e nT)]; exact e
      refine ⟨T, _, rfl, .inl (.inl upd_same), rfl, _, _, rfl, _, _, rfl, rfl, rfl, ?_⟩
      refine ⟨.str z, rfl, .int i, rfl, kvs, .inr z, rfl, eD, by unfold sizeLine; rw [List.length_map] at hi; omega, gr2.put (fresh_none n) eD (fun ps z => by cases z), _, upd_same, ?_, ?_, fun j y hj hy => ?_⟩
      · have := put_len kvs (.inr z) (.int (i : Nat))
        omega
      · have nw : valV kvs (.inr z) = none := valV_none (by
          rw [ek]
          intro h
          obtain ⟨y, hy, e2⟩ := List.mem_map.mp h
          cases e2
          obtain ⟨j, hj⟩ := List.mem_iff_getElem?.mp hy
          rw [List.getElem?_take] at hj
          by_cases hji : j < i
          · rw [if_pos hji] at hj
            have := (List.getElem?_inj (List.getElem?_eq_some_iff.mp hj).1 nd).mp (hj.trans ez.symm)
            omega
          · rw [if_neg hji] at hj
            cases hj)
        rw [putK_new _ nw, List.map_append, ek, List.take_add_one, ez, List.map_append]
        rfl
      · rw [valV_put]
        by_cases hji : j = i
        · subst hji
          rw [ez] at hy
          cases hy
          rw [if_pos rfl]
        · have : y ≠ z := fun e2 => by
            subst e2
            exact hji ((List.getElem?_inj (List.getElem?_eq_some_iff.mp hy).1 nd).mp (hy.trans ez.symm))
          rw [if_neg (fun e2 => this (Sum.inr.inj e2))]
          exact hk j y (by omega) hy
  · obtain ⟨gr, kvs, e, el, ek, hk⟩ := hp
    refine q D H' kvs (fresh_none n) gr e (fun z hz => ?_) (by rw [ek, List.length_map, List.take_length])
    have h1 := List.idxOf_lt_length_of_mem hz
    exact hk _ z (by rw [List.length_map]; exact h1) (by rw [List.getElem?_eq_getElem h1, List.getElem_idxOf h1])
end

/-! ### pairs that stand otherwise -/
/-- the pairs whose first stands at k -/
def prsAt (lt : Str → Str → Bool) (zs : List Str) (a : Str) (k : Nat) : List (Str × Str) := ((zs.drop (k + 1)).filter (lt a)).map fun b => (a, b)
def prsTo (lt : Str → Str → Bool) (zs : List Str) : Nat → List (Str × Str)
  | 0 => []
  | k + 1 => prsTo lt zs k ++ prsAt lt zs (zs.getD k Str.empty) k
def later (ws : List Str) (a b : Str) : Bool := decide (ws.idxOf b < ws.idxOf a)
theorem prsAt_len (lt : Str → Str → Bool) (zs : List Str) (a : Str) (k : Nat) : (prsAt lt zs a k).length ≤ zs.length := by
  unfold prsAt
  rw [List.length_map]
  have h1 := List.length_filter_le (lt a) (zs.drop (k + 1))
  rw [List.length_drop] at h1
  omega
theorem prsTo_len (lt : Str → Str → Bool) (zs : List Str) : ∀ k, (prsTo lt zs k).length ≤ k * zs.length
  | 0 => Nat.zero_le _
  | k + 1 => by
    have h1 := prsTo_len lt zs k
    have h2 := prsAt_len lt zs (zs.getD k Str.empty) k
    rw [prsTo, List.length_append, Nat.succ_mul]
    omega

section
variable {P : Program} {w : World} {K : PySem.W.Frag} {mg : Str → Option Value} {base : Heap}
/-! ### pairs that stand otherwise -/
def spPairs (K : PySem.W.Frag) : Sp := fun vs H Q _ => ∃ (l m : Addr) (zs ws : List Str), vs = [.ref l, .ref m] ∧ SqL K H l (zs.map V.str) ∧ SqL K H m (ws.map V.str) ∧ Bk zs ∧ zs.Perm ws ∧
  ∀ D H', Fresh H D → Grow [] H H' → LstT K H' D ((prsTo (later ws) zs zs.length).map encP) → Q (.ref D) H'
theorem ok_pairs_turned {f c : Addr} {fd : FuncData} (B : Nb mg) (D : DefIs K "pairs_turned" "pairs_turned" st_pairs_turned f fd (.ref c))
    (c_places_of : Callee P w K mg base CX0 4 "places_of" ["book"] (spPlaces K)) : FnG P w K mg base CX0 5 f fd ["book", "other"] (spPairs K) := by
  refine D.ok0 (k := 4) sc_pairs_turned (fun vs H Q E h => ?_) (fun A outer s H vs Q E g hr h => ?_)
  · obtain ⟨l, m, zs, ws, rfl, _⟩ := h
    rfl
  obtain ⟨l, m, zs, ws, rfl, hl, hm, bz, pm, q⟩ := h
  have bw := bz.perm pm
  refine ⟨_,
      (pss_cons (ps_set (i := 2) sc_pairs_turned.nd rfl (.inr rfl) (pe_g c_places_of g (hr.mono (by decide)) pass0 (pa_cons (pv 1) pa_nil)))
      (pss_one (ps_ret (pe_lc2 (own := [("k", 3), ("a", 4), ("b", 5)]) (vs1 := [5]) (g := (gTup _ 2 (gCons (gName 3) (gCons (gName 4) gNil)))) (g1 := (gName 5)) (tt := tYes) rfl sc_pairs_turned.nd (pi_enum rfl B.n_enumerate (pa_cons (pv 0) pa_nil)) (blkOk_by (N := N_pairs_turned) (sc := defScope st_pairs_turned) (by decide +kernel)) (by decide) (fun _ _ _ _ _ => (pg_tup rfl (pgs_cons (pg_name (i := 3) sc_pairs_turned.nd rfl (.inl rfl)) (pgs_cons (pg_name (i := 4) sc_pairs_turned.nd rfl (.inl rfl)) pgs_nil)))) (fun _ _ _ _ _ => pts_nil) (fun _ _ _ _ _ => pi_to (pi_list (pe_slice sl_list (pv 0) (po_some (pe_op op_add (pv 3) pe_int)) po_none))) (fun _ _ _ _ _ => (pg_name (i := 5) sc_pairs_turned.nd rfl (.inl rfl))) (fun _ _ _ _ _ => pts_to (pts_one (pt_cmpR (op_gt) (pe_dget (hu_of hr) (pv 2) (pv 4) (fun _ _ => rfl)) (pe_dget (hu_of hr) (pv 2) (pv 5) (fun _ _ => rfl)) (nomark _)))) (fun _ _ _ _ _ => pe_to (pe_tup (pa_cons (pv 4) (pa_cons (pv 5) pa_nil)))))))), ?_⟩
  refine ⟨.ref m, rfl, m, ws, rfl, hm, bw.nd, bw.len, fun P0 H1 kvs nP g1 eP hP _ => ?_⟩
  refine ⟨.ref l, rfl, l, _, rfl, g1.seq0 hl, fun D n => ?_⟩
  refine lc2_it walk_enum (fun i H' => Grow [] H1 H' ∧ LstT K H' D ((prsTo (later ws) zs i).map encP)) ?_ (fun i H' _ h => h.1.seq0 (g1.seq0 hl)) (fun i x H2 H3 hi hp hy => ?_) (fun H' hp => ?_)
  · exact ⟨grow_new n, [], upd_same, .nil⟩
  · obtain ⟨gr, hD⟩ := hp
    obtain ⟨T, x1, x2, rfl, nT, rfl, ei, ex⟩ := hy
    replace ex : (zs.map V.str)[i]? = some x2 := ex
    rw [List.getElem?_map] at ex
    cases ez : zs[i]? with
    | none => rw [ez] at ex; cases ex
    | some a =>
      rw [ez] at ex
      cases ex
      cases ei
      refine ⟨T, _, rfl, .inl (.inl upd_same), rfl, _, _, rfl, _, _, rfl, rfl, rfl, ?_⟩
      have gr2 : Grow [] H1 (upd H2 T (.tup [.int (i : Nat), .str a])) := gr.new nT
      have hD2 : LstT K (upd H2 T (.tup [.int (i : Nat), .str a])) D ((prsTo (later ws) zs i).map encP) := hD.grow (grow_new nT) (lists_none _) (by simp)
      refine yes_if ⟨.ref l, rfl, .int i, rfl, _, _, rfl, rfl, _, rfl, l, _, rfl, gr2.seq0 (g1.seq0 hl), fun L nL => ⟨L, rfl, ⟨_, .inl (.inl upd_same)⟩, ?_⟩⟩
      have ec : cutV (zs.map V.str) (some ((i : Int) + 1)) none = (zs.drop (i + 1)).map V.str := by
        rw [cut_from, List.map_drop]
      rw [ec]
      have gr3 : Grow [] H1 (upd (upd H2 T (.tup [.int (i : Nat), .str a])) L (.lst ((zs.drop (i + 1)).map V.str))) := gr2.new nL
      refine in1_it (walk_list (xs := (zs.drop (i + 1)).map V.str)) (fun j H' => Grow [] H1 H' ∧ H' L = some (.lst ((zs.drop (i + 1)).map V.str)) ∧ LstT K H' D ((prsTo (later ws) zs i ++ (((zs.drop (i + 1)).take j).filter (later ws a)).map fun b => (a, b)).map encP)) ?_ (fun j H' _ h => .inl (.inl h.2.1)) (fun j x H4 H5 hj hp hy => ?_) (fun H' hp => ?_)
      · refine ⟨gr3, upd_same, ?_⟩
        rw [List.take_zero, List.filter_nil, List.map_nil, List.append_nil]
        exact hD2.grow (grow_new nL) (lists_none _) (by simp)
      · obtain ⟨gj, eL, hDj⟩ := hp
        obtain ⟨rfl, ex⟩ := hy
        rw [List.getElem?_map] at ex
        cases eb : (zs.drop (i + 1))[j]? with
        | none => rw [eb] at ex; cases ex
        | some b =>
          rw [eb] at ex
          cases ex
          have hb : b ∈ zs := List.mem_of_mem_drop (List.mem_of_getElem? eb)
          have ha : a ∈ zs := List.mem_of_getElem? ez
          refine ⟨rfl, ?_⟩
          have hDL : D ≠ L := by
            obtain ⟨_, e0, _⟩ := hD2
            exact ne_of_none e0 nL
          have eP5 := gj.keep P0 _ (by simp) eP fun ps z => by cases z
          have dg : ∀ z ∈ zs, DGet H5 P0 (.str z) (some (.int (ws.idxOf z : Nat))) := fun z hz => by
            rw [← hP z (pm.mem_iff.mp hz)]
            exact DGet.k (k := .inr z) eP5
          have ta : (zs.drop (i + 1)).take (j + 1) = (zs.drop (i + 1)).take j ++ [b] := by
            rw [List.take_add_one, eb]
            rfl
          refine ⟨.ref P0, rfl, .str a, rfl, P0, _, rfl, dg a ha, .ref P0, rfl, .str b, rfl, P0, _, rfl, dg b hb, _, _, rfl, rfl, _, rfl, ?_⟩
          rw [ta]
          by_cases hlt : ((ws.idxOf b : Nat) : Int) < (ws.idxOf a : Nat)
          · have lt : later ws a b = true := decide_eq_true (by omega)
            rw [decide_eq_true hlt]
            simp only [if_true]
            rw [show (prsTo (later ws) zs i ++ (((zs.drop (i + 1)).take j ++ [b]).filter (later ws a)).map fun b => (a, b)).map encP = (prsTo (later ws) zs i ++ (((zs.drop (i + 1)).take j).filter (later ws a)).map fun b => (a, b)).map encP ++ [encP (a, b)] by simp [List.filter_append, lt]]
            refine ⟨_, rfl, _, rfl, by show 2 ≤ sizeLine; decide, fun p np => ?_⟩
            have e5 : upd H5 p (.tup [.str a, .str b]) p = some (.tup [.str a, .str b]) := upd_same
            obtain ⟨acc, q1, q2, q3⟩ := hDj.push (grow_new np) (.tup e5 (.cons (dpT_str a) (.cons (dpT_str b) .nil)))
            refine ⟨acc, q1, ?_, (gj.new np).put (fresh_none n) q1 (fun ps z => by cases z), ?_, q3⟩
            · rw [q2, List.length_map, List.length_append, List.length_map]
              have h1 := prsTo_len (later ws) zs i
              have h2 := List.length_filter_le (later ws a) ((zs.drop (i + 1)).take j)
              have h3 : ((zs.drop (i + 1)).take j).length ≤ zs.length := by
                rw [List.length_take, List.length_drop]
                omega
              have h4 := bz.len
              have h5 : i * zs.length ≤ 200 * 200 := Nat.mul_le_mul (by rw [List.length_map] at hi; omega) h4
              unfold sizeLine
              omega
            · rw [upd_ne hDL.symm, upd_ne (ne_of_none eL np)]
              exact eL
          · have lt : ¬ later ws a b = true := fun z => hlt (by have := of_decide_eq_true z; omega)
            rw [decide_eq_false hlt]
            simp only [Bool.false_eq_true, if_false]
            rw [show ((zs.drop (i + 1)).take j ++ [b]).filter (later ws a) = ((zs.drop (i + 1)).take j).filter (later ws a) by simp [List.filter_append, lt]]
            exact ⟨gj, eL, hDj⟩
      · refine ⟨hp.1, ?_⟩
        have := hp.2.2
        rw [List.length_map, List.take_length] at this
        have e : zs.getD i Str.empty = a := by
          rw [List.getD_eq_getElem?_getD, ez]
          rfl
        rw [prsTo, e]
        exact this
  · obtain ⟨gr, hD⟩ := hp
    rw [List.length_map] at hD
    exact q D H' (g1.fresh0 n) (g1.trans gr) hD
end

section
variable {P : Program} {w : World} {K : PySem.W.Frag} {mg : Str → Option Value} {base : Heap}
/-! ### turned_pairs -/
def spTurned (K : PySem.W.Frag) (T1 T : Addr) : Sp := fun vs H Q _ => ∃ (l m : Addr) (zs ws : List Str), vs = [.ref l, .ref m] ∧ TabG H T1 ∧ TabG H T ∧ SqL K H l (zs.map V.str) ∧ SqL K H m (ws.map V.str) ∧ Bk zs ∧ zs.Perm ws ∧
  ∀ D H', Fresh H D → Grow [] H H' → LstT K H' D ((prsTo (later ws) zs zs.length).map encP) → Q (.ref D) H'
theorem ok_turned_pairs {f c T1 T : Addr} {fd : FuncData} (D : DefIs K "turned_pairs" "turned_pairs" st_turned_pairs f fd (.ref c))
    (c_check_books : Callee P w K mg base CX0 10 "check_books" ["book", "other"] (spCheck K T1 T)) (c_pairs_turned : Callee P w K mg base CX0 5 "pairs_turned" ["book", "other"] (spPairs K)) :
    FnG P w K mg base CX0 11 f fd ["book", "other"] (spTurned K T1 T) := by
  refine D.ok0 (k := 10) sc_turned_pairs (fun vs H Q E h => ?_) (fun A outer s H vs Q E g hr h => ?_)
  · obtain ⟨l, m, zs, ws, rfl, _⟩ := h
    rfl
  obtain ⟨l, m, zs, ws, rfl, t1, tT, hl, hm, bz, pm, q⟩ := h
  refine ⟨_,
      (pss_cons (ps_expr (pe_g c_check_books g (hr.mono (by decide)) pass0 (pa_cons (pv 0) (pa_cons (pv 1) pa_nil))))
      (pss_one (ps_ret (pe_g c_pairs_turned g (hr.mono (by decide)) pass0 (pa_cons (pv 0) (pa_cons (pv 1) pa_nil)))))), ?_⟩
  refine ⟨.ref l, rfl, .ref m, rfl, l, m, zs, ws, rfl, t1, tT, hl, hm, bz, pm, fun H1 g1 => ?_⟩
  exact ⟨.ref l, rfl, .ref m, rfl, l, m, zs, ws, rfl, g1.seq0 hl, g1.seq0 hm, bz, pm, fun D H2 fr g2 hD => q D H2 (g1.fresh (by simp) fr) (g1.trans g2) hD⟩
end

end Lw

namespace Lw
open PySem PySem.Spec PyProof.Rows L2 GxR Gx

/-! ### the pairs of two books, either way -/
theorem mem_prsTo {lt : Str → Str → Bool} {zs : List Str} {x : Str × Str} : ∀ {k : Nat}, k ≤ zs.length → (x ∈ prsTo lt zs k ↔ ∃ i j : Nat, i < k ∧ i < j ∧ zs[i]? = some x.1 ∧ zs[j]? = some x.2 ∧ lt x.1 x.2 = true)
  | 0, _ => by
    constructor
    · intro h
      cases h
    · rintro ⟨i, j, h, _⟩
      omega
  | k + 1, hk => by
    have hz : zs[k]? = some (zs.getD k Str.empty) := by
      rw [List.getD_eq_getElem?_getD, List.getElem?_eq_getElem (by omega)]
      rfl
    rw [prsTo, List.mem_append, mem_prsTo (k := k) (by omega)]
    constructor
    · rintro (⟨i, j, h1, h2⟩ | h)
      · exact ⟨i, j, by omega, h2⟩
      · unfold prsAt at h
        obtain ⟨b, hb, rfl⟩ := List.mem_map.mp h
        obtain ⟨hb, hlt⟩ := List.mem_filter.mp hb
        obtain ⟨j, hj⟩ := List.mem_iff_getElem?.mp hb
        rw [List.getElem?_drop] at hj
        exact ⟨k, k + 1 + j, by omega, by omega, hz, hj, hlt⟩
    · rintro ⟨i, j, h1, h2, h3, h4, h5⟩
      by_cases hi : i < k
      · exact .inl ⟨i, j, hi, h2, h3, h4, h5⟩
      · have e : i = k := by omega
        subst e
        rw [hz] at h3
        refine .inr ?_
        unfold prsAt
        have e := Option.some.inj h3
        refine List.mem_map.mpr ⟨x.2, List.mem_filter.mpr ⟨List.mem_iff_getElem?.mpr ⟨j - (i + 1), ?_⟩, by rw [e]; exact h5⟩, by rw [e]⟩
        rw [List.getElem?_drop, show i + 1 + (j - (i + 1)) = j by omega]
        exact h4
theorem idx_at {zs : List Str} (nd : zs.Nodup) {i : Nat} {a : Str} (h : zs[i]? = some a) : i = zs.idxOf a := by
  have hi := (List.getElem?_eq_some_iff.mp h).1
  have hm : a ∈ zs := List.mem_of_getElem? h
  have h1 := List.idxOf_lt_length_of_mem hm
  refine (List.getElem?_inj hi nd).mp ?_
  rw [h, List.getElem?_eq_getElem h1, List.getElem_idxOf h1]
theorem mem_prs {zs ws : List Str} (nd : zs.Nodup) {a b : Str} : (a, b) ∈ prsTo (later ws) zs zs.length ↔ a ∈ zs ∧ b ∈ zs ∧ zs.idxOf a < zs.idxOf b ∧ ws.idxOf b < ws.idxOf a := by
  rw [mem_prsTo (Nat.le_refl _)]
  constructor
  · rintro ⟨i, j, h1, h2, h3, h4, h5⟩
    have e1 := idx_at nd h3
    have e2 := idx_at nd h4
    exact ⟨List.mem_of_getElem? h3, List.mem_of_getElem? h4, by rw [← e1, ← e2]; exact h2, of_decide_eq_true h5⟩
  · rintro ⟨h1, h2, h3, h4⟩
    have l1 := List.idxOf_lt_length_of_mem h1
    have l2 := List.idxOf_lt_length_of_mem h2
    exact ⟨_, _, l1, h3, by rw [List.getElem?_eq_getElem l1, List.getElem_idxOf l1], by rw [List.getElem?_eq_getElem l2, List.getElem_idxOf l2], decide_eq_true h4⟩
theorem nd_prsTo {lt : Str → Str → Bool} {zs : List Str} (nd : zs.Nodup) : ∀ {k : Nat}, k ≤ zs.length → (prsTo lt zs k).Nodup
  | 0, _ => List.nodup_nil
  | k + 1, hk => by
    rw [prsTo, List.nodup_append]
    refine ⟨nd_prsTo nd (by omega), ?_, fun x hx y hy e => ?_⟩
    · unfold prsAt
      exact List.pairwise_map.mpr (((nd.sublist (List.drop_sublist _ _)).filter _).imp fun q e => q (Prod.mk.inj e).2)
    · subst e
      obtain ⟨i, j, h1, h2, h3, _⟩ := (mem_prsTo (by omega)).mp hx
      unfold prsAt at hy
      obtain ⟨b, hb, rfl⟩ := List.mem_map.mp hy
      have hz : zs[k]? = some (zs.getD k Str.empty) := by
        rw [List.getD_eq_getElem?_getD, List.getElem?_eq_getElem (by omega)]
        rfl
      have := (List.getElem?_inj (by omega) nd).mp (h3.trans hz.symm)
      omega
theorem prs_swap {zs ws : List Str} (nd : zs.Nodup) (pm : zs.Perm ws) : ((prsTo (later zs) ws ws.length).map fun p => (p.2, p.1)).Perm (prsTo (later ws) zs zs.length) := by
  have nw := pm.nodup_iff.mp nd
  refine (List.perm_ext_iff_of_nodup (List.pairwise_map.mpr ((nd_prsTo nw (Nat.le_refl _)).imp fun q e => q (Prod.ext (Prod.mk.inj e).2 (Prod.mk.inj e).1))) (nd_prsTo nd (Nat.le_refl _))).mpr fun x => ?_
  obtain ⟨a, b⟩ := x
  rw [mem_prs nd, List.mem_map]
  constructor
  · rintro ⟨⟨u, v⟩, h, e⟩
    cases e
    obtain ⟨h1, h2, h3, h4⟩ := (mem_prs nw).mp h
    exact ⟨pm.mem_iff.mpr h2, pm.mem_iff.mpr h1, h4, h3⟩
  · rintro ⟨h1, h2, h3, h4⟩
    exact ⟨(b, a), (mem_prs nw).mpr ⟨pm.mem_iff.mp h2, pm.mem_iff.mp h1, h4, h3⟩, rfl⟩
theorem prs_self {zs : List Str} (nd : zs.Nodup) : prsTo (later zs) zs zs.length = [] := by
  refine List.eq_nil_iff_forall_not_mem.mpr fun x h => ?_
  obtain ⟨a, b⟩ := x
  obtain ⟨_, _, h3, h4⟩ := (mem_prs nd).mp h
  omega
theorem fine_pairs {qs : List (Str × Str)} (h : ∀ p ∈ qs, isNm p.1 = true ∧ isNm p.2 = true) (hl : qs.length ≤ 40000) : Fine (.list (qs.map encP)) 2 760000 := by
  refine Fine.list (n := 1) (m := 18) (fun d hd => ?_) ?_
  · obtain ⟨⟨a, b⟩, hp, rfl⟩ := List.mem_map.mp hd
    obtain ⟨h1, h2⟩ := h _ hp
    refine Fine.tuple (n := 0) (m := 8) (fun d hd => ?_) (Nat.le_refl _)
    rcases List.mem_cons.mp hd with rfl | hd
    · exact fine_name h1
    · rw [List.mem_singleton.mp hd]
      exact fine_name h2
  · rw [List.length_map]
    omega
theorem prs_nm {zs ws : List Str} (bz : Bk zs) : ∀ p ∈ prsTo (later ws) zs zs.length, isNm p.1 = true ∧ isNm p.2 = true := fun p hp => by
  obtain ⟨h1, h2, _⟩ := (mem_prs bz.nd).mp hp
  exact ⟨List.all_eq_true.mp bz.nm _ h1, List.all_eq_true.mp bz.nm _ h2⟩
theorem prs_len {zs ws : List Str} (bz : Bk zs) : (prsTo (later ws) zs zs.length).length ≤ 40000 := by
  have h1 := prsTo_len (later ws) zs zs.length
  have h2 : zs.length * zs.length ≤ 200 * 200 := Nat.mul_le_mul bz.len bz.len
  omega
theorem fine_prs {zs ws : List Str} (bz : Bk zs) : Fine (.list ((prsTo (later ws) zs zs.length).map encP)) 2 760000 := fine_pairs (prs_nm bz) (prs_len bz)

/-! ### whole numbers -/
section
variable {P : Program} {w : World} {K : PySem.W.Frag} {mg : Str → Option Value} {base : Heap}
def spWhole (K : PySem.W.Frag) : Sp := fun vs H Q _ => ∃ i k : Int, vs = [.int i, .int k] ∧ Q (.bl (decide (k ≤ i))) H
theorem ok_is_whole {f c : Addr} {fd : FuncData} (B : Nb mg) (D : DefIs K "is_whole" "is_whole" st_is_whole f fd (.ref c)) : FnG P w K mg base CX0 1 f fd ["thing", "least"] (spWhole K) := by
  refine D.ok0 (k := 0) sc_is_whole (fun vs H Q E h => ?_) (fun A outer s H vs Q E g hr h => ?_)
  · obtain ⟨i, k, rfl, _⟩ := h
    rfl
  obtain ⟨i, k, rfl, q⟩ := h
  refine ⟨_,
      (pss_one (ps_ret (pe_and (pe_cmpR (op_isTyB) (pe_callTy call_type1 rfl B.n_type (by decide +kernel) (pa_cons (pv 0) pa_nil)) (pe_bltn (v := .ty "int") rfl B.n_int (by decide +kernel) rfl) (nomark _)) (pe_one (pe_cmpR (op_ge) (pv 0) (pv 1) (nomark _)))))), ?_⟩
  exact ⟨.int i, rfl, _, "int", rfl, .int i, "int", "int", rfl, rfl, _, rfl, iteT ⟨.int i, rfl, .int k, rfl, _, _, rfl, rfl, q⟩⟩
def spRoadsNo (K : PySem.W.Frag) : Sp := fun vs H Q _ => ∃ i : Int, vs = [.int i] ∧ 0 ≤ i ∧ Q .non H
theorem ok_check_roads {f c : Addr} {fd : FuncData} (B : Nb mg) (D : DefIs K "check_roads" "check_roads" st_check_roads f fd (.ref c))
    (c_is_whole : Callee P w K mg base CX0 1 "is_whole" ["thing", "least"] (spWhole K)) : FnG P w K mg base CX0 2 f fd ["thing"] (spRoadsNo K) := by
  refine D.ok0 (k := 1) sc_check_roads (fun vs H Q E h => ?_) (fun A outer s H vs Q E g hr h => ?_)
  · obtain ⟨i, rfl, _⟩ := h
    rfl
  obtain ⟨i, rfl, i0, q⟩ := h
  refine ⟨_,
      (pss_one (ps_if (pt_not (pt_val (pe_g c_is_whole g (hr.mono (by decide)) pass0 (pa_cons (pv 0) (pa_cons pe_int pa_nil))))) (
        (pss_one ps_dead)) pss_nil)), ?_⟩
  refine ⟨.int i, rfl, i, 0, rfl, true, ?_, iteF q⟩
  rw [decide_eq_true i0]
end
theorem truth_keys {P : Addr} {H1 : Hp} {sb : Bool} {g : TG} {te : TE} {vs : List Nat} {σ : L2.St} {Q : VK} {d : Addr} {o : Obj} {kvs : List (Key × V)} (Pv : Nat → Hp → Prop) (h0 : ∀ H2, Tabbed P H1 H2 → Pv 0 H2) (hl : ∀ i H, Pv i H → H d = some (.frz o (.dK kvs)))
    (step : ∀ i x H, (kvs.map fun q => kV q.1)[i]? = some x → Pv i H → g x (wipe σ vs) H fun σ2 H2 => wipe σ2 vs = wipe σ vs ∧ te σ2 H2 fun y H4 => ∃ b, y = .bl b ∧ if b = sb then Q (.bl sb) H4 else Pv (i + 1) H4)
    (fin : ∀ H, Pv kvs.length H → Q (.bl (!sb)) H) : rTruth P sb g te vs σ Q (Itk d o kvs) H1 := by
  have el : (kvs.map fun q => kV q.1).length = kvs.length := List.length_map _
  refine truth_by (items := kvs.map fun q => kV q.1) Pv h0 (fun i H x H' hp hy => ?_) (fun i H hi hp => ?_) (fun H hp => ?_) step fun H hp => fin H (by rw [← el]; exact hp)
  · obtain ⟨e, k, v, hk, rfl⟩ := hy
    exact ⟨e, by rw [List.getElem?_map, hk]; rfl⟩
  · exact ⟨hl i H hp, by rw [← el]; exact hi⟩
  · exact ⟨hl _ H hp, by rw [el]; exact Nat.le_refl _⟩
theorem tab_lock {H : Hp} {p T : Addr} {u o : HO} (t : TabG H T) (e : H p = some u) (hu : ∀ ps, u ≠ .tbl ps) : TabG (upd H p o) T := (grow_at (ex := [p]) e hu (by simp)).tabs T t
theorem grow_unlock {H H' : Hp} {p : Addr} {u : HO} {od : Obj} (e : H p = some u) (hu : ∀ ps, u ≠ .tbl ps) (g : Grow [] (upd H p (.frz od u)) H') (h' : H' p = some (.frz od u)) : Grow [] H (upd H' p u) := by
  refine ⟨fun b o n eb t => ?_, fun b t => ?_⟩
  · by_cases hb : b = p
    · rw [hb, e] at eb
      rw [hb, upd_same]
      exact eb
    · rw [upd_ne hb]
      exact g.keep b o n (by rw [upd_ne hb]; exact eb) t
  · exact (grow_at (ex := [p]) h' (fun ps z => by cases z) (by simp)).tabs b (g.tabs b (tab_lock t e hu))

/-! ### how many numberings there are by so many numbers: sets as bits -/
section
theorem bit_drop {W k : Nat} (h : W.testBit k = true) (j : Nat) : (W - 2 ^ k).testBit j = (W.testBit j && decide (j ≠ k)) := by
  have hd : W / 2 ^ k % 2 = 1 := by
    rw [Nat.testBit_eq_decide_div_mod_eq] at h
    exact of_decide_eq_true h
  obtain ⟨a, ha⟩ : ∃ a, W / 2 ^ k = 2 * a + 1 := ⟨W / 2 ^ k / 2, by omega⟩
  obtain ⟨b, hb⟩ : ∃ b, W % 2 ^ k = b := ⟨_, rfl⟩
  have lb : b < 2 ^ k := by rw [← hb]; exact Nat.mod_lt _ (Nat.two_pow_pos k)
  have e1 : W = 2 ^ k * (2 * a + 1) + b := by rw [← ha, ← hb]; exact (Nat.div_add_mod W (2 ^ k)).symm
  have e2 : W - 2 ^ k = 2 ^ k * (2 * a) + b := by rw [e1, Nat.mul_add, Nat.mul_one]; omega
  rw [e2, e1, Nat.testBit_two_pow_mul_add _ lb, Nat.testBit_two_pow_mul_add _ lb]
  by_cases hj : j < k
  · rw [if_pos hj, if_pos hj, decide_eq_true (by omega), Bool.and_true]
  · rw [if_neg hj, if_neg hj]
    by_cases e : j = k
    · subst e
      rw [Nat.sub_self, decide_eq_false (by simp), Bool.and_false]
      simp [Nat.testBit_zero]
    · obtain ⟨i, hi⟩ : ∃ i, j - k = i + 1 := ⟨j - k - 1, by omega⟩
      rw [hi, Nat.testBit_succ, Nat.testBit_succ, show 2 * a / 2 = a by omega, show (2 * a + 1) / 2 = a by omega, decide_eq_true e, Bool.and_true]
theorem and_none {W A : Nat} : W &&& A = 0 ↔ ∀ j, W.testBit j = true → A.testBit j = true → False := by
  constructor
  · intro h j h1 h2
    have := Nat.testBit_and W A j
    rw [h, h1, h2, Nat.zero_testBit] at this
    cases this
  · intro h
    refine Nat.eq_of_testBit_eq fun j => ?_
    rw [Nat.testBit_and, Nat.zero_testBit]
    cases h1 : W.testBit j with
    | false => rfl
    | true =>
      cases h2 : A.testBit j with
      | false => rfl
      | true => exact (h j h1 h2).elim
/-- one word's turn: it may have the new number where nothing that needs a greater one is there -/
def stepK (ab : Nat → Nat) (k : Nat) (f : Nat → Nat) (W : Nat) : Nat := if W.testBit k = true ∧ W &&& ab k = 0 then f W + f (W - 2 ^ k) else f W
def proc (ab : Nat → Nat) (f : Nat → Nat) (n : Nat) : Nat → Nat → Nat
  | 0 => f
  | d + 1 => stepK ab (n - 1 - d) (proc ab f n d)
def waysU (ab : Nat → Nat) (n : Nat) : Nat → Nat → Nat
  | 0 => fun W => if W = 0 then 1 else 0
  | u + 1 => fun W => proc ab (waysU ab n u) n n W - waysU ab n u W
theorem stepK_ge (ab : Nat → Nat) (k : Nat) (f : Nat → Nat) (W : Nat) : f W ≤ stepK ab k f W := by
  unfold stepK
  split <;> omega
theorem proc_ge (ab : Nat → Nat) (f : Nat → Nat) (n : Nat) (W : Nat) : ∀ d, f W ≤ proc ab f n d W
  | 0 => Nat.le_refl _
  | d + 1 => Nat.le_trans (proc_ge ab f n W d) (stepK_ge ab _ _ W)
theorem proc_from {ab : Nat → Nat} (hab : ∀ j i, (ab j).testBit i = true → j < i) {f : Nat → Nat} {n : Nat} : ∀ {d : Nat} {W : Nat}, d ≤ n → 0 < proc ab f n d W →
    ∃ V, 0 < f V ∧ (∀ j, V.testBit j = true → W.testBit j = true) ∧ ∀ j, W.testBit j = true → V.testBit j = false → n - d ≤ j ∧ W &&& ab j = 0
  | 0, W, _, h => ⟨W, h, fun _ h => h, fun j h1 h2 => by rw [h1] at h2; cases h2⟩
  | d + 1, W, hd, h => by
    have old : 0 < proc ab f n d W → ∃ V, 0 < f V ∧ (∀ j, V.testBit j = true → W.testBit j = true) ∧ ∀ j, W.testBit j = true → V.testBit j = false → n - (d + 1) ≤ j ∧ W &&& ab j = 0 := fun h => by
      obtain ⟨V, h1, h2, h3⟩ := proc_from hab (d := d) (W := W) (by omega) h
      exact ⟨V, h1, h2, fun j a b => ⟨by have := (h3 j a b).1; omega, (h3 j a b).2⟩⟩
    have h : 0 < stepK ab (n - 1 - d) (proc ab f n d) W := h
    unfold stepK at h
    by_cases c : W.testBit (n - 1 - d) = true ∧ W &&& ab (n - 1 - d) = 0
    · rw [if_pos c] at h
      by_cases h0 : 0 < proc ab f n d W
      · exact old h0
      · obtain ⟨V, h1, h2, h3⟩ := proc_from hab (f := f) (n := n) (d := d) (W := W - 2 ^ (n - 1 - d)) (by omega) (by omega)
        refine ⟨V, h1, fun j hj => ?_, fun j a b => ?_⟩
        · have := h2 j hj
          rw [bit_drop c.1, Bool.and_eq_true] at this
          exact this.1
        · by_cases e : j = n - 1 - d
          · subst e
            exact ⟨by omega, c.2⟩
          · obtain ⟨q1, q2⟩ := h3 j (by rw [bit_drop c.1, a, decide_eq_true e]; rfl) b
            refine ⟨by omega, and_none.mpr fun i w1 w2 => ?_⟩
            have := hab j i w2
            refine and_none.mp q2 i ?_ w2
            rw [bit_drop c.1, w1, decide_eq_true (show i ≠ n - 1 - d by omega)]
            rfl
    · rw [if_neg c] at h
      exact old h
theorem split_len (p : Nat → Bool) : ∀ l : List Nat, l.length = (l.filter p).length + (l.filter fun x => !p x).length
  | [] => rfl
  | x :: l => by
    have ih := split_len p l
    cases h : p x with
    | true => rw [List.filter_cons_of_pos h, List.filter_cons_of_neg (by simp [h]), List.length_cons, List.length_cons]; omega
    | false => rw [List.filter_cons_of_neg (by simp [h]), List.filter_cons_of_pos (by simp [h]), List.length_cons, List.length_cons]; omega
/-- where there is a way, no row of words that need greater numbers each is longer than there are numbers -/
theorem ways_chain {ab : Nat → Nat} (hab : ∀ j i, (ab j).testBit i = true → j < i) {n : Nat} : ∀ {u W : Nat} {ch : List Nat}, 0 < waysU ab n u W → (∀ a ∈ ch, W.testBit a = true) → ch.Pairwise (fun a b => (ab a).testBit b = true) → ch.length ≤ u
  | 0, W, ch, h, m, _ => by
    have h : 0 < if W = 0 then 1 else 0 := h
    have w0 : W = 0 := by
      by_cases e : W = 0
      · exact e
      · rw [if_neg e] at h
        cases h
    cases ch with
    | nil => exact Nat.le_refl _
    | cons a ch =>
      have := m a List.mem_cons_self
      rw [w0, Nat.zero_testBit] at this
      cases this
  | u + 1, W, ch, h, m, pw => by
    have h : 0 < proc ab (waysU ab n u) n n W - waysU ab n u W := h
    obtain ⟨V, h1, h2, h3⟩ := proc_from hab (f := waysU ab n u) (n := n) (d := n) (W := W) (Nat.le_refl _) (by omega)
    have l1 := ways_chain hab (u := u) (W := V) (ch := ch.filter fun a => V.testBit a) h1 (fun a ha => (List.mem_filter.mp ha).2) (pw.filter _)
    have l2 : (ch.filter fun x => !V.testBit x).length ≤ 1 := by
      have pw2 := pw.filter (fun x => !V.testBit x)
      have m2 : ∀ a ∈ ch.filter (fun x => !V.testBit x), W.testBit a = true ∧ W &&& ab a = 0 := fun a ha => by
        obtain ⟨q1, q2⟩ := List.mem_filter.mp ha
        exact ⟨m a q1, (h3 a (m a q1) (by simpa using q2)).2⟩
      generalize ch.filter (fun x => !V.testBit x) = l at pw2 m2
      match l, pw2, m2 with
      | [], _, _ => exact Nat.zero_le _
      | [_], _, _ => exact Nat.le_refl _
      | a :: b :: l, pw2, m2 => exact (and_none.mp (m2 a (by simp)).2 b (m2 b (by simp)).1 ((List.pairwise_cons.mp pw2).1 b (by simp))).elim
    have := split_len (fun a => V.testBit a) ch
    omega
/-- a set of the first n -/
def setOf (p : Nat → Bool) : Nat → Nat
  | 0 => 0
  | n + 1 => (if p n = true then 2 ^ n * 1 else 2 ^ n * 0) + setOf p n
theorem setOf_lt (p : Nat → Bool) : ∀ n, setOf p n < 2 ^ n
  | 0 => Nat.one_pos
  | n + 1 => by
    have := setOf_lt p n
    rw [setOf, Nat.pow_succ]
    split <;> omega
theorem setOf_bit (p : Nat → Bool) : ∀ n j, (setOf p n).testBit j = (decide (j < n) && p j)
  | 0, j => by
    show (0 : Nat).testBit j = _
    rw [Nat.zero_testBit, decide_eq_false (by omega), Bool.false_and]
  | n + 1, j => by
    have lt := setOf_lt p n
    have ih := setOf_bit p n j
    rw [setOf]
    cases hp : p n with
    | true =>
      rw [if_pos rfl, Nat.testBit_two_pow_mul_add _ lt, ih]
      by_cases h : j < n
      · rw [if_pos h, decide_eq_true h, decide_eq_true (by omega)]
      · rw [if_neg h]
        by_cases e : j = n
        · subst e
          rw [Nat.sub_self, decide_eq_true (Nat.lt_succ_self _), hp]
          rfl
        · rw [decide_eq_false (by omega), Bool.false_and]
          obtain ⟨i, hi⟩ : ∃ i, j - n = i + 1 := ⟨j - n - 1, by omega⟩
          rw [hi, Nat.testBit_succ]
          exact Nat.zero_testBit _
    | false =>
      rw [if_neg (by simp), Nat.mul_zero, Nat.zero_add, ih]
      by_cases h : j < n
      · rw [decide_eq_true h, decide_eq_true (by omega)]
      · by_cases e : j = n
        · subst e
          rw [hp, Bool.and_false, Bool.and_false]
        · rw [decide_eq_false h, decide_eq_false (by omega)]
theorem setOf_eq {p q : Nat → Bool} {n : Nat} (h : ∀ j, j < n → p j = q j) : setOf p n = setOf q n := by
  refine Nat.eq_of_testBit_eq fun j => ?_
  rw [setOf_bit, setOf_bit]
  by_cases hj : j < n
  · rw [h j hj]
  · rw [decide_eq_false hj]
    rfl
/-- levels, each of which has a word, are a way -/
theorem ways_levels {ab lev : Nat → Nat} {n L : Nat} (rise : ∀ a b, a < n → b < n → (ab a).testBit b = true → lev a < lev b) (low : ∀ a, a < n → 1 ≤ lev a) (some_ : ∀ u, u < L → ∃ a, a < n ∧ lev a = u + 1) :
    ∀ {u : Nat}, u ≤ L → 0 < waysU ab n u (setOf (fun k => decide (lev k ≤ u)) n)
  | 0, _ => by
    have e : setOf (fun k => decide (lev k ≤ 0)) n = 0 := by
      refine Nat.eq_of_testBit_eq fun j => ?_
      rw [setOf_bit, Nat.zero_testBit]
      by_cases hj : j < n
      · have := low j hj
        rw [decide_eq_false (by omega : ¬ lev j ≤ 0), Bool.and_false]
      · rw [decide_eq_false hj, Bool.false_and]
    show 0 < if setOf _ n = 0 then 1 else 0
    rw [if_pos e]
    exact Nat.one_pos
  | u + 1, hu => by
    have ih := ways_levels (ab := ab) rise low some_ (u := u) (by omega)
    obtain ⟨f, hf⟩ : ∃ f, waysU ab n u = f := ⟨_, rfl⟩
    let X : Nat → Nat := fun d => setOf (fun k => decide (lev k ≤ u) || (decide (lev k = u + 1) && decide (n - d ≤ k))) n
    have xb : ∀ d j, (X d).testBit j = (decide (j < n) && (decide (lev j ≤ u) || (decide (lev j = u + 1) && decide (n - d ≤ j)))) := fun d j => setOf_bit _ n j
    have x0 : X 0 = setOf (fun k => decide (lev k ≤ u)) n := setOf_eq fun j hj => by
      rw [decide_eq_false (by omega : ¬ n - 0 ≤ j), Bool.and_false, Bool.or_false]
    have xn : X n = setOf (fun k => decide (lev k ≤ u + 1)) n := setOf_eq fun j hj => by
      rw [decide_eq_true (by omega : n - n ≤ j), Bool.and_true]
      by_cases h1 : lev j ≤ u
      · rw [decide_eq_true h1, decide_eq_true (by omega : lev j ≤ u + 1)]
        rfl
      · rw [decide_eq_false h1, Bool.false_or]
        exact decide_eq_decide.mpr (by omega)
    have main : ∀ d, d ≤ n → f (X 0) ≤ proc ab f n d (X d) ∧ ((∃ a, a < n ∧ lev a = u + 1 ∧ n - d ≤ a) → f (X d) + f (X 0) ≤ proc ab f n d (X d)) := by
      intro d
      induction d with
      | zero =>
        intro _
        exact ⟨Nat.le_refl _, fun ⟨a, h1, _, h3⟩ => by omega⟩
      | succ d ihd =>
        intro hd
        obtain ⟨i1, i2⟩ := ihd (by omega)
        by_cases hk : lev (n - 1 - d) = u + 1
        · have b1 : (X (d + 1)).testBit (n - 1 - d) = true := by
            rw [xb, decide_eq_true (by omega : n - 1 - d < n), decide_eq_true hk, decide_eq_true (by omega : n - (d + 1) ≤ n - 1 - d), Bool.and_true, Bool.or_true]
            rfl
          have b2 : X (d + 1) - 2 ^ (n - 1 - d) = X d := by
            refine Nat.eq_of_testBit_eq fun j => ?_
            rw [bit_drop b1, xb, xb]
            by_cases e : j = n - 1 - d
            · subst e
              rw [decide_eq_false (by simp : ¬ (n - 1 - d ≠ n - 1 - d)), Bool.and_false, decide_eq_false (by omega : ¬ lev (n - 1 - d) ≤ u), decide_eq_false (by omega : ¬ n - d ≤ n - 1 - d), Bool.and_false, Bool.or_false, Bool.and_false]
            · rw [decide_eq_true e, Bool.and_true, show decide (n - (d + 1) ≤ j) = decide (n - d ≤ j) from decide_eq_decide.mpr (by omega)]
          have b3 : X (d + 1) &&& ab (n - 1 - d) = 0 := and_none.mpr fun j w1 w2 => by
            rw [xb, Bool.and_eq_true, Bool.or_eq_true, Bool.and_eq_true] at w1
            have hj := of_decide_eq_true w1.1
            have := rise (n - 1 - d) j (by omega) hj w2
            rcases w1.2 with q | q
            · have := of_decide_eq_true q; omega
            · have := of_decide_eq_true q.1; omega
          have e : proc ab f n (d + 1) (X (d + 1)) = proc ab f n d (X (d + 1)) + proc ab f n d (X d) := by
            show stepK ab (n - 1 - d) (proc ab f n d) (X (d + 1)) = _
            unfold stepK
            rw [if_pos ⟨b1, b3⟩, b2]
          have m := proc_ge ab f n (X (d + 1)) d
          rw [e]
          exact ⟨by omega, fun _ => by omega⟩
        · have e : X (d + 1) = X d := setOf_eq fun j hj => by
            by_cases e : j = n - 1 - d
            · subst e
              rw [decide_eq_false hk, Bool.false_and, Bool.false_and]
            · rw [show decide (n - (d + 1) ≤ j) = decide (n - d ≤ j) from decide_eq_decide.mpr (by omega)]
          have m := stepK_ge ab (n - 1 - d) (proc ab f n d) (X d)
          have e2 : proc ab f n (d + 1) (X (d + 1)) = stepK ab (n - 1 - d) (proc ab f n d) (X d) := by rw [e]; rfl
          rw [e2, e]
          refine ⟨by omega, fun ⟨a, h1, h2, h3⟩ => ?_⟩
          have ha : a ≠ n - 1 - d := fun z => hk (z ▸ h2)
          have := i2 ⟨a, h1, h2, by omega⟩
          omega
    obtain ⟨a, a1, a2⟩ := some_ u (by omega)
    have := (main n (Nat.le_refl _)).2 ⟨a, a1, a2, by omega⟩
    rw [x0, xn] at this
    show 0 < proc ab (waysU ab n u) n n _ - waysU ab n u _
    rw [hf] at ih ⊢
    omega
end

end Lw

namespace Lw
open PySem PySem.Spec PyProof.Rows L2 GxR Gx
section
variable {P : Program} {w : World} {K : PySem.W.Frag} {mg : Str → Option Value} {base : Heap}
/-! ### with_one_number_more, ways_by_numbers -/
/-- a row of numbers, told by a function -/
def rowV (f : Nat → Nat) (N : Nat) : List V := (List.range N).map fun j => V.int (f j : Nat)
theorem rowV_len (f : Nat → Nat) (N : Nat) : (rowV f N).length = N := by unfold rowV; rw [List.length_map, List.length_range]
theorem rowV_at {f : Nat → Nat} {N j : Nat} (h : j < N) : (rowV f N)[j]? = some (V.int (f j : Nat)) := by
  unfold rowV
  rw [List.getElem?_map, List.getElem?_range h]
  rfl
theorem rowV_congr {f g : Nat → Nat} {N : Nat} (h : ∀ j, j < N → f j = g j) : rowV f N = rowV g N := List.map_congr_left fun j hj => by rw [h j (List.mem_range.mp hj)]
theorem rowV_set {f : Nat → Nat} {N W v : Nat} : (rowV f N).set W (.int (v : Nat)) = rowV (fun j => if j = W then v else f j) N := by
  refine List.ext_getElem? fun j => ?_
  rw [List.getElem?_set]
  by_cases hj : j < N
  · rw [rowV_at hj, rowV_at hj]
    by_cases e : W = j
    · rw [if_pos e, rowV_len, if_pos (by omega), if_pos e.symm]
    · rw [if_neg e, if_neg (fun z => e z.symm)]
  · rw [List.getElem?_eq_none (by rw [rowV_len]; omega), List.getElem?_eq_none (by rw [rowV_len]; omega)]
    split
    · rw [rowV_len, if_neg (by omega)]
    · rfl
theorem bitAnd_nn (x y : Nat) : Builtin.bitAnd (x : Int) (y : Int) = ((x &&& y : Nat) : Int) := by
  unfold Builtin.bitAnd
  rw [decide_eq_true (by omega : (0 : Int) ≤ (x : Int)), decide_eq_true (by omega : (0 : Int) ≤ (y : Int))]
  rfl
theorem bit_test (W k : Nat) : decide (V.int (Builtin.bitAnd ((W : Int) / 2 ^ k) 1) = V.int 1) = W.testBit k := by
  have e : Builtin.bitAnd ((W : Int) / 2 ^ k) 1 = ((W / 2 ^ k % 2 : Nat) : Int) := by
    have h1 : (W : Int) / 2 ^ k = ((W / 2 ^ k : Nat) : Int) := by rw [Int.natCast_ediv, Int.natCast_pow]; rfl
    rw [h1, ← Nat.and_one_is_mod]
    exact bitAnd_nn _ 1
  rw [e, Nat.testBit_eq_decide_div_mod_eq]
  exact decide_eq_decide.mpr ⟨fun h => by have := V.int.inj h; omega, fun h => by rw [h]; rfl⟩
theorem and_test (W A : Nat) : decide (V.int (Builtin.bitAnd (W : Int) (A : Int)) = V.int 0) = decide (W &&& A = 0) := by
  rw [bitAnd_nn]
  exact decide_eq_decide.mpr ⟨fun h => by have := V.int.inj h; omega, fun h => by rw [h]; rfl⟩
def spMore (K : PySem.W.Frag) : Sp := fun vs H Q _ => ∃ (c a : Addr) (f ab : Nat → Nat) (n : Nat), vs = [.ref c, .ref a] ∧ n ≤ 12 ∧ H c = some (.lst (rowV f (2 ^ n))) ∧ H a = some (.lst (rowV ab n)) ∧
  ∀ D H', Fresh H D → Grow [] H H' → H' D = some (.lst (rowV (fun W => proc ab f n n W - f W) (2 ^ n))) → Q (.ref D) H'
theorem ok_with_one_number_more {f c : Addr} {fd : FuncData} (B : Nb mg) (D : DefIs K "with_one_number_more" "with_one_number_more" st_with_one_number_more f fd (.ref c)) : FnG P w K mg base CX0 4 f fd ["counts", "above"] (spMore K) := by
  refine D.ok0 (k := 3) sc_with_one_number_more (fun vs H Q E h => ?_) (fun A outer s H vs Q E g hr h => ?_)
  · obtain ⟨c, a, f, ab, n, rfl, _⟩ := h
    rfl
  obtain ⟨c0, a0, f0, ab, n, rfl, n12, ec, ea, q⟩ := h
  refine ⟨_,
      (pss_cons (ps_set (i := 2) sc_with_one_number_more.nd rfl (.inr rfl) (pe_callTy call_list_of rfl B.n_list (by decide +kernel) (pa_cons (pv 0) pa_nil)))
      (pss_cons (ps_for PassesOwn.never rfl (pi_revR rfl B.n_reversed (prg_1 rfl B.n_range (pe_callB call_len_seq rfl B.n_len PySem.boot_len (pa_cons (pv 1) pa_nil)))) (pg_name (i := 3) sc_with_one_number_more.nd rfl (.inl rfl)) (
        (pss_one (ps_for PassesOwn.never rfl (pi_range1 rfl B.n_range (pa_cons (pe_callB call_len_seq rfl B.n_len PySem.boot_len (pa_cons (pv 0) pa_nil)) pa_nil)) (pg_name (i := 4) sc_with_one_number_more.nd rfl (.inl rfl)) (
          (pss_one (ps_if (PW.pt (pw_and (pt_cmpR (op_eq) (pe_op op_and (pe_op op_shr (pv 4) (pv 3)) pe_int) pe_int (nomark _)) (pw_and1 (pt_cmpR (op_eq) (pe_op op_and (pv 4) (pe_ix ix_list (pv 1) (pv 3) (fun _ _ => rfl))) pe_int (nomark _))))) (
            (pss_one (ps_augS (pv 2) (pv 4) get_list (pe_ix ix_list (pv 2) (pe_op op_sub (pv 4) (pe_op op_shl pe_int (pv 3))) (fun _ _ => rfl)) ip_add set_list))) pss_nil)))))))
      (pss_one (ps_ret (pe_lc (own := [("words", 4)]) (tt := tYes) (g := (gName 4)) rfl sc_with_one_number_more.nd (pi_range1 rfl B.n_range (pa_cons (pe_callB call_len_seq rfl B.n_len PySem.boot_len (pa_cons (pv 0) pa_nil)) pa_nil)) (blkOk_by (N := N_with_one_number_more) (sc := defScope st_with_one_number_more) (by decide +kernel)) (fun _ _ _ _ _ => (pg_name (i := 4) sc_with_one_number_more.nd rfl (.inl rfl))) (fun _ _ _ _ _ => pts_nil) (fun _ _ _ _ _ => pe_to (pe_op op_sub (pe_ix ix_list (pv 2) (pv 4) (fun _ _ => rfl)) (pe_ix ix_list (pv 0) (pv 4) (fun _ _ => rfl))))))))), ?_⟩
  have N12 : 2 ^ n ≤ 2 ^ 12 := Nat.pow_le_pow_right (by decide) n12
  have N12' : 2 ^ n ≤ 4096 := N12
  clear N12
  generalize 2 ^ n = N at ec q N12'
  refine ⟨.ref c0, rfl, c0, _, rfl, .inl (.inl (.inl ec)), fun T nT => ?_⟩
  have gT := grow_new (ex := []) (o := .lst (rowV f0 (N))) nT
  refine ⟨.ref a0, rfl, a0, _, rfl, .inl (.inl (.inl (gT.lst (by simp) ea))), ?_⟩
  rw [rowV_len]
  refine ⟨(n : Int), rfl, by decide, by decide, by omega, by omega, ?_⟩
  rw [show ((n : Int) - 0).toNat = n by omega]
  refine for_it walk_rangeC (fun d σ H' => ∃ x3 x4 : Option V, σ = [some (.ref c0), some (.ref a0), some (.ref T), x3, x4] ∧ Grow [] H H' ∧ H' T = some (.lst (rowV (proc ab f0 n d) (N)))) ⟨none, none, rfl, gT, upd_same⟩
    (fun _ _ _ _ _ => trivial) (fun d x σ H2 H3 hd hp hy => ?_) (fun σ H2 hp => ?_)
  · obtain ⟨x3, x4, rfl, g2, eT⟩ := hp
    obtain ⟨rfl, rfl⟩ := hy
    have hd : d < n := hd
    obtain ⟨k, hk, hkn⟩ : ∃ k : Nat, (0 : Int) + (n : Int) - 1 + (d : Nat) * (-1) = (k : Nat) ∧ k = n - 1 - d := ⟨n - 1 - d, by omega, rfl⟩
    dsimp only
    rw [hk]
    obtain ⟨gg, hg⟩ : ∃ gg, proc ab f0 n d = gg := ⟨_, rfl⟩
    have hg1 : ∀ W, proc ab f0 n (d + 1) W = stepK ab k gg W := fun W => by rw [hkn, ← hg]; rfl
    rw [hg] at eT
    have ec2 := g2.lst (by simp) ec
    refine ⟨.ref c0, rfl, c0, _, rfl, .inl (.inl (.inl ec2)), ?_⟩
    rw [rowV_len]
    refine ⟨(N : Int), rfl, by omega, by omega, ?_⟩
    rw [Int.toNat_natCast]
    refine for_it walk_range (fun W σ H' => ∃ x4 : Option V, σ = [some (.ref c0), some (.ref a0), some (.ref T), some (.int (k : Nat)), x4] ∧ Grow [] H H' ∧ H' T = some (.lst (rowV (fun j => if j < W then stepK ab k gg j else gg j) (N))))
      ⟨x4, rfl, g2, by rw [eT]; exact congrArg (fun z => some (HO.lst z)) (rowV_congr fun j _ => by rw [if_neg (by omega)])⟩
      (fun _ _ _ _ _ => trivial) (fun W x σ H4 H5 hW hp4 hy => ?_) (fun σ H4 hp4 => ?_)
    · obtain ⟨x4, rfl, g4, e4⟩ := hp4
      obtain ⟨rfl, rfl⟩ := hy
      have hW : W < N := hW
      have ea4 := g4.lst (by simp) ea
      have aA : atI (rowV ab n) (k : Nat) = some (.int (ab k : Nat)) := atI_nat (rowV_at (by omega))
      have keep : ∀ {v : Nat}, v = stepK ab k gg W → rowV (fun j => if j = W then v else if j < W then stepK ab k gg j else gg j) (N) = rowV (fun j => if j < W + 1 then stepK ab k gg j else gg j) (N) := fun {v} hv => rowV_congr fun j _ => by
        by_cases e : j = W
        · subst e
          rw [if_pos rfl, if_pos (Nat.lt_succ_self _), hv]
        · rw [if_neg e]
          by_cases l : j < W
          · rw [if_pos l, if_pos (by omega)]
          · rw [if_neg l, if_neg (by omega)]
      have same : gg W = stepK ab k gg W → rowV (fun j => if j < W then stepK ab k gg j else gg j) (N) = rowV (fun j => if j < W + 1 then stepK ab k gg j else gg j) (N) := fun hv => rowV_congr fun j _ => by
        by_cases e : j = W
        · subst e
          rw [if_neg (Nat.lt_irrefl _), if_pos (Nat.lt_succ_self _), hv]
        · by_cases l : j < W
          · rw [if_pos l, if_pos (by omega)]
          · rw [if_neg l, if_neg (by omega)]
      dsimp only
      rw [show (0 : Int) + (W : Int) = (W : Nat) by omega]
      refine ⟨.int (W : Nat), rfl, .int (k : Nat), rfl, _, _, rfl, rfl, by omega, _, _, rfl, rfl, rfl, ?_⟩
      rw [Int.toNat_natCast, bit_test]
      refine ⟨_, rfl, ite2 (fun c1 => ?_) fun c1 => ?_⟩
      · refine ⟨.int (W : Nat), rfl, .ref a0, rfl, .int (k : Nat), rfl, a0, _, _, _, rfl, rfl, .inl (.inl ea4), aA, _, _, rfl, rfl, rfl, ?_⟩
        rw [and_test]
        refine ⟨_, rfl, ite2 (fun c2 => ?_) fun c2 => ?_⟩
        · have c2 := of_decide_eq_true c2
          have hge : 2 ^ k ≤ W := Nat.ge_two_pow_of_testBit c1
          have hp2 := Nat.two_pow_pos k
          have hsm : W - 2 ^ k < N := Nat.lt_of_le_of_lt (Nat.sub_le _ _) hW
          have hvV : (if W - 2 ^ k < W then stepK ab k gg (W - 2 ^ k) else gg (W - 2 ^ k)) = gg (W - 2 ^ k) := by
            rw [if_pos (by omega)]
            unfold stepK
            rw [if_neg fun z => by
              have := z.1
              rw [bit_drop c1, decide_eq_false (by simp), Bool.and_false] at this
              cases this]
          have pk : (1 : Int) * 2 ^ ((k : Int)).toNat = ((2 ^ k : Nat) : Int) := by rw [Int.one_mul, Int.toNat_natCast, Int.natCast_pow]; rfl
          have aV : atI (rowV (fun j => if j < W then stepK ab k gg j else gg j) N) ((W : Int) - 1 * 2 ^ ((k : Int)).toNat) = some (.int (gg (W - 2 ^ k) : Nat)) := by
            rw [pk, show (W : Int) - ((2 ^ k : Nat) : Int) = ((W - 2 ^ k : Nat) : Int) by omega, atI_nat (rowV_at hsm), hvV]
          have aW : (rowV (fun j => if j < W then stepK ab k gg j else gg j) N)[((W : Nat) : Int).toNat]? = some (.int (gg W : Nat)) := by
            rw [Int.toNat_natCast, rowV_at hW, if_neg (Nat.lt_irrefl W)]
          have iW : ixN (rowV (fun j => if j < W then stepK ab k gg j else gg j) N).length (W : Int) = some W := by
            unfold ixN
            rw [rowV_len, if_pos (by omega), if_pos (by omega), Int.toNat_natCast]
          refine ⟨.ref T, rfl, .int (W : Nat), rfl, T, _, (W : Int), _, rfl, rfl, .inl (.inl e4), by omega, aW, .ref T, rfl, .int (W : Nat), rfl, .int (k : Nat), rfl, _, _, rfl, rfl, ⟨by omega, by omega, by decide⟩, _, _, rfl, rfl, T, _, _, _, rfl, rfl, .inl (.inl e4), aV, _, _, rfl, rfl, T, _, (W : Int), W, rfl, rfl, e4, iW, ?_⟩
          refine ⟨_, rfl, g4.put (fresh_none nT) e4 (fun ps z => by cases z), ?_⟩
          rw [upd_same]
          refine congrArg (fun z => some (HO.lst z)) ?_
          refine Eq.trans ?_ (keep (v := gg W + gg (W - 2 ^ k)) ?_)
          · rw [← rowV_set, Int.natCast_add]
          · unfold stepK
            rw [if_pos ⟨c1, c2⟩]
        · refine ⟨_, rfl, g4, ?_⟩
          rw [e4, same]
          unfold stepK
          rw [if_neg fun z => c2 (decide_eq_true z.2)]
      · refine ⟨_, rfl, g4, ?_⟩
        rw [e4, same]
        unfold stepK
        rw [if_neg fun z => c1 z.1]
    · obtain ⟨x4, rfl, g4, e4⟩ := hp4
      refine ⟨_, _, rfl, g4, ?_⟩
      rw [e4]
      exact congrArg (fun z => some (HO.lst z)) (rowV_congr fun j hj => by rw [if_pos hj, hg1])
  · obtain ⟨x3, x4, rfl, g2, eT⟩ := hp
    have ec2 := g2.lst (by simp) ec
    refine ⟨.ref c0, rfl, c0, _, rfl, .inl (.inl (.inl ec2)), ?_⟩
    rw [rowV_len]
    refine ⟨(N : Int), rfl, by omega, by omega, fun D1 n1 => ?_⟩
    refine lc_it walk_range (fun i H' => Grow [] H2 H' ∧ H' D1 = some (.lst (rowV (fun W => proc ab f0 n n W - f0 W) i))) ⟨grow_new n1, upd_same⟩ (fun _ _ _ _ => trivial) (fun i x H3 H4 hi hp3 hy => ?_) (fun H3 hp3 => ?_)
    · obtain ⟨gi, eD⟩ := hp3
      obtain ⟨rfl, rfl⟩ := hy
      have hi : i < N := by simpa using hi
      have eT3 := gi.lst (by simp) eT
      have ec3 := gi.lst (by simp) ec2
      have a1 : atI (rowV (proc ab f0 n n) N) (0 + (i : Int)) = some (.int (proc ab f0 n n i : Nat)) := by rw [Int.zero_add]; exact atI_nat (rowV_at hi)
      have a2 : atI (rowV f0 N) (0 + (i : Int)) = some (.int (f0 i : Nat)) := by rw [Int.zero_add]; exact atI_nat (rowV_at hi)
      have ge := proc_ge ab f0 n i n
      refine ⟨rfl, yes_if ⟨.ref T, rfl, .int (0 + (i : Int)), rfl, T, _, _, _, rfl, rfl, .inl (.inl eT3), a1, .ref c0, rfl, .int (0 + (i : Int)), rfl, c0, _, _, _, rfl, rfl, .inl (.inl ec3), a2, _, _, rfl, rfl, _, eD, by rw [rowV_len]; unfold sizeLine; omega, gi.put (fresh_none n1) eD (fun ps z => by cases z), ?_⟩⟩
      rw [upd_same]
      unfold rowV
      rw [List.range_succ, List.map_append]
      show some (HO.lst (_ ++ [V.int ((proc ab f0 n n i : Nat) - (f0 i : Nat) : Int)])) = some (HO.lst (_ ++ [V.int ((proc ab f0 n n i - f0 i : Nat) : Int)]))
      rw [show ((proc ab f0 n n i : Nat) : Int) - (f0 i : Nat) = ((proc ab f0 n n i - f0 i : Nat) : Int) by omega]
    · obtain ⟨gi, eD⟩ := hp3
      try rw [show ((N : Int) - 0).toNat = N by omega] at eD
      try rw [Int.toNat_natCast] at eD
      exact q D1 H3 (g2.fresh (by simp) (fresh_none n1)) (g2.trans gi) eD
/-- which words need a greater number than the k-th, as bits -/
def abOf (zs : List Str) (ps : List (Str × Str)) (k : Nat) : Nat := ps.foldl (fun a p => if zs.idxOf p.1 = k then a ||| 2 ^ zs.idxOf p.2 else a) 0
theorem abOf_snoc (zs : List Str) (ps : List (Str × Str)) (p : Str × Str) (k : Nat) : abOf zs (ps ++ [p]) k = if zs.idxOf p.1 = k then abOf zs ps k ||| 2 ^ zs.idxOf p.2 else abOf zs ps k := by
  unfold abOf
  rw [List.foldl_append]
  rfl
theorem bitOr_nn (x y : Nat) : Builtin.bitOr (x : Int) (y : Int) = ((x ||| y : Nat) : Int) := by
  have nn : ∀ z : Int, Builtin.bitNot (Builtin.bitNot z) = z := fun z => by unfold Builtin.bitNot; omega
  have neg : ∀ z : Nat, ¬ (0 : Int) ≤ Builtin.bitNot (z : Int) := fun z => by unfold Builtin.bitNot; omega
  unfold Builtin.bitOr Builtin.bitAnd
  rw [decide_eq_false (neg x), decide_eq_false (neg y)]
  show Builtin.bitNot (Builtin.bitNot ((((Builtin.bitNot (Builtin.bitNot (x : Int))).toNat ||| (Builtin.bitNot (Builtin.bitNot (y : Int))).toNat : Nat) : Int))) = _
  rw [nn, nn, nn, Int.toNat_natCast, Int.toNat_natCast]
theorem grow_lock {H H5 : Hp} {p : Addr} {u o : HO} (e : H p = some u) (hu : ∀ ps, u ≠ .tbl ps) (ho : ∀ ps, o ≠ .tbl ps) (g : Grow [] H H5) : Grow [] (upd H p o) (upd H5 p o) := by
  have e5 : H5 p = some u := g.keep p u (by simp) e hu
  refine ⟨fun b x n eb t => ?_, fun b t => ?_⟩
  · by_cases hb : b = p
    · rw [hb, upd_same] at eb
      rw [hb, upd_same]
      exact eb
    · rw [upd_ne hb] at eb ⊢
      exact g.keep b x n eb t
  · have back : upd (upd H p o) p u = H := by
      funext b
      by_cases hb : b = p
      · rw [hb, upd_same, e]
      · rw [upd_ne hb, upd_ne hb]
    have t1 : TabG H b := by
      have := (grow_at (ex := [p]) (o := u) (upd_same (H := H) (a := p) (o := o)) ho (by simp)).tabs b t
      rwa [back] at this
    exact tab_lock (g.tabs b t1) e5 hu
theorem atI_last {f : Nat → Nat} {N : Nat} (h : 0 < N) : atI (rowV f N) (-1) = some (.int (f (N - 1) : Nat)) := by
  unfold atI ixN
  rw [rowV_len, if_neg (by decide), if_pos (by omega), show ((-1 : Int) + (N : Int)).toNat = N - 1 by omega]
  exact rowV_at (by omega)
def spWays (K : PySem.W.Frag) : Sp := fun vs H Q _ => ∃ (L D0 : Addr) (zs : List Str) (ps : List (Str × Str)) (kvs : List (Key × V)), vs = [.ref L, .ref D0] ∧ LstT K H L (ps.map encP) ∧ H D0 = some (.dK kvs) ∧ kvs.map Prod.fst = zs.map Sum.inr ∧ (∀ z ∈ zs, valV kvs (.inr z) = some (.int (zs.idxOf z : Nat))) ∧ zs.length ≤ 12 ∧ ps.length ≤ 4000 ∧ (∀ p ∈ ps, p.1 ∈ zs ∧ p.2 ∈ zs) ∧
  ∀ D H', Fresh H D → Grow [] H H' → H' D = some (.lst (rowV (fun u => waysU (abOf zs ps) zs.length u (2 ^ zs.length - 1)) (zs.length + 1))) → Q (.ref D) H'
theorem ok_ways_by_numbers {f c : Addr} {fd : FuncData} (B : Nb mg) (D : DefIs K "ways_by_numbers" "ways_by_numbers" st_ways_by_numbers f fd (.ref c))
    (c_with_one_number_more : Callee P w K mg base CX0 4 "with_one_number_more" ["counts", "above"] (spMore K)) : FnG P w K mg base CX0 6 f fd ["pairs", "places"] (spWays K) := by
  refine D.ok0 (k := 5) sc_ways_by_numbers (fun vs H Q E h => ?_) (fun A outer s H vs Q E g hr h => ?_)
  · obtain ⟨L, D0, zs, ps, kvs, rfl, _⟩ := h
    rfl
  obtain ⟨L, D0, zs, ps, kvs, rfl, eL, eD, hk, hv, n12, lps, mem, q⟩ := h
  refine ⟨_,
      (pss_cons (ps_lock (ps_setLc (i := 2) (own := [("_", 3)]) (tt := tYes) (g := (gName 3)) rfl sc_ways_by_numbers.nd rfl rfl (sw_true rfl rfl rfl (by decide +kernel)) (pi_keys (pv 1)) (blkOk_by (N := N_ways_by_numbers) (sc := defScope st_ways_by_numbers) (by decide +kernel)) (fun _ _ _ _ _ => (pg_name (i := 3) sc_ways_by_numbers.nd rfl (.inl rfl))) (fun _ _ _ _ _ => pts_nil) (fun _ _ _ _ _ => pe_to pe_int)))
      (pss_cons (ps_for PassesOwn.never rfl (pi_list (pv 0)) (pg_tup rfl (pgs_cons (pg_name (i := 4) sc_ways_by_numbers.nd rfl (.inl rfl)) (pgs_cons (pg_name (i := 5) sc_ways_by_numbers.nd rfl (.inl rfl)) pgs_nil))) (
        (pss_one (ps_augS (pv 2) (pe_dget (hu_of hr) (pv 1) (pv 4) (fun _ _ => rfl)) get_list (pe_op op_shl pe_int (pe_dget (hu_of hr) (pv 1) (pv 5) (fun _ _ => rfl))) ip_or set_list))))
      (pss_cons (ps_setLc (i := 6) (own := [("_", 3)]) (tt := tYes) (g := (gName 3)) rfl sc_ways_by_numbers.nd rfl rfl (sw_true rfl rfl rfl (by decide +kernel)) (pi_range1 rfl B.n_range (pa_cons (pe_op op_shl pe_int (pe_callB call_lenD rfl B.n_len PySem.boot_len (pa_cons (pv 1) pa_nil))) pa_nil)) (blkOk_by (N := N_ways_by_numbers) (sc := defScope st_ways_by_numbers) (by decide +kernel)) (fun _ _ _ _ _ => (pg_name (i := 3) sc_ways_by_numbers.nd rfl (.inl rfl))) (fun _ _ _ _ _ => pts_nil) (fun _ _ _ _ _ => pe_to pe_int))
      (pss_cons (ps_asg pe_int (pg_sub (pv 6) pe_int set_list))
      (pss_cons (ps_set (i := 7) sc_ways_by_numbers.nd rfl (.inl rfl) (pe_lst (pa_cons (pe_ix ix_list (pv 6) (pe_un un_neg pe_int) (fun _ _ => rfl)) pa_nil)))
      (pss_cons (ps_lock (ps_for PassesOwn.never rfl (pi_keys (pv 1)) (pg_name (i := 3) sc_ways_by_numbers.nd rfl (.inl rfl)) (
        (pss_cons (ps_set (i := 6) sc_ways_by_numbers.nd rfl (.inl rfl) (pe_g c_with_one_number_more g (hr.mono (by decide)) pass0 (pa_cons (pv 6) (pa_cons (pv 2) pa_nil))))
        (pss_one (ps_expr (pe_bm PySem.F.plainAttrs_list PySem.F.slot_list_append PySem.F.type_list_append mt_append (pv 7) (pa_cons (pe_ix ix_list (pv 6) (pe_un un_neg pe_int) (fun _ _ => rfl)) pa_nil))))))))
      (pss_one (ps_ret (pv 7))))))))), ?_⟩
  obtain ⟨n, hn⟩ : ∃ n, zs.length = n := ⟨_, rfl⟩
  have lk : kvs.length = n := by rw [← hn]; have := congrArg List.length hk; rwa [List.length_map, List.length_map] at this
  rw [hn] at n12 q
  refine ⟨D0, .dK kvs, eD, trivial, fun od => ?_⟩
  refine ⟨.ref D0, rfl, D0, od, rfl, .inl ⟨kvs, upd_same, fun A1 n1 => ?_⟩⟩
  refine lc_it walk_keys (fun j H' => Grow [] (upd H D0 (.frz od (.dK kvs))) H' ∧ H' A1 = some (.lst (rowV (fun _ => 0) j))) ⟨grow_new n1, upd_same⟩
    (fun j H' _ h => h.1.keep D0 _ (by simp) upd_same fun ps z => by cases z) (fun j x H2 H3 hj hp2 hy => ?_) (fun H2 hp2 => ?_)
  · obtain ⟨gj, eA⟩ := hp2
    obtain ⟨rfl, _⟩ := hy
    refine ⟨rfl, yes_if ⟨_, eA, by rw [rowV_len]; unfold sizeLine; omega, gj.put (fresh_none n1) eA (fun ps z => by cases z), ?_⟩⟩
    rw [upd_same]
    unfold rowV
    rw [List.range_succ, List.map_append]
    rfl
  obtain ⟨g2, eA⟩ := hp2
  rw [lk] at eA
  have eD2 := g2.keep D0 _ (by simp) upd_same fun ps z => by cases z
  have gU := grow_unlock eD (fun ps z => by cases z) g2 eD2
  have A1D : A1 ≠ D0 := by
    intro z
    rw [z, upd_same] at n1
    cases n1
  have eA2 : upd H2 D0 (.dK kvs) A1 = some (.lst (rowV (fun _ => 0) n)) := by rw [upd_ne A1D]; exact eA
  have n1H : H A1 = none := by rwa [upd_ne A1D] at n1
  refine ⟨eD2, ?_⟩
  generalize upd H2 D0 (.dK kvs) = H3 at gU eA2 ⊢
  have ab0 : (fun _ => 0) = abOf zs (ps.take 0) := by rw [List.take_zero]; rfl
  rw [ab0] at eA2
  obtain ⟨xs, eL3, tL⟩ := eL
  have lxs : xs.length = ps.length := by have := tL.length; rwa [List.length_map] at this
  have dg : ∀ {H4 : Hp}, Grow [] H H4 → ∀ z ∈ zs, DGet H4 D0 (.str z) (some (.int (zs.idxOf z : Nat))) := fun g z hz => by
    rw [← hv z hz]
    exact DGet.k (k := .inr z) (g.keep D0 _ (by simp) eD fun ps z => by cases z)
  refine ⟨.ref L, rfl, L, rfl, ⟨_, .inl (.inl (gU.lst (by simp) eL3))⟩, ?_⟩
  refine for_it (walk_list (xs := xs)) (fun i σ H' => ∃ x3 x4 x5 : Option V, σ = [some (.ref L), some (.ref D0), some (.ref A1), x3, x4, x5, none, none] ∧ Grow [] H H' ∧ H' A1 = some (.lst (rowV (abOf zs (ps.take i)) n))) ⟨none, none, none, rfl, gU, eA2⟩
    (fun i σ H' _ h => by
      obtain ⟨_, _, _, _, g, _⟩ := h
      exact .inl (.inl (g.lst (by simp) eL3))) (fun i x σ H4 H5 hi hp hy => ?_) (fun σ H4 hp => ?_)
  · obtain ⟨x3, x4, x5, rfl, g4, e4⟩ := hp
    obtain ⟨rfl, ex⟩ := hy
    obtain ⟨d, hd, td⟩ := tL.get ex
    rw [List.getElem?_map] at hd
    cases ep : ps[i]? with
    | none => rw [ep] at hd; cases hd
    | some p =>
      rw [ep] at hd
      cases hd
      have mp := mem p (List.mem_of_getElem? ep)
      obtain ⟨r, rfl, hr⟩ := pair_inv (td.grow g4 (lists_none _))
      have i1 : zs.idxOf p.1 < n := by rw [← hn]; exact List.idxOf_lt_length_of_mem mp.1
      have i2 : zs.idxOf p.2 < n := by rw [← hn]; exact List.idxOf_lt_length_of_mem mp.2
      refine ⟨r, _, rfl, .inl (.inl hr), rfl, _, _, rfl, _, _, rfl, rfl, ?_⟩
      refine ⟨.ref A1, rfl, .ref D0, rfl, .str p.1, rfl, D0, _, rfl, dg g4 _ mp.1, A1, _, (zs.idxOf p.1 : Nat), _, rfl, rfl, .inl (.inl e4), by omega, by rw [Int.toNat_natCast]; exact rowV_at i1, .ref D0, rfl, .str p.2, rfl, D0, _, rfl, dg g4 _ mp.2, _, _, rfl, rfl, ⟨by omega, by omega, by decide⟩, _, _, rfl, rfl, A1, _, (zs.idxOf p.1 : Nat), zs.idxOf p.1, rfl, rfl, e4, by unfold ixN; rw [rowV_len, if_pos (by omega), if_pos (by omega), Int.toNat_natCast], ?_⟩
      refine ⟨_, _, _, rfl, g4.put (fresh_none n1H) e4 (fun ps z => by cases z), ?_⟩
      rw [upd_same]
      refine congrArg (fun z => some (HO.lst z)) ?_
      rw [show (1 : Int) * 2 ^ (((zs.idxOf p.2 : Nat) : Int)).toNat = ((2 ^ zs.idxOf p.2 : Nat) : Int) by rw [Int.one_mul, Int.toNat_natCast, Int.natCast_pow]; rfl]
      dsimp only
      rw [bitOr_nn, rowV_set]
      refine rowV_congr fun j _ => ?_
      rw [List.take_add_one, ep]
      show _ = abOf zs (ps.take i ++ [p]) j
      rw [abOf_snoc]
      by_cases e : j = zs.idxOf p.1
      · subst e
        simp
      · rw [if_neg e, if_neg fun z => e z.symm]
  obtain ⟨x3, x4, x5, rfl, g4, e4⟩ := hp
  rw [lxs, List.take_length] at e4
  have N12 : 2 ^ n ≤ 4096 := Nat.le_trans (Nat.pow_le_pow_right (by decide) n12) (by decide)
  have Np := Nat.two_pow_pos n
  have eD4 := g4.keep D0 _ (by simp) eD fun ps z => by cases z
  refine ⟨.ref D0, rfl, D0, kvs, rfl, eD4, _, _, rfl, rfl, ⟨by omega, by omega, by decide⟩, ?_⟩
  have pN : (1 : Int) * 2 ^ (((kvs.length : Nat) : Int)).toNat = ((2 ^ n : Nat) : Int) := by rw [Int.one_mul, Int.toNat_natCast, Int.natCast_pow, lk]; rfl
  obtain ⟨N, hN⟩ : ∃ N, 2 ^ n = N := ⟨_, rfl⟩
  rw [hN] at pN N12 Np q
  refine ⟨(N : Int), congrArg (fun z => [V.int z]) pN, by omega, by omega, fun C1 nC => ?_⟩
  refine lc_it walk_range (fun j H' => Grow [] H4 H' ∧ H' C1 = some (.lst (rowV (fun _ => 0) j))) ⟨grow_new nC, upd_same⟩ (fun _ _ _ _ => trivial) (fun j x H5 H6 hj hp5 hy => ?_) (fun H5 hp5 => ?_)
  · obtain ⟨gj, eC⟩ := hp5
    obtain ⟨rfl, rfl⟩ := hy
    have hj : j < N := by simpa using hj
    refine ⟨rfl, yes_if ⟨_, eC, by rw [rowV_len]; unfold sizeLine; omega, gj.put (fresh_none nC) eC (fun ps z => by cases z), ?_⟩⟩
    rw [upd_same]
    unfold rowV
    rw [List.range_succ, List.map_append]
    rfl
  obtain ⟨g5, eC⟩ := hp5
  try rw [show ((N : Int) - 0).toNat = N by omega] at eC
  try rw [Int.toNat_natCast] at eC
  have fC : Fresh H C1 := g4.fresh (by simp) (fresh_none nC)
  have gr5 := g4.trans g5
  have e5 := g5.lst (by simp) e4
  have e51 : (rowV (fun _ => 0) N).set 0 (.int ((1 : Nat) : Int)) = rowV (waysU (abOf zs ps) n 0) N := by
    rw [rowV_set]
    exact rowV_congr fun j _ => rfl
  refine ⟨.ref C1, rfl, C1, _, 0, 0, rfl, rfl, eC, by unfold ixN; rw [rowV_len, if_pos (by omega), if_pos (by omega)]; rfl, ?_⟩
  have gr6 := gr5.put fC eC (o := .lst ((rowV (fun _ => 0) N).set 0 (.int 1))) (fun ps z => by cases z)
  have eC6 : upd H5 C1 (.lst ((rowV (fun _ => 0) N).set 0 (.int 1))) C1 = some (.lst (rowV (waysU (abOf zs ps) n 0) N)) := by rw [upd_same, ← e51]; rfl
  have CA : C1 ≠ A1 := (ne_of_none e4 nC).symm
  have e6 : upd H5 C1 (.lst ((rowV (fun _ => 0) N).set 0 (.int 1))) A1 = some (.lst (rowV (abOf zs ps) n)) := by rw [upd_ne CA.symm]; exact e5
  generalize upd H5 C1 (HO.lst ((rowV (fun _ => 0) N).set 0 (V.int 1))) = H6 at gr6 eC6 e6 ⊢
  refine ⟨.ref C1, rfl, 1, rfl, C1, _, _, _, rfl, rfl, .inl (.inl eC6), atI_last Np, by show 1 ≤ sizeLine; decide, fun Wd nW => ?_⟩
  have fW : Fresh H Wd := gr6.fresh (by simp) (fresh_none nW)
  have gr7 := gr6.new (o := .lst [.int (waysU (abOf zs ps) n 0 (N - 1) : Nat)]) nW
  have eW7 : upd H6 Wd (.lst [.int (waysU (abOf zs ps) n 0 (N - 1) : Nat)]) Wd = some (.lst (rowV (fun u => waysU (abOf zs ps) n u (N - 1)) 1)) := upd_same
  have eC7 : upd H6 Wd (.lst [.int (waysU (abOf zs ps) n 0 (N - 1) : Nat)]) C1 = some (.lst (rowV (waysU (abOf zs ps) n 0) N)) := by rw [upd_ne (ne_of_none eC6 nW)]; exact eC6
  have e7 : upd H6 Wd (.lst [.int (waysU (abOf zs ps) n 0 (N - 1) : Nat)]) A1 = some (.lst (rowV (abOf zs ps) n)) := by rw [upd_ne (ne_of_none e6 nW)]; exact e6
  have WA : A1 ≠ Wd := ne_of_none e6 nW
  generalize upd H6 Wd (HO.lst [V.int (waysU (abOf zs ps) n 0 (N - 1) : Nat)]) = H7 at gr7 eW7 eC7 e7 ⊢
  have eD7 := gr7.keep D0 _ (by simp) eD fun ps z => by cases z
  refine ⟨D0, .dK kvs, eD7, trivial, fun od2 => ?_⟩
  have gl := grow_lock (o := .frz od2 (.dK kvs)) eD (fun ps z => by cases z) (fun ps z => by cases z) gr7
  have dne : ∀ {X : Addr} {xs : List V} {G : Hp}, Grow [] H G → G X = some (.lst xs) → X ≠ D0 := fun g e z => by
    rw [z, g.keep D0 _ (by simp) eD fun ps z => by cases z] at e
    cases e
  have AD := dne gr7 e7
  have WD := dne gr7 eW7
  have CD := dne gr7 eC7
  have fWl : Fresh (upd H D0 (.frz od2 (.dK kvs))) Wd := fun o e => by
    rw [upd_ne WD] at e
    exact fW o e
  refine ⟨.ref D0, rfl, D0, od2, rfl, .inl ⟨kvs, upd_same, ?_⟩⟩
  refine for_it walk_keys (fun i σ H' => ∃ (x3 : Option V) (C : Addr), σ = [some (.ref L), some (.ref D0), some (.ref A1), x3, x4, x5, some (.ref C), some (.ref Wd)] ∧ Grow [] (upd H D0 (.frz od2 (.dK kvs))) H' ∧ H' C = some (.lst (rowV (waysU (abOf zs ps) n i) N)) ∧ C ≠ Wd ∧ H' A1 = some (.lst (rowV (abOf zs ps) n)) ∧ H' Wd = some (.lst (rowV (fun u => waysU (abOf zs ps) n u (N - 1)) (i + 1))))
    ⟨x3, C1, rfl, gl, by rw [upd_ne CD]; exact eC7, ne_of_none eC6 nW, by rw [upd_ne AD]; exact e7, by rw [upd_ne WD]; exact eW7⟩
    (fun i σ H' _ h => by
      obtain ⟨_, _, _, g, _⟩ := h
      exact g.keep D0 _ (by simp) upd_same fun ps z => by cases z) (fun i x σ H8 H9 hi hp hy => ?_) (fun σ H8 hp => ?_)
  · obtain ⟨y3, C, rfl, g8, eC8, CW, eA8, eW8⟩ := hp
    obtain ⟨rfl, _⟩ := hy
    refine ⟨.ref C, rfl, .ref A1, rfl, C, A1, waysU (abOf zs ps) n i, abOf zs ps, n, rfl, n12, by rw [hN]; exact eC8, eA8, fun Cn H10 fCn g10 eCn => ?_⟩
    rw [hN] at eCn
    have eW10 := g10.lst (by simp) eW8
    have eA10 := g10.lst (by simp) eA8
    have CnW : Cn ≠ Wd := (fCn.ne eW8 (fun ps z => by cases z)).symm
    refine ⟨.ref Wd, rfl, tyl eW10, .ref Cn, rfl, 1, rfl, Cn, _, _, _, rfl, rfl, .inl (.inl eCn), atI_last Np, ?_⟩
    dsimp only [tNil]
    refine ⟨Wd, _, _, rfl, rfl, eW10, by rw [rowV_len]; unfold sizeLine; omega, _, Cn, rfl, (g8.trans g10).put fWl eW10 (fun ps z => by cases z), ?_, CnW, ?_, ?_⟩
    · rw [upd_ne CnW]
      exact eCn
    · rw [upd_ne WA]
      exact eA10
    · rw [upd_same]
      unfold rowV
      rw [List.range_succ (n := i + 1), List.map_append]
      rfl
  · obtain ⟨y3, C, rfl, g8, eC8, CW, eA8, eW8⟩ := hp
    rw [lk] at eW8
    have eD8 := g8.keep D0 _ (by simp) upd_same fun ps z => by cases z
    exact ⟨eD8, .ref Wd, rfl, q Wd _ fW (grow_unlock eD (fun ps z => by cases z) g8 eD8) (by rw [upd_ne WD]; exact eW8)⟩
end

end Lw

namespace Lw
open PySem PySem.Spec PyProof.Rows L2 GxR Gx
/-! ### how_many_numberings -/
theorem binom_le : ∀ n k : Nat, binom n k ≤ (n + 1) ^ k
  | n, 0 => by rw [binom_zero]; exact Nat.le_refl _
  | 0, k + 1 => Nat.zero_le _
  | n + 1, k + 1 => by
    have h1 := binom_le n k
    have h2 := binom_le n (k + 1)
    have h3 : (n + 1) ^ k ≤ (n + 2) ^ k := Nat.pow_le_pow_left (by omega) k
    rw [Nat.pow_succ] at h2
    show binom n k + binom n (k + 1) ≤ (n + 2) ^ (k + 1)
    rw [Nat.pow_succ]
    have h4 : (n + 1) ^ k + (n + 1) ^ k * (n + 1) = (n + 1) ^ k * (n + 2) := by rw [Nat.mul_add _ n 2, Nat.mul_add _ n 1]; omega
    have h5 : (n + 1) ^ k * (n + 2) ≤ (n + 2) ^ k * (n + 2) := Nat.mul_le_mul_right _ h3
    omega
theorem proc_le {ab f : Nat → Nat} {n M : Nat} (h : ∀ W, f W ≤ M) : ∀ d W, proc ab f n d W ≤ 2 ^ d * M
  | 0, W => by rw [Nat.pow_zero, Nat.one_mul]; exact h W
  | d + 1, W => by
    show stepK ab (n - 1 - d) (proc ab f n d) W ≤ _
    have h1 := proc_le (ab := ab) (n := n) h d W
    have h2 := proc_le (ab := ab) (n := n) h d (W - 2 ^ (n - 1 - d))
    rw [Nat.pow_succ, Nat.mul_comm (2 ^ d) 2, Nat.mul_assoc]
    unfold stepK
    split <;> omega
theorem ways_le {ab : Nat → Nat} {n : Nat} : ∀ u W, waysU ab n u W ≤ 2 ^ (n * u)
  | 0, W => by
    show (if W = 0 then 1 else 0) ≤ 1
    split <;> omega
  | u + 1, W => by
    have := proc_le (ab := ab) (n := n) (ways_le (ab := ab) (n := n) u) n W
    rw [← Nat.pow_add, show n + n * u = n * (u + 1) by rw [Nat.mul_add]; omega] at this
    exact Nat.le_trans (Nat.sub_le _ _) this
/-- how many numberings, as the program counts them -/
def numbN (zs ws : List Str) (r : Nat) : Nat := ((List.range (zs.length + 1)).map fun u => waysU (abOf zs (prsTo (later ws) zs zs.length)) zs.length u (2 ^ zs.length - 1) * binom (r + 1) u).sum
theorem sum_cast : ∀ l : List Nat, (l.map fun x => ((x : Nat) : Int)).sum = ((l.sum : Nat) : Int)
  | [] => rfl
  | x :: l => by rw [List.map_cons, List.sum_cons, List.sum_cons, sum_cast l, Int.natCast_add]
section
variable {P : Program} {w : World} {K : PySem.W.Frag} {mg : Str → Option Value} {base : Heap}
def spNumb (K : PySem.W.Frag) (T1 T : Addr) : Sp := fun vs H Q _ => ∃ (l m : Addr) (zs ws : List Str) (r : Nat), vs = [.ref l, .ref m, .int (r : Nat)] ∧ TabG H T1 ∧ TabG H T ∧ H l = some (.lst (zs.map V.str)) ∧ H m = some (.lst (ws.map V.str)) ∧ Bk zs ∧ zs.Perm ws ∧ zs.length ≤ 12 ∧ r < 2 ^ 60 ∧
  ∀ H', Grow [] H H' → Q (.int (numbN zs ws r : Nat)) H'
theorem ok_how_many_numberings {f c T1 T : Addr} {fd : FuncData} (B : Nb mg) (D : DefIs K "how_many_numberings" "how_many_numberings" st_how_many_numberings f fd (.ref c)) {tk : Tok} (k_MOST_NUMBERED : mg "MOST_NUMBERED" = some (.int 12 tk)) (m_comb : mg "comb" = some (.builtin "math.comb"))
    (c_check_books : Callee P w K mg base CX0 10 "check_books" ["book", "other"] (spCheck K T1 T)) (c_check_roads : Callee P w K mg base CX0 2 "check_roads" ["thing"] (spRoadsNo K)) (c_pairs_turned : Callee P w K mg base CX0 5 "pairs_turned" ["book", "other"] (spPairs K))
    (c_places_of : Callee P w K mg base CX0 4 "places_of" ["book"] (spPlaces K)) (c_ways_by_numbers : Callee P w K mg base CX0 6 "ways_by_numbers" ["pairs", "places"] (spWays K)) : FnG P w K mg base CX0 11 f fd ["book", "other", "roads"] (spNumb K T1 T) := by
  refine D.ok0 (k := 10) sc_how_many_numberings (fun vs H Q E h => ?_) (fun A outer s H vs Q E g hr h => ?_)
  · obtain ⟨l, m, zs, ws, r, rfl, _⟩ := h
    rfl
  obtain ⟨l, m, zs, ws, r, rfl, t1, tT, el, em, bz, pm, n12, r60, q⟩ := h
  refine ⟨_,
      (pss_cons (ps_expr (pe_g c_check_books g (hr.mono (by decide)) pass0 (pa_cons (pv 0) (pa_cons (pv 1) pa_nil))))
      (pss_cons (ps_expr (pe_g c_check_roads g (hr.mono (by decide)) pass0 (pa_cons (pv 2) pa_nil)))
      (pss_cons (ps_if (pt_cmpR (op_gt) (pe_callB call_len_seq rfl B.n_len PySem.boot_len (pa_cons (pv 0) pa_nil)) (pe_glob (v := .int 12) rfl k_MOST_NUMBERED ⟨_, rfl⟩) (nomark _)) (
        (pss_one ps_dead)) pss_nil)
      (pss_cons (ps_set (i := 3) sc_how_many_numberings.nd rfl (.inl rfl) (pe_g c_ways_by_numbers g (hr.mono (by decide)) pass0 (pa_cons (pe_g c_pairs_turned g (hr.mono (by decide)) pass0 (pa_cons (pv 0) (pa_cons (pv 1) pa_nil))) (pa_cons (pe_g c_places_of g (hr.mono (by decide)) pass0 (pa_cons (pv 0) pa_nil)) pa_nil))))
      (pss_one (ps_ret (pe_callB (cr_sum rfl) rfl B.n_sum (by decide +kernel) (pa_cons (pe_lc (own := [("used", 4), ("many", 5)]) (tt := tYes) (g := (gTup _ 2 (gCons (gName 4) (gCons (gName 5) gNil)))) rfl sc_how_many_numberings.nd (pi_enum rfl B.n_enumerate (pa_cons (pv 3) pa_nil)) (blkOk_by (N := N_how_many_numberings) (sc := defScope st_how_many_numberings) (by decide +kernel)) (fun _ _ _ _ _ => (pg_tup rfl (pgs_cons (pg_name (i := 4) sc_how_many_numberings.nd rfl (.inl rfl)) (pgs_cons (pg_name (i := 5) sc_how_many_numberings.nd rfl (.inl rfl)) pgs_nil)))) (fun _ _ _ _ _ => pts_nil) (fun _ _ _ _ _ => pe_to (pe_op op_mulX (pv 5) (pe_callBfun cr_comb rfl m_comb (pa_cons (pe_op op_add (pv 2) pe_int) (pa_cons (pv 4) pa_nil)))))) pa_nil)))))))), ?_⟩
  obtain ⟨n, hn⟩ : ∃ n, zs.length = n := ⟨_, rfl⟩
  have lp : (prsTo (later ws) zs zs.length).length ≤ 4000 := by
    have h1 := prsTo_len (later ws) zs zs.length
    have h2 : zs.length * zs.length ≤ 12 * 12 := Nat.mul_le_mul n12 n12
    omega
  refine ⟨.ref l, rfl, .ref m, rfl, l, m, zs, ws, rfl, t1, tT, .inl (.inl el), .inl (.inl em), bz, pm, fun H1 g1 => ?_⟩
  refine ⟨.int (r : Nat), rfl, (r : Int), rfl, by omega, ?_⟩
  have el1 := g1.lst (by simp) el
  have em1 := g1.lst (by simp) em
  refine ⟨.ref l, rfl, l, _, rfl, .inl (.inl (.inl el1)), _, _, rfl, rfl, _, rfl, ite2 (fun z => absurd (of_decide_eq_true z) (by rw [List.length_map]; omega)) fun _ => ?_⟩
  refine ⟨.ref l, rfl, .ref m, rfl, l, m, zs, ws, rfl, .inl (.inl el1), .inl (.inl em1), bz, pm, fun L H2 fL g2 hL => ?_⟩
  have g12 := g1.trans g2
  refine ⟨.ref l, rfl, l, zs, rfl, .inl (.inl (g12.lst (by simp) el)), bz.nd, bz.len, fun D0 H3 kvs f3 g3 eD hv hk => ?_⟩
  have hL3 := hL.grow g3 (lists_none _) (by simp)
  refine ⟨L, D0, zs, prsTo (later ws) zs zs.length, kvs, rfl, hL3, eD, hk, hv, n12, lp, fun p hp => ⟨((mem_prs bz.nd).mp hp).1, ((mem_prs bz.nd).mp hp).2.1⟩, fun Wd H4 fW g4 eW => ?_⟩
  have g14 := (g12.trans g3).trans g4
  obtain ⟨F, hF⟩ : ∃ F : Nat → Nat, (fun u => waysU (abOf zs (prsTo (later ws) zs zs.length)) zs.length u (2 ^ zs.length - 1)) = F := ⟨_, rfl⟩
  have Fle : ∀ u, u ≤ 12 → F u < 2 ^ 150 := fun u hu => by
    rw [← hF]
    refine Nat.lt_of_le_of_lt (ways_le u _) (Nat.pow_lt_pow_right (by decide) ?_)
    have : zs.length * u ≤ 12 * 12 := Nat.mul_le_mul n12 hu
    omega
  have qe : numbN zs ws r = ((List.range (n + 1)).map fun u => F u * binom (r + 1) u).sum := by unfold numbN; rw [← hF, hn]
  rw [hF, hn] at eW
  rw [hn] at n12
  refine ⟨.ref Wd, rfl, Wd, _, rfl, .inl (.inl eW), fun D1 n1 => ?_⟩
  refine lc_it walk_enum (fun i H' => Grow [] H4 H' ∧ H' D1 = some (.lst ((((List.range i).map fun u => F u * binom (r + 1) u).map fun x => ((x : Nat) : Int)).map V.int))) ⟨grow_new n1, upd_same⟩
    (fun i H' _ h => .inl (.inl (h.1.lst (by simp) eW))) (fun i x H5 H6 hi hp5 hy => ?_) (fun H5 hp5 => ?_)
  · obtain ⟨gj, eD1⟩ := hp5
    obtain ⟨T0, x1, x2, rfl, nT, rfl, ei, ex⟩ := hy
    rw [rowV_len] at hi
    replace ex : (rowV F (n + 1))[i]? = some x2 := ex
    rw [rowV_at hi] at ex
    cases ex
    cases ei
    have g5 := gj.new (o := .tup [.int (i : Nat), .int (F i : Nat)]) nT
    have eD2 : upd H5 T0 (.tup [.int (i : Nat), .int (F i : Nat)]) D1 = some (.lst ((((List.range i).map fun u => F u * binom (r + 1) u).map fun x => ((x : Nat) : Int)).map V.int)) := by rw [upd_ne (ne_of_none eD1 nT)]; exact eD1
    have cb : PySem.W.mcComb ((r : Int) + 1) (i : Nat) = (binom (r + 1) i : Nat) := comb_binom (r + 1) i
    have bl : binom (r + 1) i < 2 ^ 800 := by
      refine Nat.lt_of_le_of_lt (binom_le (r + 1) i) ?_
      have h1 : (r + 1 + 1) ^ i ≤ (2 ^ 61) ^ i := Nat.pow_le_pow_left (by omega) i
      rw [← Nat.pow_mul] at h1
      exact Nat.lt_of_le_of_lt h1 (Nat.pow_lt_pow_right (by decide) (by omega))
    have b1 := bits_le (x := ((F i : Nat) : Int)) (n := 150) (by decide) (Fle i (by omega))
    have b2 := bits_le (x := ((binom (r + 1) i : Nat) : Int)) (n := 800) (by decide) bl
    refine ⟨T0, _, rfl, .inl (.inl upd_same), rfl, _, _, rfl, _, _, rfl, rfl, rfl, yes_if ⟨.int (F i : Nat), rfl, .int (r : Nat), rfl, _, _, rfl, rfl, .int (i : Nat), rfl, (r : Int) + 1, (i : Nat), rfl, by omega, by omega, by omega, by omega, ?_⟩⟩
    rw [cb]
    refine ⟨_, _, rfl, rfl, ?_, _, eD2, ?_, g5.put (fresh_none n1) eD2 (fun ps z => by cases z), ?_⟩
    · show (Builtin.Int.intBits _ : Int) + (Builtin.Int.intBits _ : Int) ≤ 134217728
      omega
    · rw [List.length_map, List.length_map, List.length_map, List.length_range]
      unfold sizeLine
      omega
    · rw [upd_same, List.range_succ, List.map_append, List.map_append, List.map_append]
      show some (HO.lst (_ ++ [V.int (((F i : Nat) : Int) * (binom (r + 1) i : Nat))])) = some (HO.lst (_ ++ [V.int ((F i * binom (r + 1) i : Nat) : Int)]))
      rw [Int.natCast_mul]
  · obtain ⟨gj, eD1⟩ := hp5
    rw [rowV_len] at eD1
    dsimp only [tNil]
    refine ⟨D1, _, rfl, .inl (.inl eD1), ?_⟩
    rw [sum_cast, ← qe]
    exact q _ (g14.trans gj)
end

end Lw

namespace Lw
open PySem PySem.Spec PyProof.Rows L2 GxR Gx
section
variable {P : Program} {w : World} {K : PySem.W.Frag} {mg : Str → Option Value} {base : Heap}
/-! ### the drawing: _law_pot, _law_take -/
/-- what is drawn from: a number used up first, then a mixed one; no more than c turns of it -/
def Pot (H : Hp) (p : Addr) (c : Int) : Prop := ∃ a b k : Int, H p = some (.lst [.int a, .int b, .int k]) ∧ 0 ≤ b ∧ b < 2 ^ 90 ∧ 0 ≤ k ∧ k ≤ c
theorem Pot.mono {H : Hp} {p : Addr} {c c' : Int} (h : Pot H p c) (l : c ≤ c') : Pot H p c' := by
  obtain ⟨a, b, k, e, b1, b2, b3, b4⟩ := h
  exact ⟨a, b, k, e, b1, b2, b3, by omega⟩
theorem Pot.new {H : Hp} {p q : Addr} {o : HO} {c : Int} (h : Pot H p c) (n : H q = none) : Pot (upd H q o) p c := by
  obtain ⟨a, b, k, e, r⟩ := h
  exact ⟨a, b, k, by rw [upd_ne (ne_of_none e n)]; exact e, r⟩
theorem Pot.at {H : Hp} {p q : Addr} {o : HO} {c : Int} (h : Pot H p c) (n : p ≠ q) : Pot (upd H q o) p c := by
  obtain ⟨a, b, k, e, r⟩ := h
  exact ⟨a, b, k, by rw [upd_ne n]; exact e, r⟩
theorem Fresh.back {H H2 : Hp} {D p : Addr} {c : Int} (fr : Fresh H2 D) (g : Grow [p] H H2) (h : Pot H2 p c) : Fresh H D := by
  obtain ⟨a, b, k, e, _⟩ := h
  have n := fr.ne e (fun ps z => by cases z)
  exact g.fresh (by simpa using n.symm) fr
def spPot (K : PySem.W.Frag) : Sp := fun vs H Q _ => ∃ (s : Addr) (ns : List Int) (k : Nat), vs = [.ref s, .int k] ∧ SqL K H s (ns.map V.int) ∧ k ≤ 8 ∧ ∀ p H', Fresh H p → Grow [] H H' → Pot H' p 0 → Q (.ref p) H'
theorem ok_law_pot {f c : Addr} {fd : FuncData} (B : Nb mg) (D : DefIs K "_law_pot" "_law_pot" st_law_pot f fd (.ref c)) : FnG P w K mg base CX0 3 f fd ["script", "k"] (spPot K) := by
  refine D.ok0 (k := 2) sc_law_pot (fun vs H Q E h => ?_) (fun A outer s H vs Q E g hr h => ?_)
  · obtain ⟨s, ns, k, rfl, _⟩ := h
    rfl
  obtain ⟨l, ns, k, rfl, hl, hk, q⟩ := h
  refine ⟨_,
      (pss_cons (ps_set (i := 2) sc_law_pot.nd rfl (.inl rfl) pe_int)
      (pss_cons (ps_if (pt_cmpR (op_lt) (pv 1) (pe_callB call_len_seq rfl B.n_len PySem.boot_len (pa_cons (pv 0) pa_nil)) (nomark _)) (
        (pss_one (ps_set (i := 2) sc_law_pot.nd rfl (.inl rfl) (pe_ix ix_list (pv 0) (pv 1) (fun _ _ => rfl))))) pss_nil)
      (pss_one (ps_ret (pe_lst (pa_cons (pe_callB (call_max2 rfl) rfl B.n_max (by decide +kernel) (pa_cons pe_int (pa_cons (pe_op op_sub (pv 2) (pe_op op_powX pe_int pe_int)) pa_nil))) (pa_cons (pe_op op_add (pe_op op_mod (pv 2) pe_int) (pe_op op_mulX pe_int (pv 1))) (pa_cons pe_int pa_nil)))))))), ?_⟩
  have fq : ∀ (cell : Int) p, H p = none → Q (.ref p) (upd H p (.lst [.int (if cell - 10 ^ (18 : Int).toNat > 0 then cell - 10 ^ (18 : Int).toNat else 0), .int (cell % 618970019642690137449562111 + 7368787 * (k : Int)), .int 0])) := fun cell p np =>
    q p _ (fresh_none np) (grow_new np) ⟨_, _, _, upd_same, by
      have := Int.emod_nonneg cell (b := 618970019642690137449562111) (by decide)
      omega, by
      have := Int.emod_lt_of_pos cell (b := 618970019642690137449562111) (by decide)
      omega, Int.le_refl _, Int.le_refl _⟩
  have cp : CPowX 10 18 := ⟨by decide, by decide⟩
  have cm : CMulX 7368787 (k : Int) := by
    have h1 : Builtin.Int.intBits (k : Int) ≤ 4 := bits_le (by decide) (by omega)
    have h2 : Builtin.Int.intBits 7368787 ≤ 23 := bits_le (by decide) (by decide)
    unfold CMulX
    omega
  refine ⟨.int k, rfl, .ref l, rfl, l, _, rfl, .inl hl, _, _, rfl, rfl, _, rfl, ?_⟩
  by_cases hlt : (k : Int) < ((ns.map V.int).length : Nat)
  · rw [decide_eq_true hlt]
    have hi : k < ns.length := by rw [List.length_map] at hlt; omega
    refine iteT ⟨.ref l, rfl, .int k, rfl, l, _, _, .int (ns[k]), rfl, rfl, hl, ?_, ?_⟩
    · exact atI_nat (by rw [List.getElem?_map, List.getElem?_eq_getElem hi]; rfl)
    · exact ⟨.int (ns[k]), rfl, 10, 18, rfl, rfl, cp, _, _, rfl, rfl, _, _, rfl, .int (ns[k]), rfl, _, _, rfl, rfl, (by decide : (0 : Int) < 618970019642690137449562111), .int k, rfl, _, _, rfl, rfl, cm, _, _, rfl, rfl, by show 3 ≤ sizeLine; decide, fq _⟩
  · rw [decide_eq_false hlt]
    exact iteF ⟨.int 0, rfl, 10, 18, rfl, rfl, cp, _, _, rfl, rfl, _, _, rfl, .int 0, rfl, _, _, rfl, rfl, (by decide : (0 : Int) < 618970019642690137449562111), .int k, rfl, _, _, rfl, rfl, cm, _, _, rfl, rfl, by show 3 ≤ sizeLine; decide, fq _⟩
def spTake (K : PySem.W.Frag) : Sp := fun vs H Q _ => ∃ (p : Addr) (m c : Int), vs = [.ref p, .int m] ∧ 1 ≤ m ∧ m < 2 ^ 30 ∧ c ≤ 2 ^ 30 ∧ Pot H p c ∧ ∀ v H', 0 ≤ v → v < m → Grow [p] H H' → Pot H' p (c + 1) → Q (.int v) H'
theorem ok_law_take {f c : Addr} {fd : FuncData} (B : Nb mg) (D : DefIs K "_law_take" "_law_take" st_law_take f fd (.ref c)) : FnG P w K mg base CX0 3 f fd ["pot", "many"] (spTake K) := by
  refine D.ok0 (k := 2) sc_law_take (fun vs H Q E h => ?_) (fun A outer s H vs Q E g hr h => ?_)
  · obtain ⟨p, m, c, rfl, _⟩ := h
    rfl
  obtain ⟨p, m, c, rfl, m1, m2, c1, ⟨a, b, k, e, b1, b2, k1, k2⟩, q⟩ := h
  refine ⟨_,
      (pss_cons (ps_if (pt_cmpR (op_gt) (pe_ix ix_list (pv 0) pe_int (fun _ _ => rfl)) pe_int (nomark _)) (
        (pss_cons (ps_set (i := 2) sc_law_take.nd rfl (.inl rfl) (pe_op op_mod (pe_ix ix_list (pv 0) pe_int (fun _ _ => rfl)) (pv 1)))
        (pss_cons (ps_asg (pe_op op_fdiv (pe_ix ix_list (pv 0) pe_int (fun _ _ => rfl)) (pv 1)) (pg_sub (pv 0) pe_int set_list))
        (pss_one (ps_ret (pv 2)))))) pss_nil)
      (pss_cons (ps_asg (pe_op op_add (pe_ix ix_list (pv 0) pe_int (fun _ _ => rfl)) pe_int) (pg_sub (pv 0) pe_int set_list))
      (pss_cons (ps_set (i := 3) sc_law_take.nd rfl (.inl rfl) (pe_op op_mod (pe_op op_powX (pe_op op_add (pe_ix ix_list (pv 0) pe_int (fun _ _ => rfl)) (pe_op op_mulX pe_int (pe_ix ix_list (pv 0) pe_int (fun _ _ => rfl)))) pe_int) pe_int))
      (pss_cons (ps_set (i := 3) sc_law_take.nd rfl (.inl rfl) (pe_op op_mod (pe_op op_powX (pe_op op_add (pv 3) (pe_op op_mulX pe_int (pe_ix ix_list (pv 0) pe_int (fun _ _ => rfl)))) pe_int) pe_int))
      (pss_one (ps_ret (pe_op op_mod (pe_op op_fdiv (pv 3) pe_int) (pv 1)))))))), ?_⟩
  have sq : ∀ {H' : Hp} {x y z : Int}, H' p = some (.lst [.int x, .int y, .int z]) → SqL K H' p [.int x, .int y, .int z] := fun h => .inl (.inl h)
  refine ⟨.ref p, rfl, p, _, 0, .int a, rfl, rfl, sq e, rfl, _, _, rfl, rfl, _, rfl, ?_⟩
  by_cases ha : 0 < a
  · rw [decide_eq_true ha]
    refine iteT ⟨.ref p, rfl, p, _, 0, .int a, rfl, rfl, sq e, rfl, .int m, rfl, _, _, rfl, rfl, m1, .ref p, rfl, p, _, 0, .int a, rfl, rfl, sq e, rfl, .int m, rfl, _, _, rfl, rfl, ⟨m1, m2⟩, .ref p, rfl, p, _, 0, 0, rfl, rfl, e, rfl, .int (a % m), rfl, ?_⟩
    exact q _ _ (Int.emod_nonneg _ (by omega)) (Int.emod_lt_of_pos _ m1) (grow_at e (fun ps z => by cases z) (by simp)) ⟨_, _, _, upd_same, b1, b2, k1, by omega⟩
  · rw [decide_eq_false ha]
    refine iteF ⟨.ref p, rfl, p, _, 2, .int k, rfl, rfl, sq e, rfl, _, _, rfl, rfl, .ref p, rfl, p, _, 2, 2, rfl, rfl, e, rfl, ?_⟩
    have e2 : upd H p (.lst [.int a, .int b, .int (k + 1)]) p = some (.lst [.int a, .int b, .int (k + 1)]) := upd_same
    have fin : ∀ x : Int, Q (.int (x / 1048576 % m)) (upd H p (.lst [.int a, .int b, .int (k + 1)])) := fun x =>
      q _ _ (Int.emod_nonneg _ (by omega)) (Int.emod_lt_of_pos _ m1) (grow_at e (fun ps z => by cases z) (by simp)) ⟨_, _, _, e2, b1, b2, by omega, by omega⟩
    have bk : Builtin.Int.intBits (k + 1) ≤ 31 := bits_le (by decide) (by omega)
    have cm1 : CMulX 15485863 (k + 1) := by
      have : Builtin.Int.intBits 15485863 ≤ 24 := bits_le (by decide) (by decide)
      unfold CMulX
      omega
    have cm2 : CMulX 32452843 (k + 1) := by
      have : Builtin.Int.intBits 32452843 ≤ 25 := bits_le (by decide) (by decide)
      unfold CMulX
      omega
    have cp1 : CPowX (b + 15485863 * (k + 1)) 3 := by
      have : Builtin.Int.intBits (b + 15485863 * (k + 1)) ≤ 91 := bits_le (by decide) (by omega)
      exact ⟨by decide, by omega⟩
    have cp2 : ∀ y : Int, CPowX (y % 162259276829213363391578010288127 + 32452843 * (k + 1)) 5 := fun y => by
      have h1 := Int.emod_nonneg y (b := 162259276829213363391578010288127) (by decide)
      have h2 := Int.emod_lt_of_pos y (b := 162259276829213363391578010288127) (by decide)
      have : Builtin.Int.intBits (y % 162259276829213363391578010288127 + 32452843 * (k + 1)) ≤ 108 := bits_le (by decide) (by omega)
      exact ⟨by decide, by omega⟩
    refine ⟨.ref p, rfl, p, _, 1, .int b, rfl, rfl, sq e2, rfl, .ref p, rfl, p, _, 2, .int (k + 1), rfl, rfl, sq e2, rfl, _, _, rfl, rfl, cm1, _, _, rfl, rfl, _, _, rfl, rfl, cp1, _, _, rfl, rfl, (by decide : (0 : Int) < 162259276829213363391578010288127), ?_⟩
    exact ⟨.int _, rfl, .ref p, rfl, p, _, 2, .int (k + 1), rfl, rfl, sq e2, rfl, _, _, rfl, rfl, cm2, _, _, rfl, rfl, _, _, rfl, rfl, cp2 _, _, _, rfl, rfl, (by decide : (0 : Int) < 170141183460469231731687303715884105727), .int _, rfl, _, _, rfl, rfl, (⟨by decide, by decide⟩ : CDiv _ 1048576), .int m, rfl, _, _, rfl, rfl, m1, fin _⟩
end

section
variable {P : Program} {w : World} {K : PySem.W.Frag} {mg : Str → Option Value} {base : Heap}
/-! ### _law_some -/
def spSome (K : PySem.W.Frag) : Sp := fun vs H Q _ => ∃ (p t : Addr) (m : Nat) (c : Int) (zs : List Str), vs = [.ref p, .ref t, .int m] ∧ Pot H p c ∧ c ≤ 2 ^ 20 ∧ SqL K H t (zs.map V.str) ∧ zs.all isNm = true ∧ zs.length ≤ 200 ∧
  ∀ (D : Addr) (H' : Hp) (ys rest : List Str), Fresh H D → Grow [p] H H' → H' D = some (.lst (ys.map V.str)) → (ys ++ rest).Perm zs → ys.length = min m zs.length → Pot H' p (c + 200) → Q (.ref D) H'
theorem ok_law_some {f c : Addr} {fd : FuncData} (B : Nb mg) (D : DefIs K "_law_some" "_law_some" st_law_some f fd (.ref c))
    (c_law_take : Callee P w K mg base CX0 3 "_law_take" ["pot", "many"] (spTake K)) : FnG P w K mg base CX0 4 f fd ["pot", "things", "many"] (spSome K) := by
  refine D.ok0 (k := 3) sc_law_some (fun vs H Q E h => ?_) (fun A outer s H vs Q E g hr h => ?_)
  · obtain ⟨p, t, m, c, zs, rfl, _⟩ := h
    rfl
  obtain ⟨p, t, m, c, zs, rfl, hp, hc, ht, hn, hz, q⟩ := h
  refine ⟨_,
      (pss_cons (ps_set (i := 3) sc_law_some.nd rfl (.inl rfl) (pe_callTy call_list_of rfl B.n_list (by decide +kernel) (pa_cons (pv 1) pa_nil)))
      (pss_cons (ps_set (i := 4) sc_law_some.nd rfl (.inl rfl) (pe_lst pa_nil))
      (pss_cons (ps_while PassesOwn.never (PW.pt (pw_and (pt_cmpR (op_neD hr.units) (pv 3) (pe_lst pa_nil) (nomark _)) (pw_and1 (pt_cmpR (op_lt) (pe_callB call_len_seq rfl B.n_len PySem.boot_len (pa_cons (pv 4) pa_nil)) (pv 2) (nomark _))))) (
        (pss_one (ps_expr (pe_bm PySem.F.plainAttrs_list PySem.F.slot_list_append PySem.F.type_list_append mt_append (pv 4) (pa_cons (pe_bm PySem.F.plainAttrs_list PySem.F.slot_list_pop PySem.F.type_list_pop mt_popAt (pv 3) (pa_cons (pe_g c_law_take g (hr.mono (by decide)) pass0 (pa_cons (pv 0) (pa_cons (pe_callB call_len_seq rfl B.n_len PySem.boot_len (pa_cons (pv 3) pa_nil)) pa_nil))) pa_nil)) pa_nil))))))
      (pss_one (ps_ret (pv 4)))))), ?_⟩
  have np : ∀ {b : Addr} {o : HO} {H' : Hp}, H' b = none → H' p = some o → b ≠ p := fun h1 h2 z => by
    rw [z, h2] at h1
    cases h1
  obtain ⟨pa, pb, pk, ep, _⟩ := id hp
  refine ⟨.ref t, rfl, t, _, rfl, .inl ht, fun L nL => ?_⟩
  refine ⟨by show 0 ≤ sizeLine; decide, fun F nF => ?_⟩
  have eL : upd (upd H L (.lst (zs.map V.str))) F (.lst []) L = some (.lst (zs.map V.str)) := by
    rw [upd_ne (ne_of_none upd_same nF)]
    exact upd_same
  have LF : L ≠ F := ne_of_none (H := upd H L (.lst (zs.map V.str))) upd_same nF
  have Lp : L ≠ p := np nL ep
  have Fp : F ≠ p := fun z => by
    rw [z, upd_ne Lp.symm, ep] at nF
    cases nF
  have fF : Fresh H F := fresh_none (by rwa [upd_ne LF.symm] at nF)
  have g0 : Grow [p] H (upd (upd H L (.lst (zs.map V.str))) F (.lst [])) := ((grow_new nL).trans (grow_new nF)).any
  refine ⟨fun n σ H' => ∃ ls fs : List Str, n = ls.length ∧ σ = [some (.ref p), some (.ref t), some (.int m), some (.ref L), some (.ref F)] ∧ H' L = some (.lst (ls.map V.str)) ∧ H' F = some (.lst (fs.map V.str)) ∧ (fs ++ ls).Perm zs ∧ fs.length ≤ m ∧ Pot H' p (c + fs.length) ∧ Grow [p] H H',
    ⟨_, zs, [], rfl, rfl, eL, upd_same, .refl _, Nat.zero_le _, ?_, g0⟩, fun n σ H' hw => ?_⟩
  · obtain ⟨a, b, k, e, r⟩ := hp
    exact ⟨a, b, k, by rw [upd_ne Fp.symm, upd_ne Lp.symm]; exact e, r.1, r.2.1, r.2.2.1, by have := r.2.2.2; simp; omega⟩
  · obtain ⟨ls, fs, rfl, rfl, eL, eF, pm, hm, pot, gr⟩ := hw
    refine ⟨.ref L, rfl, by show 0 ≤ sizeLine; decide, fun W nW => ?_⟩
    have eL1 : upd H' W (.lst []) L = some (.lst (ls.map V.str)) := by rw [upd_ne (ne_of_none eL nW)]; exact eL
    have eF1 : upd H' W (.lst []) F = some (.lst (fs.map V.str)) := by rw [upd_ne (ne_of_none eF nW)]; exact eF
    have gr1 : Grow [p] H (upd H' W (.lst [])) := gr.new nW
    have pot1 : Pot (upd H' W (.lst [])) p (c + fs.length) := by
      obtain ⟨a, b, k, e, r⟩ := pot
      exact ⟨a, b, k, by rw [upd_ne (ne_of_none e nW)]; exact e, r⟩
    have hls : ls.length + fs.length = zs.length := by have := pm.length_eq; rw [List.length_append] at this; omega
    have f1 := fine_names (zs := ls) (List.all_eq_true.mpr fun x hx => List.all_eq_true.mp hn x (pm.mem_iff.mp (List.mem_append_right _ hx))) (by omega)
    have done_ : fs.length = min m zs.length → Q (.ref F) (upd H' W (.lst [])) := fun e => by
      obtain ⟨a, b, k, ep, b1, b2, b3, b4⟩ := pot1
      exact q F _ fs ls fF gr1 eF1 pm e ⟨a, b, k, ep, b1, b2, b3, by omega⟩
    refine ⟨_, _, dp_book (.inl (.inl eL1)), dp_book (xs := []) (.inl (.inl upd_same)), f1.shaped (by decide), (fine_names (zs := []) rfl (Nat.zero_le _)).shaped (by decide), ?_⟩
    cases ls with
    | nil =>
      refine ⟨false, rfl, ?_⟩
      exact iteF (iteF ⟨.ref F, rfl, done_ (by rw [List.length_nil] at hls; omega)⟩)
    | cons x r =>
      refine ⟨true, rfl, iteT ⟨.ref F, rfl, F, _, rfl, .inl (.inl (.inl eF1)), .int m, rfl, _, _, rfl, rfl, _, rfl, ?_⟩⟩
      rw [List.length_map]
      by_cases hlt : ((fs.length : Nat) : Int) < (m : Int)
      · rw [decide_eq_true hlt]
        refine iteT ⟨fun σ' H2 => ∃ ls' fs' : List Str, ls'.length < (x :: r).length ∧ σ' = [some (.ref p), some (.ref t), some (.int m), some (.ref L), some (.ref F)] ∧ H2 L = some (.lst (ls'.map V.str)) ∧ H2 F = some (.lst (fs'.map V.str)) ∧ (fs' ++ ls').Perm zs ∧ fs'.length ≤ m ∧ Pot H2 p (c + fs'.length) ∧ Grow [p] H H2,
          fun σ' H2 h2 => ?_, ?_⟩
        · obtain ⟨ls', fs', l1, r2⟩ := h2
          exact ⟨_, l1, ls', fs', rfl, r2⟩
        · have hrl : (x :: r).length = r.length + 1 := rfl
          refine ⟨.ref F, rfl, tyl eF1, .ref L, rfl, tyl eL1, .ref p, rfl, .ref L, rfl, L, _, rfl, .inl (.inl (.inl eL1)), p, _, _, rfl, ?_, ?_, ?_, pot1, fun v H2 v0 v1 g2 pot2 => ?_⟩
          · rw [List.length_map]; omega
          · rw [List.length_map]; omega
          · omega
          rw [List.length_map] at v1
          have eL2 : H2 L = some (.lst ((x :: r).map V.str)) := g2.lst (by simpa using Lp) eL1
          have eF2 : H2 F = some (.lst (fs.map V.str)) := g2.lst (by simpa using Fp) eF1
          have hv : v.toNat < (x :: r).length := by omega
          refine ⟨L, _, v, v.toNat, .str (x :: r)[v.toNat], rfl, rfl, eL2, by omega, by omega, seqIndex_nat v0 (by rw [List.length_map]; exact v1), ?_, ?_⟩
          · rw [List.getElem?_map, List.getElem?_eq_getElem hv]
            rfl
          · have g3 : Grow [p] H (upd H2 L (.lst (((x :: r).map V.str).eraseIdx v.toNat))) := (gr1.trans g2).put (fresh_none nL) eL2 (fun ps z => by cases z)
            have eF3 : upd H2 L (.lst (((x :: r).map V.str).eraseIdx v.toNat)) F = some (.lst (fs.map V.str)) := by rw [upd_ne LF.symm]; exact eF2
            have fl : fs.length + 1 ≤ 200 := by omega
            refine ⟨F, _, _, rfl, rfl, eF3, by rw [List.length_map]; unfold sizeLine; omega, (x :: r).eraseIdx v.toNat, fs ++ [(x :: r)[v.toNat]], ?_, rfl, ?_, ?_, ?_, ?_, ?_, g3.put fF eF3 (fun ps z => by cases z)⟩
            · rw [List.length_eraseIdx_of_lt hv]
              omega
            · rw [upd_ne LF, upd_same, erase_map]
            · rw [upd_same, List.map_append]
              rfl
            · refine List.Perm.trans ?_ pm
              rw [List.append_assoc]
              exact List.Perm.append_left fs (erase_perm (x :: r) v.toNat hv)
            · rw [List.length_append]
              show fs.length + 1 ≤ m
              omega
            · obtain ⟨a, b, k, e, b1, b2, b3, b4⟩ := pot2
              refine ⟨a, b, k, ?_, b1, b2, b3, ?_⟩
              · rw [upd_ne Fp.symm, upd_ne Lp.symm]
                exact e
              · rw [List.length_append]
                simp only [List.length_cons, List.length_nil]
                omega
      · rw [decide_eq_false hlt]
        exact iteF ⟨.ref F, rfl, done_ (by omega)⟩
end

section
variable {P : Program} {w : World} {K : PySem.W.Frag} {mg : Str → Option Value} {base : Heap}
/-! ### _law_names, _law_many -/
theorem bk_of {zs ys rest : List Str} (h : zs.all isNm = true) (nd : zs.Nodup) (hz : zs.length ≤ 200) (p : (ys ++ rest).Perm zs) : Bk ys :=
  ⟨List.all_eq_true.mpr fun x hx => List.all_eq_true.mp h x (p.mem_iff.mp (List.mem_append_left _ hx)), (List.nodup_append.mp (p.nodup_iff.mpr nd)).1, by
    have := p.length_eq
    rw [List.length_append] at this
    omega⟩
theorem len100 {zs ys rest : List Str} (hz : zs.length ≤ 100) (p : (ys ++ rest).Perm zs) : ys.length ≤ 100 := by
  have := p.length_eq
  rw [List.length_append] at this
  omega
def names1 : List Str := ["an", "ana", "a", "bo", "cy", "di", "em", "fo", "gu", "ha", "net", "book", "hear", "open", "shout"]
def names2 : List Str := ["ok", "word", "hand", "join", "step", "rest", "lane", "way", "abcdefgh", "abcdefgi", "zzzzzzzz"]
def spDraw (K : PySem.W.Frag) : Sp := fun vs H Q _ => ∃ (p : Addr) (m : Nat) (c : Int), vs = [.ref p, .int m] ∧ Pot H p c ∧ c ≤ 2 ^ 20 ∧
  ∀ (D : Addr) (H' : Hp) (ys : List Str), Fresh H D → Grow [p] H H' → H' D = some (.lst (ys.map V.str)) → Bk ys → ys.length ≤ 100 ∧ ys.length ≤ m ∧ (∀ y ∈ ys, y ∈ names1 ++ names2) → Pot H' p (c + 200) → Q (.ref D) H'
theorem names_nm : (names1 ++ names2).all isNm = true := by decide +kernel
theorem names_nd : (names1 ++ names2).Nodup := by decide +kernel
theorem ok_law_names {f c : Addr} {fd : FuncData} (B : Nb mg) (D : DefIs K "_law_names" "_law_names" st_law_names f fd (.ref c))
    (c_law_some : Callee P w K mg base CX0 4 "_law_some" ["pot", "things", "many"] (spSome K)) : FnG P w K mg base CX0 5 f fd ["pot", "many"] (spDraw K) := by
  refine D.ok0 (k := 4) sc_law_names (fun vs H Q E h => ?_) (fun A outer s H vs Q E g hr h => ?_)
  · obtain ⟨p, m, c, rfl, _⟩ := h
    rfl
  obtain ⟨p, m, c, rfl, hp, hc, q⟩ := h
  refine ⟨_,
      (pss_cons (ps_set (i := 2) sc_law_names.nd rfl (.inl rfl) (pe_lst (pa_cons pe_str (pa_cons pe_str (pa_cons pe_str (pa_cons pe_str (pa_cons pe_str (pa_cons pe_str (pa_cons pe_str (pa_cons pe_str (pa_cons pe_str (pa_cons pe_str (pa_cons pe_str (pa_cons pe_str (pa_cons pe_str (pa_cons pe_str (pa_cons pe_str pa_nil)))))))))))))))))
      (pss_cons (ps_set (i := 2) sc_law_names.nd rfl (.inl rfl) (pe_op op_cat (pv 2) (pe_lst (pa_cons pe_str (pa_cons pe_str (pa_cons pe_str (pa_cons pe_str (pa_cons pe_str (pa_cons pe_str (pa_cons pe_str (pa_cons pe_str (pa_cons pe_str (pa_cons pe_str (pa_cons pe_str pa_nil))))))))))))))
      (pss_one (ps_ret (pe_g c_law_some g (hr.mono (by decide)) pass0 (pa_cons (pv 0) (pa_cons (pv 2) (pa_cons (pv 1) pa_nil)))))))), ?_⟩
  have go : ∀ (C : Addr) (H1 : Hp), Grow [] H H1 → H1 C = some (.lst ((names1 ++ names2).map V.str)) → spSome K [.ref p, .ref C, .int m] H1 Q E0 := fun C H1 g1 e1 => by
    obtain ⟨a, b, k, e, r⟩ := hp
    refine ⟨p, C, m, c, names1 ++ names2, rfl, ⟨a, b, k, g1.lst (by simp) e, r⟩, hc, .inl (.inl e1), names_nm, by decide, fun D H2 ys rest fr g2 e2 pm lm pot => ?_⟩
    exact q D H2 ys (g1.fresh (by simp) fr) (g1.any.trans g2) e2 (bk_of names_nm names_nd (by decide) pm) ⟨len100 (by decide) pm, by rw [lm]; exact Nat.min_le_left _ _, fun y hy => pm.mem_iff.mp (List.mem_append_left _ hy)⟩ pot
  refine ⟨by show 15 ≤ sizeLine; decide, fun A1 n1 => ⟨.ref A1, rfl, by show 11 ≤ sizeLine; decide, fun A2 n2 => ?_⟩⟩
  have e1 : upd (upd H A1 (.lst (names1.map V.str))) A2 (.lst (names2.map V.str)) A1 = some (.lst (names1.map V.str)) := by
    rw [upd_ne (ne_of_none upd_same n2)]
    exact upd_same
  refine ⟨A1, A2, _, _, rfl, rfl, e1, upd_same, by decide, fun C nC => ?_⟩
  exact ⟨.ref p, rfl, .ref C, rfl, .int m, rfl, go C _ (((grow_new n1).new n2).new nC) upd_same⟩
end

section
variable {P : Program} {w : World} {K : PySem.W.Frag} {mg : Str → Option Value} {base : Heap}
/-! ### _law_other -/
def spOther (K : PySem.W.Frag) : Sp := fun vs H Q _ => ∃ (p l : Addr) (c : Int) (zs : List Str), vs = [.ref p, .ref l] ∧ Pot H p c ∧ c ≤ 2 ^ 19 ∧ H l = some (.lst (zs.map V.str)) ∧ l ≠ p ∧ Bk zs ∧ zs.length ≤ 99 ∧
  ∀ (D : Addr) (H' : Hp) (ws : List Str), Fresh H D → Grow [p] H H' → H' D = some (.lst (ws.map V.str)) → zs.Perm ws → Pot H' p (c + 1000) → Q (.ref D) H'
theorem ok_law_other {f c : Addr} {fd : FuncData} (B : Nb mg) (D : DefIs K "_law_other" "_law_other" st_law_other f fd (.ref c))
    (c_law_take : Callee P w K mg base CX0 3 "_law_take" ["pot", "many"] (spTake K)) (c_law_some : Callee P w K mg base CX0 4 "_law_some" ["pot", "things", "many"] (spSome K)) : FnG P w K mg base CX0 5 f fd ["pot", "book"] (spOther K) := by
  refine D.ok0 (k := 4) sc_law_other (fun vs H Q E h => ?_) (fun A outer s H vs Q E g hr h => ?_)
  · obtain ⟨p, l, c, zs, rfl, _⟩ := h
    rfl
  obtain ⟨p, l, c, zs, rfl, hp, hc, hl, lp, bz, z99, q⟩ := h
  obtain ⟨I, hI⟩ : ∃ I : Int → L2.St → Hp → Prop, I = fun c1 σ H' => ∃ (O : Addr) (ws : List Str) (way : Int) (a b : Option V), σ = [some (.ref p), some (.ref l), some (.ref O), some (.int way), a, b] ∧ Fresh H O ∧ H' O = some (.lst (ws.map V.str)) ∧ zs.Perm ws ∧ Pot H' p (c + c1) ∧ Grow [p] H H' := ⟨_, rfl⟩
  refine ⟨_,
      (pss_cons (ps_set (i := 2) sc_law_other.nd rfl (.inl rfl) (pe_callTy call_list_of rfl B.n_list (by decide +kernel) (pa_cons (pv 1) pa_nil)))
      (pss_cons (ps_set (i := 3) sc_law_other.nd rfl (.inl rfl) (pe_g c_law_take g (hr.mono (by decide)) pass0 (pa_cons (pv 0) (pa_cons pe_int pa_nil))))
      (pss_cut (I 1) (ps_if (pt_cmpR (op_eq) (pv 3) pe_int (nomark _)) (
        (pss_one (ps_expr (pe_bm0 PySem.F.plainAttrs_list PySem.F.slot_list_reverse PySem.F.type_list_reverse mt_reverse (pv 2))))) pss_nil)
      (pss_cut (I 201) (ps_if (pt_cmpR (op_eq) (pv 3) pe_int (nomark _)) (
        (pss_one (ps_set (i := 2) sc_law_other.nd rfl (.inl rfl) (pe_g c_law_some g (hr.mono (by decide)) pass0 (pa_cons (pv 0) (pa_cons (pv 1) (pa_cons pe_int pa_nil))))))) pss_nil)
      (pss_cut (I 802) (ps_if (PW.pt (pw_and (pt_cmpR (op_gt) (pv 3) pe_int (nomark _)) (pw_and1 (pt_cmpR (op_gt) (pe_callB call_len_seq rfl B.n_len PySem.boot_len (pa_cons (pv 1) pa_nil)) pe_int (nomark _))))) (
        (pss_one (ps_for PassesOwn.never rfl (pi_range1 rfl B.n_range (pa_cons (pe_g c_law_take g (hr.mono (by decide)) pass0 (pa_cons (pv 0) (pa_cons (pe_op op_mulX pe_int (pe_callB call_len_seq rfl B.n_len PySem.boot_len (pa_cons (pv 1) pa_nil))) pa_nil))) pa_nil)) (pg_name (i := 4) sc_law_other.nd rfl (.inl rfl)) (
          (pss_cons (ps_set (i := 5) sc_law_other.nd rfl (.inl rfl) (pe_g c_law_take g (hr.mono (by decide)) pass0 (pa_cons (pv 0) (pa_cons (pe_op op_sub (pe_callB call_len_seq rfl B.n_len PySem.boot_len (pa_cons (pv 1) pa_nil)) pe_int) pa_nil))))
          (pss_one (ps_set (i := 2) sc_law_other.nd rfl (.inl rfl) (pe_op op_cat (pe_op op_cat (pe_slice sl_list (pv 2) po_none (po_some (pv 5))) (pe_lst (pa_cons (pe_ix ix_list (pv 2) (pe_op op_add (pv 5) pe_int) (fun _ _ => rfl)) (pa_cons (pe_ix ix_list (pv 2) (pv 5) (fun _ _ => rfl)) pa_nil)))) (pe_slice sl_list (pv 2) (po_some (pe_op op_add (pv 5) pe_int)) po_none))))))))) pss_nil)
      (pss_cons (ps_set (i := 5) sc_law_other.nd rfl (.inl rfl) (pe_g c_law_take g (hr.mono (by decide)) pass0 (pa_cons (pv 0) (pa_cons (pe_op op_add (pe_callB call_len_seq rfl B.n_len PySem.boot_len (pa_cons (pv 1) pa_nil)) pe_int) pa_nil))))
      (pss_one (ps_ret (pe_ifExp (pt_cmpR (op_eq) (pv 3) pe_int (nomark _)) (pe_op op_cat (pe_slice sl_list (pv 2) (po_some (pv 5)) po_none) (pe_slice sl_list (pv 2) po_none (po_some (pv 5)))) (pv 2)))))))))), ?_⟩
  have mk : ∀ (c1 way : Int) (H' : Hp) (O : Addr) (ws : List Str) (a b : Option V), Fresh H O → H' O = some (.lst (ws.map V.str)) → zs.Perm ws → Pot H' p (c + c1) → Grow [p] H H' → I c1 [some (.ref p), some (.ref l), some (.ref O), some (.int way), a, b] H' := fun c1 way H' O ws a b h1 h2 h3 h4 h5 => by
    rw [hI]
    exact ⟨O, ws, way, a, b, rfl, h1, h2, h3, h4, h5⟩
  have ul : ∀ {H' : Hp}, Grow [p] H H' → H' l = some (.lst (zs.map V.str)) := fun g => g.lst (by simpa using lp) hl
  have zl := bz.len
  refine ⟨.ref l, rfl, l, _, rfl, .inl (.inl (.inl hl)), fun O nO => ?_⟩
  have Op : O ≠ p := by
    obtain ⟨a, b, k, e, _⟩ := hp
    intro z
    rw [z, e] at nO
    cases nO
  refine ⟨.ref p, rfl, p, 6, c, rfl, by decide, by decide, by omega, hp.new nO, fun way H1 w0 w1 g1 pot1 => ⟨?_, fun σ2 H2 h2 => ⟨?_, fun σ3 H3 h3 => ⟨?_, fun σ4 H4 h4 => ?_⟩⟩⟩⟩
  · have eO : H1 O = some (.lst (zs.map V.str)) := g1.lst (by simpa using Op) upd_same
    have gO : Grow [p] H H1 := (grow_new nO).any.trans g1
    refine ⟨.int way, rfl, rfl, _, rfl, ite2 (fun _ => ?_) fun _ => ?_⟩
    · refine ⟨.ref O, rfl, tyl eO, O, _, rfl, rfl, eO, ?_⟩
      exact mk 1 way _ O zs.reverse none none (fresh_none nO) (by rw [upd_same, List.map_reverse]) (List.reverse_perm zs).symm (pot1.at Op.symm) (gO.put (fresh_none nO) eO (fun ps z => by cases z))
    · exact mk 1 way H1 O zs none none (fresh_none nO) eO (.refl _) pot1 gO
  · rw [hI] at h2
    obtain ⟨O2, ws, way2, a, b, rfl, f2, e2, pm, pot2, gr2⟩ := h2
    refine ⟨.int way2, rfl, rfl, _, rfl, ite2 (fun _ => ?_) fun _ => ?_⟩
    · refine ⟨.ref p, rfl, .ref l, rfl, p, l, 99, _, zs, rfl, pot2, by omega, .inl (.inl (ul gr2)), bz.nm, zl, fun D H5 ys rest fr g5 e5 pm5 ln pot5 => ?_⟩
      rw [Nat.min_eq_right z99] at ln
      have hr : rest = [] := List.eq_nil_of_length_eq_zero (by have := pm5.length_eq; rw [List.length_append] at this; omega)
      rw [hr, List.append_nil] at pm5
      exact mk 201 way2 H5 D ys a b (Fresh.back fr gr2 pot2) e5 pm5.symm (pot5.mono (by omega)) (gr2.trans g5)
    · exact mk 201 way2 H2 O2 ws a b f2 e2 pm (pot2.mono (by omega)) gr2
  · rw [hI] at h3
    obtain ⟨O3, ws, way3, a, b, rfl, f3, e3, pm, pot3, gr3⟩ := h3
    refine ⟨.int way3, rfl, _, _, rfl, rfl, _, rfl, ite2 (fun _ => ?_) fun _ => iteF ?_⟩
    · refine ⟨.ref l, rfl, l, _, rfl, .inl (.inl (.inl (ul gr3))), _, _, rfl, rfl, _, rfl, ite2 (fun h1 => ?_) fun _ => ?_⟩
      · rw [List.length_map] at h1
        replace h1 := of_decide_eq_true h1
        have cm : CMulX 3 ((zs.map V.str).length : Nat) := by
          have q1 : Builtin.Int.intBits (((zs.map V.str).length : Nat) : Int) ≤ 8 := bits_le (by decide) (by rw [List.length_map]; omega)
          have q2 : Builtin.Int.intBits 3 ≤ 2 := bits_le (by decide) (by decide)
          unfold CMulX
          omega
        refine ⟨.ref p, rfl, .ref l, rfl, l, _, rfl, .inl (.inl (.inl (ul gr3))), _, _, rfl, rfl, cm, p, _, _, rfl, by rw [List.length_map]; omega, by rw [List.length_map]; omega, by omega, pot3, fun v H5 v0 v1 g5 pot5 => ⟨v, rfl, by omega, ?_, ?_⟩⟩
        · rw [List.length_map] at v1
          omega
        · rw [List.length_map] at v1
          have Op3 : O3 ≠ p := by
            obtain ⟨x, y, k, e, _⟩ := hp
            exact (f3.ne e (fun ps z => by cases z)).symm
          refine for_it walk_range (fun i σ H' => ∃ (O : Addr) (ws : List Str) (a b : Option V), σ = [some (.ref p), some (.ref l), some (.ref O), some (.int way3), a, b] ∧ Fresh H O ∧ H' O = some (.lst (ws.map V.str)) ∧ zs.Perm ws ∧ Pot H' p (c + 202 + i) ∧ Grow [p] H H')
            ⟨O3, ws, a, b, rfl, f3, g5.lst (by simpa using Op3) e3, pm, pot5.mono (by omega), gr3.trans g5⟩ (fun _ _ _ _ _ => trivial) (fun i x σ H6 H7 hi hw hy => ?_) (fun σ H6 hw => ?_)
          · obtain ⟨O, ws, a, b, rfl, fO, eO, pm, pot, gr⟩ := hw
            obtain ⟨rfl, rfl⟩ := hy
            have Op : O ≠ p := by
              obtain ⟨x, y, k, e, _⟩ := hp
              exact (fO.ne e (fun ps z => by cases z)).symm
            refine ⟨.ref p, rfl, .ref l, rfl, l, _, rfl, .inl (.inl (.inl (ul gr))), _, _, rfl, rfl, p, _, _, rfl, by rw [List.length_map]; omega, by rw [List.length_map]; omega, by omega, pot, fun v2 H8 u0 u1 g8 pot8 => ?_⟩
            rw [List.length_map] at u1
            obtain ⟨k, rfl⟩ : ∃ k : Nat, v2 = k := ⟨v2.toNat, (Int.toNat_of_nonneg u0).symm⟩
            have lw := pm.length_eq
            have eO8 : H8 O = some (.lst (ws.map V.str)) := g8.lst (by simpa using Op) eO
            have g9 := gr.trans g8
            have hk1 : k + 1 < ws.length := by omega
            have at1 : atI (ws.map V.str) ((k : Int) + 1) = some (.str ws[k + 1]) := by
              have := atI_nat (xs := ws.map V.str) (j := k + 1) (v := .str ws[k + 1]) (by rw [List.getElem?_map, List.getElem?_eq_getElem hk1]; rfl)
              rwa [Int.natCast_add] at this
            have at0 : atI (ws.map V.str) (k : Int) = some (.str ws[k]) := atI_nat (by rw [List.getElem?_map, List.getElem?_eq_getElem (by omega)]; rfl)
            refine ⟨.ref O, rfl, .int k, rfl, _, rfl, O, _, rfl, .inl (.inl eO8), fun S1 n1 => ?_⟩
            rw [cut_hi]
            have x1 : upd H8 S1 (.lst ((ws.map V.str).take k)) O = some (.lst (ws.map V.str)) := by rw [upd_ne (ne_of_none eO8 n1)]; exact eO8
            refine ⟨.ref O, rfl, .int k, rfl, _, _, rfl, rfl, O, _, _, _, rfl, rfl, .inl (.inl x1), at1, .ref O, rfl, .int k, rfl, O, _, _, _, rfl, rfl, .inl (.inl x1), at0, by show 2 ≤ sizeLine; decide, fun S2 n2 => ?_⟩
            have x2 : upd (upd H8 S1 (.lst ((ws.map V.str).take k))) S2 (.lst [.str ws[k + 1], .str ws[k]]) S1 = some (.lst ((ws.map V.str).take k)) := by
              rw [upd_ne (ne_of_none upd_same n2)]
              exact upd_same
            refine ⟨S1, S2, _, _, rfl, rfl, x2, upd_same, ?_, fun S3 n3 => ?_⟩
            · rw [List.length_take, List.length_map]
              simp only [List.length_cons, List.length_nil]
              unfold sizeLine
              omega
            have x3 : upd (upd (upd H8 S1 (.lst ((ws.map V.str).take k))) S2 (.lst [.str ws[k + 1], .str ws[k]])) S3 (.lst ((ws.map V.str).take k ++ [.str ws[k + 1], .str ws[k]])) O = some (.lst (ws.map V.str)) := by
              have y : upd (upd H8 S1 (.lst ((ws.map V.str).take k))) S2 (.lst [.str ws[k + 1], .str ws[k]]) O = some (.lst (ws.map V.str)) := by rw [upd_ne (ne_of_none x1 n2)]; exact x1
              rw [upd_ne (ne_of_none y n3)]
              exact y
            refine ⟨.ref O, rfl, .int k, rfl, _, _, rfl, rfl, _, rfl, O, _, rfl, .inl (.inl x3), fun S4 n4 => ?_⟩
            have ec : cutV (ws.map V.str) (some ((k : Int) + 2)) none = (ws.map V.str).drop (k + 2) := by
              have := cut_lo (ws.map V.str) (k + 2)
              rwa [Int.natCast_add] at this
            rw [ec]
            refine ⟨S3, S4, _, _, rfl, rfl, by rw [upd_ne (ne_of_none upd_same n4)]; exact upd_same, upd_same, ?_, fun S5 n5 => ?_⟩
            · rw [List.length_append, List.length_take, List.length_drop, List.length_map]
              simp only [List.length_cons, List.length_nil]
              unfold sizeLine
              omega
            have f5 : Fresh H8 S5 := by
              have m4 : S5 ≠ S4 := fun z => by rw [z, upd_same] at n5; cases n5
              rw [upd_ne m4] at n5
              have m3 : S5 ≠ S3 := fun z => by rw [z, upd_same] at n5; cases n5
              rw [upd_ne m3] at n5
              have m2 : S5 ≠ S2 := fun z => by rw [z, upd_same] at n5; cases n5
              rw [upd_ne m2] at n5
              have m1 : S5 ≠ S1 := fun z => by rw [z, upd_same] at n5; cases n5
              rw [upd_ne m1] at n5
              exact fresh_none n5
            refine ⟨S5, ws.take k ++ [ws[k + 1], ws[k]] ++ ws.drop (k + 2), _, _, rfl, Fresh.back f5 g9 pot8, ?_, pm.trans (swap_perm ws k hk1).symm, ?_, ((((g9.new n1).new n2).new n3).new n4).new n5⟩
            · rw [upd_same, List.map_append, List.map_append, List.map_take, List.map_drop]
              rfl
            · exact (((((pot8.new n1).new n2).new n3).new n4).new n5).mono (by omega)
          · obtain ⟨O, ws, a, b, rfl, fO, eO, pm, pot, gr⟩ := hw
            exact mk 802 way3 H6 O ws a b fO eO pm (pot.mono (by omega)) gr
      · exact mk 802 way3 H3 O3 ws a b f3 e3 pm (pot3.mono (by omega)) gr3
    · exact mk 802 way3 H3 O3 ws a b f3 e3 pm (pot3.mono (by omega)) gr3
  · rw [hI] at h4
    obtain ⟨O4, ws, way4, a, b, rfl, f4, e4, pm, pot4, gr4⟩ := h4
    refine ⟨.ref p, rfl, .ref l, rfl, l, _, rfl, .inl (.inl (.inl (ul gr4))), _, _, rfl, rfl, p, _, _, rfl, by omega, by rw [List.length_map]; omega, by omega, pot4, fun v H5 v0 v1 g5 pot5 => ?_⟩
    rw [List.length_map] at v1
    obtain ⟨i, rfl⟩ : ∃ i : Nat, v = i := ⟨v.toNat, (Int.toNat_of_nonneg v0).symm⟩
    have g6 := gr4.trans g5
    have Op : O4 ≠ p := by
      obtain ⟨x, y, k, e, _⟩ := hp
      exact (f4.ne e (fun ps z => by cases z)).symm
    have e5 : H5 O4 = some (.lst (ws.map V.str)) := g5.lst (by simpa using Op) e4
    refine ⟨.int way4, rfl, rfl, _, rfl, ite2 (fun _ => ?_) fun _ => ?_⟩
    · refine ⟨.ref O4, rfl, .int i, rfl, _, rfl, O4, _, rfl, .inl (.inl e5), fun S1 n1 => ?_⟩
      have e6 : upd H5 S1 (.lst (cutV (ws.map V.str) (some (i : Int)) none)) O4 = some (.lst (ws.map V.str)) := by rw [upd_ne (ne_of_none e5 n1)]; exact e5
      refine ⟨.ref O4, rfl, .int i, rfl, _, rfl, O4, _, rfl, .inl (.inl e6), fun S2 n2 => ?_⟩
      have e7 : upd (upd H5 S1 (.lst (cutV (ws.map V.str) (some (i : Int)) none))) S2 (.lst (cutV (ws.map V.str) none (some (i : Int)))) S1 = some (.lst (cutV (ws.map V.str) (some (i : Int)) none)) := by
        rw [upd_ne (ne_of_none upd_same n2)]
        exact upd_same
      refine ⟨S1, S2, _, _, rfl, rfl, e7, upd_same, ?_, fun S3 n3 => ?_⟩
      · have h1 := cutV_length (ws.map V.str) (some (i : Int)) none
        have h2 := cutV_length (ws.map V.str) none (some (i : Int))
        have h3 := pm.length_eq
        rw [List.length_map] at h1 h2
        unfold sizeLine
        omega
      · rw [cut_lo, cut_hi] at n3 ⊢
        rw [cut_lo] at n2
        have g7 := ((g6.new (o := .lst ((ws.map V.str).drop i)) (by assumption)).new (o := .lst ((ws.map V.str).take i)) n2).new (o := .lst ((ws.map V.str).drop i ++ (ws.map V.str).take i)) n3
        refine q S3 _ (ws.drop i ++ ws.take i) (Fresh.back (fresh_none (p := S3) (H := H5) ?_) g6 pot5) g7 ?_ (pm.trans (turn_perm ws i).symm) ?_
        · have m1 : S3 ≠ S2 := fun z => by rw [z, upd_same] at n3; cases n3
          rw [upd_ne m1] at n3
          have m2 : S3 ≠ S1 := fun z => by rw [z, upd_same] at n3; cases n3
          rwa [upd_ne m2] at n3
        · rw [upd_same, List.map_append, List.map_drop, List.map_take]
        · exact (((pot5.new n1).new n2).new n3).mono (by omega)
    · exact ⟨.ref O4, rfl, q O4 H5 ws f4 g6 e5 pm (pot5.mono (by omega))⟩
end

end Lw

namespace Lw
open PySem PySem.Spec PyProof.Rows L2 GxR Gx
/-! ### ranks -/
def topI : List Int → Int
  | [] => 0
  | x :: r => r.foldl max x
theorem topI_le : ∀ (r : List Int) (x : Int), x ≤ r.foldl max x ∧ (∀ y ∈ r, y ≤ r.foldl max x) ∧ (r.foldl max x = x ∨ r.foldl max x ∈ r)
  | [], x => ⟨Int.le_refl _, fun y h => (by cases h), .inl rfl⟩
  | z :: r, x => by
    obtain ⟨h1, h2, h3⟩ := topI_le r (max x z)
    refine ⟨by show x ≤ r.foldl max (max x z); omega, fun y hy => ?_, ?_⟩
    · show y ≤ r.foldl max (max x z)
      rcases List.mem_cons.mp hy with rfl | hy
      · omega
      · exact h2 y hy
    · show r.foldl max (max x z) = x ∨ r.foldl max (max x z) ∈ z :: r
      rcases h3 with h | h
      · rw [h]
        by_cases hxz : x ≤ z
        · exact .inr (by rw [show max x z = z by omega]; exact List.mem_cons_self)
        · exact .inl (by omega)
      · exact .inr (List.mem_cons_of_mem _ h)
theorem topI_of {ns : List Int} {m : Int} (h : TopOf 0 ns m) : m = topI ns := by
  cases ns with
  | nil =>
    rcases h with ⟨_, h⟩ | ⟨h, _⟩
    · exact h
    · cases h
  | cons x r =>
    obtain ⟨h1, h2, h3⟩ := topI_le r x
    rcases h with ⟨h, _⟩ | ⟨h, hm⟩
    · cases h
    · show m = r.foldl max x
      have a1 : m ≤ r.foldl max x := by
        rcases List.mem_cons.mp h with rfl | h
        · exact h1
        · exact h2 m h
      have a2 : r.foldl max x ≤ m := by
        rcases h3 with e | e
        · rw [e]
          exact hm x List.mem_cons_self
        · exact hm _ (List.mem_cons_of_mem _ e)
      omega
/-- the ranks of those that stand ahead of w turned -/
def aheadR (lt : Str → Str → Bool) (acc : List (Str × Int)) (w : Str) : List Int := (acc.filter fun p => lt p.1 w).map Prod.snd
def ranksTo (lt : Str → Str → Bool) (zs : List Str) : Nat → List (Str × Int)
  | 0 => []
  | i + 1 => ranksTo lt zs i ++ [(zs.getD i Str.empty, 1 + topI (aheadR lt (ranksTo lt zs i) (zs.getD i Str.empty)))]
def kvR (ps : List (Str × Int)) : List (Key × V) := ps.map fun p => (Sum.inr p.1, V.int p.2)
theorem ranksTo_len (lt : Str → Str → Bool) (zs : List Str) : ∀ i, (ranksTo lt zs i).length = i
  | 0 => rfl
  | i + 1 => by rw [ranksTo, List.length_append, ranksTo_len lt zs i]; rfl
theorem ranksTo_keys (lt : Str → Str → Bool) (zs : List Str) : ∀ i, i ≤ zs.length → (ranksTo lt zs i).map Prod.fst = zs.take i
  | 0, _ => rfl
  | i + 1, h => by
    have hz : zs[i]? = some (zs.getD i Str.empty) := by
      rw [List.getD_eq_getElem?_getD, List.getElem?_eq_getElem (by omega)]
      rfl
    rw [ranksTo, List.map_append, ranksTo_keys lt zs i (by omega), List.take_add_one, hz]
    rfl

/-! ### how_many_above -/
section
variable {S : Type}
/-- the lasts of rows: what the numbers in ls tell of the ranks in acc -/
structure Lasts (pl : S → Int) (acc : List (S × Int)) (ls : List Int) : Prop where
  has : ∀ p ∈ acc, ∃ k x, p.2 = ((k : Nat) : Int) + 1 ∧ ls[k]? = some x ∧ pl p.1 ≤ x
  one : ∀ (k : Nat) (x : Int), ls[k]? = some x → ∃ p ∈ acc, p.2 = (k : Int) + 1 ∧ pl p.1 = x
  fall : ∀ (j k : Nat) (x y : Int), j < k → ls[j]? = some x → ls[k]? = some y → y < x
/-- m of ls are greater than p: the first m -/
def CutAt (ls : List Int) (p : Int) (m : Nat) : Prop := m ≤ ls.length ∧ ∀ (k : Nat) (x : Int), ls[k]? = some x → (k < m ↔ p < x)
theorem lasts_nil (pl : S → Int) : Lasts pl [] [] :=
  ⟨fun p h => (by cases h), fun k x h => (by cases h), fun j k x y _ h => (by cases h)⟩
theorem lasts_top {pl : S → Int} {acc : List (S × Int)} {ls : List Int} {p : Int} {m : Nat} (h : Lasts pl acc ls) (c : CutAt ls p m) :
    TopOf 0 ((acc.filter fun q => decide (p < pl q.1)).map Prod.snd) (m : Int) := by
  have le : ∀ y ∈ (acc.filter fun q => decide (p < pl q.1)).map Prod.snd, 1 ≤ y ∧ y ≤ (m : Int) := by
    intro y hy
    obtain ⟨q, hq, rfl⟩ := List.mem_map.mp hy
    obtain ⟨hq, lt⟩ := List.mem_filter.mp hq
    have lt := of_decide_eq_true lt
    obtain ⟨k, x, e, hk, hx⟩ := h.has q hq
    have := (c.2 k x hk).mpr (by omega)
    omega
  by_cases hm : m = 0
  · left
    refine ⟨?_, by omega⟩
    cases hl : (acc.filter fun q => decide (p < pl q.1)).map Prod.snd with
    | nil => rfl
    | cons y r =>
      have := le y (by rw [hl]; exact List.mem_cons_self)
      omega
  · right
    refine ⟨?_, fun y hy => (le y hy).2⟩
    have hlt : m - 1 < ls.length := by have := c.1; omega
    have hk : ls[m - 1]? = some ls[m - 1] := List.getElem?_eq_getElem hlt
    obtain ⟨q, hq, e, hx⟩ := h.one _ _ hk
    have := (c.2 _ _ hk).mp (by omega)
    refine List.mem_map.mpr ⟨q, List.mem_filter.mpr ⟨hq, decide_eq_true (by omega)⟩, by omega⟩
theorem put_get (ls : List Int) (p : Int) (m : Nat) (hm : m ≤ ls.length) (k : Nat) : (ls.take m ++ [p] ++ ls.drop (m + 1))[k]? = if k = m then some p else ls[k]? := by
  rw [List.append_assoc]
  by_cases h1 : k < m
  · rw [List.getElem?_append_left (by rw [List.length_take]; omega), List.getElem?_take_of_lt h1, if_neg (by omega)]
  · rw [List.getElem?_append_right (by rw [List.length_take]; omega), List.length_take, Nat.min_eq_left hm]
    by_cases h2 : k = m
    · subst h2
      rw [Nat.sub_self, if_pos rfl]
      rfl
    · rw [if_neg h2]
      obtain ⟨j, rfl⟩ : ∃ j, k = m + 1 + j := ⟨k - m - 1, by omega⟩
      rw [show m + 1 + j - m = j + 1 by omega, List.singleton_append, List.getElem?_cons_succ, List.getElem?_drop]
theorem lasts_next {pl : S → Int} {acc : List (S × Int)} {ls : List Int} {w : S} {m : Nat} (h : Lasts pl acc ls) (c : CutAt ls (pl w) m) :
    Lasts pl (acc ++ [(w, 1 + (m : Int))]) (ls.take m ++ [pl w] ++ ls.drop (m + 1)) := by
  refine ⟨fun p hp => ?_, fun k x hk => ?_, fun j k x y hjk hj hk => ?_⟩
  · rcases List.mem_append.mp hp with hp | hp
    · obtain ⟨k, x, e, hk, hx⟩ := h.has p hp
      by_cases hkm : k = m
      · subst hkm
        refine ⟨k, pl w, e, by rw [put_get _ _ _ c.1, if_pos rfl], ?_⟩
        have := mt (c.2 k x hk).mpr (by omega)
        omega
      · exact ⟨k, x, e, by rw [put_get _ _ _ c.1, if_neg hkm]; exact hk, hx⟩
    · rw [List.mem_singleton.mp hp]
      exact ⟨m, pl w, by show 1 + (m : Int) = m + 1; omega, by rw [put_get _ _ _ c.1, if_pos rfl], Int.le_refl _⟩
  · rw [put_get _ _ _ c.1] at hk
    by_cases hkm : k = m
    · rw [if_pos hkm] at hk
      cases hk
      exact ⟨(w, 1 + (m : Int)), List.mem_append_right _ (List.mem_singleton.mpr rfl), by show 1 + (m : Int) = k + 1; omega, rfl⟩
    · rw [if_neg hkm] at hk
      obtain ⟨p, hp, e, hx⟩ := h.one k x hk
      exact ⟨p, List.mem_append_left _ hp, e, hx⟩
  · rw [put_get _ _ _ c.1] at hj hk
    by_cases h1 : j = m
    · rw [if_pos h1] at hj
      cases hj
      rw [if_neg (by omega)] at hk
      have hm : m < ls.length := by
        have := (List.getElem?_eq_some_iff.mp hk).1
        omega
      have em : ls[m]? = some ls[m] := List.getElem?_eq_getElem hm
      have a := mt (c.2 _ _ em).mpr (by omega)
      have b := h.fall m k _ _ (by omega) em hk
      omega
    · rw [if_neg h1] at hj
      by_cases h2 : k = m
      · rw [if_pos h2] at hk
        cases hk
        have := (c.2 j x hj).mp (by omega)
        omega
      · rw [if_neg h2] at hk
        exact h.fall j k x y hjk hj hk
/-- halving: what is told of the middle narrows the cut -/
theorem cut_step {ls : List Int} {p x : Int} {lo hi mid : Nat} (fall : ∀ (j k : Nat) (x y : Int), j < k → ls[j]? = some x → ls[k]? = some y → y < x)
    (hl : ∀ (k : Nat) (x : Int), k < lo → ls[k]? = some x → p < x) (hh : ∀ (k : Nat) (x : Int), hi ≤ k → ls[k]? = some x → x ≤ p) (hm : ls[mid]? = some x) :
    (p < x → ∀ (k : Nat) (y : Int), k < mid + 1 → ls[k]? = some y → p < y) ∧ (x ≤ p → ∀ (k : Nat) (y : Int), mid ≤ k → ls[k]? = some y → y ≤ p) := by
  constructor
  · intro hx k y hk hy
    by_cases e : k = mid
    · subst e; rw [hm] at hy; cases hy; exact hx
    · have := fall k mid y x (by omega) hy hm; omega
  · intro hx k y hk hy
    by_cases e : k = mid
    · subst e; rw [hm] at hy; cases hy; exact hx
    · have := fall mid k x y (by omega) hm hy; omega
theorem cut_end {ls : List Int} {p : Int} {lo hi : Nat} (hl : ∀ (k : Nat) (x : Int), k < lo → ls[k]? = some x → p < x) (hh : ∀ (k : Nat) (x : Int), hi ≤ k → ls[k]? = some x → x ≤ p)
    (h : hi ≤ lo) (hz : lo ≤ ls.length) : CutAt ls p lo :=
  ⟨hz, fun k x hk => ⟨fun lt => hl k x lt hk, fun lt => by
    by_cases e : k < lo
    · exact e
    · have := hh k x (by omega) hk
      omega⟩⟩
end
section
variable {P : Program} {w : World} {K : PySem.W.Frag} {mg : Str → Option Value} {base : Heap}
def spAbove (K : PySem.W.Frag) : Sp := fun vs H Q _ => ∃ (l : Addr) (ls : List Int) (p : Int), vs = [.ref l, .int p] ∧ H l = some (.lst (ls.map V.int)) ∧ ls.length ≤ 4000 ∧
  (∀ (j k : Nat) (x y : Int), j < k → ls[j]? = some x → ls[k]? = some y → y < x) ∧ ∀ m : Nat, CutAt ls p m → Q (.int (m : Nat)) H
theorem ok_how_many_above {f c : Addr} {fd : FuncData} (B : Nb mg) (D : DefIs K "how_many_above" "how_many_above" st_how_many_above f fd (.ref c)) :
    FnG P w K mg base CX0 1 f fd ["falling", "least"] (spAbove K) := by
  refine D.ok0 (k := 0) sc_how_many_above (fun vs H Q E h => ?_) (fun A outer s H vs Q E g hr h => ?_)
  · obtain ⟨l, ls, p, rfl, _⟩ := h
    rfl
  obtain ⟨l, ls, p, rfl, hl, hz, fall, q⟩ := h
  refine ⟨_,
      (pss_cons (ps_set (i := 2) sc_how_many_above.nd rfl (.inl rfl) pe_int)
      (pss_cons (ps_set (i := 3) sc_how_many_above.nd rfl (.inl rfl) (pe_callB call_len_seq rfl B.n_len PySem.boot_len (pa_cons (pv 0) pa_nil)))
      (pss_cons (ps_while PassesOwn.never (pt_cmpR (op_lt) (pv 2) (pv 3) (nomark _)) (
        (pss_cons (ps_set (i := 4) sc_how_many_above.nd rfl (.inl rfl) (pe_op op_fdiv (pe_op op_add (pv 2) (pv 3)) pe_int))
        (pss_one (ps_if (pt_cmpR (op_gt) (pe_ix ix_list (pv 0) (pv 4) (fun _ _ => rfl)) (pv 1) (nomark _)) (
          (pss_one (ps_set (i := 2) sc_how_many_above.nd rfl (.inl rfl) (pe_op op_add (pv 4) pe_int)))) (
          (pss_one (ps_set (i := 3) sc_how_many_above.nd rfl (.inl rfl) (pv 4)))))))))
      (pss_one (ps_ret (pv 2)))))), ?_⟩
  refine ⟨.ref l, rfl, l, _, rfl, .inl (.inl (.inl hl)), ?_⟩
  rw [List.length_map]
  refine ⟨fun m σ H' => ∃ (lo hi : Nat) (a : Option V), σ = [some (.ref l), some (.int p), some (.int (lo : Nat)), some (.int (hi : Nat)), a] ∧ H' = H ∧ m = hi - lo ∧ lo ≤ hi ∧ hi ≤ ls.length ∧
    (∀ (k : Nat) (x : Int), k < lo → ls[k]? = some x → p < x) ∧ (∀ (k : Nat) (x : Int), hi ≤ k → ls[k]? = some x → x ≤ p), ⟨ls.length, 0, ls.length, none, rfl, rfl, by omega, by omega, by omega, fun k x h => by omega, fun k x h e => ?_⟩, ?_⟩
  · rw [List.getElem?_eq_none h] at e
    cases e
  rintro m σ H' ⟨lo, hi, a, rfl, rfl, rfl, hlh, hhl, h1, h2⟩
  refine ⟨_, rfl, _, rfl, _, _, rfl, rfl, ?_⟩
  refine ⟨_, rfl, ite2 (fun lt => ?_) fun lt => ?_⟩
  · have lt := of_decide_eq_true lt
    have e2 : ((lo : Int) + (hi : Int)) / 2 = (((lo + hi) / 2 : Nat) : Int) := by omega
    have hm : (lo + hi) / 2 < ls.length := by omega
    have em : ls[(lo + hi) / 2]? = some ls[(lo + hi) / 2] := List.getElem?_eq_getElem hm
    obtain ⟨x, ex⟩ : ∃ x, ls[(lo + hi) / 2] = x := ⟨_, rfl⟩
    rw [ex] at em
    have ea : atI (ls.map V.int) (((lo + hi) / 2 : Nat) : Int) = some (.int x) := by
      exact atI_nat (by rw [List.getElem?_map, em]; rfl)
    obtain ⟨s1, s2⟩ := cut_step fall h1 h2 em
    refine ⟨_, fun _ _ h => h, _, rfl, _, rfl, _, _, rfl, rfl, _, _, rfl, rfl, ⟨by decide, by decide⟩, ?_⟩
    dsimp only
    rw [e2]
    refine ⟨.ref l, rfl, _, rfl, l, _, _, _, rfl, rfl, .inl (.inl hl), ea, _, rfl, _, _, rfl, rfl, ?_⟩
    refine ⟨_, rfl, ite2 (fun hx => ?_) fun hx => ?_⟩
    · refine ⟨_, rfl, _, _, rfl, rfl, hi - ((lo + hi) / 2 + 1), by omega, (lo + hi) / 2 + 1, hi, _, by simp only [List.set]; rw [show (((lo + hi) / 2 : Nat) : Int) + 1 = (((lo + hi) / 2 + 1 : Nat) : Int) by omega], rfl, rfl, by omega, hhl, s1 (of_decide_eq_true hx), h2⟩
    · refine ⟨_, rfl, (lo + hi) / 2 - lo, by omega, lo, (lo + hi) / 2, some (.int (((lo + hi) / 2 : Nat) : Int)), by simp only [List.set], rfl, rfl, by omega, by omega, h1, s2 ?_⟩
      have := mt (fun z : p < x => decide_eq_true z) hx
      omega
  · have lt : ¬ lo < hi := fun z => lt (decide_eq_true (by omega))
    exact ⟨_, rfl, q lo (cut_end h1 h2 (by omega) (by omega))⟩
end

/-! ### ranks_of -/
section
variable {P : Program} {w : World} {K : PySem.W.Frag} {mg : Str → Option Value} {base : Heap}
def spRanks (K : PySem.W.Frag) : Sp := fun vs H Q _ => ∃ (l m : Addr) (zs ws : List Str), vs = [.ref l, .ref m] ∧ SqL K H l (zs.map V.str) ∧ SqL K H m (ws.map V.str) ∧ Bk zs ∧ zs.Perm ws ∧
  ∀ (D : Addr) (H' : Hp), Fresh H D → Grow [] H H' → H' D = some (.dK (kvR (ranksTo (later ws) zs zs.length))) → Q (.ref D) H'
theorem ok_ranks_of {f c : Addr} {fd : FuncData} (B : Nb mg) (D : DefIs K "ranks_of" "ranks_of" st_ranks_of f fd (.ref c))
    (c_places_of : Callee P w K mg base CX0 4 "places_of" ["book"] (spPlaces K)) (c_how_many_above : Callee P w K mg base CX0 1 "how_many_above" ["falling", "least"] (spAbove K)) : FnG P w K mg base CX0 5 f fd ["book", "other"] (spRanks K) := by
  refine D.ok0 (k := 4) sc_ranks_of (fun vs H Q E h => ?_) (fun A outer s H vs Q E g hr h => ?_)
  · obtain ⟨l, m, zs, ws, rfl, _⟩ := h
    rfl
  obtain ⟨l, m, zs, ws, rfl, hl, hm, bz, pm, q⟩ := h
  have bw := bz.perm pm
  refine ⟨_,
      (pss_cons (ps_set (i := 2) sc_ranks_of.nd rfl (.inl rfl) (pe_g c_places_of g (hr.mono (by decide)) pass0 (pa_cons (pv 1) pa_nil)))
      (pss_cons (ps_set (i := 3) sc_ranks_of.nd rfl (.inl rfl) pe_dnewK)
      (pss_cons (ps_set (i := 4) sc_ranks_of.nd rfl (.inl rfl) (pe_lst pa_nil))
      (pss_cons (ps_for PassesOwn.never rfl (pi_list (pv 0)) (pg_name (i := 5) sc_ranks_of.nd rfl (.inl rfl)) (
        (pss_cons (ps_set (i := 6) sc_ranks_of.nd rfl (.inl rfl) (pe_g c_how_many_above g (hr.mono (by decide)) pass0 (pa_cons (pv 4) (pa_cons (pe_dget (hu_of hr) (pv 2) (pv 5) (fun _ _ => rfl)) pa_nil))))
        (pss_cons (ps_slc (pv 4) (po_some (pv 6)) (po_some (pe_op op_add (pv 6) pe_int)) (pe_lst (pa_cons (pe_dget (hu_of hr) (pv 2) (pv 5) (fun _ _ => rfl)) pa_nil)) rfl)
        (pss_one (ps_asg (pe_op op_add (pv 6) pe_int) (pg_sub (pv 3) (pv 5) (set_dict (hu_of hr)))))))))
      (pss_one (ps_ret (pv 3))))))), ?_⟩
  refine ⟨.ref m, rfl, m, ws, rfl, hm, bw.nd, bw.len, fun P0 H1 kvs fP g1 eP hP _ => ?_⟩
  refine fun R nR => ⟨by show 0 ≤ sizeLine; decide, fun L nL => ?_⟩
  have LR : L ≠ R := fun z => by
    rw [z, upd_same] at nL
    cases nL
  have nL1 : H1 L = none := by
    rw [upd_ne LR] at nL
    exact nL
  have fR : Fresh H1 R := fresh_none nR
  have fL : Fresh H1 L := fresh_none nL1
  have gRL : Grow [] H1 (upd (upd H1 R (.dK [])) L (.lst [])) := (grow_new nR).new nL
  refine ⟨.ref l, rfl, l, rfl, ⟨_, gRL.seq0 (g1.seq0 hl)⟩, ?_⟩
  refine for_it (walk_list (xs := zs.map V.str)) (fun i σ H' => ∃ a b : Option V, σ = [some (.ref l), some (.ref m), some (.ref P0), some (.ref R), some (.ref L), a, b] ∧ Grow [] H1 H' ∧ H' R = some (.dK (kvR (ranksTo (later ws) zs i))) ∧
      ∃ ls : List Int, H' L = some (.lst (ls.map V.int)) ∧ ls.length ≤ i ∧ Lasts (fun a => ((ws.idxOf a : Nat) : Int)) (ranksTo (later ws) zs i) ls)
    ⟨none, none, rfl, gRL, by rw [upd_ne (Ne.symm LR), upd_same]; rfl, [], upd_same, Nat.le_refl _, lasts_nil _⟩
    (fun i σ H' _ h => by
      obtain ⟨_, _, _, g, _⟩ := h
      exact (g1.trans g).seq0 hl) (fun i x σ H2 H3 hi hp hy => ?_) (fun σ H' hp => ?_)
  · obtain ⟨a0, b0, rfl, gr, hR, ls, hL, hz, la⟩ := hp
    obtain ⟨rfl, ex⟩ := hy
    rw [List.getElem?_map] at ex
    rw [List.length_map] at hi
    have ez : zs[i]? = some (zs.getD i Str.empty) := by
      rw [List.getD_eq_getElem?_getD, List.getElem?_eq_getElem hi]
      rfl
    rw [ez] at ex
    cases ex
    obtain ⟨wd, ewd⟩ : ∃ wd, zs.getD i Str.empty = wd := ⟨_, rfl⟩
    rw [ewd] at ez ⊢
    obtain ⟨acc, hacc⟩ : ∃ acc, ranksTo (later ws) zs i = acc := ⟨_, rfl⟩
    have hnext : ranksTo (later ws) zs (i + 1) = acc ++ [(wd, 1 + topI (aheadR (later ws) acc wd))] := by rw [ranksTo, hacc, ewd]
    have hkeys : acc.map Prod.fst = zs.take i := by rw [← hacc, ranksTo_keys _ _ _ (by omega)]
    have hlen : acc.length = i := by rw [← hacc, ranksTo_len]
    rw [hacc] at hR la
    rw [hnext]
    have hwd : wd ∈ zs := List.mem_of_getElem? ez
    have new : valV (kvR acc) (.inr wd) = none := valV_none (by
      rw [show (kvR acc).map Prod.fst = (acc.map Prod.fst).map Sum.inr by unfold kvR; rw [List.map_map, List.map_map]; rfl, hkeys]
      intro h
      obtain ⟨z, hz, e⟩ := List.mem_map.mp h
      cases e
      obtain ⟨j, hj⟩ := List.mem_iff_getElem?.mp hz
      rw [List.getElem?_take] at hj
      by_cases hji : j < i
      · rw [if_pos hji] at hj
        have := (List.getElem?_inj (List.getElem?_eq_some_iff.mp hj).1 bz.nd).mp (hj.trans ez.symm)
        omega
      · rw [if_neg hji] at hj
        cases hj)
    have zl := bz.len
    have dg : ∀ H' : Hp, Grow [] H1 H' → DGet H' P0 (.str wd) (some (.int (ws.idxOf wd : Nat))) := fun H' g => by
      rw [← hP wd (pm.mem_iff.mp hwd)]
      exact DGet.k (k := .inr wd) (g.keep P0 _ (by simp) eP fun ps z => by cases z)
    refine ⟨.ref L, rfl, .ref P0, rfl, .str wd, rfl, P0, _, rfl, dg _ gr, L, ls, ((ws.idxOf wd : Nat) : Int), rfl, hL, by omega, la.fall, fun mm cut => ?_⟩
    have et : topI (aheadR (later ws) acc wd) = (mm : Int) := by
      have := topI_of (lasts_top la cut)
      rw [this]
      unfold aheadR
      congr 2
      refine List.filter_congr fun q _ => ?_
      exact decide_eq_decide.mpr (by show ws.idxOf wd < ws.idxOf q.1 ↔ ((ws.idxOf wd : Nat) : Int) < ((ws.idxOf q.1 : Nat) : Int); omega)
    have la2 := lasts_next (w := wd) la cut
    refine ⟨.ref P0, rfl, .str wd, rfl, P0, _, rfl, dg _ gr, by show 1 ≤ sizeLine; decide, fun N nN => ?_⟩
    have NL : L ≠ N := fun z => by
      rw [← z, hL] at nN
      cases nN
    have NR : R ≠ N := fun z => by
      rw [← z, hR] at nN
      cases nN
    refine ⟨.ref L, rfl, .int mm, rfl, mm, rfl, .int mm, rfl, _, _, rfl, rfl, (mm : Int) + 1, rfl, L, N, ls.map V.int, [.int ((ws.idxOf wd : Nat) : Int)], mm, rfl, rfl, rfl, rfl, NL, by rw [upd_ne NL]; exact hL, upd_same, by rw [List.length_map]; exact cut.1, ?_, ?_⟩
    · rw [List.length_map]
      show ls.length + 1 ≤ sizeLine
      unfold sizeLine
      omega
    have g5 := (gr.new (o := .lst [.int ((ws.idxOf wd : Nat) : Int)]) nN).put fL (by rw [upd_ne NL]; exact hL) (o := .lst ((ls.map V.int).take mm ++ [.int ((ws.idxOf wd : Nat) : Int)] ++ (ls.map V.int).drop (mm + 1))) (fun ps z => by cases z)
    refine ⟨.int mm, rfl, _, _, rfl, rfl, .ref R, rfl, .str wd, rfl, R, _, rfl, .inl ⟨kvR acc, .inr wd, by rw [upd_ne (Ne.symm LR), upd_ne NR]; exact hR, rfl, ?_, rfl⟩, _, _, rfl, ?_, ?_, ls.take mm ++ [((ws.idxOf wd : Nat) : Int)] ++ ls.drop (mm + 1), ?_, ?_, ?_⟩
    · have lk : (kvR acc).length = acc.length := by unfold kvR; rw [List.length_map]
      unfold sizeLine
      omega
    · exact g5.put fR (by rw [upd_ne (Ne.symm LR), upd_ne NR]; exact hR) (fun ps z => by cases z)
    · rw [upd_same, putK_new _ new, et]
      unfold kvR
      rw [List.map_append]
      show some (HO.dK (_ ++ [(Sum.inr wd, V.int ((mm : Int) + 1))])) = some (HO.dK (_ ++ [(Sum.inr wd, V.int (1 + (mm : Int)))]))
      rw [Int.add_comm]
    · rw [upd_ne LR, upd_same, List.map_append, List.map_append, List.map_take, List.map_drop]
      rfl
    · rw [List.length_append, List.length_append, List.length_take, List.length_drop]
      have := cut.1
      show min mm ls.length + 1 + (ls.length - (mm + 1)) ≤ i + 1
      omega
    · rw [et]
      exact la2
  · obtain ⟨a0, b0, rfl, gr, hR, _⟩ := hp
    rw [List.length_map] at hR
    exact ⟨.ref R, rfl, q R H' (g1.fresh (by simp) fR) (g1.trans gr) hR⟩
end

/-! ### the longest rank -/
def topD (d : Int) (ns : List Int) : Int := if ns = [] then d else topI ns
theorem topD_of {d : Int} {ns : List Int} {m : Int} (h : TopOf d ns m) : m = topD d ns := by
  unfold topD
  rcases h with ⟨h, e⟩ | ⟨h, hm⟩
  · rw [if_pos h]
    exact e
  · rw [if_neg (fun z => by rw [z] at h; cases h)]
    exact topI_of (.inr ⟨h, hm⟩)
def ranksOf (ws zs : List Str) : List Int := (ranksTo (later ws) zs zs.length).map Prod.snd

/-! ### what the ranks are -/
def rkAt (lt : Str → Str → Bool) (zs : List Str) (i : Nat) : Int := 1 + topI (aheadR lt (ranksTo lt zs i) (zs.getD i Str.empty))
theorem ranksTo_at (lt : Str → Str → Bool) (zs : List Str) : ∀ {n i : Nat}, i < n → (ranksTo lt zs n)[i]? = some (zs.getD i Str.empty, rkAt lt zs i)
  | n + 1, i, h => by
    rw [ranksTo]
    by_cases hi : i < n
    · rw [List.getElem?_append_left (by rw [ranksTo_len]; exact hi)]
      exact ranksTo_at lt zs hi
    · have e : i = n := by omega
      subst e
      rw [List.getElem?_append_right (by rw [ranksTo_len]; exact Nat.le_refl _), ranksTo_len, Nat.sub_self]
      rfl
theorem mem_ahead {lt : Str → Str → Bool} {zs : List Str} {i : Nat} {r : Int} : r ∈ aheadR lt (ranksTo lt zs i) (zs.getD i Str.empty) ↔ ∃ a, a < i ∧ lt (zs.getD a Str.empty) (zs.getD i Str.empty) = true ∧ rkAt lt zs a = r := by
  unfold aheadR
  rw [List.mem_map]
  constructor
  · rintro ⟨p, hp, rfl⟩
    obtain ⟨h1, h2⟩ := List.mem_filter.mp hp
    obtain ⟨a, ha⟩ := List.mem_iff_getElem?.mp h1
    have hai : a < i := by
      have := (List.getElem?_eq_some_iff.mp ha).1
      rwa [ranksTo_len] at this
    rw [ranksTo_at lt zs hai] at ha
    cases ha
    exact ⟨a, hai, h2, rfl⟩
  · rintro ⟨a, h1, h2, rfl⟩
    exact ⟨(zs.getD a Str.empty, rkAt lt zs a), List.mem_filter.mpr ⟨List.mem_iff_getElem?.mpr ⟨a, ranksTo_at lt zs h1⟩, h2⟩, rfl⟩
theorem topI_ge {ns : List Int} {y : Int} (h : y ∈ ns) : y ≤ topI ns := by
  cases ns with
  | nil => cases h
  | cons x r =>
    obtain ⟨h1, h2, _⟩ := topI_le r x
    rcases List.mem_cons.mp h with rfl | h
    · exact h1
    · exact h2 y h
theorem topI_mem {ns : List Int} (h : ns ≠ []) : topI ns ∈ ns := by
  cases ns with
  | nil => exact absurd rfl h
  | cons x r =>
    obtain ⟨_, _, h3⟩ := topI_le r x
    rcases h3 with e | e
    · show r.foldl max x ∈ x :: r
      rw [e]
      exact List.mem_cons_self
    · exact List.mem_cons_of_mem _ e
theorem rk_pos (lt : Str → Str → Bool) (zs : List Str) : ∀ (n i : Nat), i < n → 1 ≤ rkAt lt zs i
  | n + 1, i, h => by
    unfold rkAt
    by_cases e : aheadR lt (ranksTo lt zs i) (zs.getD i Str.empty) = []
    · rw [e]
      exact Int.le_refl _
    · obtain ⟨a, h1, _, h3⟩ := mem_ahead.mp (topI_mem e)
      have := rk_pos lt zs n a (by omega)
      omega
theorem rk_up {lt : Str → Str → Bool} {zs : List Str} {a i : Nat} (h : a < i) (hl : lt (zs.getD a Str.empty) (zs.getD i Str.empty) = true) : rkAt lt zs a + 1 ≤ rkAt lt zs i := by
  have := topI_ge (mem_ahead.mpr ⟨a, h, hl, rfl⟩)
  show _ ≤ 1 + topI _
  omega
theorem rk_down {lt : Str → Str → Bool} {zs : List Str} {i : Nat} (h : 2 ≤ rkAt lt zs i) : ∃ a, a < i ∧ lt (zs.getD a Str.empty) (zs.getD i Str.empty) = true ∧ rkAt lt zs a = rkAt lt zs i - 1 := by
  have e : aheadR lt (ranksTo lt zs i) (zs.getD i Str.empty) ≠ [] := fun z => by
    unfold rkAt at h
    rw [z] at h
    exact absurd h (by decide)
  obtain ⟨a, h1, h2, h3⟩ := mem_ahead.mp (topI_mem e)
  refine ⟨a, h1, h2, ?_⟩
  rw [h3]
  show _ = 1 + topI _ - 1
  omega
theorem mem_ranksOf {ws zs : List Str} {r : Int} : r ∈ ranksOf ws zs ↔ ∃ i, i < zs.length ∧ rkAt (later ws) zs i = r := by
  unfold ranksOf
  rw [List.mem_map]
  constructor
  · rintro ⟨p, hp, rfl⟩
    obtain ⟨a, ha⟩ := List.mem_iff_getElem?.mp hp
    have hai := (List.getElem?_eq_some_iff.mp ha).1
    rw [ranksTo_len] at hai
    rw [ranksTo_at _ _ hai] at ha
    cases ha
    exact ⟨a, hai, rfl⟩
  · rintro ⟨i, h, rfl⟩
    exact ⟨_, List.mem_iff_getElem?.mpr ⟨i, ranksTo_at _ _ h⟩, rfl⟩
/-- turned, of two that stand in both books -/
theorem later_not {ws : List Str} {a b : Str} (ha : a ∈ ws) (hb : b ∈ ws) (ne : a ≠ b) (h : later ws a b = false) : later ws b a = true := by
  have h1 := of_decide_eq_false h
  refine decide_eq_true ?_
  have l1 := List.idxOf_lt_length_of_mem ha
  have l2 := List.idxOf_lt_length_of_mem hb
  have : ws.idxOf a ≠ ws.idxOf b := fun e => ne (by rw [← List.getElem_idxOf l1, ← List.getElem_idxOf l2]; congr 1)
  omega
theorem later_trans {ws : List Str} {a b c : Str} (h : later ws a b = true) (k : later ws b c = true) : later ws a c = true := by
  have h1 := of_decide_eq_true h
  have h2 := of_decide_eq_true k
  exact decide_eq_true (by omega)

/-! ### roads_between -/
section
variable {P : Program} {w : World} {K : PySem.W.Frag} {mg : Str → Option Value} {base : Heap}
def spRoads (K : PySem.W.Frag) (T1 T : Addr) : Sp := fun vs H Q _ => ∃ (l m : Addr) (zs ws : List Str), vs = [.ref l, .ref m] ∧ TabG H T1 ∧ TabG H T ∧ SqL K H l (zs.map V.str) ∧ SqL K H m (ws.map V.str) ∧ Bk zs ∧ zs.Perm ws ∧
  ∀ (H' : Hp), Grow [] H H' → Q (.int (topD 1 (ranksOf ws zs) - 1)) H'
theorem ok_roads_between {f c T1 T : Addr} {fd : FuncData} (B : Nb mg) (D : DefIs K "roads_between" "roads_between" st_roads_between f fd (.ref c))
    (c_check_books : Callee P w K mg base CX0 10 "check_books" ["book", "other"] (spCheck K T1 T)) (c_ranks_of : Callee P w K mg base CX0 5 "ranks_of" ["book", "other"] (spRanks K)) :
    FnG P w K mg base CX0 11 f fd ["book", "other"] (spRoads K T1 T) := by
  refine D.ok0 (k := 10) sc_roads_between (fun vs H Q E h => ?_) (fun A outer s H vs Q E g hr h => ?_)
  · obtain ⟨l, m, zs, ws, rfl, _⟩ := h
    rfl
  obtain ⟨l, m, zs, ws, rfl, t1, tT, hl, hm, bz, pm, q⟩ := h
  refine ⟨_,
      (pss_cons (ps_expr (pe_g c_check_books g (hr.mono (by decide)) pass0 (pa_cons (pv 0) (pa_cons (pv 1) pa_nil))))
      (pss_cons (ps_set (i := 2) sc_roads_between.nd rfl (.inl rfl) (pe_g c_ranks_of g (hr.mono (by decide)) pass0 (pa_cons (pv 0) (pa_cons (pv 1) pa_nil))))
      (pss_one (ps_ret (pe_op op_sub (pe_maxVals rfl rfl B.n_max (pv 2)) pe_int))))), ?_⟩
  refine ⟨.ref l, rfl, .ref m, rfl, l, m, zs, ws, rfl, t1, tT, hl, hm, bz, pm, fun H1 g1 => ?_⟩
  refine ⟨.ref l, rfl, .ref m, rfl, l, m, zs, ws, rfl, g1.seq0 hl, g1.seq0 hm, bz, pm, fun R H2 fR g2 eR => ?_⟩
  refine ⟨.ref R, rfl, R, _, ranksOf ws zs, rfl, eR, ?_, fun mx top => ?_⟩
  · unfold kvR ranksOf
    rw [List.map_map, List.map_map]
    rfl
  · rw [topD_of top]
    exact ⟨_, _, rfl, rfl, q H2 (g1.trans g2)⟩
end

/-! ### longest_turned -/
/-- a row of words that stand so in the one book and the other way about in the other -/
def TurnedRow (ws zs ys : List Str) : Prop := ys.Sublist zs ∧ ys.Pairwise fun a b => later ws a b = true
/-- what holds when all words from n - j on have been looked at: the row rw (the last first), wd still wanted -/
structure RowInv (ws zs rw : List Str) (j : Nat) (wd : Int) : Prop where
  sub : rw.reverse.Sublist (zs.drop (zs.length - j))
  turned : rw.reverse.Pairwise fun a b => later ws a b = true
  wanted : wd = topD 0 (ranksOf ws zs) - rw.length
  pos : 0 ≤ wd
  at_ : (rw = [] ∧ ∀ p, zs.length - j ≤ p → p < zs.length → rkAt (later ws) zs p ≠ wd) ∨
    ∃ q, zs.length - j ≤ q ∧ q < zs.length ∧ rw.getLast? = some (zs.getD q Str.empty) ∧ rkAt (later ws) zs q = wd + 1 ∧ (∀ p, zs.length - j ≤ p → p < q → rkAt (later ws) zs p ≠ wd) ∧ ∀ y ∈ rw, later ws (zs.getD q Str.empty) y = true ∨ y = zs.getD q Str.empty
theorem getD_in {zs : List Str} {i : Nat} (h : i < zs.length) : zs[i]? = some (zs.getD i Str.empty) := by
  rw [List.getD_eq_getElem?_getD, List.getElem?_eq_getElem h]
  rfl
theorem getD_mem {zs : List Str} {i : Nat} (h : i < zs.length) : zs.getD i Str.empty ∈ zs := List.mem_of_getElem? (getD_in h)
theorem drop_at {zs : List Str} {i : Nat} (h : i < zs.length) : zs.drop i = zs.getD i Str.empty :: zs.drop (i + 1) := by
  rw [List.drop_eq_getElem_cons h]
  have := getD_in h
  rw [List.getElem?_eq_getElem h] at this
  rw [Option.some.inj this]
theorem topD_pos {ws zs : List Str} : 0 ≤ topD 0 (ranksOf ws zs) := by
  unfold topD
  by_cases e : ranksOf ws zs = []
  · rw [if_pos e]
    exact Int.le_refl _
  · rw [if_neg e]
    obtain ⟨i, h1, h2⟩ := mem_ranksOf.mp (topI_mem e)
    have := rk_pos (later ws) zs _ i h1
    omega
theorem RowInv.start (ws zs : List Str) : RowInv ws zs [] 0 (topD 0 (ranksOf ws zs)) :=
  ⟨List.nil_sublist _, .nil, by simp, topD_pos, .inl ⟨rfl, fun p h1 h2 => by omega⟩⟩
theorem RowInv.skip {ws zs rw : List Str} {j : Nat} {wd : Int} (I : RowInv ws zs rw j wd) (hj : j < zs.length) (ne : rkAt (later ws) zs (zs.length - 1 - j) ≠ wd) : RowInv ws zs rw (j + 1) wd := by
  have e1 : zs.length - (j + 1) = zs.length - 1 - j := by omega
  have e2 : zs.length - 1 - j + 1 = zs.length - j := by omega
  refine ⟨?_, I.turned, I.wanted, I.pos, ?_⟩
  · rw [e1, drop_at (by omega), e2]
    exact I.sub.cons _
  · have near : ∀ p q, (∀ p, zs.length - j ≤ p → p < q → rkAt (later ws) zs p ≠ wd) → zs.length - (j + 1) ≤ p → p < q → rkAt (later ws) zs p ≠ wd := fun p q h h1 h2 => by
      by_cases e : p = zs.length - 1 - j
      · rw [e]
        exact ne
      · exact h p (by omega) h2
    rcases I.at_ with ⟨h1, h2⟩ | ⟨q, h1, h2, h3, h4, h5, h6⟩
    · exact .inl ⟨h1, fun p a b => near p _ h2 a b⟩
    · exact .inr ⟨q, by omega, h2, h3, h4, fun p a b => near p q h5 a b, h6⟩
theorem RowInv.pick {ws zs rw : List Str} {j : Nat} {wd : Int} (I : RowInv ws zs rw j wd) (nd : zs.Nodup) (pm : zs.Perm ws) (hj : j < zs.length) (eq : rkAt (later ws) zs (zs.length - 1 - j) = wd) :
    RowInv ws zs (rw ++ [zs.getD (zs.length - 1 - j) Str.empty]) (j + 1) (wd - 1) := by
  obtain ⟨i, hi⟩ : ∃ i, zs.length - 1 - j = i := ⟨_, rfl⟩
  rw [hi] at eq ⊢
  have e1 : zs.length - (j + 1) = i := by omega
  have e2 : zs.length - j = i + 1 := by omega
  have il : i < zs.length := by omega
  have rp := rk_pos (later ws) zs _ i il
  have all : ∀ y ∈ rw, later ws (zs.getD i Str.empty) y = true := fun y hy => by
    rcases I.at_ with ⟨h1, _⟩ | ⟨q, h1, h2, h3, h4, h5, h6⟩
    · rw [h1] at hy
      cases hy
    · have lq : later ws (zs.getD i Str.empty) (zs.getD q Str.empty) = true := by
        obtain ⟨a, a1, a2, a3⟩ := rk_down (lt := later ws) (zs := zs) (i := q) (by omega)
        have ai : a < i + 1 := by
          by_cases h : a < i + 1
          · exact h
          · exact absurd (show rkAt (later ws) zs a = wd by omega) (h5 a (by omega) a1)
        by_cases e : a = i
        · rw [← e]
          exact a2
        · have ne : zs.getD a Str.empty ≠ zs.getD i Str.empty := fun z => e ((List.getElem?_inj (by omega) nd).mp (by rw [getD_in (by omega), getD_in il, z]))
          have nl : later ws (zs.getD a Str.empty) (zs.getD i Str.empty) = false := by
            cases hc : later ws (zs.getD a Str.empty) (zs.getD i Str.empty) with
            | false => rfl
            | true =>
              have := rk_up (lt := later ws) (zs := zs) (show a < i by omega) hc
              omega
          exact later_trans (later_not (pm.mem_iff.mp (getD_mem (by omega))) (pm.mem_iff.mp (getD_mem il)) ne nl) a2
      rcases h6 y hy with h | h
      · exact later_trans lq h
      · rw [h]
        exact lq
  refine ⟨?_, ?_, ?_, by omega, .inr ⟨i, by omega, il, by simp, by omega, fun p a b => by omega, fun y hy => ?_⟩⟩
  · rw [List.reverse_append, e1, drop_at il, ← e2]
    exact I.sub.cons_cons _
  · rw [List.reverse_append]
    exact List.pairwise_cons.mpr ⟨fun y hy => all y (List.mem_reverse.mp hy), I.turned⟩
  · rw [List.length_append, I.wanted]
    simp only [List.length_cons, List.length_nil]
    omega
  · rcases List.mem_append.mp hy with h | h
    · exact .inl (all y h)
    · exact .inr (List.mem_singleton.mp h)
theorem RowInv.done {ws zs rw : List Str} {wd : Int} (I : RowInv ws zs rw zs.length wd) : TurnedRow ws zs rw.reverse ∧ (rw.reverse.length : Int) = topD 0 (ranksOf ws zs) := by
  have s := I.sub
  rw [Nat.sub_self, List.drop_zero] at s
  refine ⟨⟨s, I.turned⟩, ?_⟩
  have w0 : wd = 0 := by
    have hp := I.pos
    have hw := I.wanted
    by_cases h : wd = 0
    · exact h
    · exfalso
      rcases I.at_ with ⟨h1, h2⟩ | ⟨q, h1, h2, h3, h4, h5, h6⟩
      · rw [h1] at hw
        simp only [List.length_nil] at hw
        have e : ranksOf ws zs ≠ [] := fun z => by
          unfold topD at hw
          rw [if_pos z] at hw
          omega
        unfold topD at hw
        rw [if_neg e] at hw
        obtain ⟨i, i1, i2⟩ := mem_ranksOf.mp (topI_mem e)
        exact h2 i (by omega) i1 (by omega)
      · obtain ⟨a, a1, a2, a3⟩ := rk_down (lt := later ws) (zs := zs) (i := q) (by omega)
        exact h5 a (by omega) a1 (by omega)
  have hw := I.wanted
  rw [List.length_reverse]
  omega
section
variable {P : Program} {w : World} {K : PySem.W.Frag} {mg : Str → Option Value} {base : Heap}
def spLongest (K : PySem.W.Frag) (T1 T : Addr) : Sp := fun vs H Q _ => ∃ (l m : Addr) (zs ws : List Str), vs = [.ref l, .ref m] ∧ TabG H T1 ∧ TabG H T ∧ SqL K H l (zs.map V.str) ∧ SqL K H m (ws.map V.str) ∧ Bk zs ∧ zs.Perm ws ∧
  ∀ (D : Addr) (H' : Hp) (ys : List Str), Fresh H D → Grow [] H H' → H' D = some (.lst (ys.map V.str)) → TurnedRow ws zs ys → (ys.length : Int) = topD 0 (ranksOf ws zs) → Q (.ref D) H'
theorem ok_longest_turned {f c T1 T : Addr} {fd : FuncData} (B : Nb mg) (D : DefIs K "longest_turned" "longest_turned" st_longest_turned f fd (.ref c))
    (c_check_books : Callee P w K mg base CX0 10 "check_books" ["book", "other"] (spCheck K T1 T)) (c_ranks_of : Callee P w K mg base CX0 5 "ranks_of" ["book", "other"] (spRanks K)) :
    FnG P w K mg base CX0 11 f fd ["book", "other"] (spLongest K T1 T) := by
  refine D.ok0 (k := 10) sc_longest_turned (fun vs H Q E h => ?_) (fun A outer s H vs Q E g hr h => ?_)
  · obtain ⟨l, m, zs, ws, rfl, _⟩ := h
    rfl
  obtain ⟨l, m, zs, ws, rfl, t1, tT, hl, hm, bz, pm, q⟩ := h
  refine ⟨_,
      (pss_cons (ps_expr (pe_g c_check_books g (hr.mono (by decide)) pass0 (pa_cons (pv 0) (pa_cons (pv 1) pa_nil))))
      (pss_cons (ps_set (i := 2) sc_longest_turned.nd rfl (.inl rfl) (pe_g c_ranks_of g (hr.mono (by decide)) pass0 (pa_cons (pv 0) (pa_cons (pv 1) pa_nil))))
      (pss_cons (ps_set (i := 3) sc_longest_turned.nd rfl (.inl rfl) (pe_lst pa_nil))
      (pss_cons (ps_set (i := 4) sc_longest_turned.nd rfl (.inl rfl) (pe_maxVals rfl rfl B.n_max (pv 2)))
      (pss_cons (ps_for PassesOwn.never rfl (pi_reversed rfl B.n_reversed (pa_cons (pv 0) pa_nil)) (pg_name (i := 5) sc_longest_turned.nd rfl (.inl rfl)) (
        (pss_one (ps_if (pt_cmpR (op_eq) (pe_dget (hu_of hr) (pv 2) (pv 5) (fun _ _ => rfl)) (pv 4) (nomark _)) (
          (pss_cons (ps_expr (pe_bm PySem.F.plainAttrs_list PySem.F.slot_list_append PySem.F.type_list_append mt_append (pv 3) (pa_cons (pv 5) pa_nil)))
          (pss_one (ps_aug (i := 4) sc_longest_turned.nd rfl (.inl rfl) pe_int ip_sub)))) pss_nil))))
      (pss_one (ps_ret (pe_revL (pv 3))))))))), ?_⟩
  refine ⟨.ref l, rfl, .ref m, rfl, l, m, zs, ws, rfl, t1, tT, hl, hm, bz, pm, fun H1 g1 => ?_⟩
  refine ⟨.ref l, rfl, .ref m, rfl, l, m, zs, ws, rfl, g1.seq0 hl, g1.seq0 hm, bz, pm, fun R H2 fR g2 eR => ?_⟩
  refine ⟨by show 0 ≤ sizeLine; decide, fun F nF => ?_⟩
  have fF : Fresh H2 F := fresh_none nF
  have g12 := g1.trans g2
  have eR3 : upd H2 F (.lst []) R = some (.dK (kvR (ranksTo (later ws) zs zs.length))) := by rw [upd_ne (ne_of_none eR nF)]; exact eR
  have g3 : Grow [] H2 (upd H2 F (.lst [])) := grow_new nF
  refine ⟨.ref R, rfl, R, _, ranksOf ws zs, rfl, eR3, by unfold kvR ranksOf; rw [List.map_map, List.map_map]; rfl, fun mx top => ?_⟩
  have et := topD_of top
  subst et
  refine ⟨.ref l, rfl, l, zs.map V.str, rfl, (g12.trans g3).seq0 hl, ?_⟩
  have dr : ∀ {H' : Hp} {i : Nat}, Grow [] H2 H' → i < zs.length → DGet H' R (.str (zs.getD i Str.empty)) (some (.int (rkAt (later ws) zs i))) := fun {H' i} gr hi => by
    have e := gr.keep R _ (by simp) eR fun ps z => by cases z
    have e1 : valV (kvR (ranksTo (later ws) zs zs.length)) (.inr (zs.getD i Str.empty)) = some (.int (rkAt (later ws) zs i)) := valV_some (j := i) (by
      rw [show (kvR (ranksTo (later ws) zs zs.length)).map Prod.fst = ((ranksTo (later ws) zs zs.length).map Prod.fst).map Sum.inr by unfold kvR; rw [List.map_map, List.map_map]; rfl, ranksTo_keys _ _ _ (Nat.le_refl _), List.take_length]
      exact List.pairwise_map.mpr (bz.nd.imp fun q e => q (Sum.inr.inj e))) (by unfold kvR; rw [List.getElem?_map, ranksTo_at _ _ hi]; rfl)
    rw [← e1]
    exact DGet.k (k := .inr (zs.getD i Str.empty)) e
  refine for_it walk_rev (fun j σ H' => ∃ (rw_ : List Str) (wd : Int) (a : Option V), σ = [some (.ref l), some (.ref m), some (.ref R), some (.ref F), some (.int wd), a] ∧ RowInv ws zs rw_ j wd ∧ H' F = some (.lst (rw_.map V.str)) ∧ Grow [] H2 H') ⟨[], _, none, rfl, RowInv.start ws zs, upd_same, g3⟩
    (fun j σ H' _ h => by
      obtain ⟨_, _, _, _, _, _, g⟩ := h
      exact (g12.trans g).seq0 hl) (fun j x σ H3 H4 hj hp hy => ?_) (fun σ H' hp => ?_)
  · obtain ⟨rw_, wd, a0, rfl, I, eF, gr⟩ := hp
    obtain ⟨rfl, ex⟩ := hy
    rw [List.length_map] at hj
    rw [List.length_map, List.getElem?_map, getD_in (by omega : zs.length - 1 - j < zs.length)] at ex
    cases ex
    refine ⟨.ref R, rfl, .str _, rfl, R, _, rfl, dr gr (by omega : zs.length - 1 - j < zs.length), .int wd, rfl, rfl, _, rfl, ite2 (fun h => ?_) fun h => ?_⟩
    · have e : rkAt (later ws) zs (zs.length - 1 - j) = wd := V.int.inj (of_decide_eq_true h)
      have hs := I.sub.length_le
      rw [List.length_reverse, List.length_drop] at hs
      refine ⟨.ref F, rfl, tyl eF, .str _, rfl, F, _, _, rfl, rfl, eF, by rw [List.length_map]; have := bz.len; unfold sizeLine; omega, ?_⟩
      exact ⟨.int wd, rfl, _, _, rfl, rfl, _, _, _, rfl, I.pick bz.nd pm hj e, by rw [upd_same, List.map_append]; rfl, gr.put fF eF (fun ps z => by cases z)⟩
    · have ne : rkAt (later ws) zs (zs.length - 1 - j) ≠ wd := fun z => h (decide_eq_true (by rw [z]))
      exact ⟨rw_, wd, _, rfl, I.skip hj ne, eF, gr⟩
  · obtain ⟨rw_, wd, a0, rfl, I, eF, gr⟩ := hp
    rw [List.length_map] at I
    obtain ⟨d1, d2⟩ := I.done
    refine ⟨.ref F, rfl, F, _, rfl, .inl (.inl eF), fun D1 n1 => ?_⟩
    exact q D1 _ rw_.reverse (g12.fresh (by simp) (gr.fresh0 n1)) ((g12.trans gr).new n1) (by rw [upd_same, List.map_reverse]) d1 d2
end

/-! ### rows and ranks -/
theorem row_rank {ws zs : List Str} : ∀ {n : Nat}, n ≤ zs.length → ∀ {r q : List Str} {x : Str}, r.Sublist (zs.take n) → r.Pairwise (fun a b => later ws a b = true) → r = q ++ [x] → ∃ i, i < n ∧ zs.getD i Str.empty = x ∧ (r.length : Int) ≤ rkAt (later ws) zs i
  | 0, _, r, q, x, s, _, e => by
    rw [List.take_zero, List.sublist_nil] at s
    rw [s] at e
    exact absurd e (by simp)
  | n + 1, hn, r, q, x, s, pw, e => by
    have ez := getD_in (zs := zs) (i := n) (by omega)
    rw [List.take_add_one, ez, List.sublist_append_iff] at s
    obtain ⟨l1, l2, e1, s1, s2⟩ := s
    have s2' : l2.Sublist [zs.getD n Str.empty] := s2
    have short : l2 = [] ∨ l2 = [zs.getD n Str.empty] := by
      cases s2' with
      | cons _ h => exact .inl (List.sublist_nil.mp h)
      | cons_cons _ h => exact .inr (by rw [List.sublist_nil.mp h])
    rcases short with h | h
    · rw [h, List.append_nil] at e1
      rw [← e1] at s1
      obtain ⟨i, h1, h2, h3⟩ := row_rank (n := n) (by omega) s1 pw e
      exact ⟨i, by omega, h2, h3⟩
    · rw [h] at e1
      have ex : l1 = q ∧ zs.getD n Str.empty = x := by
        have := e1.symm.trans e
        have h1 := List.append_inj' this rfl
        exact ⟨h1.1, by simpa using h1.2⟩
      refine ⟨n, by omega, ex.2, ?_⟩
      rw [e1] at pw ⊢
      rw [List.pairwise_append] at pw
      by_cases hl : l1 = []
      · rw [hl]
        exact rk_pos (later ws) zs (n + 1) n (by omega)
      · have el := (List.dropLast_concat_getLast hl).symm
        obtain ⟨i, h1, h2, h3⟩ := row_rank (n := n) (by omega) s1 pw.1 el
        have lt : later ws (zs.getD i Str.empty) (zs.getD n Str.empty) = true := by
          rw [h2]
          exact pw.2.2 _ (List.getLast_mem hl) _ List.mem_cons_self
        have := rk_up (lt := later ws) (zs := zs) h1 lt
        rw [List.length_append, List.length_singleton]
        omega
theorem row_top {ws zs r : List Str} (t : TurnedRow ws zs r) : (r.length : Int) ≤ topD 0 (ranksOf ws zs) := by
  by_cases hl : r = []
  · rw [hl]
    exact topD_pos
  · obtain ⟨i, h1, h2, h3⟩ := row_rank (Nat.le_refl _) (by rw [List.take_length]; exact t.1) t.2 (List.dropLast_concat_getLast hl).symm
    have m := (mem_ranksOf (ws := ws) (zs := zs)).mpr ⟨i, h1, rfl⟩
    have := topI_ge m
    unfold topD
    rw [if_neg (fun z => by rw [z] at m; cases m)]
    omega
theorem row_exists {ws zs : List Str} (nd : zs.Nodup) (pm : zs.Perm ws) : ∃ r, TurnedRow ws zs r ∧ (r.length : Int) = topD 0 (ranksOf ws zs) := by
  have step : ∀ j, j ≤ zs.length → ∃ rw_ wd, RowInv ws zs rw_ j wd := fun j => by
    induction j with
    | zero => exact fun _ => ⟨_, _, RowInv.start ws zs⟩
    | succ j ih =>
      intro hj
      obtain ⟨rw_, wd, I⟩ := ih (by omega)
      by_cases e : rkAt (later ws) zs (zs.length - 1 - j) = wd
      · exact ⟨_, _, I.pick nd pm (by omega) e⟩
      · exact ⟨_, _, I.skip (by omega) e⟩
  obtain ⟨rw_, wd, I⟩ := step _ (Nat.le_refl _)
  exact ⟨_, I.done⟩

end Lw

namespace Lw
open PySem PySem.Spec PyProof.Rows L2 GxR Gx
/-! ### rows from either side; whole numbers in order -/
theorem lt_ext {ms ns : List Int} (h1 : ms.Pairwise (· < ·)) (h2 : ns.Pairwise (· < ·)) (h : ∀ k, k ∈ ms ↔ k ∈ ns) : ms = ns := by
  have p : ms.Perm ns := (List.perm_ext_iff_of_nodup (h1.imp fun q => Int.ne_of_lt q) (h2.imp fun q => Int.ne_of_lt q)).mpr h
  exact p.eq_of_pairwise (fun a b _ _ x y => by omega) h1 h2
theorem Fine.int {i : Int} (h : i.natAbs < 10 ^ 7) : Fine (.int i) 0 0 := by
  refine ⟨rfl, ?_, rfl, ?_, Nat.le_refl _, Nat.le_refl _⟩
  · show decide (i.natAbs.log2 < 1920) = true
    exact decide_eq_true (PySem.Flt.log2_lt_of (by decide) (Nat.lt_trans h (by decide)))
  · show decide ((PyData.shown (.int i)).length ≤ 8) = true
    refine decide_eq_true ?_
    have t7 := int_text_length_le10 (a := i) (k := 7) (by decide) h
    have e8 : (PyData.shown (.int i)).length = (toString i).length := PySem.ofString_length (toString i)
    omega
theorem dp_ints {K : PySem.W.Frag} {H : Hp} : ∀ xs : List Int, DpAll K H (xs.map V.int) (xs.map PyData.int)
  | [] => .nil
  | x :: r => .cons (.int x) (dp_ints r)
theorem fine_ints {ns : List Int} {k : Nat} (h : ∀ i ∈ ns, i.natAbs < 10 ^ 7) (hk : ns.length ≤ k) : Fine (.list (ns.map PyData.int)) 1 k := Fine.list (n := 0) (m := 0) (fun d hd => by
  obtain ⟨i, hi, rfl⟩ := List.mem_map.mp hd
  exact Fine.int (h i hi)) (by rw [List.length_map]; omega)
theorem idx_up {zs : List Str} (nd : zs.Nodup) {r : List Str} (s : r.Sublist zs) : r.Pairwise fun a b => zs.idxOf a < zs.idxOf b := by
  have all : zs.Pairwise fun a b => zs.idxOf a < zs.idxOf b := by
    rw [List.pairwise_iff_getElem]
    intro i j hi hj hij
    have e1 := idx_at nd (List.getElem?_eq_getElem hi)
    have e2 := idx_at nd (List.getElem?_eq_getElem hj)
    omega
  exact all.sublist s
theorem sub_of_idx {ws r : List Str} (nd : ws.Nodup) (m : ∀ a ∈ r, a ∈ ws) (up : r.Pairwise fun a b => ws.idxOf a < ws.idxOf b) : r.Sublist ws := by
  have rn : r.Nodup := up.imp fun q e => by rw [e] at q; exact Nat.lt_irrefl _ q
  have fs : (ws.filter fun a => decide (a ∈ r)).Sublist ws := List.filter_sublist
  have p : r.Perm (ws.filter fun a => decide (a ∈ r)) := (List.perm_ext_iff_of_nodup rn (nd.sublist fs)).mpr fun a => by
    rw [List.mem_filter, decide_eq_true_iff]
    exact ⟨fun h => ⟨m a h, h⟩, fun h => h.2⟩
  have e := p.eq_of_pairwise (le := fun a b => ws.idxOf a < ws.idxOf b) (fun a b _ _ x y => absurd x (by omega)) up (idx_up nd fs)
  rw [e]
  exact fs
theorem turned_swap {zs ws r : List Str} (nd : zs.Nodup) (pm : zs.Perm ws) (t : TurnedRow ws zs r) : TurnedRow zs ws r.reverse := by
  have nw := pm.nodup_iff.mp nd
  refine ⟨sub_of_idx nw (fun a ha => pm.mem_iff.mp (t.1.subset (List.mem_reverse.mp ha))) ?_, ?_⟩
  · rw [List.pairwise_reverse]
    exact t.2.imp fun q => of_decide_eq_true q
  · rw [List.pairwise_reverse]
    exact (idx_up nd t.1).imp fun q => decide_eq_true q
theorem top_swap {zs ws : List Str} (nd : zs.Nodup) (pm : zs.Perm ws) : topD 0 (ranksOf zs ws) = topD 0 (ranksOf ws zs) := by
  have nw := pm.nodup_iff.mp nd
  obtain ⟨r, h1, h2⟩ := row_exists (ws := ws) nd pm
  obtain ⟨q, k1, k2⟩ := row_exists (ws := zs) nw pm.symm
  have a := row_top (turned_swap nd pm h1)
  have b := row_top (turned_swap nw pm.symm k1)
  rw [List.length_reverse] at a b
  omega
theorem top_roads (ws zs : List Str) : topD 1 (ranksOf ws zs) - 1 = if topD 0 (ranksOf ws zs) - 1 > 0 then topD 0 (ranksOf ws zs) - 1 else 0 := by
  have h : topD 1 (ranksOf ws zs) = 1 ∧ topD 0 (ranksOf ws zs) = 0 ∨ topD 1 (ranksOf ws zs) = topD 0 (ranksOf ws zs) ∧ 1 ≤ topD 0 (ranksOf ws zs) := by
    unfold topD
    by_cases e : ranksOf ws zs = []
    · rw [if_pos e, if_pos e]
      exact .inl ⟨rfl, rfl⟩
    · rw [if_neg e, if_neg e]
      obtain ⟨i, h1, h2⟩ := mem_ranksOf.mp (topI_mem e)
      have := rk_pos (later ws) zs _ i h1
      exact .inr ⟨rfl, by omega⟩
  split <;> omega
theorem top_le {ws zs : List Str} (nd : zs.Nodup) (pm : zs.Perm ws) : topD 0 (ranksOf ws zs) ≤ (zs.length : Nat) := by
  obtain ⟨r, h1, h2⟩ := row_exists (ws := ws) nd pm
  have := h1.1.length_le
  omega

/-! ### lists of lists -/
/-- lists that stand at as -/
structure LL (H : Hp) (as : List Addr) (rs : List (List V)) : Prop where
  len : as.length = rs.length
  at_ : ∀ (i : Nat) (a : Addr) (r : List V), as[i]? = some a → rs[i]? = some r → H a = some (.lst r)
theorem LL.grow {ex : List Addr} {H H' : Hp} {as : List Addr} {rs : List (List V)} (h : LL H as rs) (g : Grow ex H H') (n : ∀ a ∈ as, a ∉ ex) : LL H' as rs :=
  ⟨h.len, fun i a r e q => g.lst (n a (List.mem_of_getElem? e)) (h.at_ i a r e q)⟩
theorem LL.grow0 {H H' : Hp} {as : List Addr} {rs : List (List V)} (h : LL H as rs) (g : Grow [] H H') : LL H' as rs := h.grow g fun _ _ => by simp
theorem LL.set {H : Hp} {as : List Addr} {rs : List (List V)} {j : Nat} {a : Addr} {r : List V} (h : LL H as rs) (nd : as.Nodup) (e : as[j]? = some a) : LL (upd H a (.lst r)) as (rs.set j r) := by
  refine ⟨by rw [List.length_set]; exact h.len, fun i b q e1 e2 => ?_⟩
  rw [List.getElem?_set] at e2
  by_cases hij : j = i
  · subst hij
    rw [e] at e1
    cases e1
    rw [if_pos rfl] at e2
    split at e2
    · cases e2
      exact upd_same
    · cases e2
  · rw [if_neg hij] at e2
    have ne : b ≠ a := fun z => hij ((List.getElem?_inj (List.getElem?_eq_some_iff.mp e).1 nd).mp (by rw [e, e1, z]))
    rw [upd_ne ne]
    exact h.at_ i b q e1 e2
theorem LL.push {H : Hp} {as : List Addr} {rs : List (List V)} {a : Addr} {r : List V} (h : LL H as rs) (e : H a = some (.lst r)) : LL H (as ++ [a]) (rs ++ [r]) := by
  refine ⟨by rw [List.length_append, List.length_append, h.len]; rfl, fun i b q e1 e2 => ?_⟩
  by_cases hi : i < as.length
  · rw [List.getElem?_append_left hi] at e1
    rw [List.getElem?_append_left (by rw [← h.len]; exact hi)] at e2
    exact h.at_ i b q e1 e2
  · rw [List.getElem?_append_right (by omega)] at e1
    rw [List.getElem?_append_right (by rw [← h.len]; omega), ← h.len] at e2
    have hz : i - as.length = 0 := by
      have := (List.getElem?_eq_some_iff.mp e1).1
      rw [List.length_singleton] at this
      omega
    rw [hz] at e1 e2
    cases e1
    cases e2
    exact e
theorem LL.dp {K : PySem.W.Frag} {H : Hp} : ∀ {as : List Addr} {rs : List (List Str)}, LL H as (rs.map fun r => r.map V.str) → DpAll K H (as.map V.ref) (rs.map fun r => PyData.list (r.map PyData.str))
  | [], [], _ => .nil
  | [], _ :: _, h => by have := h.len; simp at this
  | _ :: _, [], h => by have := h.len; simp at this
  | a :: as, r :: rs, h => .cons (dp_book (.inl (.inl (h.at_ 0 a _ rfl rfl)))) (LL.dp ⟨Nat.succ.inj h.len, fun i b q e1 e2 => h.at_ (i + 1) b q e1 e2⟩)

/-- a list of lists stands at a -/
def LLat (H : Hp) (a : Addr) (rs : List (List V)) : Prop := ∃ as : List Addr, H a = some (.lst (as.map V.ref)) ∧ LL H as rs

/-! ### new lists of new lists -/
structure NewLL (H H' : Hp) (D : Addr) (rs : List (List V)) : Prop where
  fresh : Fresh H D
  ex : ∃ as : List Addr, H' D = some (.lst (as.map V.ref)) ∧ LL H' as rs ∧ as.Nodup ∧ ∀ a ∈ as, Fresh H a ∧ a ≠ D
theorem NewLL.nil {H : Hp} {D : Addr} (n : H D = none) : NewLL H (upd H D (.lst [])) D [] :=
  ⟨fresh_none n, [], upd_same, ⟨rfl, fun i a r e => (by cases e)⟩, List.nodup_nil, fun a h => (by cases h)⟩
theorem NewLL.grow {H H1 H2 : Hp} {D : Addr} {rs : List (List V)} (h : NewLL H H1 D rs) (g : Grow [] H1 H2) : NewLL H H2 D rs := by
  obtain ⟨f, as, e, l, nd, fa⟩ := h
  exact ⟨f, as, g.lst (by simp) e, l.grow0 g, nd, fa⟩
theorem NewLL.back {H0 H H' : Hp} {D : Addr} {rs : List (List V)} (h : NewLL H H' D rs) (g : Grow [] H0 H) : NewLL H0 H' D rs := by
  obtain ⟨f, as, e, l, nd, fa⟩ := h
  exact ⟨g.fresh (by simp) f, as, e, l, nd, fun a ha => ⟨g.fresh (by simp) (fa a ha).1, (fa a ha).2⟩⟩
theorem NewLL.at_ {H H' : Hp} {D : Addr} {rs : List (List V)} (h : NewLL H H' D rs) : LLat H' D rs := by
  obtain ⟨f, as, e, l, nd, fa⟩ := h
  exact ⟨as, e, l⟩
theorem NewLL.app {H H1 H2 : Hp} {D C : Addr} {rs : List (List V)} {r : List V} (h : NewLL H H1 D rs) (g : Grow [] H H1) (g2 : Grow [] H1 H2) (fC : Fresh H1 C) (eC : H2 C = some (.lst r)) :
    ∃ acc, H2 D = some (.lst acc) ∧ acc.length = rs.length ∧ Grow [] H (upd H2 D (.lst (acc ++ [.ref C]))) ∧ NewLL H (upd H2 D (.lst (acc ++ [.ref C]))) D (rs ++ [r]) := by
  obtain ⟨f, as, e, l, nd, fa⟩ := h
  have e2 := g2.lst (by simp) e
  have CD : C ≠ D := (fC.ne e (fun ps z => by cases z)).symm
  have gP := grow_at (ex := [D]) (o := .lst (as.map V.ref ++ [.ref C])) e2 (fun ps z => by cases z) (by simp)
  refine ⟨_, e2, by rw [List.length_map]; exact l.len, (g.trans g2).put f e2 (fun ps z => by cases z), f, as ++ [C], ?_, ?_, ?_, ?_⟩
  · rw [upd_same, List.map_append]
    rfl
  · refine LL.push ((l.grow0 g2).grow gP fun d hd => by simpa using (fa d hd).2) ?_
    rw [upd_ne CD]
    exact eC
  · refine List.nodup_append.mpr ⟨nd, List.nodup_cons.mpr ⟨by simp, List.nodup_nil⟩, fun x hx y hy z => ?_⟩
    rw [List.mem_singleton.mp hy] at z
    obtain ⟨i, hi⟩ := List.mem_iff_getElem?.mp hx
    have hil := (List.getElem?_eq_some_iff.mp hi).1
    have := l.at_ i x (rs[i]'(by rw [← l.len]; exact hil)) hi (List.getElem?_eq_getElem _)
    exact (fC.ne this (fun ps z => by cases z)) z
  · intro a ha
    rcases List.mem_append.mp ha with h | h
    · exact fa a h
    · rw [List.mem_singleton.mp h]
      exact ⟨g.fresh (by simp) fC, CD⟩

/-! ### lots -/
def rkW (ws zs : List Str) (w : Str) : Int := rkAt (later ws) zs (zs.idxOf w)
/-- of the first i words those that end a longest row of k + 1 -/
def lotAt (ws zs : List Str) (i k : Nat) : List Str := (zs.take i).filter fun w => decide (rkW ws zs w = (k : Int) + 1)
def topN (ws zs : List Str) : Nat := (topD 0 (ranksOf ws zs)).toNat
def lotsTo (ws zs : List Str) (i : Nat) : List (List Str) := (List.range (topN ws zs)).map (lotAt ws zs i)
theorem topN_eq (ws zs : List Str) : (topN ws zs : Int) = topD 0 (ranksOf ws zs) := by
  unfold topN
  have := topD_pos (ws := ws) (zs := zs)
  omega
theorem rk_top {ws zs : List Str} {i : Nat} (h : i < zs.length) : 1 ≤ rkAt (later ws) zs i ∧ rkAt (later ws) zs i ≤ (topN ws zs : Int) := by
  refine ⟨rk_pos (later ws) zs _ i h, ?_⟩
  have m := (mem_ranksOf (ws := ws) (zs := zs)).mpr ⟨i, h, rfl⟩
  have := topI_ge m
  rw [topN_eq]
  unfold topD
  rw [if_neg (fun z => by rw [z] at m; cases m)]
  exact this
theorem rkW_at {ws zs : List Str} (nd : zs.Nodup) {i : Nat} (h : i < zs.length) : rkW ws zs (zs.getD i Str.empty) = rkAt (later ws) zs i := by
  unfold rkW
  rw [← idx_at nd (getD_in h)]
theorem lots_next {ws zs : List Str} (nd : zs.Nodup) {i : Nat} (h : i < zs.length) {k : Nat} (hk : rkAt (later ws) zs i = (k : Int) + 1) :
    lotsTo ws zs (i + 1) = (lotsTo ws zs i).set k (lotAt ws zs i k ++ [zs.getD i Str.empty]) := by
  have tk : zs.take (i + 1) = zs.take i ++ [zs.getD i Str.empty] := by rw [List.take_add_one, getD_in h]; rfl
  have rw_ := rkW_at (ws := ws) nd h
  refine List.ext_getElem? fun j => ?_
  unfold lotsTo
  rw [List.getElem?_set, List.length_map, List.length_range, List.getElem?_map, List.getElem?_map]
  by_cases hj : j < topN ws zs
  · rw [List.getElem?_range hj]
    by_cases e : k = j
    · subst e
      rw [if_pos rfl, if_pos hj]
      show some (lotAt ws zs (i + 1) k) = _
      unfold lotAt
      rw [tk, List.filter_append, List.filter_cons_of_pos (by rw [rw_, hk]; exact decide_eq_true rfl), List.filter_nil]
    · rw [if_neg e]
      show some (lotAt ws zs (i + 1) j) = some (lotAt ws zs i j)
      unfold lotAt
      rw [tk, List.filter_append, List.filter_cons_of_neg (by
        rw [rw_, hk, decide_eq_true_iff]
        omega), List.filter_nil, List.append_nil]
  · have hn : (List.range (topN ws zs))[j]? = none := by
      rw [List.getElem?_eq_none_iff, List.length_range]
      omega
    rw [hn]
    by_cases e : k = j
    · rw [if_pos e, if_neg (by omega)]
      rfl
    · rw [if_neg e]
      rfl
theorem rk_all {ws zs : List Str} {k : Nat} (h1 : 1 ≤ k) : ∀ {n i : Nat}, i < zs.length → rkAt (later ws) zs i = ((k + n : Nat) : Int) → ∃ j, j < zs.length ∧ rkAt (later ws) zs j = (k : Int)
  | 0, i, hi, e => ⟨i, hi, e⟩
  | n + 1, i, hi, e => by
    obtain ⟨a, a1, _, a3⟩ := rk_down (lt := later ws) (zs := zs) (i := i) (by omega)
    exact rk_all h1 (n := n) (i := a) (by omega) (by omega)
/-- what each lot is -/
theorem lot_ok {ws zs : List Str} (nd : zs.Nodup) (pm : zs.Perm ws) {k : Nat} (hk : k < topN ws zs) : lotAt ws zs zs.length k ≠ [] ∧ (lotAt ws zs zs.length k).Sublist zs ∧ (lotAt ws zs zs.length k).Pairwise fun a b => ws.idxOf a < ws.idxOf b := by
  unfold lotAt
  rw [List.take_length]
  refine ⟨fun z => ?_, List.filter_sublist, ?_⟩
  · have ht := topN_eq ws zs
    have ne : ranksOf ws zs ≠ [] := fun e => by
      unfold topD at ht
      rw [if_pos e] at ht
      omega
    unfold topD at ht
    rw [if_neg ne] at ht
    obtain ⟨i, i1, i2⟩ := mem_ranksOf.mp (topI_mem ne)
    obtain ⟨j, j1, j2⟩ := rk_all (ws := ws) (zs := zs) (k := k + 1) (by omega) (n := topN ws zs - (k + 1)) i1 (by rw [i2, ← ht]; omega)
    have := List.filter_eq_nil_iff.mp z (zs.getD j Str.empty) (getD_mem j1)
    rw [rkW_at nd j1, j2] at this
    exact this (decide_eq_true (by omega))
  · have up := idx_up nd (List.filter_sublist (l := zs) (p := fun w => decide (rkW ws zs w = (k : Int) + 1)))
    refine (List.pairwise_iff_getElem.mpr fun i j hi hj hij => ?_)
    have u := List.pairwise_iff_getElem.mp up i j hi hj hij
    obtain ⟨m1, r1⟩ := List.mem_filter.mp (List.getElem_mem hi)
    obtain ⟨m2, r2⟩ := List.mem_filter.mp (List.getElem_mem hj)
    generalize (zs.filter fun w => decide (rkW ws zs w = (k : Int) + 1))[i] = a at *
    generalize (zs.filter fun w => decide (rkW ws zs w = (k : Int) + 1))[j] = b at *
    have r1' := of_decide_eq_true r1
    have r2' := of_decide_eq_true r2
    have l1 := List.idxOf_lt_length_of_mem m1
    have l2 := List.idxOf_lt_length_of_mem m2
    have ga : zs.getD (zs.idxOf a) Str.empty = a := by rw [List.getD_eq_getElem?_getD, List.getElem?_eq_getElem l1, List.getElem_idxOf l1]; rfl
    have gb : zs.getD (zs.idxOf b) Str.empty = b := by rw [List.getD_eq_getElem?_getD, List.getElem?_eq_getElem l2, List.getElem_idxOf l2]; rfl
    have nl : later ws a b = false := by
      cases hc : later ws a b with
      | false => rfl
      | true =>
        have := rk_up (lt := later ws) (zs := zs) u (by rw [ga, gb]; exact hc)
        unfold rkW at r1' r2'
        omega
    have ne : a ≠ b := fun z => by rw [z] at u; exact Nat.lt_irrefl _ u
    exact of_decide_eq_true (later_not (pm.mem_iff.mp m1) (pm.mem_iff.mp m2) ne nl)
theorem lots_perm {ws zs : List Str} (nd : zs.Nodup) : (lotsTo ws zs zs.length).flatten.Perm zs := by
  have fl : ∀ w, w ∈ (lotsTo ws zs zs.length).flatten ↔ w ∈ zs := fun w => by
    rw [List.mem_flatten]
    unfold lotsTo lotAt
    constructor
    · rintro ⟨r, hr, hw⟩
      obtain ⟨k, _, rfl⟩ := List.mem_map.mp hr
      rw [List.take_length] at hw
      exact (List.mem_filter.mp hw).1
    · intro hw
      have l := List.idxOf_lt_length_of_mem hw
      obtain ⟨h1, h2⟩ := rk_top (ws := ws) l
      refine ⟨_, List.mem_map.mpr ⟨(rkW ws zs w - 1).toNat, List.mem_range.mpr ?_, rfl⟩, ?_⟩
      · unfold rkW
        omega
      · rw [List.take_length]
        refine List.mem_filter.mpr ⟨hw, decide_eq_true ?_⟩
        unfold rkW
        omega
  refine (List.perm_ext_iff_of_nodup ?_ nd).mpr fl
  show List.Pairwise _ _
  rw [List.pairwise_flatten]
  constructor
  · intro r hr
    unfold lotsTo lotAt at hr
    obtain ⟨k, _, rfl⟩ := List.mem_map.mp hr
    rw [List.take_length]
    exact nd.sublist List.filter_sublist
  · unfold lotsTo
    rw [List.pairwise_map]
    refine List.pairwise_lt_range.imp fun {a b} hab x hx y hy e => ?_
    unfold lotAt at hx hy
    have h1 := of_decide_eq_true (List.mem_filter.mp hx).2
    have h2 := of_decide_eq_true (List.mem_filter.mp hy).2
    rw [e] at h1
    omega

/-! ### fewest_lots -/
section
variable {P : Program} {w : World} {K : PySem.W.Frag} {mg : Str → Option Value} {base : Heap}
def spFewest (K : PySem.W.Frag) (T1 T : Addr) : Sp := fun vs H Q _ => ∃ (l m : Addr) (zs ws : List Str), vs = [.ref l, .ref m] ∧ TabG H T1 ∧ TabG H T ∧ SqL K H l (zs.map V.str) ∧ SqL K H m (ws.map V.str) ∧ Bk zs ∧ zs.Perm ws ∧
  ∀ (D : Addr) (H' : Hp) (as : List Addr), Fresh H D → Grow [] H H' → H' D = some (.lst (as.map V.ref)) → as.Nodup → (∀ a ∈ as, Fresh H a ∧ a ≠ D) → LL H' as ((lotsTo ws zs zs.length).map fun r => r.map V.str) → Q (.ref D) H'
theorem ok_fewest_lots {f c T1 T : Addr} {fd : FuncData} (B : Nb mg) (D : DefIs K "fewest_lots" "fewest_lots" st_fewest_lots f fd (.ref c))
    (c_check_books : Callee P w K mg base CX0 10 "check_books" ["book", "other"] (spCheck K T1 T)) (c_ranks_of : Callee P w K mg base CX0 5 "ranks_of" ["book", "other"] (spRanks K)) :
    FnG P w K mg base CX0 11 f fd ["book", "other"] (spFewest K T1 T) := by
  refine D.ok0 (k := 10) sc_fewest_lots (fun vs H Q E h => ?_) (fun A outer s H vs Q E g hr h => ?_)
  · obtain ⟨l, m, zs, ws, rfl, _⟩ := h
    rfl
  obtain ⟨l, m, zs, ws, rfl, t1, tT, hl, hm, bz, pm, q⟩ := h
  refine ⟨_,
      (pss_cons (ps_expr (pe_g c_check_books g (hr.mono (by decide)) pass0 (pa_cons (pv 0) (pa_cons (pv 1) pa_nil))))
      (pss_cons (ps_set (i := 2) sc_fewest_lots.nd rfl (.inl rfl) (pe_g c_ranks_of g (hr.mono (by decide)) pass0 (pa_cons (pv 0) (pa_cons (pv 1) pa_nil))))
      (pss_cons (ps_setLc (i := 3) (own := [("_", 4)]) (tt := tYes) (g := (gName 4)) rfl sc_fewest_lots.nd rfl rfl (sw_true rfl rfl rfl (by decide +kernel)) (pi_range1 rfl B.n_range (pa_cons (pe_maxVals rfl rfl B.n_max (pv 2)) pa_nil)) (blkOk_by (N := N_fewest_lots) (sc := defScope st_fewest_lots) (by decide +kernel)) (fun _ _ _ _ _ => (pg_name (i := 4) sc_fewest_lots.nd rfl (.inl rfl))) (fun _ _ _ _ _ => pts_nil) (fun _ _ _ _ _ => pe_to (pe_lst pa_nil)))
      (pss_cons (ps_for PassesOwn.never rfl (pi_list (pv 0)) (pg_name (i := 5) sc_fewest_lots.nd rfl (.inl rfl)) (
        (pss_one (ps_expr (pe_bm PySem.F.plainAttrs_list PySem.F.slot_list_append PySem.F.type_list_append mt_append (pe_ix ix_list (pv 3) (pe_op op_sub (pe_dget (hu_of hr) (pv 2) (pv 5) (fun _ _ => rfl)) pe_int) (fun _ _ => rfl)) (pa_cons (pv 5) pa_nil))))))
      (pss_one (ps_ret (pv 3))))))), ?_⟩
  refine ⟨.ref l, rfl, .ref m, rfl, l, m, zs, ws, rfl, t1, tT, hl, hm, bz, pm, fun H1 g1 => ?_⟩
  refine ⟨.ref l, rfl, .ref m, rfl, l, m, zs, ws, rfl, g1.seq0 hl, g1.seq0 hm, bz, pm, fun R H2 fR g2 eR => ?_⟩
  have g12 := g1.trans g2
  have ekv : (kvR (ranksTo (later ws) zs zs.length)).map Prod.snd = (ranksOf ws zs).map V.int := by
    unfold kvR ranksOf
    rw [List.map_map, List.map_map]
    rfl
  refine ⟨.ref R, rfl, R, _, ranksOf ws zs, rfl, eR, ekv, fun mx top => ?_⟩
  have et := topD_of top
  subst et
  have tl := top_le (ws := ws) bz.nd pm
  have t0 := topD_pos (ws := ws) (zs := zs)
  have bl := bz.len
  refine ⟨_, rfl, by omega, by omega, fun D1 n1 => ?_⟩
  have fD : Fresh H2 D1 := fresh_none n1
  refine lc_it walk_range (fun j H' => Grow [] H2 H' ∧ ∃ as : List Addr, as.length = j ∧ H' D1 = some (.lst (as.map V.ref)) ∧ as.Nodup ∧ ∀ a ∈ as, Fresh H2 a ∧ a ≠ D1 ∧ H' a = some (.lst [])) ⟨grow_new n1, [], rfl, upd_same, List.nodup_nil, fun a h => by cases h⟩
    (fun _ _ _ _ => trivial) (fun j x H3 H4 hj hp hy => ?_) (fun H3 hp => ?_)
  · obtain ⟨gj, as, la, eD, nd, ha⟩ := hp
    obtain ⟨rfl, rfl⟩ := hy
    refine ⟨rfl, yes_if ⟨by show 0 ≤ sizeLine; decide, fun p np => ?_⟩⟩
    have eD2 : upd H4 p (.lst []) D1 = some (.lst (as.map V.ref)) := by rw [upd_ne (ne_of_none eD np)]; exact eD
    have pD : p ≠ D1 := (ne_of_none eD np).symm
    have pa : p ∉ as := fun h => by
      have e := (ha p h).2.2
      rw [np] at e
      cases e
    refine ⟨_, eD2, by rw [List.length_map, la]; unfold sizeLine; omega, (gj.new np).put fD eD2 (fun ps z => by cases z), as ++ [p], by rw [List.length_append, la]; rfl, by rw [upd_same, List.map_append]; rfl, ?_, fun a h => ?_⟩
    · rw [List.nodup_append]
      refine ⟨nd, by simp, fun a h b hb e => ?_⟩
      rw [List.mem_singleton.mp hb] at e
      exact pa (e ▸ h)
    · rcases List.mem_append.mp h with h | h
      · obtain ⟨h1, h2, h3⟩ := ha a h
        exact ⟨h1, h2, by rw [upd_ne h2, upd_ne (ne_of_none h3 np)]; exact h3⟩
      · rw [List.mem_singleton.mp h]
        exact ⟨gj.fresh0 np, pD, by rw [upd_ne pD]; exact upd_same⟩
  · obtain ⟨g3, as, la, eD, nd, ha⟩ := hp
    have la' : as.length = topN ws zs := la
    have hL : LL H3 as ((lotsTo ws zs 0).map fun r => r.map V.str) := by
      refine ⟨by unfold lotsTo; rw [la', List.length_map, List.length_map, List.length_range], fun i a r e1 e2 => ?_⟩
      rw [(ha a (List.mem_of_getElem? e1)).2.2]
      unfold lotsTo lotAt at e2
      obtain ⟨y, hy, rfl⟩ := List.mem_map.mp (List.mem_of_getElem? e2)
      obtain ⟨k, _, rfl⟩ := List.mem_map.mp hy
      rfl
    refine ⟨.ref l, rfl, l, rfl, ⟨_, (g12.trans g3).seq0 hl⟩, ?_⟩
    refine for_it (walk_list (xs := zs.map V.str)) (fun i σ H' => ∃ a b : Option V, σ = [some (.ref l), some (.ref m), some (.ref R), some (.ref D1), a, b] ∧ Grow [] H2 H' ∧ H' D1 = some (.lst (as.map V.ref)) ∧ LL H' as ((lotsTo ws zs i).map fun r => r.map V.str))
      ⟨_, _, rfl, g3, eD, hL⟩ (fun i σ H' _ h => by
        obtain ⟨_, _, _, g, _⟩ := h
        exact (g12.trans g).seq0 hl) (fun i x σ H4 H5 hi hp hy => ?_) (fun σ H4 hp => ?_)
    · obtain ⟨a0, b0, rfl, gr, eD5, hL5⟩ := hp
      obtain ⟨rfl, ex⟩ := hy
      rw [List.length_map] at hi
      rw [List.getElem?_map, getD_in hi] at ex
      cases ex
      obtain ⟨k, hk⟩ : ∃ k : Nat, rkAt (later ws) zs i = (k : Int) + 1 := ⟨(rkAt (later ws) zs i - 1).toNat, by have := rk_top (ws := ws) hi; omega⟩
      have kt : k < topN ws zs := by have := rk_top (ws := ws) hi; omega
      have dr : DGet H5 R (.str (zs.getD i Str.empty)) (some (.int ((k : Int) + 1))) := by
        have e := gr.keep R _ (by simp) eR fun ps z => by cases z
        have e1 : valV (kvR (ranksTo (later ws) zs zs.length)) (.inr (zs.getD i Str.empty)) = some (.int ((k : Int) + 1)) := valV_some (j := i) (by
          rw [show (kvR (ranksTo (later ws) zs zs.length)).map Prod.fst = ((ranksTo (later ws) zs zs.length).map Prod.fst).map Sum.inr by unfold kvR; rw [List.map_map, List.map_map]; rfl, ranksTo_keys _ _ _ (Nat.le_refl _), List.take_length]
          exact List.pairwise_map.mpr (bz.nd.imp fun q e => q (Sum.inr.inj e))) (by unfold kvR; rw [List.getElem?_map, ranksTo_at _ _ hi, hk]; rfl)
        rw [← e1]
        exact DGet.k (k := .inr (zs.getD i Str.empty)) e
      have ea : as[k]? = some (as[k]'(by omega)) := List.getElem?_eq_getElem (by omega)
      obtain ⟨a, eqa⟩ : ∃ a, as[k]'(by omega) = a := ⟨_, rfl⟩
      rw [eqa] at ea
      have er : ((lotsTo ws zs i).map fun r => r.map V.str)[k]? = some ((lotAt ws zs i k).map V.str) := by
        unfold lotsTo
        rw [List.map_map, List.getElem?_map, List.getElem?_range kt]
        rfl
      have eA := hL5.at_ k a _ ea er
      have fa := ha a (List.mem_of_getElem? ea)
      have ll : (lotAt ws zs i k).length ≤ 200 := by
        unfold lotAt
        have h2 := List.length_filter_le (fun w => decide (rkW ws zs w = (k : Int) + 1)) (zs.take i)
        rw [List.length_take] at h2
        omega
      refine ⟨.ref D1, rfl, .ref R, rfl, .str _, rfl, R, _, rfl, dr, _, _, rfl, rfl, D1, _, _, .ref a, rfl, rfl, .inl (.inl eD5), ?_, tyl eA, .str _, rfl, a, _, _, rfl, rfl, eA, by rw [List.length_map]; unfold sizeLine; omega, ?_⟩
      · rw [Int.add_sub_cancel]
        exact atI_nat (by rw [List.getElem?_map, ea]; rfl)
      · refine ⟨_, _, rfl, gr.put fa.1 eA (fun ps z => by cases z), by rw [upd_ne fa.2.1.symm]; exact eD5, ?_⟩
        rw [lots_next bz.nd hi hk]
        have := hL5.set (r := (lotAt ws zs i k).map V.str ++ [.str (zs.getD i Str.empty)]) nd ea
        rw [List.map_set, List.map_append]
        exact this
    · obtain ⟨a0, b0, rfl, gr, eD5, hL5⟩ := hp
      rw [List.length_map] at hL5
      exact ⟨.ref D1, rfl, q D1 H4 as (g12.fresh (by simp) fD) (g12.trans gr) eD5 nd (fun a h => ⟨g12.fresh (by simp) (ha a h).1, (ha a h).2.1⟩) hL5⟩
end

end Lw

namespace Lw
open PySem PySem.Spec PyProof.Rows L2 GxR Gx
theorem idx_inj {xs : List Str} {a b : Str} (ha : a ∈ xs) (hb : b ∈ xs) (h : xs.idxOf a = xs.idxOf b) : a = b := by
  rw [← List.getElem_idxOf (List.idxOf_lt_length_of_mem ha), ← List.getElem_idxOf (List.idxOf_lt_length_of_mem hb)]
  exact getElem_congr_idx h
/-! ### where there are numberings -/
theorem ab_fold (zs : List Str) (k j : Nat) : ∀ (ps : List (Str × Str)) (a : Nat), (ps.foldl (fun a p => if zs.idxOf p.1 = k then a ||| 2 ^ zs.idxOf p.2 else a) a).testBit j = true ↔ a.testBit j = true ∨ ∃ p ∈ ps, zs.idxOf p.1 = k ∧ zs.idxOf p.2 = j
  | [], a => by simp
  | p :: ps, a => by
    rw [List.foldl_cons, ab_fold zs k j ps]
    by_cases h : zs.idxOf p.1 = k
    · rw [if_pos h, Nat.testBit_or, Bool.or_eq_true, Nat.testBit_two_pow, decide_eq_true_eq]
      constructor
      · rintro ((h1 | h1) | ⟨q, h1, h2⟩)
        · exact .inl h1
        · exact .inr ⟨p, List.mem_cons_self, h, h1⟩
        · exact .inr ⟨q, List.mem_cons_of_mem _ h1, h2⟩
      · rintro (h1 | ⟨q, h1, h2, h3⟩)
        · exact .inl (.inl h1)
        · rcases List.mem_cons.mp h1 with rfl | h1
          · exact .inl (.inr h3)
          · exact .inr ⟨q, h1, h2, h3⟩
    · rw [if_neg h]
      constructor
      · rintro (h1 | ⟨q, h1, h2⟩)
        · exact .inl h1
        · exact .inr ⟨q, List.mem_cons_of_mem _ h1, h2⟩
      · rintro (h1 | ⟨q, h1, h2, h3⟩)
        · exact .inl h1
        · rcases List.mem_cons.mp h1 with rfl | h1
          · exact (h h2).elim
          · exact .inr ⟨q, h1, h2, h3⟩
theorem abOf_bit (zs : List Str) (ps : List (Str × Str)) (k j : Nat) : (abOf zs ps k).testBit j = true ↔ ∃ p ∈ ps, zs.idxOf p.1 = k ∧ zs.idxOf p.2 = j := by
  unfold abOf
  rw [ab_fold]
  constructor
  · rintro (h | h)
    · rw [Nat.zero_testBit] at h
      cases h
    · exact h
  · exact .inr
section
variable {zs ws : List Str}
theorem ab_up (nd : zs.Nodup) (j i : Nat) (h : (abOf zs (prsTo (later ws) zs zs.length) j).testBit i = true) : j < i := by
  obtain ⟨p, hp, h1, h2⟩ := (abOf_bit _ _ _ _).mp h
  have := (mem_prs nd (a := p.1) (b := p.2)).mp hp
  omega
end

/-! ### how many there are of a kind -/
def Cnt {α : Type} (P : α → Prop) (k : Nat) : Prop := ∃ L : List α, L.Nodup ∧ (∀ x, x ∈ L ↔ P x) ∧ L.length = k
section
variable {α β : Type} {P Q : α → Prop} {R : β → Prop} {k j : Nat}
theorem Cnt.uniq (h : Cnt P k) (h' : Cnt P j) : k = j := by
  obtain ⟨L, n1, m1, rfl⟩ := h
  obtain ⟨M, n2, m2, rfl⟩ := h'
  exact ((List.perm_ext_iff_of_nodup n1 n2).mpr fun x => (m1 x).trans (m2 x).symm).length_eq
theorem Cnt.congr (h : Cnt P k) (e : ∀ x, P x ↔ Q x) : Cnt Q k := by
  obtain ⟨L, n1, m1, l⟩ := h
  exact ⟨L, n1, fun x => (m1 x).trans (e x), l⟩
theorem Cnt.none (h : ∀ x, ¬ P x) : Cnt P 0 := ⟨[], List.nodup_nil, fun x => ⟨fun z => (by cases z), fun z => (h x z).elim⟩, rfl⟩
theorem Cnt.one (a : α) (h : ∀ x, P x ↔ x = a) : Cnt P 1 := ⟨[a], List.nodup_cons.mpr ⟨by simp, List.nodup_nil⟩, fun x => by rw [List.mem_singleton, h], rfl⟩
theorem Cnt.or (h : Cnt P k) (h' : Cnt Q j) (d : ∀ x, P x → Q x → False) : Cnt (fun x => P x ∨ Q x) (k + j) := by
  obtain ⟨L, n1, m1, l1⟩ := h
  obtain ⟨M, n2, m2, l2⟩ := h'
  refine ⟨L ++ M, List.nodup_append.mpr ⟨n1, n2, fun x hx y hy e => ?_⟩, fun x => ?_, by rw [List.length_append, l1, l2]⟩
  · subst e
    exact d x ((m1 x).mp hx) ((m2 x).mp hy)
  · rw [List.mem_append, m1, m2]
theorem Cnt.bij (h : Cnt P k) (f : α → β) (g : β → α) (hf : ∀ x, P x → R (f x)) (hg : ∀ y, R y → P (g y)) (gf : ∀ x, P x → g (f x) = x) (fg : ∀ y, R y → f (g y) = y) : Cnt R k := by
  obtain ⟨L, n1, m1, l1⟩ := h
  refine ⟨L.map f, ?_, fun y => ?_, by rw [List.length_map, l1]⟩
  · refine List.pairwise_map.mpr (List.Pairwise.imp_of_mem (fun {a b} ha hb ne e => ne ?_) n1)
    rw [← gf a ((m1 a).mp ha), ← gf b ((m1 b).mp hb), e]
  · rw [List.mem_map]
    constructor
    · rintro ⟨x, hx, rfl⟩
      exact hf x ((m1 x).mp hx)
    · intro hy
      exact ⟨g y, (m1 _).mpr (hg y hy), fg y hy⟩
end
/-! ### sums -/
def sumTo (n : Nat) (f : Nat → Nat) : Nat := ((List.range n).map f).sum
theorem sumTo_zero (f : Nat → Nat) : sumTo 0 f = 0 := rfl
theorem sumTo_succ (n : Nat) (f : Nat → Nat) : sumTo (n + 1) f = sumTo n f + f n := by
  unfold sumTo
  rw [List.range_succ, List.map_append, List.sum_append]
  simp
theorem sumTo_congr {f g : Nat → Nat} : ∀ {n : Nat}, (∀ i, i < n → f i = g i) → sumTo n f = sumTo n g
  | 0, _ => rfl
  | n + 1, h => by rw [sumTo_succ, sumTo_succ, sumTo_congr (n := n) fun i hi => h i (by omega), h n (by omega)]
theorem sumTo_add (f g : Nat → Nat) : ∀ n, sumTo n (fun i => f i + g i) = sumTo n f + sumTo n g
  | 0 => rfl
  | n + 1 => by rw [sumTo_succ, sumTo_succ, sumTo_succ, sumTo_add f g n]; omega
theorem sumTo_shift (f : Nat → Nat) : ∀ n, sumTo (n + 1) f = f 0 + sumTo n (fun i => f (i + 1))
  | 0 => by rw [sumTo_succ, sumTo_zero, sumTo_zero]; omega
  | n + 1 => by rw [sumTo_succ, sumTo_shift f n, sumTo_succ]; omega
theorem sumTo_more {f : Nat → Nat} {n : Nat} : ∀ {m : Nat}, n ≤ m → (∀ i, n ≤ i → i < m → f i = 0) → sumTo m f = sumTo n f
  | 0, h, _ => by rw [Nat.le_zero.mp h]
  | m + 1, h, z => by
    by_cases e : n = m + 1
    · rw [e]
    · rw [sumTo_succ, z m (by omega) (by omega), sumTo_more (m := m) (by omega) fun i a b => z i a (by omega)]
      omega
theorem sumTo_rev (f : Nat → Nat) : ∀ n, sumTo n f = sumTo n (fun i => f (n - 1 - i))
  | 0 => rfl
  | n + 1 => by
    rw [sumTo_succ, sumTo_rev f n, sumTo_shift (fun i => f (n + 1 - 1 - i)), Nat.add_comm]
    congr 1
    refine sumTo_congr fun i hi => ?_
    rw [show n + 1 - 1 - (i + 1) = n - 1 - i by omega]
/-! ### numberings by their numbers -/
/-- so many numbers, not all of them used -/
def powM (ab : Nat → Nat) (n : Nat) : Nat → Nat → Nat
  | 0 => fun W => if W = 0 then 1 else 0
  | m + 1 => fun W => proc ab (powM ab n m) n n W
theorem proc_congr {ab f g : Nat → Nat} {n : Nat} (h : ∀ W, f W = g W) : ∀ d W, proc ab f n d W = proc ab g n d W
  | 0, W => h W
  | d + 1, W => by
    show stepK ab _ (proc ab f n d) W = stepK ab _ (proc ab g n d) W
    unfold stepK
    rw [proc_congr h d W, proc_congr h d]
theorem proc_sum (ab : Nat → Nat) (F : Nat → Nat → Nat) (c : Nat → Nat) (n N : Nat) : ∀ d W, proc ab (fun W => sumTo N fun u => F u W * c u) n d W = sumTo N fun u => proc ab (F u) n d W * c u
  | 0, W => rfl
  | d + 1, W => by
    show stepK ab _ (proc ab (fun W => sumTo N fun u => F u W * c u) n d) W = sumTo N fun u => stepK ab _ (proc ab (F u) n d) W * c u
    unfold stepK
    split
    · rw [proc_sum ab F c n N d W, proc_sum ab F c n N d, ← sumTo_add]
      exact sumTo_congr fun u _ => by rw [Nat.add_mul]
    · exact proc_sum ab F c n N d W
theorem powM_sum (ab : Nat → Nat) (n : Nat) : ∀ m W, powM ab n m W = sumTo (m + 1) fun u => waysU ab n u W * binom m u
  | 0, W => by
    rw [sumTo_succ, sumTo_zero]
    show _ = 0 + (if W = 0 then 1 else 0) * 1
    rw [Nat.zero_add, Nat.mul_one]
    rfl
  | m + 1, W => by
    show proc ab (powM ab n m) n n W = _
    rw [proc_congr (powM_sum ab n m), proc_sum]
    have e1 : ∀ u, proc ab (waysU ab n u) n n W = waysU ab n u W + waysU ab n (u + 1) W := fun u => by
      have := proc_ge ab (waysU ab n u) n W n
      show _ = waysU ab n u W + (proc ab (waysU ab n u) n n W - waysU ab n u W)
      omega
    rw [sumTo_congr (g := fun u => waysU ab n u W * binom m u + waysU ab n (u + 1) W * binom m u) fun u _ => by rw [e1, Nat.add_mul], sumTo_add, sumTo_shift (fun u => waysU ab n u W * binom (m + 1) u) (m + 1)]
    have e2 : ∀ u, waysU ab n (u + 1) W * binom (m + 1) (u + 1) = waysU ab n (u + 1) W * binom m u + waysU ab n (u + 1) W * binom m (u + 1) := fun u => by rw [binom, Nat.mul_add]
    have e3 : sumTo (m + 1) (fun u => waysU ab n (u + 1) W * binom m (u + 1)) = sumTo m fun u => waysU ab n (u + 1) W * binom m (u + 1) := by
      rw [sumTo_succ, binom_above (Nat.lt_succ_self m), Nat.mul_zero, Nat.add_zero]
    have e4 := sumTo_shift (fun u => waysU ab n u W * binom m u) m
    rw [sumTo_congr fun u _ => e2 u, sumTo_add, e3, e4, binom_zero, binom_zero]
    omega
def bitsIn (W : Nat) : List Nat → Nat
  | [] => 0
  | x :: l => (if W.testBit x = true then 1 else 0) + bitsIn W l
theorem bitsIn_le (W : Nat) : ∀ l, bitsIn W l ≤ l.length
  | [] => Nat.le_refl _
  | x :: l => by
    have := bitsIn_le W l
    rw [bitsIn, List.length_cons]
    split <;> omega
theorem bitsIn_mono {V W : Nat} (h : ∀ j, V.testBit j = true → W.testBit j = true) : ∀ l, bitsIn V l ≤ bitsIn W l
  | [] => Nat.le_refl _
  | x :: l => by
    have := bitsIn_mono h l
    rw [bitsIn, bitsIn]
    by_cases hv : V.testBit x = true
    · rw [if_pos hv, if_pos (h x hv)]
      omega
    · rw [if_neg hv]
      split <;> omega
theorem bitsIn_lt {V W j : Nat} (h : ∀ j, V.testBit j = true → W.testBit j = true) (j2 : W.testBit j = true) (j3 : V.testBit j = false) : ∀ {l : List Nat}, j ∈ l → bitsIn V l < bitsIn W l
  | x :: l, hm => by
    have le := bitsIn_mono h l
    rw [bitsIn, bitsIn]
    by_cases e : j = x
    · subst e
      rw [if_neg (by rw [j3]; simp), if_pos j2]
      omega
    · have ih := bitsIn_lt h j2 j3 (l := l) (by
        rcases List.mem_cons.mp hm with q | q
        · exact (e q).elim
        · exact q)
      by_cases hv : V.testBit x = true
      · rw [if_pos hv, if_pos (h x hv)]
        omega
      · rw [if_neg hv]
        split <;> omega
/-- by more numbers than there are words not all are used -/
theorem ways_few {ab : Nat → Nat} {n : Nat} : ∀ {u W : Nat}, W < 2 ^ n → 0 < waysU ab n u W → u ≤ bitsIn W (List.range n)
  | 0, _, _, _ => Nat.zero_le _
  | u + 1, W, hW, h => by
    have h : 0 < proc ab (waysU ab n u) n n W - waysU ab n u W := h
    have strict : ∀ d, d ≤ n → ∀ W, W < 2 ^ n → waysU ab n u W < proc ab (waysU ab n u) n d W → ∃ V, V < 2 ^ n ∧ 0 < waysU ab n u V ∧ (∀ j, V.testBit j = true → W.testBit j = true) ∧ ∃ j, j < n ∧ W.testBit j = true ∧ V.testBit j = false := by
      intro d
      induction d with
      | zero => intro _ W _ h; exact absurd h (Nat.lt_irrefl _)
      | succ d ih =>
        intro hd W hW h
        have h : waysU ab n u W < stepK ab (n - 1 - d) (proc ab (waysU ab n u) n d) W := h
        unfold stepK at h
        by_cases c : W.testBit (n - 1 - d) = true ∧ W &&& ab (n - 1 - d) = 0
        · rw [if_pos c] at h
          have bd := bit_drop c.1
          have V2 : W - 2 ^ (n - 1 - d) < 2 ^ n := Nat.lt_of_le_of_lt (Nat.sub_le _ _) hW
          by_cases h1 : waysU ab n u W < proc ab (waysU ab n u) n d W
          · exact ih (by omega) W hW h1
          · by_cases h2 : waysU ab n u (W - 2 ^ (n - 1 - d)) < proc ab (waysU ab n u) n d (W - 2 ^ (n - 1 - d))
            · obtain ⟨V, v1, v2, v3, j, j1, j2, j3⟩ := ih (by omega) _ V2 h2
              refine ⟨V, v1, v2, fun j hj => ?_, j, j1, ?_, j3⟩
              · have := v3 j hj
                rw [bd, Bool.and_eq_true] at this
                exact this.1
              · rw [bd, Bool.and_eq_true] at j2
                exact j2.1
            · refine ⟨_, V2, by omega, fun j hj => ?_, n - 1 - d, by omega, c.1, ?_⟩
              · rw [bd, Bool.and_eq_true] at hj
                exact hj.1
              · rw [bd, decide_eq_false (by simp), Bool.and_false]
        · rw [if_neg c] at h
          exact ih (by omega) W hW h
    obtain ⟨V, v1, v2, v3, j, j1, j2, j3⟩ := strict n (Nat.le_refl _) W hW (by omega)
    have := ways_few v1 v2
    have := bitsIn_lt v3 j2 j3 (List.mem_range.mpr j1)
    omega
theorem numb_pow {zs ws : List Str} {r : Nat} : numbN zs ws r = powM (abOf zs (prsTo (later ws) zs zs.length)) zs.length (r + 1) (2 ^ zs.length - 1) := by
  rw [powM_sum]
  unfold numbN
  show sumTo (zs.length + 1) (fun u => waysU (abOf zs (prsTo (later ws) zs zs.length)) zs.length u (2 ^ zs.length - 1) * binom (r + 1) u) = _
  have z1 : ∀ u, zs.length + 1 ≤ u → waysU (abOf zs (prsTo (later ws) zs zs.length)) zs.length u (2 ^ zs.length - 1) * binom (r + 1) u = 0 := fun u hu => by
    have : waysU (abOf zs (prsTo (later ws) zs zs.length)) zs.length u (2 ^ zs.length - 1) = 0 := Nat.eq_zero_of_not_pos fun h => by
      have h1 := ways_few (Nat.sub_lt (Nat.two_pow_pos _) Nat.one_pos) h
      have h2 := bitsIn_le (2 ^ zs.length - 1) (List.range zs.length)
      rw [List.length_range] at h2
      omega
    rw [this, Nat.zero_mul]
  have z2 : ∀ u, r + 1 + 1 ≤ u → waysU (abOf zs (prsTo (later ws) zs zs.length)) zs.length u (2 ^ zs.length - 1) * binom (r + 1) u = 0 := fun u hu => by rw [binom_above (by omega), Nat.mul_zero]
  rcases Nat.le_total (zs.length + 1) (r + 1 + 1) with h | h
  · exact (sumTo_more h fun i a _ => z1 i a).symm
  · exact sumTo_more h fun i a _ => z2 i a
/-! ### the maps that are counted -/
/-- a map of the words of W to numbers below c, 0 of the others -/
structure RowF (ab c : Nat → Nat) (W : Nat) (f : Nat → Nat) : Prop where
  cap : ∀ i, W.testBit i = true → f i < c i
  off : ∀ i, W.testBit i = false → f i = 0
  up : ∀ a b, W.testBit a = true → W.testBit b = true → (ab a).testBit b = true → f a < f b
def capD (n m d i : Nat) : Nat := if n - d ≤ i then m + 1 else m
theorem row_step {ab : Nat → Nat} (hab : ∀ j i, (ab j).testBit i = true → j < i) {n m d W : Nat} {F : Nat → Nat} (hd : d < n) (hW : W < 2 ^ n) (h : ∀ W, W < 2 ^ n → Cnt (RowF ab (capD n m d) W) (F W)) : Cnt (RowF ab (capD n m (d + 1)) W) (stepK ab (n - 1 - d) F W) := by
  obtain ⟨k, hk⟩ : ∃ k, n - 1 - d = k := ⟨_, rfl⟩
  rw [hk]
  have cne : ∀ i, i ≠ k → capD n m (d + 1) i = capD n m d i := fun i hi => by
    unfold capD
    by_cases e : n - d ≤ i
    · rw [if_pos e, if_pos (by omega)]
    · rw [if_neg e, if_neg (by omega)]
  have ck : capD n m (d + 1) k = m + 1 := if_pos (by omega)
  have ck0 : capD n m d k = m := if_neg (by omega)
  have clo : ∀ i, i < k → capD n m d i = m := fun i hi => if_neg (by omega)
  have old : ∀ f, RowF ab (capD n m d) W f ↔ RowF ab (capD n m (d + 1)) W f ∧ (W.testBit k = true → f k < m) := fun f => by
    constructor
    · intro q
      refine ⟨⟨fun i hi => ?_, q.off, q.up⟩, fun hi => by have := q.cap k hi; rwa [ck0] at this⟩
      by_cases e : i = k
      · subst e
        have := q.cap i hi
        rw [ck0] at this
        rw [ck]
        omega
      · rw [cne i e]
        exact q.cap i hi
    · rintro ⟨q, hm⟩
      refine ⟨fun i hi => ?_, q.off, q.up⟩
      by_cases e : i = k
      · subst e
        rw [ck0]
        exact hm hi
      · rw [← cne i e]
        exact q.cap i hi
  unfold stepK
  by_cases wk : W.testBit k = true
  · have split_ : ∀ f, RowF ab (capD n m (d + 1)) W f ↔ (RowF ab (capD n m d) W f ∨ (RowF ab (capD n m (d + 1)) W f ∧ f k = m)) := fun f => by
      rw [old]
      constructor
      · intro q
        have := q.cap k wk
        rw [ck] at this
        by_cases e : f k = m
        · exact .inr ⟨q, e⟩
        · exact .inl ⟨q, fun _ => by omega⟩
      · rintro (q | q)
        · exact q.1
        · exact q.1
    have dis : ∀ f, RowF ab (capD n m d) W f → (RowF ab (capD n m (d + 1)) W f ∧ f k = m) → False := fun f q1 q2 => by
      have := q1.cap k wk
      rw [ck0] at this
      omega
    by_cases c : W &&& ab k = 0
    · rw [if_pos ⟨wk, c⟩]
      have bd := bit_drop wk
      refine ((h W hW).or ((h (W - 2 ^ k) (Nat.lt_of_le_of_lt (Nat.sub_le _ _) hW)).bij (R := fun f => RowF ab (capD n m (d + 1)) W f ∧ f k = m) (fun f i => if i = k then m else f i) (fun f i => if i = k then 0 else f i) (fun f q => ⟨⟨fun i hi => ?_, fun i hi => ?_, fun a b ha hb hu => ?_⟩, if_pos rfl⟩) (fun f q => ⟨fun i hi => ?_, fun i hi => ?_, fun a b ha hb hu => ?_⟩) (fun f q => ?_) (fun f q => ?_)) dis).congr fun f => (split_ f).symm
      · by_cases e : i = k
        · subst e
          rw [if_pos rfl, ck]
          exact Nat.lt_succ_self _
        · rw [if_neg e, cne i e]
          exact q.cap i (by rw [bd, hi, decide_eq_true e]; rfl)
      · rw [if_neg (fun e => by rw [e, wk] at hi; cases hi)]
        exact q.off i (by rw [bd, hi]; rfl)
      · have lt := hab a b hu
        have na : a ≠ k := fun e => by
          subst e
          exact and_none.mp c b hb hu
        rw [if_neg na]
        by_cases e : b = k
        · subst e
          rw [if_pos rfl]
          have := q.cap a (by rw [bd, ha, decide_eq_true na]; rfl)
          rwa [clo a lt] at this
        · rw [if_neg e]
          exact q.up a b (by rw [bd, ha, decide_eq_true na]; rfl) (by rw [bd, hb, decide_eq_true e]; rfl) hu
      · rw [bd, Bool.and_eq_true] at hi
        have e := of_decide_eq_true hi.2
        rw [if_neg e, ← cne i e]
        exact q.1.cap i hi.1
      · by_cases e : i = k
        · exact if_pos e
        · rw [if_neg e]
          rw [bd, decide_eq_true e, Bool.and_true] at hi
          exact q.1.off i hi
      · rw [bd, Bool.and_eq_true] at ha hb
        rw [if_neg (of_decide_eq_true ha.2), if_neg (of_decide_eq_true hb.2)]
        exact q.1.up a b ha.1 hb.1 hu
      · funext i
        dsimp only
        by_cases e : i = k
        · subst e
          rw [if_pos rfl, q.off i (by rw [bd, decide_eq_false (by simp), Bool.and_false])]
        · rw [if_neg e, if_neg e]
      · funext i
        dsimp only
        by_cases e : i = k
        · subst e
          rw [if_pos rfl, q.2]
        · rw [if_neg e, if_neg e]
    · rw [if_neg fun z => c z.2]
      have no : ∀ f, ¬ (RowF ab (capD n m (d + 1)) W f ∧ f k = m) := fun f q => by
        refine c (and_none.mpr fun b hb hu => ?_)
        have h1 := q.1.up k b wk hb hu
        have h2 := q.1.cap b hb
        have : capD n m (d + 1) b ≤ m + 1 := by
          unfold capD
          split <;> omega
        omega
      have := (h W hW).or (Cnt.none no) dis
      exact this.congr fun f => (split_ f).symm
  · rw [if_neg fun z => wk z.1]
    exact (h W hW).congr fun f => by
      rw [old]
      exact ⟨fun q => q.1, fun q => ⟨q, fun z => (wk z).elim⟩⟩
theorem row_cnt {ab : Nat → Nat} (hab : ∀ j i, (ab j).testBit i = true → j < i) {n : Nat} : ∀ m W, W < 2 ^ n → Cnt (RowF ab (fun _ => m) W) (powM ab n m W)
  | 0, W, hW => by
    show Cnt _ (if W = 0 then 1 else 0)
    by_cases e : W = 0
    · subst e
      rw [if_pos rfl]
      refine Cnt.one (fun _ => 0) fun f => ⟨fun q => funext fun i => q.off i (Nat.zero_testBit i), fun q => ?_⟩
      subst q
      exact ⟨fun i hi => (by rw [Nat.zero_testBit] at hi; cases hi), fun _ _ => rfl, fun a b ha => (by rw [Nat.zero_testBit] at ha; cases ha)⟩
    · rw [if_neg e]
      refine Cnt.none fun f q => e (Nat.eq_of_testBit_eq fun i => ?_)
      rw [Nat.zero_testBit]
      cases hi : W.testBit i with
      | false => rfl
      | true => exact absurd (q.cap i hi) (Nat.not_lt_zero _)
  | m + 1, W, hW => by
    have main : ∀ d, d ≤ n → ∀ W, W < 2 ^ n → Cnt (RowF ab (capD n m d) W) (proc ab (powM ab n m) n d W) := by
      intro d
      induction d with
      | zero =>
        intro _ W hW
        refine (row_cnt hab m W hW).congr fun f => ?_
        have cz : ∀ i, W.testBit i = true → capD n m 0 i = m := fun i hi => if_neg fun z => by
          have := Nat.testBit_lt_two_pow (x := W) (i := i) (Nat.lt_of_lt_of_le hW (Nat.pow_le_pow_right (by decide) (by omega)))
          rw [hi] at this
          cases this
        exact ⟨fun q => ⟨fun i hi => by rw [cz i hi]; exact q.cap i hi, q.off, q.up⟩, fun q => ⟨fun i hi => by rw [← cz i hi]; exact q.cap i hi, q.off, q.up⟩⟩
      | succ d ih =>
        intro hd W hW
        exact row_step hab (by omega) hW (ih (by omega))
    refine (main n (Nat.le_refl _) W hW).congr fun f => ?_
    have cz : ∀ i, capD n m n i = m + 1 := fun i => if_pos (by omega)
    exact ⟨fun q => ⟨fun i hi => by rw [← cz i]; exact q.cap i hi, q.off, q.up⟩, fun q => ⟨fun i hi => by rw [cz i]; exact q.cap i hi, q.off, q.up⟩⟩

/-! ### rows of numbers, word by word -/
def aheadI (ps : List (Str × Str)) (zs : List Str) (w : Str) : List Nat := (ps.filter fun p => decide (p.2 = w)).map fun p => zs.idxOf p.1
def leastOf (row : List Nat) : List Nat → Nat
  | [] => 0
  | a :: l => max (row.getD a 0 + 1) (leastOf row l)
theorem leastOf_le {row : List Nat} {x : Nat} : ∀ {l : List Nat}, leastOf row l ≤ x ↔ ∀ a ∈ l, row.getD a 0 < x
  | [] => by
    constructor
    · intro _ a h
      cases h
    · intro _
      exact Nat.zero_le _
  | a :: l => by
    rw [leastOf, Nat.max_le, leastOf_le]
    constructor
    · rintro ⟨h1, h2⟩ b hb
      rcases List.mem_cons.mp hb with rfl | hb
      · exact h1
      · exact h2 b hb
    · intro h
      exact ⟨h a List.mem_cons_self, fun b hb => h b (List.mem_cons_of_mem _ hb)⟩
/-- the rows that go on with a number -/
def moreR (m : Nat) (ah : List Nat) (row : List Nat) : List (List Nat) := (List.range' (leastOf row ah) (m - leastOf row ah)).map fun x => row ++ [x]
def triedTo (ps : List (Str × Str)) (zs : List Str) (m : Nat) : Nat → List (List Nat)
  | 0 => [[]]
  | i + 1 => (triedTo ps zs m i).flatMap (moreR m (aheadI ps zs (zs.getD i Str.empty)))
theorem mem_moreR {m : Nat} {ah row r : List Nat} : r ∈ moreR m ah row ↔ ∃ x, r = row ++ [x] ∧ x < m ∧ ∀ a ∈ ah, row.getD a 0 < x := by
  unfold moreR
  rw [List.mem_map]
  constructor
  · rintro ⟨x, hx, rfl⟩
    rw [List.mem_range'_1] at hx
    exact ⟨x, rfl, by omega, leastOf_le.mp hx.1⟩
  · rintro ⟨x, rfl, h1, h2⟩
    have := leastOf_le.mpr h2
    exact ⟨x, List.mem_range'_1.mpr ⟨this, by omega⟩, rfl⟩
theorem moreR_len (m : Nat) (ah row : List Nat) : (moreR m ah row).length = m - leastOf row ah := by unfold moreR; rw [List.length_map, List.length_range']
section
variable {zs : List Str} {ps : List (Str × Str)}
theorem mem_aheadI (nd : zs.Nodup) (hp : ∀ p ∈ ps, p.1 ∈ zs ∧ p.2 ∈ zs) {i a : Nat} (hi : i < zs.length) : a ∈ aheadI ps zs (zs.getD i Str.empty) ↔ (abOf zs ps a).testBit i = true := by
  unfold aheadI
  rw [abOf_bit, List.mem_map]
  constructor
  · rintro ⟨p, h, rfl⟩
    obtain ⟨h1, h2⟩ := List.mem_filter.mp h
    have h2 := of_decide_eq_true h2
    refine ⟨p, h1, rfl, ?_⟩
    rw [h2]
    exact (idx_at nd (getD_in hi)).symm
  · rintro ⟨p, h1, h2, h3⟩
    refine ⟨p, List.mem_filter.mpr ⟨h1, decide_eq_true ?_⟩, h2⟩
    rw [← h3, List.getD_eq_getElem?_getD, List.getElem?_eq_getElem (List.idxOf_lt_length_of_mem (hp p h1).2), List.getElem_idxOf]
    rfl
/-- what a row is -/
def RowL (ps : List (Str × Str)) (zs : List Str) (m i : Nat) (row : List Nat) : Prop := row.length = i ∧ (∀ j, j < i → row.getD j 0 < m) ∧ ∀ a b, a < i → b < i → (abOf zs ps a).testBit b = true → row.getD a 0 < row.getD b 0
theorem getD_app {row : List Nat} {x j : Nat} : (row ++ [x]).getD j 0 = if j < row.length then row.getD j 0 else if j = row.length then x else 0 := by
  by_cases h : j < row.length
  · rw [if_pos h, List.getD_eq_getElem?_getD, List.getElem?_append_left h, List.getD_eq_getElem?_getD]
  · rw [if_neg h, List.getD_eq_getElem?_getD, List.getElem?_append_right (by omega)]
    by_cases e : j = row.length
    · rw [if_pos e, e, Nat.sub_self]
      rfl
    · rw [if_neg e, List.getElem?_eq_none (by rw [List.length_singleton]; omega)]
      rfl
theorem tried_mem (nd : zs.Nodup) (hp : ∀ p ∈ ps, p.1 ∈ zs ∧ p.2 ∈ zs) (hab : ∀ j i, (abOf zs ps j).testBit i = true → j < i) {m : Nat} : ∀ {i : Nat}, i ≤ zs.length → ∀ {row : List Nat}, row ∈ triedTo ps zs m i ↔ RowL ps zs m i row
  | 0, _, row => by
    rw [triedTo, List.mem_singleton]
    constructor
    · rintro rfl
      exact ⟨rfl, fun j h => by omega, fun a b h => by omega⟩
    · rintro ⟨h, _⟩
      exact List.eq_nil_of_length_eq_zero h
  | i + 1, hi, row => by
    rw [triedTo, List.mem_flatMap]
    constructor
    · rintro ⟨r0, h0, h⟩
      obtain ⟨l, c, u⟩ := (tried_mem nd hp hab (by omega)).mp h0
      obtain ⟨x, rfl, xm, xa⟩ := mem_moreR.mp h
      refine ⟨by rw [List.length_append, l]; rfl, fun j hj => ?_, fun a b ha hb hu => ?_⟩
      · rw [getD_app, l]
        by_cases e : j < i
        · rw [if_pos e]
          exact c j e
        · rw [if_neg e, if_pos (by omega)]
          exact xm
      · have lt := hab a b hu
        rw [getD_app, getD_app, l, if_pos (by omega : a < i)]
        by_cases e : b < i
        · rw [if_pos e]
          exact u a b (by omega) e hu
        · rw [if_neg e, if_pos (by omega)]
          have eb : b = i := by omega
          subst eb
          exact xa a ((mem_aheadI nd hp (by omega)).mpr hu)
    · rintro ⟨l, c, u⟩
      have ne : row ≠ [] := fun z => by rw [z] at l; cases l
      have er := (List.dropLast_concat_getLast ne).symm
      obtain ⟨r0, hr0⟩ : ∃ r0, row.dropLast = r0 := ⟨_, rfl⟩
      obtain ⟨x, hx⟩ : ∃ x, row.getLast ne = x := ⟨_, rfl⟩
      rw [hr0, hx] at er
      clear hr0 hx ne
      subst er
      have l0 : r0.length = i := by rw [List.length_append] at l; exact Nat.succ.inj l
      refine ⟨r0, (tried_mem nd hp hab (by omega)).mpr ⟨l0, fun j hj => ?_, fun a b ha hb hu => ?_⟩, mem_moreR.mpr ⟨x, rfl, ?_, fun a ha => ?_⟩⟩
      · have := c j (by omega)
        rwa [getD_app, l0, if_pos hj] at this
      · have := u a b (by omega) (by omega) hu
        rwa [getD_app, getD_app, l0, if_pos ha, if_pos hb] at this
      · have := c i (by omega)
        rwa [getD_app, l0, if_neg (Nat.lt_irrefl _), if_pos rfl] at this
      · have hu := (mem_aheadI nd hp (by omega)).mp ha
        have lt := hab a i hu
        have := u a i (by omega) (by omega) hu
        rwa [getD_app, getD_app, l0, if_pos lt, if_neg (Nat.lt_irrefl _), if_pos rfl] at this
theorem tried_nd {m : Nat} : ∀ i, (triedTo ps zs m i).Nodup
  | 0 => by rw [triedTo]; exact List.nodup_cons.mpr ⟨by simp, List.nodup_nil⟩
  | i + 1 => by
    rw [triedTo]
    have ih := tried_nd (m := m) i
    unfold List.flatMap
    show List.Pairwise _ _
    rw [List.pairwise_flatten]
    constructor
    · intro l hl
      obtain ⟨r, _, rfl⟩ := List.mem_map.mp hl
      unfold moreR
      refine List.pairwise_map.mpr ((List.nodup_range' (step := 1)).imp fun {a b} ne e => ne ?_)
      have := List.append_cancel_left e
      simpa using this
    · refine List.pairwise_map.mpr (ih.imp fun {a b} ne x hx y hy e => ne ?_)
      obtain ⟨u, rfl, _⟩ := mem_moreR.mp hx
      obtain ⟨v, rfl, _⟩ := mem_moreR.mp hy
      exact (List.append_inj' e rfl).1
/-- as many as counted by the greatest number -/
theorem tried_pow (nd : zs.Nodup) (hp : ∀ p ∈ ps, p.1 ∈ zs ∧ p.2 ∈ zs) (hab : ∀ j i, (abOf zs ps j).testBit i = true → j < i) (m : Nat) : (triedTo ps zs m zs.length).length = powM (abOf zs ps) zs.length m (2 ^ zs.length - 1) := by
  have fb : ∀ i, (2 ^ zs.length - 1).testBit i = decide (i < zs.length) := fun i => Nat.testBit_two_pow_sub_one _ _
  have c1 : Cnt (RowL ps zs m zs.length) (triedTo ps zs m zs.length).length := ⟨_, tried_nd _, fun x => tried_mem nd hp hab (Nat.le_refl _), rfl⟩
  have c2 := row_cnt hab (n := zs.length) m (2 ^ zs.length - 1) (Nat.sub_lt (Nat.two_pow_pos _) Nat.one_pos)
  have gd : ∀ (f : Nat → Nat) j, j < zs.length → ((List.range zs.length).map f).getD j 0 = f j := fun f j hj => by
    rw [List.getD_eq_getElem?_getD, List.getElem?_map, List.getElem?_range hj]
    rfl
  refine (c1.bij (R := RowF (abOf zs ps) (fun _ => m) (2 ^ zs.length - 1)) (fun row i => row.getD i 0) (fun f => (List.range zs.length).map f) (fun row q => ⟨fun i hi => ?_, fun i hi => ?_, fun a b ha hb hu => ?_⟩) (fun f q => ⟨by rw [List.length_map, List.length_range], fun j hj => ?_, fun a b ha hb hu => ?_⟩) (fun row q => ?_) (fun f q => ?_)).uniq c2
  · rw [fb] at hi
    exact q.2.1 i (of_decide_eq_true hi)
  · rw [fb] at hi
    have := of_decide_eq_false hi
    rw [List.getD_eq_getElem?_getD, List.getElem?_eq_none (by rw [q.1]; omega)]
    rfl
  · rw [fb] at ha hb
    exact q.2.2 a b (of_decide_eq_true ha) (of_decide_eq_true hb) hu
  · rw [gd f j hj]
    exact q.cap j (by rw [fb]; exact decide_eq_true hj)
  · rw [gd f a ha, gd f b hb]
    exact q.up a b (by rw [fb]; exact decide_eq_true ha) (by rw [fb]; exact decide_eq_true hb) hu
  · refine List.ext_getElem? fun j => ?_
    by_cases hj : j < zs.length
    · rw [List.getElem?_map, List.getElem?_range hj, Option.map_some, List.getD_eq_getElem?_getD, List.getElem?_eq_getElem (by rw [q.1]; exact hj)]
      rfl
    · rw [List.getElem?_eq_none (by rw [List.length_map, List.length_range]; omega), List.getElem?_eq_none (by rw [q.1]; omega)]
  · funext i
    by_cases hi : i < zs.length
    · exact gd f i hi
    · rw [List.getD_eq_getElem?_getD, List.getElem?_eq_none (by rw [List.length_map, List.length_range]; omega)]
      exact (q.off i (by rw [fb]; exact decide_eq_false hi)).symm
end
section
variable {zs ws : List Str}
theorem prs_in (nd : zs.Nodup) : ∀ p ∈ prsTo (later ws) zs zs.length, p.1 ∈ zs ∧ p.2 ∈ zs := fun p hp => by
  have := (mem_prs nd (a := p.1) (b := p.2)).mp hp
  exact ⟨this.1, this.2.1⟩
theorem numb_tried (nd : zs.Nodup) (r : Nat) : numbN zs ws r = (triedTo (prsTo (later ws) zs zs.length) zs (r + 1) zs.length).length := by
  rw [numb_pow, tried_pow nd (prs_in nd) (ab_up nd)]
/-- by none at all -/
theorem tried_ways (nd : zs.Nodup) (m : Nat) : (triedTo (prsTo (later ws) zs zs.length) zs m zs.length).length = sumTo (m + 1) fun u => waysU (abOf zs (prsTo (later ws) zs zs.length)) zs.length u (2 ^ zs.length - 1) * binom m u := by
  rw [tried_pow nd (prs_in nd) (ab_up nd), powM_sum]
/-- numbers of words -/
def NumF (r : Nat) (zs ws : List Str) (f : Str → Nat) : Prop := (∀ z, z ∈ zs → f z ≤ r) ∧ (∀ z, z ∉ zs → f z = 0) ∧ ∀ a b, a ∈ zs → b ∈ zs → zs.idxOf a < zs.idxOf b → ws.idxOf b < ws.idxOf a → f a < f b
theorem numb_cnt (nd : zs.Nodup) (r : Nat) : Cnt (NumF r zs ws) (numbN zs ws r) := by
    have _ := trivial
    have c1 : Cnt (RowL (prsTo (later ws) zs zs.length) zs (r + 1) zs.length) (numbN zs ws r) := by
      rw [numb_tried nd]
      exact ⟨_, tried_nd _, fun x => tried_mem nd (prs_in nd) (ab_up nd) (Nat.le_refl _), rfl⟩
    have bit : ∀ a b : Str, (abOf zs (prsTo (later ws) zs zs.length) (zs.idxOf a)).testBit (zs.idxOf b) = true ∧ a ∈ zs ∧ b ∈ zs ↔ a ∈ zs ∧ b ∈ zs ∧ zs.idxOf a < zs.idxOf b ∧ ws.idxOf b < ws.idxOf a := by
      intro a b
      rw [← mem_prs nd, abOf_bit]
      constructor
      · rintro ⟨⟨p, h1, h2, h3⟩, ha, hb⟩
        have := prs_in nd p h1
        rw [← idx_inj this.1 ha h2, ← idx_inj this.2 hb h3]
        exact h1
      · intro h
        have := prs_in nd _ h
        exact ⟨⟨_, h, rfl, rfl⟩, this.1, this.2⟩
    have at_ : ∀ j, j < zs.length → zs.getD j Str.empty ∈ zs ∧ zs.idxOf (zs.getD j Str.empty) = j := fun j hj => ⟨getD_mem hj, (idx_at nd (getD_in hj)).symm⟩
    have gd : ∀ (f : Str → Nat) j, j < zs.length → ((List.range zs.length).map fun j => f (zs.getD j Str.empty)).getD j 0 = f (zs.getD j Str.empty) := fun f j hj => by
      rw [List.getD_eq_getElem?_getD, List.getElem?_map, List.getElem?_range hj]
      rfl
    refine c1.bij (fun row z => row.getD (zs.idxOf z) 0) (fun f => (List.range zs.length).map fun j => f (zs.getD j Str.empty)) (fun row q => ⟨fun z hz => ?_, fun z hz => ?_, fun a b ha hb h1 h2 => ?_⟩) (fun f q => ⟨by rw [List.length_map, List.length_range], fun j hj => ?_, fun a b ha hb hu => ?_⟩) (fun row q => ?_) (fun f q => ?_)
    · exact Nat.le_of_lt_succ (q.2.1 _ (List.idxOf_lt_length_of_mem hz))
    · have : zs.idxOf z = zs.length := List.idxOf_eq_length hz
      show row.getD (zs.idxOf z) 0 = 0
      rw [this, List.getD_eq_getElem?_getD, List.getElem?_eq_none (by rw [q.1]; exact Nat.le_refl _)]
      rfl
    · exact q.2.2 _ _ (List.idxOf_lt_length_of_mem ha) (List.idxOf_lt_length_of_mem hb) ((bit a b).mpr ⟨ha, hb, h1, h2⟩).1
    · rw [gd f j hj]
      exact Nat.lt_succ_of_le (q.1 _ (at_ j hj).1)
    · rw [gd f a ha, gd f b hb]
      have := (bit (zs.getD a Str.empty) (zs.getD b Str.empty)).mp ⟨by rw [(at_ a ha).2, (at_ b hb).2]; exact hu, (at_ a ha).1, (at_ b hb).1⟩
      exact q.2.2 _ _ this.1 this.2.1 this.2.2.1 this.2.2.2
    · refine List.ext_getElem? fun j => ?_
      by_cases hj : j < zs.length
      · rw [List.getElem?_map, List.getElem?_range hj, Option.map_some]
        show some (row.getD (zs.idxOf (zs.getD j Str.empty)) 0) = _
        rw [(at_ j hj).2, List.getD_eq_getElem?_getD, List.getElem?_eq_getElem (by rw [q.1]; exact hj)]
        rfl
      · rw [List.getElem?_eq_none (by rw [List.length_map, List.length_range]; omega), List.getElem?_eq_none (by rw [q.1]; omega)]
    · funext z
      by_cases hz : z ∈ zs
      · rw [gd f _ (List.idxOf_lt_length_of_mem hz), List.getD_eq_getElem?_getD, List.getElem?_eq_getElem (List.idxOf_lt_length_of_mem hz), List.getElem_idxOf]
        rfl
      · have : zs.idxOf z = zs.length := List.idxOf_eq_length hz
        show ((List.range zs.length).map fun j => f (zs.getD j Str.empty)).getD (zs.idxOf z) 0 = f z
        rw [this, List.getD_eq_getElem?_getD, List.getElem?_eq_none (by rw [List.length_map, List.length_range]; exact Nat.le_refl _), q.2.1 z hz]
        rfl
theorem numF_flip {r : Nat} (pm : zs.Perm ws) {f : Str → Nat} (q : NumF r zs ws f) : NumF r ws zs (fun z => if z ∈ zs then r - f z else 0) := by
  refine ⟨fun z hz => ?_, fun z hz => if_neg fun z' => hz (pm.mem_iff.mp z'), fun a b ha hb h1 h2 => ?_⟩
  · show (if z ∈ zs then r - f z else 0) ≤ r
    split <;> omega
  · have a1 := pm.mem_iff.mpr ha
    have b1 := pm.mem_iff.mpr hb
    show (if a ∈ zs then r - f a else 0) < (if b ∈ zs then r - f b else 0)
    rw [if_pos a1, if_pos b1]
    have := q.2.2 b a b1 a1 h2 h1
    have := q.1 a a1
    omega
theorem numF_back {r : Nat} (pm : zs.Perm ws) {f : Str → Nat} (q : NumF r zs ws f) : (fun z => if z ∈ ws then r - (if z ∈ zs then r - f z else 0) else 0) = f := by
  funext z
  show (if z ∈ ws then r - (if z ∈ zs then r - f z else 0) else 0) = f z
  by_cases hz : z ∈ zs
  · rw [if_pos hz, if_pos (pm.mem_iff.mp hz)]
    have := q.1 z hz
    omega
  · rw [if_neg fun z' => hz (pm.mem_iff.mpr z'), q.2.1 z hz]
/-- either way about there are as many -/
theorem numb_turn (nd : zs.Nodup) (pm : zs.Perm ws) (r : Nat) : numbN zs ws r = numbN ws zs r := by
  have nw := pm.nodup_iff.mp nd
  exact ((numb_cnt nd r).bij (R := NumF r ws zs) (fun f z => if z ∈ zs then r - f z else 0) (fun f z => if z ∈ ws then r - f z else 0) (fun f q => numF_flip pm q) (fun f q => numF_flip pm.symm q) (fun f q => numF_back pm q) (fun f q => numF_back pm.symm q)).uniq (numb_cnt nw r)
end

/-! ### all turned, none, one behind all others -/
theorem flat_const {α β : Type} {f : α → List β} {c : Nat} : ∀ {L : List α}, (∀ x ∈ L, (f x).length = c) → (L.flatMap f).length = L.length * c
  | [], _ => by rw [List.flatMap_nil, List.length_nil, List.length_nil, Nat.zero_mul]
  | x :: L, h => by rw [List.flatMap_cons, List.length_append, h x List.mem_cons_self, flat_const (L := L) fun y hy => h y (List.mem_cons_of_mem _ hy), List.length_cons, Nat.succ_mul, Nat.add_comm]
theorem tried_none {zs : List Str} {m : Nat} : ∀ i, (triedTo [] zs m i).length = m ^ i
  | 0 => rfl
  | i + 1 => by
    rw [triedTo, flat_const (c := m) fun row _ => by rw [moreR_len]; show m - 0 = m; omega, tried_none i, Nat.pow_succ]
theorem numb_self {zs : List Str} (nd : zs.Nodup) (r : Nat) : numbN zs zs r = (r + 1) ^ zs.length := by
  rw [numb_tried nd, prs_self nd, tried_none]
def Inc (n m : Nat) (row : List Nat) : Prop := row.length = n ∧ row.Pairwise (· < ·) ∧ ∀ x ∈ row, x < m
theorem inc_cnt : ∀ m n : Nat, Cnt (Inc n m) (binom m n)
  | m, 0 => by
    rw [binom_zero]
    refine Cnt.one [] fun row => ⟨fun q => List.eq_nil_of_length_eq_zero q.1, fun e => ?_⟩
    subst e
    exact ⟨rfl, List.Pairwise.nil, fun x h => (by cases h)⟩
  | 0, n + 1 => by
    refine Cnt.none fun row q => ?_
    cases row with
    | nil => exact absurd q.1 (by simp)
    | cons x row => exact absurd (q.2.2 x List.mem_cons_self) (Nat.not_lt_zero _)
  | m + 1, n + 1 => by
    rw [binom]
    refine ((((inc_cnt m n).bij (R := fun row => Inc (n + 1) (m + 1) row ∧ m ∈ row) (fun row => row ++ [m]) List.dropLast (fun row q => ⟨⟨by rw [List.length_append, q.1]; rfl, ?_, fun x hx => ?_⟩, by simp⟩) (fun row q => ?_) (fun row q => by simp) (fun row q => ?_)).or (inc_cnt m (n + 1)) fun row q1 q2 => ?_)).congr fun row => ?_
    · rw [List.pairwise_append]
      exact ⟨q.2.1, by simp, fun a ha b hb => by rw [List.mem_singleton.mp hb]; exact q.2.2 a ha⟩
    · rcases List.mem_append.mp hx with h | h
      · have := q.2.2 x h
        omega
      · rw [List.mem_singleton.mp h]
        exact Nat.lt_succ_self m
    · have ne : row ≠ [] := List.ne_nil_of_mem q.2
      have er := (List.dropLast_concat_getLast ne).symm
      have pw := q.1.2.1
      rw [er, List.pairwise_append] at pw
      refine ⟨by rw [List.length_dropLast, q.1.1]; rfl, pw.1, fun x hx => ?_⟩
      have h1 := pw.2.2 x hx _ List.mem_cons_self
      have h2 := q.1.2.2 _ (List.getLast_mem ne)
      omega
    · have ne : row ≠ [] := List.ne_nil_of_mem q.2
      have er := (List.dropLast_concat_getLast ne).symm
      have pw := q.1.2.1
      have mm := q.2
      rw [er] at mm
      rw [er, List.pairwise_append] at pw
      have em : row.getLast ne = m := by
        have h2 := q.1.2.2 _ (List.getLast_mem ne)
        rcases List.mem_append.mp mm with h | h
        · have := pw.2.2 m h _ List.mem_cons_self
          omega
        · exact (List.mem_singleton.mp h).symm
      show row.dropLast ++ [m] = row
      conv => rhs; rw [er, em]
    · exact Nat.lt_irrefl _ (q2.2.2 m q1.2)
    · constructor
      · rintro (q | q)
        · exact q.1
        · exact ⟨q.1, q.2.1, fun x hx => by have := q.2.2 x hx; omega⟩
      · intro q
        by_cases h : m ∈ row
        · exact .inl ⟨q, h⟩
        · refine .inr ⟨q.1, q.2.1, fun x hx => ?_⟩
          have h1 := q.2.2 x hx
          have h2 : x ≠ m := fun e => h (e ▸ hx)
          omega
theorem idx_rev {zs : List Str} (nd : zs.Nodup) {z : Str} (h : z ∈ zs) : zs.reverse.idxOf z + zs.idxOf z + 1 = zs.length := by
  have hl := List.idxOf_lt_length_of_mem h
  have nr : zs.reverse.Nodup := (List.reverse_perm zs).nodup_iff.mpr nd
  have e : zs.reverse[zs.length - 1 - zs.idxOf z]? = some z := by
    rw [List.getElem?_reverse (by omega), show zs.length - 1 - (zs.length - 1 - zs.idxOf z) = zs.idxOf z by omega, List.getElem?_eq_getElem hl, List.getElem_idxOf]
  have := idx_at nr e
  omega
theorem bit_at {zs ws : List Str} (nd : zs.Nodup) {a b : Nat} (ha : a < zs.length) (hb : b < zs.length) : (abOf zs (prsTo (later ws) zs zs.length) a).testBit b = true ↔ a < b ∧ ws.idxOf (zs.getD b Str.empty) < ws.idxOf (zs.getD a Str.empty) := by
  have ea := (idx_at nd (getD_in ha)).symm
  have eb := (idx_at nd (getD_in hb)).symm
  rw [abOf_bit]
  constructor
  · rintro ⟨p, h1, h2, h3⟩
    have m := (mem_prs nd (a := p.1) (b := p.2)).mp h1
    have e1 : zs.getD a Str.empty = p.1 := idx_inj (getD_mem ha) m.1 (by rw [ea, h2])
    have e2 : zs.getD b Str.empty = p.2 := idx_inj (getD_mem hb) m.2.1 (by rw [eb, h3])
    rw [e1, e2]
    exact ⟨by omega, m.2.2.2⟩
  · rintro ⟨h1, h2⟩
    exact ⟨_, (mem_prs nd).mpr ⟨getD_mem ha, getD_mem hb, by rw [ea, eb]; exact h1, h2⟩, ea, eb⟩
theorem numb_rev {zs : List Str} (nd : zs.Nodup) (r : Nat) : numbN zs zs.reverse r = binom (r + 1) zs.length := by
  have c1 : Cnt (RowL (prsTo (later zs.reverse) zs zs.length) zs (r + 1) zs.length) (numbN zs zs.reverse r) := by
    rw [numb_tried nd]
    exact ⟨_, tried_nd _, fun x => tried_mem nd (prs_in nd) (ab_up nd) (Nat.le_refl _), rfl⟩
  refine (c1.congr (Q := Inc zs.length (r + 1)) fun row => ?_).uniq (inc_cnt (r + 1) zs.length)
  have bit : ∀ a b, a < zs.length → b < zs.length → ((abOf zs (prsTo (later zs.reverse) zs zs.length) a).testBit b = true ↔ a < b) := fun a b ha hb => by
    rw [bit_at nd ha hb]
    have h1 := idx_rev nd (getD_mem ha)
    have h2 := idx_rev nd (getD_mem hb)
    rw [← idx_at nd (getD_in ha)] at h1
    rw [← idx_at nd (getD_in hb)] at h2
    exact ⟨fun h => h.1, fun h => ⟨h, by omega⟩⟩
  have gd : ∀ j (hj : j < row.length), row.getD j 0 = row[j] := fun j hj => by
    rw [List.getD_eq_getElem?_getD, List.getElem?_eq_getElem hj]
    rfl
  constructor
  · rintro ⟨l, c, u⟩
    refine ⟨l, List.pairwise_iff_getElem.mpr fun i j hi hj hij => ?_, fun x hx => ?_⟩
    · have := u i j (by omega) (by omega) ((bit i j (by omega) (by omega)).mpr hij)
      rwa [gd i hi, gd j hj] at this
    · obtain ⟨j, hj, rfl⟩ := List.mem_iff_getElem.mp hx
      have := c j (by omega)
      rwa [gd j hj] at this
  · rintro ⟨l, pw, c⟩
    refine ⟨l, fun j hj => ?_, fun a b ha hb hu => ?_⟩
    · rw [gd j (by omega)]
      exact c _ (List.getElem_mem _)
    · rw [gd a (by omega), gd b (by omega)]
      exact List.pairwise_iff_getElem.mp pw a b (by omega) (by omega) ((bit a b ha hb).mp hu)
theorem least_ext {row l l' : List Nat} (h : ∀ a, a ∈ l ↔ a ∈ l') : leastOf row l = leastOf row l' :=
  Nat.le_antisymm (leastOf_le.mpr fun a ha => leastOf_le.mp (Nat.le_refl _) a ((h a).mp ha)) (leastOf_le.mpr fun a ha => leastOf_le.mp (Nat.le_refl _) a ((h a).mpr ha))
theorem sum_flat {α β : Type} (f : α → List β) (g : β → Nat) : ∀ L : List α, ((L.flatMap f).map g).sum = (L.map fun x => ((f x).map g).sum).sum
  | [] => rfl
  | x :: L => by rw [List.flatMap_cons, List.map_append, List.sum_append, sum_flat f g L, List.map_cons, List.sum_cons]
theorem sum_const {β : Type} {g : β → Nat} {c : Nat} : ∀ {L : List β}, (∀ x ∈ L, g x = c) → (L.map g).sum = L.length * c
  | [], _ => by rw [List.map_nil, List.length_nil, Nat.zero_mul]; rfl
  | x :: L, h => by rw [List.map_cons, List.sum_cons, h x List.mem_cons_self, sum_const (L := L) fun y hy => h y (List.mem_cons_of_mem _ hy), List.length_cons, Nat.succ_mul, Nat.add_comm]
/-- the first word behind all others -/
theorem numb_first {zs : List Str} (nd : zs.Nodup) {n : Nat} (hn : zs.length = n + 1) (r : Nat) : numbN zs (zs.drop 1 ++ zs.take 1) r = sumTo (r + 1) fun v => v ^ n := by
  obtain ⟨ws, hws⟩ : ∃ ws, zs.drop 1 ++ zs.take 1 = ws := ⟨_, rfl⟩
  obtain ⟨ps, hps⟩ : ∃ ps, prsTo (later ws) zs zs.length = ps := ⟨_, rfl⟩
  have pm : zs.Perm ws := by rw [← hws]; exact (turn_perm zs 1).symm
  have nw := pm.nodup_iff.mp nd
  have lw : ws.length = n + 1 := by rw [← pm.length_eq, hn]
  have wi : ∀ j, j < n → ws.idxOf (zs.getD (j + 1) Str.empty) = j := fun j hj => by
    refine (idx_at nw ?_).symm
    rw [← hws, List.getElem?_append_left (by rw [List.length_drop]; omega), List.getElem?_drop, Nat.add_comm]
    exact getD_in (by omega)
  have w0 : ws.idxOf (zs.getD 0 Str.empty) = n := by
    refine (idx_at nw ?_).symm
    rw [← hws, List.getElem?_append_right (by rw [List.length_drop]; omega), List.length_drop, hn, show n - (n + 1 - 1) = 0 by omega, List.getElem?_take_of_lt (by omega)]
    exact getD_in (by omega)
  have ah : ∀ i, i < zs.length → ∀ a, a ∈ aheadI ps zs (zs.getD i Str.empty) ↔ (a = 0 ∧ 0 < i) := fun i hi a => by
    rw [← hps, mem_aheadI nd (prs_in nd) hi]
    constructor
    · intro h
      have lt := ab_up nd _ _ h
      have := ((bit_at nd (by omega) hi).mp h).2
      refine ⟨?_, by omega⟩
      refine Nat.eq_zero_of_not_pos fun ap => ?_
      have e1 := wi (a - 1) (by omega)
      have e2 := wi (i - 1) (by omega)
      rw [show a - 1 + 1 = a by omega] at e1
      rw [show i - 1 + 1 = i by omega] at e2
      omega
    · rintro ⟨rfl, h⟩
      refine (bit_at nd (by omega) hi).mpr ⟨h, ?_⟩
      have e2 := wi (i - 1) (by omega)
      rw [show i - 1 + 1 = i by omega] at e2
      omega
  have main : ∀ i, i < zs.length → ∀ φ : Nat → Nat, ((triedTo ps zs (r + 1) (i + 1)).map fun row => φ (row.getD 0 0)).sum = sumTo (r + 1) fun v => φ v * (r - v) ^ i := by
    intro i
    induction i with
    | zero =>
      intro h0 φ
      have e1 : triedTo ps zs (r + 1) 1 = (List.range (r + 1)).map fun x => [x] := by
        show (triedTo ps zs (r + 1) 0).flatMap _ = _
        rw [triedTo, List.flatMap_cons, List.flatMap_nil, List.append_nil]
        unfold moreR
        rw [least_ext (l' := []) fun a => by rw [ah 0 h0]; exact ⟨fun h => absurd h.2 (Nat.lt_irrefl _), fun h => (by cases h)⟩]
        show (List.range' 0 (r + 1 - 0)).map _ = _
        rw [Nat.sub_zero, List.range_eq_range']
        rfl
      rw [e1, List.map_map]
      unfold sumTo
      congr 1
      refine List.map_congr_left fun v _ => ?_
      show φ v = φ v * (r - v) ^ 0
      rw [Nat.pow_zero, Nat.mul_one]
    | succ i ih =>
      intro hi φ
      have e := ih (by omega) (fun v => (r - v) * φ v)
      rw [triedTo, sum_flat]
      have inner : ∀ row ∈ triedTo ps zs (r + 1) (i + 1), ((moreR (r + 1) (aheadI ps zs (zs.getD (i + 1) Str.empty)) row).map fun row => φ (row.getD 0 0)).sum = (r - row.getD 0 0) * φ (row.getD 0 0) := fun row hrow => by
        have lr : row.length = i + 1 := ((tried_mem nd (by rw [← hps]; exact prs_in nd) (by rw [← hps]; exact ab_up nd) (by omega)).mp hrow).1
        rw [sum_const (c := φ (row.getD 0 0)) fun q hq => by
          obtain ⟨x, rfl, _⟩ := mem_moreR.mp hq
          rw [getD_app, if_pos (by omega)], moreR_len, least_ext (l' := [0]) fun a => by rw [ah (i + 1) hi, List.mem_singleton]; exact ⟨fun h => h.1, fun h => ⟨h, by omega⟩⟩]
        congr 1
        show r + 1 - max (row.getD 0 0 + 1) 0 = _
        omega
      rw [show ((triedTo ps zs (r + 1) (i + 1)).map fun row => ((moreR (r + 1) (aheadI ps zs (zs.getD (i + 1) Str.empty)) row).map fun row => φ (row.getD 0 0)).sum) = (triedTo ps zs (r + 1) (i + 1)).map fun row => (r - row.getD 0 0) * φ (row.getD 0 0) from List.map_congr_left inner, e]
      refine sumTo_congr fun v _ => ?_
      rw [Nat.pow_succ, Nat.mul_comm (r - v) (φ v), Nat.mul_assoc, Nat.mul_comm (r - v)]
  have fin := main n (by omega) fun _ => 1
  rw [numb_tried nd, hws, hps, hn]
  rw [sum_const (c := 1) fun _ _ => rfl, Nat.mul_one] at fin
  rw [fin, sumTo_rev]
  refine sumTo_congr fun v hv => ?_
  rw [Nat.one_mul, show r - (r + 1 - 1 - v) = v by omega]

end Lw

namespace Lw
open PySem PySem.Spec PyProof.Rows L2 GxR Gx
/-! ### the ranks of words -/
section
variable {zs ws : List Str}
theorem rkW_ok {z : Str} (h : z ∈ zs) : 1 ≤ rkW ws zs z ∧ rkW ws zs z ≤ (topN ws zs : Int) := rk_top (List.idxOf_lt_length_of_mem h)
theorem least_eq : topD 1 (ranksOf ws zs) - 1 = ((topN ws zs - 1 : Nat) : Int) := by
  have e := topN_eq ws zs
  unfold topD at *
  by_cases h : ranksOf ws zs = []
  · rw [if_pos h] at *
    omega
  · rw [if_neg h] at *
    obtain ⟨i, hi, e2⟩ := mem_ranksOf.mp (topI_mem h)
    have := rk_pos (later ws) zs _ i hi
    omega
end

/-! ### two books put together -/
def pairsL (lt : Str → Str → Bool) : List Str → List (Str × Str)
  | [] => []
  | z :: zs => ((zs.filter (lt z)).map fun b => (z, b)) ++ pairsL lt zs
theorem prsTo_cons (lt : Str → Str → Bool) (z : Str) (zs : List Str) : ∀ k, prsTo lt (z :: zs) (k + 1) = ((zs.filter (lt z)).map fun b => (z, b)) ++ prsTo lt zs k
  | 0 => by
    rw [prsTo, prsTo, prsTo, List.nil_append, List.append_nil]
    rfl
  | k + 1 => by
    rw [prsTo, prsTo_cons lt z zs k, List.append_assoc, prsTo]
    rfl
theorem prs_list (lt : Str → Str → Bool) : ∀ zs : List Str, prsTo lt zs zs.length = pairsL lt zs
  | [] => rfl
  | z :: zs => by rw [List.length_cons, prsTo_cons, prs_list lt zs, pairsL]
theorem pairsL_congr {lt lt' : Str → Str → Bool} : ∀ {zs : List Str}, (∀ a ∈ zs, ∀ b ∈ zs, lt a b = lt' a b) → pairsL lt zs = pairsL lt' zs
  | [], _ => rfl
  | z :: zs, h => by
    rw [pairsL, pairsL, pairsL_congr (zs := zs) fun a ha b hb => h a (List.mem_cons_of_mem _ ha) b (List.mem_cons_of_mem _ hb),
      List.filter_congr (q := lt' z) fun b hb => h z List.mem_cons_self b (List.mem_cons_of_mem _ hb)]
theorem pairsL_apart {lt : Str → Str → Bool} {us : List Str} : ∀ {zs : List Str}, (∀ a ∈ zs, ∀ b ∈ us, lt a b = false) → pairsL lt (zs ++ us) = pairsL lt zs ++ pairsL lt us
  | [], _ => rfl
  | z :: zs, h => by
    have e : us.filter (lt z) = [] := List.filter_eq_nil_iff.mpr fun b hb => by rw [h z List.mem_cons_self b hb]; simp
    rw [List.cons_append, pairsL, pairsL_apart (zs := zs) fun a ha b hb => h a (List.mem_cons_of_mem _ ha) b hb, pairsL, List.filter_append, e, List.append_nil, List.append_assoc]
theorem pairsL_map {lt lt' : Str → Str → Bool} {f : Str → Str} : ∀ {zs : List Str}, (∀ a ∈ zs, ∀ b ∈ zs, lt' (f a) (f b) = lt a b) → pairsL lt' (zs.map f) = (pairsL lt zs).map fun p => (f p.1, f p.2)
  | [], _ => rfl
  | z :: zs, h => by
    rw [List.map_cons, pairsL, pairsL_map (zs := zs) (lt := lt) fun a ha b hb => h a (List.mem_cons_of_mem _ ha) b (List.mem_cons_of_mem _ hb), pairsL, List.map_append, List.filter_map, List.map_map, List.map_map]
    congr 2
    exact List.filter_congr fun b hb => h z List.mem_cons_self b (List.mem_cons_of_mem _ hb)
section
variable {ws vs zs us : List Str}
theorem idx_left {l m : List Str} {a : Str} (h : a ∈ l) : (l ++ m).idxOf a = l.idxOf a := by rw [List.idxOf_append, if_pos h]
theorem idx_right {l m : List Str} {a : Str} (h : a ∉ l) : (l ++ m).idxOf a = m.idxOf a + l.length := by rw [List.idxOf_append, if_neg h]
theorem later_left {a b : Str} (ha : a ∈ ws) (hb : b ∈ ws) : later (ws ++ vs) a b = later ws a b := by
  unfold later
  rw [idx_left ha, idx_left hb]
theorem later_right {a b : Str} (ha : a ∉ ws) (hb : b ∉ ws) : later (ws ++ vs) a b = later vs a b := by
  unfold later
  rw [idx_right ha, idx_right hb]
  exact decide_eq_decide.mpr (by omega)
theorem later_over {a b : Str} (ha : a ∈ ws) (hb : b ∉ ws) : later (ws ++ vs) a b = false := by
  unfold later
  rw [idx_left ha, idx_right hb]
  have := List.idxOf_lt_length_of_mem ha
  exact decide_eq_false (by omega)
theorem later_back {a b : Str} (ha : a ∉ ws) (hb : b ∈ ws) : later (ws ++ vs) a b = true := by
  unfold later
  rw [idx_left hb, idx_right ha]
  have := List.idxOf_lt_length_of_mem hb
  exact decide_eq_true (by omega)
/-- the one's books ahead of the other's -/
structure Two (zs ws us vs : List Str) : Prop where
  nd : (zs ++ us).Nodup
  pm : zs.Perm ws
  pm2 : us.Perm vs
theorem Two.nz (h : Two zs ws us vs) : zs.Nodup := (List.nodup_append.mp h.nd).1
theorem Two.nu (h : Two zs ws us vs) : us.Nodup := (List.nodup_append.mp h.nd).2.1
theorem Two.dis (h : Two zs ws us vs) {a : Str} (ha : a ∈ zs) (hb : a ∈ us) : False := (List.nodup_append.mp h.nd).2.2 a ha a hb rfl
theorem Two.inw (h : Two zs ws us vs) {a : Str} (ha : a ∈ zs) : a ∈ ws := h.pm.mem_iff.mp ha
theorem Two.inv_ (h : Two zs ws us vs) {a : Str} (ha : a ∈ us) : a ∈ vs := h.pm2.mem_iff.mp ha
theorem Two.notw (h : Two zs ws us vs) {a : Str} (ha : a ∈ us) : a ∉ ws := fun z => h.dis (h.pm.mem_iff.mpr z) ha
theorem Two.notv (h : Two zs ws us vs) {a : Str} (ha : a ∈ zs) : a ∉ vs := fun z => h.dis ha (h.pm2.mem_iff.mpr z)
theorem Two.prs (h : Two zs ws us vs) : prsTo (later (ws ++ vs)) (zs ++ us) (zs ++ us).length = prsTo (later ws) zs zs.length ++ prsTo (later vs) us us.length := by
  rw [prs_list, prs_list, prs_list, pairsL_apart fun a ha b hb => later_over (h.inw ha) (h.notw hb),
    pairsL_congr (lt' := later ws) fun a ha b hb => later_left (h.inw ha) (h.inw hb), pairsL_congr (lt' := later vs) fun a ha b hb => later_right (h.notw ha) (h.notw hb)]
/-- the longest rank is that of the longest row -/
theorem topN_is {n : Nat} (nd : zs.Nodup) (pm : zs.Perm ws) (h1 : ∃ r, TurnedRow ws zs r ∧ r.length = n) (h2 : ∀ r, TurnedRow ws zs r → r.length ≤ n) : topN ws zs = n := by
  obtain ⟨r, t, e⟩ := row_exists (ws := ws) nd pm
  obtain ⟨r1, t1, e1⟩ := h1
  have a := h2 r t
  have b := row_top t1
  have c := topN_eq ws zs
  omega
theorem topN_row (nd : zs.Nodup) (pm : zs.Perm ws) : (∃ r, TurnedRow ws zs r ∧ r.length = topN ws zs) ∧ ∀ r, TurnedRow ws zs r → r.length ≤ topN ws zs := by
  obtain ⟨r, t, e⟩ := row_exists (ws := ws) nd pm
  have c := topN_eq ws zs
  refine ⟨⟨r, t, by omega⟩, fun r h => ?_⟩
  have := row_top h
  omega
theorem Two.perm (h : Two zs ws us vs) : (zs ++ us).Perm (ws ++ vs) := h.pm.append h.pm2
theorem Two.perm2 (h : Two zs ws us vs) : (zs ++ us).Perm (vs ++ ws) := h.perm.trans List.perm_append_comm
theorem row_left {lt lt' : Str → Str → Bool} {r zs : List Str} (s : r.Sublist zs) (e : ∀ a ∈ zs, ∀ b ∈ zs, lt a b = lt' a b) (p : r.Pairwise fun a b => lt a b = true) : r.Pairwise fun a b => lt' a b = true :=
  p.imp_of_mem fun {a b} ha hb q => by rw [← e a (s.subset ha) b (s.subset hb)]; exact q
theorem Two.top (h : Two zs ws us vs) : topN (ws ++ vs) (zs ++ us) = max (topN ws zs) (topN vs us) := by
  obtain ⟨⟨r1, t1, e1⟩, m1⟩ := topN_row h.nz h.pm
  obtain ⟨⟨r2, t2, e2⟩, m2⟩ := topN_row h.nu h.pm2
  refine topN_is h.nd h.perm ?_ fun r t => ?_
  · rcases Nat.le_total (topN ws zs) (topN vs us) with q | q
    · refine ⟨r2, ⟨t2.1.trans (List.sublist_append_right _ _), row_left t2.1 (fun a ha b hb => (later_right (h.notw ha) (h.notw hb)).symm) t2.2⟩, ?_⟩
      rw [e2, Nat.max_eq_right q]
    · refine ⟨r1, ⟨t1.1.trans (List.sublist_append_left _ _), row_left t1.1 (fun a ha b hb => (later_left (h.inw ha) (h.inw hb)).symm) t1.2⟩, ?_⟩
      rw [e1, Nat.max_eq_left q]
  · obtain ⟨s, p⟩ := t
    obtain ⟨l1, l2, rfl, s1, s2⟩ := List.sublist_append_iff.mp s
    obtain ⟨p1, p2, p3⟩ := List.pairwise_append.mp p
    have q1 := m1 l1 ⟨s1, row_left s1 (fun a ha b hb => later_left (h.inw ha) (h.inw hb)) p1⟩
    have q2 := m2 l2 ⟨s2, row_left s2 (fun a ha b hb => later_right (h.notw ha) (h.notw hb)) p2⟩
    have z : l1 = [] ∨ l2 = [] := by
      cases l1 with
      | nil => exact .inl rfl
      | cons a l1 =>
        cases l2 with
        | nil => exact .inr rfl
        | cons b l2 =>
          have := p3 a List.mem_cons_self b List.mem_cons_self
          rw [later_over (h.inw (s1.subset List.mem_cons_self)) (h.notw (s2.subset List.mem_cons_self))] at this
          cases this
    rw [List.length_append]
    rcases z with z | z
    · rw [z, List.length_nil]
      omega
    · rw [z, List.length_nil]
      omega
theorem Two.topX (h : Two zs ws us vs) : topN (vs ++ ws) (zs ++ us) = topN ws zs + topN vs us := by
  obtain ⟨⟨r1, t1, e1⟩, m1⟩ := topN_row h.nz h.pm
  obtain ⟨⟨r2, t2, e2⟩, m2⟩ := topN_row h.nu h.pm2
  have k1 : ∀ a ∈ zs, ∀ b ∈ zs, later (vs ++ ws) a b = later ws a b := fun a ha b hb => later_right (h.notv ha) (h.notv hb)
  have k2 : ∀ a ∈ us, ∀ b ∈ us, later (vs ++ ws) a b = later vs a b := fun a ha b hb => later_left (h.inv_ ha) (h.inv_ hb)
  refine topN_is h.nd h.perm2 ⟨r1 ++ r2, ⟨t1.1.append t2.1, List.pairwise_append.mpr ⟨row_left t1.1 (fun a ha b hb => (k1 a ha b hb).symm) t1.2, row_left t2.1 (fun a ha b hb => (k2 a ha b hb).symm) t2.2, fun a ha b hb => later_back (h.notv (t1.1.subset ha)) (h.inv_ (t2.1.subset hb))⟩⟩, by rw [List.length_append, e1, e2]⟩ fun r t => ?_
  obtain ⟨s, p⟩ := t
  obtain ⟨l1, l2, rfl, s1, s2⟩ := List.sublist_append_iff.mp s
  obtain ⟨p1, p2, _⟩ := List.pairwise_append.mp p
  have q1 := m1 l1 ⟨s1, row_left s1 k1 p1⟩
  have q2 := m2 l2 ⟨s2, row_left s2 k2 p2⟩
  rw [List.length_append]
  omega
theorem mem_pairsL {lt : Str → Str → Bool} {zs : List Str} (nd : zs.Nodup) {ws : List Str} (e : lt = later ws) {p : Str × Str} : p ∈ pairsL lt zs ↔ p.1 ∈ zs ∧ p.2 ∈ zs ∧ zs.idxOf p.1 < zs.idxOf p.2 ∧ lt p.1 p.2 = true := by
  subst e
  rw [← prs_list, show p = (p.1, p.2) from rfl, mem_prs nd]
  unfold later
  rw [decide_eq_true_eq]
def allTwo (zs us : List Str) : List (Str × Str) := zs.flatMap fun a => us.map fun b => (a, b)
theorem Two.crossed (h : Two zs ws us vs) : (prsTo (later (vs ++ ws)) (zs ++ us) (zs ++ us).length).Perm (prsTo (later ws) zs zs.length ++ prsTo (later vs) us us.length ++ allTwo zs us) := by
  have k1 : ∀ a ∈ zs, ∀ b ∈ zs, later (vs ++ ws) a b = later ws a b := fun a ha b hb => later_right (h.notv ha) (h.notv hb)
  have k2 : ∀ a ∈ us, ∀ b ∈ us, later (vs ++ ws) a b = later vs a b := fun a ha b hb => later_left (h.inv_ ha) (h.inv_ hb)
  rw [prs_list, prs_list, prs_list]
  have main : ∀ xs : List Str, (∀ x ∈ xs, x ∈ zs) → (pairsL (later (vs ++ ws)) (xs ++ us)).Perm (pairsL (later ws) xs ++ pairsL (later vs) us ++ allTwo xs us) := by
    intro xs
    induction xs with
    | nil =>
      intro _
      show (pairsL (later (vs ++ ws)) us).Perm (pairsL (later vs) us ++ [])
      rw [List.append_nil, pairsL_congr k2]
    | cons x xs ih =>
      intro hx
      have x1 := hx x List.mem_cons_self
      have e1 : us.filter (later (vs ++ ws) x) = us := List.filter_eq_self.mpr fun b hb => later_back (h.notv x1) (h.inv_ hb)
      have e2 : xs.filter (later (vs ++ ws) x) = xs.filter (later ws x) := List.filter_congr fun b hb => k1 x x1 b (hx b (List.mem_cons_of_mem _ hb))
      rw [List.cons_append, pairsL, List.filter_append, e1, e2, List.map_append, pairsL]
      have e3 : allTwo (x :: xs) us = (us.map fun b => (x, b)) ++ allTwo xs us := by unfold allTwo; rw [List.flatMap_cons]
      rw [e3]
      have := ih fun y hy => hx y (List.mem_cons_of_mem _ hy)
      refine (this.append_left _).trans ?_
      generalize ((xs.filter (later ws x)).map fun b => (x, b)) = A
      generalize (us.map fun b => (x, b)) = C
      generalize pairsL (later ws) xs = E1
      generalize pairsL (later vs) us = E2
      generalize allTwo xs us = F1
      -- A ++ C ++ (E1 ++ E2 ++ F1) ~ A ++ E1 ++ E2 ++ (C ++ F1)
      rw [List.append_assoc, List.append_assoc A E1, List.append_assoc A]
      refine List.Perm.append_left A ?_
      rw [← List.append_assoc C, ← List.append_assoc (E1 ++ E2)]
      exact List.Perm.append_right F1 List.perm_append_comm
  exact main zs fun x h => h
/-- both ways to number, multiplied -/
theorem Cnt.mul {α β : Type} {P : α → Prop} {Q : β → Prop} {k j : Nat} (h : Cnt P k) (h' : Cnt Q j) : Cnt (fun x : α × β => P x.1 ∧ Q x.2) (k * j) := by
  obtain ⟨L, n1, m1, l1⟩ := h
  obtain ⟨M, n2, m2, l2⟩ := h'
  refine ⟨L.flatMap fun a => M.map fun b => (a, b), ?_, fun x => ?_, ?_⟩
  · unfold List.flatMap
    show List.Pairwise _ _
    rw [List.pairwise_flatten]
    constructor
    · intro l hl
      obtain ⟨a, _, rfl⟩ := List.mem_map.mp hl
      exact List.pairwise_map.mpr (n2.imp fun ne e => ne (Prod.mk.inj e).2)
    · refine List.pairwise_map.mpr (n1.imp fun ne x hx y hy e => ne ?_)
      obtain ⟨_, _, rfl⟩ := List.mem_map.mp hx
      obtain ⟨_, _, rfl⟩ := List.mem_map.mp hy
      exact (Prod.mk.inj e).1
  · rw [List.mem_flatMap]
    constructor
    · rintro ⟨a, ha, hx⟩
      obtain ⟨b, hb, rfl⟩ := List.mem_map.mp hx
      exact ⟨(m1 a).mp ha, (m2 b).mp hb⟩
    · rintro ⟨h1, h2⟩
      exact ⟨x.1, (m1 _).mpr h1, List.mem_map.mpr ⟨x.2, (m2 _).mpr h2, rfl⟩⟩
  · rw [flat_const (c := j) fun a _ => by rw [List.length_map, l2], l1]
theorem Two.numb (h : Two zs ws us vs) (r : Nat) : numbN (zs ++ us) (ws ++ vs) r = numbN zs ws r * numbN us vs r := by
  have ia : ∀ {a : Str}, a ∈ zs → (zs ++ us).idxOf a = zs.idxOf a ∧ (ws ++ vs).idxOf a = ws.idxOf a := fun ha => ⟨idx_left ha, idx_left (h.inw ha)⟩
  have ib : ∀ {a : Str}, a ∈ us → (zs ++ us).idxOf a = us.idxOf a + zs.length ∧ (ws ++ vs).idxOf a = vs.idxOf a + zs.length := fun ha => by
    rw [idx_right fun z => h.dis z ha, idx_right (h.notw ha), h.pm.length_eq]
    exact ⟨by omega, by omega⟩
  refine (((numb_cnt (ws := ws) h.nz r).mul (numb_cnt (ws := vs) h.nu r)).bij (R := NumF r (zs ++ us) (ws ++ vs)) (fun x z => if z ∈ zs then x.1 z else x.2 z) (fun f => (fun z => if z ∈ zs then f z else 0, fun z => if z ∈ zs then 0 else f z)) (fun x q => ?_) (fun f q => ?_) (fun x q => ?_) (fun f q => ?_)).uniq (numb_cnt h.nd r) |>.symm
  · obtain ⟨q1, q2⟩ := q
    refine ⟨fun z hz => ?_, fun z hz => ?_, fun a b ha hb h1 h2 => ?_⟩
    · show (if z ∈ zs then x.1 z else x.2 z) ≤ r
      by_cases e : z ∈ zs
      · rw [if_pos e]
        exact q1.1 z e
      · rw [if_neg e]
        exact q2.1 z ((List.mem_append.mp hz).resolve_left e)
    · show (if z ∈ zs then x.1 z else x.2 z) = 0
      rw [List.mem_append] at hz
      rw [if_neg fun e => hz (.inl e)]
      exact q2.2.1 z fun e => hz (.inr e)
    · show (if a ∈ zs then x.1 a else x.2 a) < (if b ∈ zs then x.1 b else x.2 b)
      rcases List.mem_append.mp ha with a1 | a1
      · rw [if_pos a1]
        rcases List.mem_append.mp hb with b1 | b1
        · rw [if_pos b1]
          rw [(ia a1).1, (ia b1).1] at h1
          rw [(ia a1).2, (ia b1).2] at h2
          exact q1.2.2 a b a1 b1 h1 h2
        · rw [(ia a1).2, (ib b1).2] at h2
          have := List.idxOf_lt_length_of_mem (h.inw a1)
          rw [← h.pm.length_eq] at this
          omega
      · rw [if_neg fun e => h.dis e a1]
        rcases List.mem_append.mp hb with b1 | b1
        · rw [(ib a1).1, (ia b1).1] at h1
          have := List.idxOf_lt_length_of_mem b1
          omega
        · rw [if_neg fun e => h.dis e b1]
          rw [(ib a1).1, (ib b1).1] at h1
          rw [(ib a1).2, (ib b1).2] at h2
          exact q2.2.2 a b a1 b1 (by omega) (by omega)
  · refine ⟨⟨fun z hz => ?_, fun z hz => if_neg hz, fun a b ha hb h1 h2 => ?_⟩, ⟨fun z hz => ?_, fun z hz => ?_, fun a b ha hb h1 h2 => ?_⟩⟩
    · show (if z ∈ zs then f z else 0) ≤ r
      rw [if_pos hz]
      exact q.1 z (List.mem_append_left _ hz)
    · show (if a ∈ zs then f a else 0) < (if b ∈ zs then f b else 0)
      rw [if_pos ha, if_pos hb]
      exact q.2.2 a b (List.mem_append_left _ ha) (List.mem_append_left _ hb) (by rw [(ia ha).1, (ia hb).1]; exact h1) (by rw [(ia ha).2, (ia hb).2]; exact h2)
    · show (if z ∈ zs then 0 else f z) ≤ r
      rw [if_neg fun e => h.dis e hz]
      exact q.1 z (List.mem_append_right _ hz)
    · show (if z ∈ zs then 0 else f z) = 0
      by_cases e : z ∈ zs
      · exact if_pos e
      · rw [if_neg e]
        exact q.2.1 z fun m => (List.mem_append.mp m).elim e hz
    · show (if a ∈ zs then 0 else f a) < (if b ∈ zs then 0 else f b)
      rw [if_neg fun e => h.dis e ha, if_neg fun e => h.dis e hb]
      exact q.2.2 a b (List.mem_append_right _ ha) (List.mem_append_right _ hb) (by rw [(ib ha).1, (ib hb).1]; omega) (by rw [(ib ha).2, (ib hb).2]; omega)
  · obtain ⟨q1, q2⟩ := q
    refine Prod.ext (funext fun z => ?_) (funext fun z => ?_)
    · show (if z ∈ zs then (if z ∈ zs then x.1 z else x.2 z) else 0) = x.1 z
      by_cases e : z ∈ zs
      · rw [if_pos e, if_pos e]
      · rw [if_neg e, q1.2.1 z e]
    · show (if z ∈ zs then 0 else (if z ∈ zs then x.1 z else x.2 z)) = x.2 z
      by_cases e : z ∈ zs
      · rw [if_pos e, q2.2.1 z fun m => h.dis e m]
      · rw [if_neg e, if_neg e]
  · funext z
    show (if z ∈ zs then (if z ∈ zs then f z else 0) else (if z ∈ zs then 0 else f z)) = f z
    by_cases e : z ∈ zs
    · rw [if_pos e, if_pos e]
    · rw [if_neg e, if_neg e]
end

/-! ### a word more, words called otherwise, books read from the end -/
theorem rk_is {lt : Str → Str → Bool} {zs : List Str} {g : Nat → Int} {n : Nat} (h1 : ∀ i, i < n → 1 ≤ g i) (h2 : ∀ a i, a < i → i < n → lt (zs.getD a Str.empty) (zs.getD i Str.empty) = true → g a + 1 ≤ g i)
    (h3 : ∀ i, i < n → 2 ≤ g i → ∃ a, a < i ∧ lt (zs.getD a Str.empty) (zs.getD i Str.empty) = true ∧ g a = g i - 1) : ∀ i, i < n → rkAt lt zs i = g i := by
  intro i
  induction i using Nat.strongRecOn with
  | ind i ih =>
    intro hi
    have le1 : rkAt lt zs i ≤ g i := by
      by_cases e : 2 ≤ rkAt lt zs i
      · obtain ⟨a, a1, a2, a3⟩ := rk_down e
        have := ih a a1 (by omega)
        have := h2 a i a1 hi a2
        omega
      · have := h1 i hi
        omega
    have le2 : g i ≤ rkAt lt zs i := by
      by_cases e : 2 ≤ g i
      · obtain ⟨a, a1, a2, a3⟩ := h3 i hi e
        have := ih a a1 (by omega)
        have := rk_up a1 a2
        omega
      · have := rk_pos lt zs (i + 1) i (by omega)
        omega
    omega
section
variable {zs ws : List Str}
theorem ranksOf_at {i : Nat} (h : i < zs.length) : (ranksOf ws zs)[i]? = some (rkAt (later ws) zs i) := by
  unfold ranksOf
  rw [List.getElem?_map, ranksTo_at _ _ h]
  rfl
theorem ranksOf_len : (ranksOf ws zs).length = zs.length := by
  unfold ranksOf
  rw [List.length_map, ranksTo_len]
/-- a word that is ahead of all in the one, behind all in the other -/
theorem rk_more {q : Str} (nd : zs.Nodup) (pm : zs.Perm ws) (hq : q ∉ zs) : rkAt (later (ws ++ [q])) (q :: zs) 0 = 1 ∧ ∀ i, i < zs.length → rkAt (later (ws ++ [q])) (q :: zs) (i + 1) = rkAt (later ws) zs i + 1 := by
  have qw : q ∉ ws := fun z => hq (pm.mem_iff.mpr z)
  have gi : ∀ i, i < zs.length → zs.getD i Str.empty ∈ ws := fun i hi => pm.mem_iff.mp (getD_mem hi)
  have e0 : (q :: zs).getD 0 Str.empty = q := rfl
  have es : ∀ i, (q :: zs).getD (i + 1) Str.empty = zs.getD i Str.empty := fun i => rfl
  have main := rk_is (lt := later (ws ++ [q])) (zs := q :: zs) (n := zs.length + 1) (g := fun i => match i with | 0 => 1 | i + 1 => rkAt (later ws) zs i + 1) (fun i hi => ?_) (fun a i ha hi hl => ?_) fun i hi h => ?_
  · exact ⟨main 0 (by omega), fun i hi => main (i + 1) (by omega)⟩
  · cases i with
    | zero => exact Int.le_refl _
    | succ i =>
      have := rk_pos (later ws) zs (i + 1) i (by omega)
      show 1 ≤ rkAt (later ws) zs i + 1
      omega
  · cases i with
    | zero => omega
    | succ i =>
      cases a with
      | zero =>
        have := rk_pos (later ws) zs (i + 1) i (by omega)
        show (1 : Int) + 1 ≤ rkAt (later ws) zs i + 1
        omega
      | succ a =>
        rw [es, es, later_left (gi a (by omega)) (gi i (by omega))] at hl
        have := rk_up (lt := later ws) (zs := zs) (by omega : a < i) hl
        show rkAt (later ws) zs a + 1 + 1 ≤ rkAt (later ws) zs i + 1
        omega
  · cases i with
    | zero =>
      have h : (2 : Int) ≤ 1 := h
      omega
    | succ i =>
      by_cases e : 2 ≤ rkAt (later ws) zs i
      · obtain ⟨a, a1, a2, a3⟩ := rk_down e
        refine ⟨a + 1, by omega, ?_, ?_⟩
        · rw [es, es, later_left (gi a (by omega)) (gi i (by omega))]
          exact a2
        · show rkAt (later ws) zs a + 1 = rkAt (later ws) zs i + 1 - 1
          omega
      · have := rk_pos (later ws) zs (i + 1) i (by omega)
        refine ⟨0, by omega, ?_, ?_⟩
        · rw [e0, es]
          exact later_back qw (gi i (by omega))
        · show (1 : Int) = rkAt (later ws) zs i + 1 - 1
          omega
theorem two_more {q : Str} (nd : zs.Nodup) (pm : zs.Perm ws) (hq : q ∉ zs) : Two [q] [q] zs ws := ⟨List.nodup_cons.mpr ⟨hq, nd⟩, .refl _, pm⟩
theorem topN_one {q : Str} : topN [q] [q] = 1 := by
  refine topN_is (List.nodup_cons.mpr ⟨by simp, List.nodup_nil⟩) (.refl _) ⟨[q], ⟨List.Sublist.refl _, by simp⟩, rfl⟩ fun r t => ?_
  have := t.1.length_le
  exact this
theorem lots_more {q : Str} (nd : zs.Nodup) (pm : zs.Perm ws) (hq : q ∉ zs) : lotsTo (ws ++ [q]) (q :: zs) (q :: zs).length = [q] :: lotsTo ws zs zs.length := by
  obtain ⟨r0, rs⟩ := rk_more nd pm hq
  have tp : topN (ws ++ [q]) (q :: zs) = 1 + topN ws zs := by
    have := (two_more nd pm hq).topX
    rw [topN_one] at this
    exact this
  have rq : rkW (ws ++ [q]) (q :: zs) q = 1 := by
    unfold rkW
    rw [List.idxOf_cons_self]
    exact r0
  have rz : ∀ z ∈ zs, rkW (ws ++ [q]) (q :: zs) z = rkW ws zs z + 1 := fun z hz => by
    unfold rkW
    have ne : q ≠ z := fun e => hq (e ▸ hz)
    rw [show (q :: zs).idxOf z = zs.idxOf z + 1 by rw [List.idxOf_cons, beq_false_of_ne ne]; rfl]
    exact rs _ (List.idxOf_lt_length_of_mem hz)
  unfold lotsTo
  rw [tp, Nat.add_comm, List.range_succ_eq_map, List.map_cons, List.map_map]
  congr 1
  · unfold lotAt
    rw [List.take_length, List.filter_cons_of_pos (by rw [rq]; rfl)]
    congr 1
    refine List.filter_eq_nil_iff.mpr fun z hz => ?_
    have := (rkW_ok (ws := ws) hz).1
    rw [rz z hz, decide_eq_true_eq]
    omega
  · refine List.map_congr_left fun k _ => ?_
    show lotAt (ws ++ [q]) (q :: zs) (q :: zs).length (k + 1) = lotAt ws zs zs.length k
    unfold lotAt
    rw [List.take_length, List.take_length, List.filter_cons_of_neg (by rw [rq, decide_eq_true_eq]; omega)]
    refine List.filter_congr fun z hz => ?_
    rw [rz z hz]
    exact decide_eq_decide.mpr (by omega)
/-- a name for each word -/
structure Calls (f : Str → Str) (zs : List Str) : Prop where
  inj : ∀ a ∈ zs, ∀ b ∈ zs, f a = f b → a = b
theorem Calls.nd {f : Str → Str} (c : Calls f zs) (nd : zs.Nodup) : (zs.map f).Nodup := List.pairwise_map.mpr (nd.imp_of_mem fun {a b} ha hb ne e => ne (c.inj a ha b hb e))
theorem Calls.idx {f : Str → Str} (c : Calls f zs) (nd : zs.Nodup) {a : Str} (ha : a ∈ zs) : (zs.map f).idxOf (f a) = zs.idxOf a := by
  refine (idx_at (c.nd nd) ?_).symm
  rw [List.getElem?_map, List.getElem?_eq_getElem (List.idxOf_lt_length_of_mem ha), List.getElem_idxOf]
  rfl
theorem Calls.perm {f : Str → Str} (c : Calls f zs) (pm : zs.Perm ws) : Calls f ws := ⟨fun a ha b hb => c.inj a (pm.mem_iff.mpr ha) b (pm.mem_iff.mpr hb)⟩
theorem Calls.later {f : Str → Str} (c : Calls f ws) (nd : ws.Nodup) {a b : Str} (ha : a ∈ ws) (hb : b ∈ ws) : Lw.later (ws.map f) (f a) (f b) = Lw.later ws a b := by
  unfold Lw.later
  rw [c.idx nd ha, c.idx nd hb]
theorem Calls.prs {f : Str → Str} (c : Calls f zs) (nd : zs.Nodup) (pm : zs.Perm ws) : prsTo (Lw.later (ws.map f)) (zs.map f) (zs.map f).length = (prsTo (Lw.later ws) zs zs.length).map fun p => (f p.1, f p.2) := by
  rw [prs_list, prs_list]
  exact pairsL_map fun a ha b hb => (c.perm pm).later (pm.nodup_iff.mp nd) (pm.mem_iff.mp ha) (pm.mem_iff.mp hb)
theorem getD_mapS {f : Str → Str} {i : Nat} (h : i < zs.length) : (zs.map f).getD i Str.empty = f (zs.getD i Str.empty) := by
  rw [List.getD_eq_getElem?_getD, List.getElem?_map, getD_in h]
  rfl
theorem Calls.rk {f : Str → Str} (c : Calls f zs) (nd : zs.Nodup) (pm : zs.Perm ws) : ∀ i, i < zs.length → rkAt (Lw.later (ws.map f)) (zs.map f) i = rkAt (Lw.later ws) zs i := by
  have nw := pm.nodup_iff.mp nd
  have cw := c.perm pm
  have gi : ∀ i, i < zs.length → zs.getD i Str.empty ∈ ws := fun i hi => pm.mem_iff.mp (getD_mem hi)
  refine rk_is (g := fun i => rkAt (Lw.later ws) zs i) (fun i hi => rk_pos _ _ _ _ (Nat.lt_succ_self i)) (fun a i ha hi hl => ?_) fun i hi h => ?_
  · rw [getD_mapS (by omega), getD_mapS hi, cw.later nw (gi a (by omega)) (gi i hi)] at hl
    exact rk_up ha hl
  · obtain ⟨a, a1, a2, a3⟩ := rk_down h
    refine ⟨a, a1, ?_, a3⟩
    rw [getD_mapS (by omega), getD_mapS hi, cw.later nw (gi a (by omega)) (gi i hi)]
    exact a2
theorem Calls.top {f : Str → Str} (c : Calls f zs) (nd : zs.Nodup) (pm : zs.Perm ws) : topN (ws.map f) (zs.map f) = topN ws zs := by
  have e : ranksOf (ws.map f) (zs.map f) = ranksOf ws zs := by
    refine List.ext_getElem? fun i => ?_
    by_cases hi : i < zs.length
    · rw [ranksOf_at (by rw [List.length_map]; exact hi), ranksOf_at hi, c.rk nd pm i hi]
    · rw [List.getElem?_eq_none (by rw [ranksOf_len, List.length_map]; omega), List.getElem?_eq_none (by rw [ranksOf_len]; omega)]
  unfold topN
  rw [e]
theorem Calls.lots {f : Str → Str} (c : Calls f zs) (nd : zs.Nodup) (pm : zs.Perm ws) : lotsTo (ws.map f) (zs.map f) (zs.map f).length = (lotsTo ws zs zs.length).map fun r => r.map f := by
  unfold lotsTo
  rw [c.top nd pm, List.map_map]
  refine List.map_congr_left fun k _ => ?_
  show lotAt (ws.map f) (zs.map f) (zs.map f).length k = (lotAt ws zs zs.length k).map f
  unfold lotAt
  rw [List.take_length, List.take_length, List.filter_map]
  congr 1
  refine List.filter_congr fun z hz => ?_
  show decide (rkW (ws.map f) (zs.map f) (f z) = (k : Int) + 1) = decide (rkW ws zs z = (k : Int) + 1)
  unfold rkW
  rw [c.idx nd hz, c.rk nd pm _ (List.idxOf_lt_length_of_mem hz)]
theorem prs_rev (nd : zs.Nodup) (pm : zs.Perm ws) : ((prsTo (later ws.reverse) zs.reverse zs.reverse.length).map fun p => (p.2, p.1)).Perm (prsTo (later ws) zs zs.length) := by
  have nr : zs.reverse.Nodup := (List.reverse_perm zs).nodup_iff.mpr nd
  have nw := pm.nodup_iff.mp nd
  refine (List.perm_ext_iff_of_nodup (List.pairwise_map.mpr ((nd_prsTo nr (Nat.le_refl _)).imp fun q e => q (Prod.ext (Prod.mk.inj e).2 (Prod.mk.inj e).1))) (nd_prsTo nd (Nat.le_refl _))).mpr fun x => ?_
  obtain ⟨a, b⟩ := x
  rw [mem_prs nd, List.mem_map]
  constructor
  · rintro ⟨⟨u, v⟩, h, e⟩
    cases e
    obtain ⟨h1, h2, h3, h4⟩ := (mem_prs nr).mp h
    have m1 := List.mem_reverse.mp h1
    have m2 := List.mem_reverse.mp h2
    have r1 := idx_rev nd m1
    have r2 := idx_rev nd m2
    have s1 := idx_rev nw (pm.mem_iff.mp m1)
    have s2 := idx_rev nw (pm.mem_iff.mp m2)
    dsimp only at h3 h4 ⊢
    exact ⟨m2, m1, by omega, by omega⟩
  · rintro ⟨h1, h2, h3, h4⟩
    have r1 := idx_rev nd h1
    have r2 := idx_rev nd h2
    have s1 := idx_rev nw (pm.mem_iff.mp h1)
    have s2 := idx_rev nw (pm.mem_iff.mp h2)
    exact ⟨(b, a), (mem_prs nr).mpr ⟨List.mem_reverse.mpr h2, List.mem_reverse.mpr h1, by omega, by omega⟩, rfl⟩
/-- a word at the front of both, at the end of both, at the front of the one and the end of the other -/
theorem prs_front {q : Str} (nd : zs.Nodup) (pm : zs.Perm ws) (hq : q ∉ zs) : prsTo (later ([q] ++ ws)) ([q] ++ zs) ([q] ++ zs).length = prsTo (later ws) zs zs.length := by
  rw [(two_more nd pm hq).prs, prs_self (List.nodup_cons.mpr ⟨by simp, List.nodup_nil⟩)]
  rfl
theorem prs_end {q : Str} (nd : zs.Nodup) (pm : zs.Perm ws) (hq : q ∉ zs) : prsTo (later (ws ++ [q])) (zs ++ [q]) (zs ++ [q]).length = prsTo (later ws) zs zs.length := by
  have t : Two zs ws [q] [q] := ⟨List.nodup_append.mpr ⟨nd, List.nodup_cons.mpr ⟨by simp, List.nodup_nil⟩, fun a ha b hb e => hq (by rw [List.mem_singleton.mp hb] at e; rw [← e]; exact ha)⟩, pm, .refl _⟩
  rw [t.prs, prs_self (List.nodup_cons.mpr ⟨by simp, List.nodup_nil⟩), List.append_nil]
theorem prs_across {q : Str} (nd : zs.Nodup) (pm : zs.Perm ws) (hq : q ∉ zs) : prsTo (later (ws ++ [q])) ([q] ++ zs) ([q] ++ zs).length = (zs.map fun z => (q, z)) ++ prsTo (later ws) zs zs.length := by
  have qw : q ∉ ws := fun z => hq (pm.mem_iff.mpr z)
  rw [prs_list, prs_list, List.singleton_append, pairsL, List.filter_eq_self.mpr fun b hb => later_back qw (pm.mem_iff.mp hb)]
  congr 1
  exact pairsL_congr fun a ha b hb => later_left (pm.mem_iff.mp ha) (pm.mem_iff.mp hb)
end
/-! ### the letters the other way about -/
def mirC (c : Nat) : Nat := 219 - c
def mirS (w : Str) : Str := ⟨(w.cps.toList.map mirC).toArray⟩
theorem nm_iff {w : Str} : isNm w = true ↔ 1 ≤ w.length ∧ w.length ≤ 8 ∧ ∀ c ∈ w.cps.toList, 97 ≤ c ∧ c ≤ 122 := by
  unfold isNm nameC
  simp only [Bool.and_eq_true, decide_eq_true_eq, List.all_eq_true]
  constructor
  · rintro ⟨⟨h1, h2⟩, h3⟩
    exact ⟨h1, h2, h3⟩
  · rintro ⟨h1, h2, h3⟩
    exact ⟨⟨h1, h2⟩, h3⟩
theorem mirS_nm {w : Str} (h : isNm w = true) : isNm (mirS w) = true := by
  obtain ⟨h1, h2, h3⟩ := nm_iff.mp h
  have l : (mirS w).length = w.length := by
    show (w.cps.toList.map mirC).toArray.size = w.cps.size
    simp
  refine nm_iff.mpr ⟨by omega, by omega, fun c hc => ?_⟩
  have hc : c ∈ w.cps.toList.map mirC := hc
  obtain ⟨d, hd, rfl⟩ := List.mem_map.mp hc
  have := h3 d hd
  unfold mirC
  omega
theorem mirS_inj {v w : Str} (hv : isNm v = true) (hw : isNm w = true) (e : mirS v = mirS w) : v = w := by
  obtain ⟨_, _, h3⟩ := nm_iff.mp hv
  obtain ⟨_, _, k3⟩ := nm_iff.mp hw
  have e2 : v.cps.toList.map mirC = w.cps.toList.map mirC := by
    have := congrArg (fun s => s.cps.toList) e
    simpa [mirS] using this
  refine str_cps ?_
  have back : ∀ {l : List Nat}, (∀ c ∈ l, 97 ≤ c ∧ c ≤ 122) → (l.map mirC).map mirC = l := fun {l} hl => by
    rw [List.map_map]
    conv => rhs; rw [← List.map_id l]
    refine List.map_congr_left fun c hc => ?_
    have := hl c hc
    show 219 - (219 - c) = id c
    show 219 - (219 - c) = c
    omega
  rw [← back h3, ← back k3, e2]
theorem join_signs : ∀ l : List Nat, Str.join Str.empty (l.map fun c => (⟨#[c]⟩ : Str)) = ⟨l.toArray⟩
  | [] => rfl
  | [c] => rfl
  | c :: d :: l => by
    show (⟨#[c]⟩ : Str) ++ Str.empty ++ Str.join Str.empty ((d :: l).map fun c => (⟨#[c]⟩ : Str)) = _
    rw [join_signs (d :: l)]
    refine str_cps ?_
    show ((#[c] ++ #[]) ++ (d :: l).toArray).toList = c :: d :: l
    simp

end Lw

namespace Lw
open PySem PySem.Spec PyProof.Rows L2 GxR Gx
section
variable {P : Program} {w : World} {K : PySem.W.Frag} {mg : Str → Option Value} {base : Heap}
/-! ### _law_called -/
theorem occ_at : ∀ k : Nat, k < 26 → Builtin.Str.occurrences ("abcdefghijklmnopqrstuvwxyz" : Str) ⟨#[97 + k]⟩ 0 ("abcdefghijklmnopqrstuvwxyz" : Str).length 1 = [k] := by decide +kernel
theorem letters_at : ∀ k : Nat, k < 26 → ("abcdefghijklmnopqrstuvwxyz" : Str).cps.toList[k]? = some (97 + k) := by decide +kernel
def spCalled (K : PySem.W.Frag) : Sp := fun vs H Q _ => ∃ (l : Addr) (zs : List Str), vs = [.ref l] ∧ H l = some (.lst (zs.map V.str)) ∧ (∀ z ∈ zs, isNm z = true) ∧ zs.length ≤ 200 ∧
  ∀ (D : Addr) (H' : Hp), Fresh H D → Grow [] H H' → H' D = some (.lst ((zs.map mirS).map V.str)) → Q (.ref D) H'
theorem ok_law_called {f c : Addr} {fd : FuncData} (B : Nb mg) (D : DefIs K "_law_called" "_law_called" st_law_called f fd (.ref c)) : FnG P w K mg base CX0 1 f fd ["book"] (spCalled K) := by
  refine D.ok0 (k := 0) sc_law_called (fun vs H Q E h => ?_) (fun A outer s H vs Q E g hr h => ?_)
  · obtain ⟨l, zs, rfl, _⟩ := h
    rfl
  obtain ⟨l, zs, rfl, el, nm, z200, q⟩ := h
  refine ⟨_,
      (pss_cons (ps_set (i := 1) sc_law_called.nd rfl (.inr rfl) pe_str)
      (pss_one (ps_ret (pe_lc (own := [("word", 2)]) (tt := tYes) (g := (gName 2)) rfl sc_law_called.nd (pi_list (pv 0)) (blkOk_by (N := N_law_called) (sc := defScope st_law_called) (by decide +kernel)) (fun _ _ _ _ _ => (pg_name (i := 2) sc_law_called.nd rfl (.inl rfl))) (fun _ _ _ _ _ => pts_nil) (fun _ _ _ _ _ => pe_to (pe_bm PySem.F.plainAttrs_str PySem.F.slot_str_join PySem.F.type_str_join mt_join pe_str (pa_cons (pe_lc (own := [("sign", 3)]) (tt := tYes) (g := (gName 3)) rfl sc_law_called.nd (pi_str (pv 2)) (blkOk_by (N := N_law_called) (sc := { kind := ScopeKind.function, names := [(".0", NameKind.local), ("word", NameKind.local), ("letters", NameKind.cell)], isGenerator := false, isCoroutine := false }) (by decide +kernel)) (fun _ _ _ _ _ => (pg_name (i := 3) sc_law_called.nd rfl (.inl rfl))) (fun _ _ _ _ _ => pts_nil) (fun _ _ _ _ _ => pe_to (pe_ix ix_str (pv 1) (pe_op op_sub pe_int (pe_bm PySem.F.plainAttrs_str PySem.F.slot_str_index PySem.F.type_str_index mt_sindex (pv 1) (pa_cons (pv 3) pa_nil))) (fun _ _ => rfl)))) pa_nil))))))), ?_⟩
  refine ⟨.ref l, rfl, l, rfl, ⟨_, .inl (.inl el)⟩, fun D1 n1 => ?_⟩
  refine lc_it (walk_list (xs := zs.map V.str)) (fun j H' => Grow [] H H' ∧ H' D1 = some (.lst (((zs.take j).map mirS).map V.str))) ⟨grow_new n1, upd_same⟩
    (fun j H' _ h => .inl (.inl (h.1.lst (by simp) el))) (fun j x H2 H3 hj hp hy => ?_) (fun H2 hp => ?_)
  · obtain ⟨gj, eD⟩ := hp
    obtain ⟨rfl, ex⟩ := hy
    rw [List.getElem?_map] at ex
    rw [List.length_map] at hj
    cases ez : zs[j]? with
    | none => rw [ez] at ex; cases ex
    | some z =>
      rw [ez] at ex
      cases ex
      obtain ⟨z1, z8, zc⟩ := nm_iff.mp (nm z (List.mem_of_getElem? ez))
      refine ⟨rfl, yes_if ⟨rfl, .str z, rfl, z, rfl, fun D2 n2 => ?_⟩⟩
      refine lc_it walk_str (fun i H' => Grow [] H3 H' ∧ H' D2 = some (.lst ((((z.cps.toList.take i).map mirC).map fun c => (⟨#[c]⟩ : Str)).map V.str))) ⟨grow_new n2, upd_same⟩ (fun _ _ _ _ => trivial) (fun i x H4 H5 hi hp2 hy2 => ?_) (fun H4 hp2 => ?_)
      · obtain ⟨gi, eD2⟩ := hp2
        obtain ⟨rfl, c, hc, rfl⟩ := hy2
        have hcl : z.cps.toList[i]? = some c := by rw [Array.getElem?_toList]; exact hc
        obtain ⟨c1, c2⟩ := zc c (List.mem_of_getElem? hcl)
        obtain ⟨k, rfl⟩ : ∃ k, c = 97 + k := ⟨c - 97, by omega⟩
        have ea : atI ("abcdefghijklmnopqrstuvwxyz" : Str).cps.toList ((25 : Int) - (k : Nat)) = some (mirC (97 + k)) := by
          rw [show (25 : Int) - (k : Nat) = ((25 - k : Nat) : Int) by omega, atI_nat (letters_at (25 - k) (by omega))]
          unfold mirC
          congr 1
          omega
        refine ⟨rfl, yes_if ⟨.str "abcdefghijklmnopqrstuvwxyz", rfl, .str "abcdefghijklmnopqrstuvwxyz", rfl, rfl, .str ⟨#[97 + k]⟩, rfl, "abcdefghijklmnopqrstuvwxyz", ⟨#[97 + k]⟩, k, [], rfl, rfl, occ_at k (by omega), _, _, rfl, rfl, "abcdefghijklmnopqrstuvwxyz", _, _, rfl, rfl, by decide, ea, _, eD2, ?_, gi.put (fresh_none n2) eD2 (fun ps z => by cases z), ?_⟩⟩
        · rw [List.length_map, List.length_map, List.length_map, List.length_take]
          have : z.cps.toList.length = z.length := Array.length_toList
          unfold sizeLine
          omega
        · rw [upd_same, List.take_add_one, hcl, List.map_append, List.map_append, List.map_append]
          rfl
      · obtain ⟨gi, eD2⟩ := hp2
        have lz : z.cps.toList.length = z.length := Array.length_toList
        rw [List.take_of_length_le (Nat.le_of_eq Array.length_toList)] at eD2
        dsimp only [tNil]
        refine ⟨Str.empty, D2, _, rfl, rfl, .inl (.inl (.inl eD2)), ?_, _, gi.lst (by simp) eD, ?_, (gj.trans gi).put (fresh_none n1) (gi.lst (by simp) eD) (fun ps z => by cases z), ?_⟩
        · have e1 : ∀ l : List Nat, ((l.map fun c => (⟨#[c]⟩ : Str)).map fun s => s.length).sum = l.length := by
            intro l
            induction l with
            | nil => rfl
            | cons x l ih =>
              rw [List.map_cons, List.map_cons, List.sum_cons, ih, List.length_cons]
              show 1 + l.length = l.length + 1
              omega
          rw [e1, List.length_map, List.length_map]
          show _ + _ * 0 ≤ _
          omega
        · rw [List.length_map, List.length_map, List.length_take]
          unfold sizeLine
          omega
        · rw [upd_same, List.take_add_one, ez, List.map_append, List.map_append, TL.join_eq, join_signs]
          rfl
  · obtain ⟨gj, eD⟩ := hp
    rw [List.length_map, List.take_length] at eD
    exact q D1 H2 (fresh_none n1) gj eD
end

theorem tried_le {ps : List (Str × Str)} {zs : List Str} {m : Nat} : ∀ i, (triedTo ps zs m i).length ≤ m ^ i
  | 0 => Nat.le_refl _
  | i + 1 => by
    have key : ∀ L : List (List Nat), (L.flatMap (moreR m (aheadI ps zs (zs.getD i Str.empty)))).length ≤ L.length * m := by
      intro L
      induction L with
      | nil => exact Nat.zero_le _
      | cons x L ih =>
        rw [List.flatMap_cons, List.length_append, moreR_len, List.length_cons, Nat.succ_mul]
        omega
    have := key (triedTo ps zs m i)
    have h2 := Nat.mul_le_mul_right m (tried_le (ps := ps) (zs := zs) (m := m) i)
    rw [triedTo, Nat.pow_succ]
    omega

end Lw

namespace Lw
open PySem PySem.Spec PyProof.Rows L2 GxR Gx
section
variable {P : Program} {w : World} {K : PySem.W.Frag} {mg : Str → Option Value} {base : Heap}
/-! ### _law_joined_right -/
theorem Two.bk {zs ws us vs : List Str} (h : Two zs ws us vs) (bz : Bk zs) (bu : Bk us) (l : zs.length + us.length ≤ 200) : Bk (zs ++ us) :=
  ⟨by rw [List.all_append, bz.nm, bu.nm]; rfl, h.nd, by rw [List.length_append]; exact l⟩
theorem two_lists {H : Hp} {p1 p2 : Addr} {o1 o2 : HO} (n1 : H p1 = none) (n2 : upd H p1 o1 p2 = none) : Grow [] H (upd (upd H p1 o1) p2 o2) ∧ upd (upd H p1 o1) p2 o2 p1 = some o1 ∧ upd (upd H p1 o1) p2 o2 p2 = some o2 :=
  ⟨(grow_new n1).new n2, by rw [upd_ne (ne_of_none upd_same n2)]; exact upd_same, upd_same⟩
theorem numb_le {zs ws : List Str} (nd : zs.Nodup) {r : Nat} (h : zs.length ≤ 6) (hr : r ≤ 100) : numbN zs ws r < 2 ^ 60 := by
  rw [numb_tried nd]
  have h1 := tried_le (ps := prsTo (later ws) zs zs.length) (zs := zs) (m := r + 1) zs.length
  have h2 : (r + 1) ^ zs.length ≤ 101 ^ zs.length := Nat.pow_le_pow_left (by omega) _
  have h3 : 101 ^ zs.length ≤ 101 ^ 6 := Nat.pow_le_pow_right (by decide) h
  omega
theorem topN_le2 {zs ws : List Str} (nd : zs.Nodup) (pm : zs.Perm ws) : topN ws zs ≤ zs.length := by
  have h1 := topN_eq ws zs
  have h2 := top_le (ws := ws) nd pm
  omega
def spJoined (K : PySem.W.Frag) (T1 T : Addr) : Sp := fun ar H Q _ => ∃ (o mo b O l y : Addr) (r : Nat) (zs ws us vs : List Str), ar = [.ref o, .ref mo, .int (r : Nat)] ∧ TabG H T1 ∧ TabG H T ∧ H o = some (.tup [.ref b, .ref O]) ∧ H mo = some (.tup [.ref l, .ref y]) ∧
  H b = some (.lst (zs.map V.str)) ∧ H O = some (.lst (ws.map V.str)) ∧ H l = some (.lst (us.map V.str)) ∧ H y = some (.lst (vs.map V.str)) ∧ Two zs ws us vs ∧ Bk zs ∧ Bk us ∧ zs.length ≤ 6 ∧ us.length ≤ 6 ∧ r ≤ 100 ∧
  ∀ (H' : Hp), Grow [] H H' → Q (.bl true) H'
theorem ok_law_joined_right {f c T1 T : Addr} {fd : FuncData} (B : Nb mg) (D : DefIs K "_law_joined_right" "_law_joined_right" st_law_joined_right f fd (.ref c))
    (c_turned_pairs : Callee P w K mg base CX0 11 "turned_pairs" ["book", "other"] (spTurned K T1 T)) (c_roads_between : Callee P w K mg base CX0 11 "roads_between" ["book", "other"] (spRoads K T1 T))
    (c_how_many_numberings : Callee P w K mg base CX0 11 "how_many_numberings" ["book", "other", "roads"] (spNumb K T1 T)) (c_longest_turned : Callee P w K mg base CX0 11 "longest_turned" ["book", "other"] (spLongest K T1 T))
    (c_fewest_lots : Callee P w K mg base CX0 11 "fewest_lots" ["book", "other"] (spFewest K T1 T)) : FnG P w K mg base CX0 12 f fd ["one", "more", "roads"] (spJoined K T1 T) := by
  refine D.ok0 (k := 11) sc_law_joined_right (fun vs H Q E h => ?_) (fun A outer s H ar Q E g hr h => ?_)
  · obtain ⟨o, mo, b, O, l, y, r, zs, ws, us, vs, rfl, _⟩ := h
    rfl
  obtain ⟨o, mo, b, O, l, y, r, zs, ws, us, vs, rfl, t1, tT, eo, emo, eb, eO, el, ey, two, bz, bu, z6, u6, r100, q⟩ := h
  refine ⟨_,
      (pss_cons (ps_asg (pe_tup (pa_cons (pv 0) (pa_cons (pv 1) pa_nil))) (pg_tup rfl (pgs_cons (pg_tup rfl (pgs_cons (pg_name (i := 3) sc_law_joined_right.nd rfl (.inl rfl)) (pgs_cons (pg_name (i := 4) sc_law_joined_right.nd rfl (.inl rfl)) pgs_nil))) (pgs_cons (pg_tup rfl (pgs_cons (pg_name (i := 5) sc_law_joined_right.nd rfl (.inl rfl)) (pgs_cons (pg_name (i := 6) sc_law_joined_right.nd rfl (.inl rfl)) pgs_nil))) pgs_nil))))
      (pss_cons (ps_set (i := 7) sc_law_joined_right.nd rfl (.inl rfl) (pe_op op_cat (pe_g c_turned_pairs g (hr.mono (by decide)) pass0 (pa_cons (pv 3) (pa_cons (pv 4) pa_nil))) (pe_g c_turned_pairs g (hr.mono (by decide)) pass0 (pa_cons (pv 5) (pa_cons (pv 6) pa_nil)))))
      (pss_cons (ps_if (pt_cmpR (op_neD hr.units) (pe_g c_turned_pairs g (hr.mono (by decide)) pass0 (pa_cons (pe_op op_cat (pv 3) (pv 5)) (pa_cons (pe_op op_cat (pv 4) (pv 6)) pa_nil))) (pv 7) (nomark _)) (
        (pss_one (ps_ret pe_bl))) pss_nil)
      (pss_cons (ps_set (i := 8) sc_law_joined_right.nd rfl (.inl rfl) (pe_callB (call_max2 rfl) rfl B.n_max (by decide +kernel) (pa_cons (pe_g c_roads_between g (hr.mono (by decide)) pass0 (pa_cons (pv 3) (pa_cons (pv 4) pa_nil))) (pa_cons (pe_g c_roads_between g (hr.mono (by decide)) pass0 (pa_cons (pv 5) (pa_cons (pv 6) pa_nil))) pa_nil))))
      (pss_cons (ps_if (pt_cmpR (op_ne) (pe_g c_roads_between g (hr.mono (by decide)) pass0 (pa_cons (pe_op op_cat (pv 3) (pv 5)) (pa_cons (pe_op op_cat (pv 4) (pv 6)) pa_nil))) (pv 8) (nomark _)) (
        (pss_one (ps_ret pe_bl))) pss_nil)
      (pss_cons (ps_set (i := 9) sc_law_joined_right.nd rfl (.inl rfl) (pe_op op_mulW (pe_g c_how_many_numberings g (hr.mono (by decide)) pass0 (pa_cons (pv 3) (pa_cons (pv 4) (pa_cons (pv 2) pa_nil)))) (pe_g c_how_many_numberings g (hr.mono (by decide)) pass0 (pa_cons (pv 5) (pa_cons (pv 6) (pa_cons (pv 2) pa_nil))))))
      (pss_cons (ps_if (pt_cmpR (op_ne) (pe_g c_how_many_numberings g (hr.mono (by decide)) pass0 (pa_cons (pe_op op_cat (pv 3) (pv 5)) (pa_cons (pe_op op_cat (pv 4) (pv 6)) (pa_cons (pv 2) pa_nil)))) (pv 9) (nomark _)) (
        (pss_one (ps_ret pe_bl))) pss_nil)
      (pss_cons (ps_set (i := 10) sc_law_joined_right.nd rfl (.inl rfl) (pe_g c_turned_pairs g (hr.mono (by decide)) pass0 (pa_cons (pe_op op_cat (pv 3) (pv 5)) (pa_cons (pe_op op_cat (pv 6) (pv 4)) pa_nil))))
      (pss_cons (ps_for PassesOwn.never rfl (pi_list (pv 3)) (pg_name (i := 11) sc_law_joined_right.nd rfl (.inr rfl)) (
        (pss_one (ps_set (i := 7) sc_law_joined_right.nd rfl (.inl rfl) (pe_op op_cat (pv 7) (pe_lc (own := [("b", 12)]) (tt := tYes) (g := (gName 12)) rfl sc_law_joined_right.nd (pi_list (pv 5)) (blkOk_by (N := N_law_joined_right) (sc := defScope st_law_joined_right) (by decide +kernel)) (fun _ _ _ _ _ => (pg_name (i := 12) sc_law_joined_right.nd rfl (.inl rfl))) (fun _ _ _ _ _ => pts_nil) (fun _ _ _ _ _ => pe_to (pe_tup (pa_cons (pv 11) (pa_cons (pv 12) pa_nil))))))))))
      (pss_cons (ps_set (i := 13) sc_law_joined_right.nd rfl (.inl rfl) (pe_g c_longest_turned g (hr.mono (by decide)) pass0 (pa_cons (pe_op op_cat (pv 3) (pv 5)) (pa_cons (pe_op op_cat (pv 6) (pv 4)) pa_nil))))
      (pss_cons (ps_if (pt_cmpR (op_neD hr.units) (pe_callB (cr_sortG (val := Prod.fst) (enc := Prod.snd) hr.units) rfl B.n_sorted (by decide +kernel) (pa_cons (pv 10) pa_nil)) (pe_callB (cr_sortG (val := Prod.fst) (enc := Prod.snd) hr.units) rfl B.n_sorted (by decide +kernel) (pa_cons (pv 7) pa_nil)) (nomark _)) (
        (pss_one (ps_ret pe_bl))) pss_nil)
      (pss_cons (ps_if (pt_cmpR (op_ne) (pe_callB call_len_seq rfl B.n_len PySem.boot_len (pa_cons (pv 13) pa_nil)) (pe_callB call_len_seq rfl B.n_len PySem.boot_len (pa_cons (pe_op op_cat (pe_g c_longest_turned g (hr.mono (by decide)) pass0 (pa_cons (pv 3) (pa_cons (pv 4) pa_nil))) (pe_g c_longest_turned g (hr.mono (by decide)) pass0 (pa_cons (pv 5) (pa_cons (pv 6) pa_nil)))) pa_nil)) (nomark _)) (
        (pss_one (ps_ret pe_bl))) pss_nil)
      (pss_one (ps_ret (pe_cmpR (op_eq) (pe_callB call_len_seq rfl B.n_len PySem.boot_len (pa_cons (pe_g c_fewest_lots g (hr.mono (by decide)) pass0 (pa_cons (pe_op op_cat (pv 3) (pv 5)) (pa_cons (pe_op op_cat (pv 6) (pv 4)) pa_nil))) pa_nil)) (pe_callB call_len_seq rfl B.n_len PySem.boot_len (pa_cons (pv 13) pa_nil)) (nomark _)))))))))))))))), ?_⟩
  have bw := bz.perm two.pm
  have bv := bu.perm two.pm2
  have bzu := two.bk bz bu (by omega)
  refine ⟨.ref o, rfl, .ref mo, rfl, by show 2 ≤ sizeLine; decide, fun T0 n0 => ?_⟩
  have g0 : Grow [] H (upd H T0 (.tup [.ref o, .ref mo])) := grow_new n0
  refine ⟨T0, _, rfl, .inl (.inl upd_same), rfl, _, _, rfl, ?_⟩
  refine ⟨o, _, rfl, .inl (.inl (g0.tup (by simp) eo)), rfl, _, _, rfl, _, _, rfl, rfl, _, _, rfl, ?_⟩
  refine ⟨mo, _, rfl, .inl (.inl (g0.tup (by simp) emo)), rfl, _, _, rfl, _, _, rfl, rfl, rfl, ?_⟩
  have gr0 := g0
  generalize upd H T0 (HO.tup [V.ref o, V.ref mo]) = H0 at gr0 ⊢
  clear g0
  have fb : ∀ {H' : Hp}, Grow [] H H' → H' b = some (.lst (zs.map V.str)) := fun g => g.lst (by simp) eb
  have fO : ∀ {H' : Hp}, Grow [] H H' → H' O = some (.lst (ws.map V.str)) := fun g => g.lst (by simp) eO
  have fl : ∀ {H' : Hp}, Grow [] H H' → H' l = some (.lst (us.map V.str)) := fun g => g.lst (by simp) el
  have fy : ∀ {H' : Hp}, Grow [] H H' → H' y = some (.lst (vs.map V.str)) := fun g => g.lst (by simp) ey
  have lw : ws.length ≤ 6 := by rw [← two.pm.length_eq]; exact z6
  have lv : vs.length ≤ 6 := by rw [← two.pm2.length_eq]; exact u6
  have short : ∀ {as bs : List Str}, as.length ≤ 6 → bs.length ≤ 6 → (as.map V.str).length + (bs.map V.str).length ≤ sizeLine := fun h1 h2 => by
    rw [List.length_map, List.length_map]
    unfold sizeLine
    omega
  obtain ⟨pz, hpz⟩ : ∃ pz, prsTo (later ws) zs zs.length = pz := ⟨_, rfl⟩
  obtain ⟨pu, hpu⟩ : ∃ pu, prsTo (later vs) us us.length = pu := ⟨_, rfl⟩
  have lpz : pz.length ≤ 40000 := by rw [← hpz]; exact prs_len bz
  have lpu : pu.length ≤ 40000 := by rw [← hpu]; exact prs_len bu
  refine ⟨.ref b, rfl, .ref O, rfl, b, O, zs, ws, rfl, gr0.tabs _ t1, gr0.tabs _ tT, .inl (.inl (fb gr0)), .inl (.inl (fO gr0)), bz, two.pm, fun D1 H1 f1 g1 h1 => ?_⟩
  have gr1 := gr0.trans g1
  refine ⟨.ref l, rfl, .ref y, rfl, l, y, us, vs, rfl, gr1.tabs _ t1, gr1.tabs _ tT, .inl (.inl (fl gr1)), .inl (.inl (fy gr1)), bu, two.pm2, fun D2 H2 f2 g2 h2 => ?_⟩
  rw [hpz] at h1
  rw [hpu] at h2
  obtain ⟨x1, e1, d1⟩ := h1.grow g2 (lists_none _) (by simp)
  obtain ⟨x2, e2, d2⟩ := id h2
  refine ⟨D1, D2, _, _, rfl, rfl, e1, e2, by rw [d1.length, d2.length, List.length_map, List.length_map]; unfold sizeLine; omega, fun P1 nP1 => ?_⟩
  have gP : Grow [] H2 (upd H2 P1 (.lst (x1 ++ x2))) := grow_new nP1
  have hP : LstT K (upd H2 P1 (.lst (x1 ++ x2))) P1 ((pz ++ pu).map encP) := by
    refine ⟨_, upd_same, ?_⟩
    rw [List.map_append]
    exact (d1.grow gP (lists_none _)).app (d2.grow gP (lists_none _))
  have gr3 := (gr1.trans g2).trans gP
  clear gP
  generalize upd H2 P1 (HO.lst (x1 ++ x2)) = H3 at gr3 hP ⊢
  -- the pairs of both
  refine ⟨.ref b, rfl, .ref l, rfl, b, l, _, _, rfl, rfl, fb gr3, fl gr3, short z6 u6, fun Z1 nZ1 => ⟨.ref O, rfl, .ref y, rfl, O, y, _, _, rfl, rfl, fO (gr3.new nZ1), fy (gr3.new nZ1), short lw lv, fun Z2 nZ2 => ?_⟩⟩
  obtain ⟨gZ, eZ1, eZ2⟩ := two_lists (o2 := .lst (ws.map V.str ++ vs.map V.str)) nZ1 nZ2
  have hP4 := hP.grow gZ (lists_none _) (by simp)
  have gr4 := gr3.trans gZ
  clear gZ
  generalize upd (upd H3 Z1 (HO.lst (zs.map V.str ++ us.map V.str))) Z2 (HO.lst (ws.map V.str ++ vs.map V.str)) = H4 at gr4 eZ1 eZ2 hP4 ⊢
  rw [← List.map_append] at eZ1 eZ2
  refine ⟨Z1, Z2, zs ++ us, ws ++ vs, rfl, gr4.tabs _ t1, gr4.tabs _ tT, .inl (.inl eZ1), .inl (.inl eZ2), bzu, two.perm, fun D3 H5 f3 g5 h3 => ?_⟩
  rw [two.prs, hpz, hpu] at h3
  have hP5 := hP4.grow g5 (lists_none _) (by simp)
  have nmP : ∀ p ∈ pz ++ pu, isNm p.1 = true ∧ isNm p.2 = true := fun p hp => by
    rcases List.mem_append.mp hp with h | h
    · exact prs_nm (ws := ws) bz p (by rw [hpz]; exact h)
    · exact prs_nm (ws := vs) bu p (by rw [hpu]; exact h)
  have lenP : (pz ++ pu).length ≤ 40000 := by
    rw [← hpz, ← hpu, ← two.prs]
    exact prs_len bzu
  have f4 := fine_pairs nmP lenP
  refine ⟨.ref P1, rfl, _, _, h3.dp, hP5.dp, f4.shaped (by decide), f4.shaped (by decide), ?_⟩
  rw [f4.eqv]
  refine ⟨false, rfl, iteF ?_⟩
  have gr5 := gr4.trans g5
  -- the roads of both
  refine ⟨.ref b, rfl, .ref O, rfl, b, O, zs, ws, rfl, gr5.tabs _ t1, gr5.tabs _ tT, .inl (.inl (fb gr5)), .inl (.inl (fO gr5)), bz, two.pm, fun H6 g6 => ?_⟩
  have gr6 := gr5.trans g6
  refine ⟨.ref l, rfl, .ref y, rfl, l, y, us, vs, rfl, gr6.tabs _ t1, gr6.tabs _ tT, .inl (.inl (fl gr6)), .inl (.inl (fy gr6)), bu, two.pm2, fun H7 g7 => ?_⟩
  rw [least_eq, least_eq]
  refine ⟨_, _, rfl, ?_⟩
  have gr7 := gr6.trans g7
  obtain ⟨most, hmost⟩ : ∃ m : Nat, (if ((topN vs us - 1 : Nat) : Int) > ((topN ws zs - 1 : Nat) : Int) then ((topN vs us - 1 : Nat) : Int) else ((topN ws zs - 1 : Nat) : Int)) = (m : Int) ∧ m = max (topN ws zs) (topN vs us) - 1 := ⟨_, by split <;> omega, rfl⟩
  rw [hmost.1]
  refine ⟨.ref b, rfl, .ref l, rfl, b, l, _, _, rfl, rfl, fb gr7, fl gr7, short z6 u6, fun Z3 nZ3 => ⟨.ref O, rfl, .ref y, rfl, O, y, _, _, rfl, rfl, fO (gr7.new nZ3), fy (gr7.new nZ3), short lw lv, fun Z4 nZ4 => ?_⟩⟩
  obtain ⟨gZ, eZ3, eZ4⟩ := two_lists (o2 := .lst (ws.map V.str ++ vs.map V.str)) nZ3 nZ4
  have gr8 := gr7.trans gZ
  have g38 := ((g5.trans g6).trans g7).trans gZ
  clear gZ
  generalize upd (upd H7 Z3 (HO.lst (zs.map V.str ++ us.map V.str))) Z4 (HO.lst (ws.map V.str ++ vs.map V.str)) = H8 at gr8 g38 eZ3 eZ4 ⊢
  rw [← List.map_append] at eZ3 eZ4
  refine ⟨Z3, Z4, zs ++ us, ws ++ vs, rfl, gr8.tabs _ t1, gr8.tabs _ tT, .inl (.inl eZ3), .inl (.inl eZ4), bzu, two.perm, fun H9 g9 => ?_⟩
  rw [least_eq, two.top, ← hmost.2]
  refine ⟨.int (most : Nat), rfl, rfl, ?_⟩
  rw [decide_eq_true rfl]
  refine ⟨false, rfl, iteF ?_⟩
  have gr9 := gr8.trans g9
  have g39 := g38.trans g9
  -- how many numberings
  refine ⟨.ref b, rfl, .ref O, rfl, .int (r : Nat), rfl, b, O, zs, ws, r, rfl, gr9.tabs _ t1, gr9.tabs _ tT, fb gr9, fO gr9, bz, two.pm, by omega, by omega, fun H10 g10 => ?_⟩
  have gr10 := gr9.trans g10
  refine ⟨.ref l, rfl, .ref y, rfl, .int (r : Nat), rfl, l, y, us, vs, r, rfl, gr10.tabs _ t1, gr10.tabs _ tT, fl gr10, fy gr10, bu, two.pm2, by omega, by omega, fun H11 g11 => ?_⟩
  have s1 : ((numbN zs ws r : Nat) : Int).natAbs < 2 ^ 60 := numb_le bz.nd z6 r100
  have s2 : ((numbN us vs r : Nat) : Int).natAbs < 2 ^ 60 := numb_le bu.nd u6 r100
  refine ⟨_, _, rfl, rfl, wide_mul s1 s2 (by decide) (by decide) (by decide), ?_⟩
  have gr11 := gr10.trans g11
  refine ⟨.ref b, rfl, .ref l, rfl, b, l, _, _, rfl, rfl, fb gr11, fl gr11, short z6 u6, fun Z5 nZ5 => ⟨.ref O, rfl, .ref y, rfl, O, y, _, _, rfl, rfl, fO (gr11.new nZ5), fy (gr11.new nZ5), short lw lv, fun Z6 nZ6 => ?_⟩⟩
  obtain ⟨gZ, eZ5, eZ6⟩ := two_lists (o2 := .lst (ws.map V.str ++ vs.map V.str)) nZ5 nZ6
  have gr12 := gr11.trans gZ
  have g312 := ((g39.trans g10).trans g11).trans gZ
  clear gZ
  generalize upd (upd H11 Z5 (HO.lst (zs.map V.str ++ us.map V.str))) Z6 (HO.lst (ws.map V.str ++ vs.map V.str)) = H12 at gr12 g312 eZ5 eZ6 ⊢
  rw [← List.map_append] at eZ5 eZ6
  refine ⟨.int (r : Nat), rfl, Z5, Z6, zs ++ us, ws ++ vs, r, rfl, gr12.tabs _ t1, gr12.tabs _ tT, eZ5, eZ6, bzu, two.perm, by rw [List.length_append]; omega, by omega, fun H13 g13 => ?_⟩
  rw [two.numb, Int.natCast_mul]
  refine ⟨_, rfl, rfl, ?_⟩
  rw [decide_eq_true rfl]
  refine ⟨false, rfl, iteF ?_⟩
  have gr13 := gr12.trans g13
  have hP13 := hP4.grow (g312.trans g13) (lists_none _) (by simp)
  -- crossed
  refine ⟨.ref b, rfl, .ref l, rfl, b, l, _, _, rfl, rfl, fb gr13, fl gr13, short z6 u6, fun Z7 nZ7 => ⟨.ref y, rfl, .ref O, rfl, y, O, _, _, rfl, rfl, fy (gr13.new nZ7), fO (gr13.new nZ7), short lv lw, fun Z8 nZ8 => ?_⟩⟩
  obtain ⟨gZ, eZ7, eZ8⟩ := two_lists (o2 := .lst (vs.map V.str ++ ws.map V.str)) nZ7 nZ8
  have gr14 := gr13.trans gZ
  have hP14 := hP13.grow gZ (lists_none _) (by simp)
  clear gZ
  generalize upd (upd H13 Z7 (HO.lst (zs.map V.str ++ us.map V.str))) Z8 (HO.lst (vs.map V.str ++ ws.map V.str)) = H14 at gr14 hP14 eZ7 eZ8 ⊢
  rw [← List.map_append] at eZ7 eZ8
  refine ⟨Z7, Z8, zs ++ us, vs ++ ws, rfl, gr14.tabs _ t1, gr14.tabs _ tT, .inl (.inl eZ7), .inl (.inl eZ8), bzu, two.perm2, fun Dc H15 fDc g15 hC => ?_⟩
  have gr15 := gr14.trans g15
  have hP15 := hP14.grow g15 (lists_none _) (by simp)
  refine ⟨.ref b, rfl, b, rfl, ⟨_, .inl (.inl (fb gr15))⟩, ?_⟩
  have lall : ∀ i, (allTwo (zs.take i) us).length ≤ 36 := fun i => by
    unfold allTwo
    rw [flat_const (c := us.length) fun a _ => List.length_map _, List.length_take]
    have : min i zs.length * us.length ≤ 6 * 6 := Nat.mul_le_mul (by omega) u6
    omega
  refine for_it (walk_list (xs := zs.map V.str)) (fun i σ H' => ∃ (M : Addr) (x11 : Option V), σ = [some (.ref o), some (.ref mo), some (.int (r : Nat)), some (.ref b), some (.ref O), some (.ref l), some (.ref y), some (.ref M), some (.int (most : Nat)), some (.int (((numbN zs ws r : Nat) : Int) * (numbN us vs r : Nat))), some (.ref Dc), x11, none, none] ∧ Grow [] H15 H' ∧ LstT K H' M ((pz ++ pu ++ allTwo (zs.take i) us).map encP))
    ⟨P1, _, rfl, Grow.refl _ _, by rw [show allTwo (zs.take 0) us = [] from rfl, List.append_nil]; exact hP15⟩ (fun i σ H' _ h => by
      obtain ⟨_, _, _, g, _⟩ := h
      exact .inl (.inl (fb (gr15.trans g)))) (fun i x σ H16 H17 hi hp hy => ?_) (fun σ H16 hp => ?_)
  · obtain ⟨M, x11, rfl, gr, hM⟩ := hp
    obtain ⟨rfl, ex⟩ := hy
    rw [List.length_map] at hi
    rw [List.getElem?_map, getD_in hi] at ex
    cases ex
    obtain ⟨a, ha⟩ : ∃ a, zs.getD i Str.empty = a := ⟨_, rfl⟩
    rw [ha]
    have tk : zs.take (i + 1) = zs.take i ++ [a] := by rw [List.take_add_one, getD_in hi, ha]; rfl
    obtain ⟨ms, eM, tM⟩ := id hM
    refine ⟨.ref M, rfl, .ref l, rfl, l, rfl, ⟨_, .inl (.inl (fl (gr15.trans gr)))⟩, fun D6 n6 => ?_⟩
    refine lc_it (walk_list (xs := us.map V.str)) (fun j H' => Grow [] H17 H' ∧ LstT K H' D6 (((us.take j).map fun b => (a, b)).map encP)) ⟨grow_new n6, [], upd_same, .nil⟩
      (fun j H' _ h => .inl (.inl (fl ((gr15.trans gr).trans h.1)))) (fun j x H18 H19 hj hp2 hy2 => ?_) (fun H18 hp2 => ?_)
    · obtain ⟨gj, hD⟩ := hp2
      obtain ⟨rfl, ex⟩ := hy2
      rw [List.length_map] at hj
      rw [List.getElem?_map, getD_in hj] at ex
      cases ex
      obtain ⟨u, hu⟩ : ∃ u, us.getD j Str.empty = u := ⟨_, rfl⟩
      rw [hu]
      refine ⟨rfl, yes_if ⟨.str a, rfl, .str u, rfl, by show 2 ≤ sizeLine; decide, fun p np => ?_⟩⟩
      have e5 : upd H19 p (.tup [.str a, .str u]) p = some (.tup [.str a, .str u]) := upd_same
      obtain ⟨acc, q1, q2, q3⟩ := hD.push (grow_new np) (DpT.tup (ds := [.str a, .str u]) e5 (.cons (dpT_str _) (.cons (dpT_str _) .nil)))
      refine ⟨acc, q1, ?_, (gj.new np).put (fresh_none n6) q1 (fun ps z => by cases z), ?_⟩
      · rw [q2, List.length_map, List.length_map, List.length_take]
        unfold sizeLine
        omega
      · rw [List.take_add_one, getD_in hj, hu, List.map_append, List.map_append]
        exact q3
    · obtain ⟨gj, hD⟩ := hp2
      rw [List.length_map, List.take_length] at hD
      obtain ⟨ms2, eM2, tM2⟩ := hM.grow gj (lists_none _) (by simp)
      obtain ⟨ds2, eD2, tD2⟩ := id hD
      have l6 := lall i
      refine ⟨M, D6, _, _, rfl, rfl, eM2, eD2, ?_, fun M2 nM2 => ?_⟩
      · rw [tM2.length, tD2.length, List.length_map, List.length_map, List.length_map, List.length_append]
        unfold sizeLine
        omega
      · have g2 : Grow [] H18 (upd H18 M2 (.lst (ms2 ++ ds2))) := grow_new nM2
        refine ⟨M2, _, rfl, (gr.trans gj).trans g2, _, upd_same, ?_⟩
        rw [tk, show allTwo (zs.take i ++ [a]) us = allTwo (zs.take i) us ++ us.map (fun b => (a, b)) by unfold allTwo; rw [List.flatMap_append, List.flatMap_cons, List.flatMap_nil, List.append_nil], ← List.append_assoc, List.map_append]
        exact (tM2.grow g2 (lists_none _)).app (tD2.grow g2 (lists_none _))
  · obtain ⟨M, x11, rfl, gr, hM⟩ := hp
    rw [List.length_map, List.take_length] at hM
    have gr16 := gr15.trans gr
    have hC16 := hC.grow gr (lists_none _) (by simp)
    have perm := two.crossed
    rw [hpz, hpu] at perm
    obtain ⟨px, hpx⟩ : ∃ px, prsTo (later (vs ++ ws)) (zs ++ us) (zs ++ us).length = px := ⟨_, rfl⟩
    have lpx : px.length ≤ 40000 := by rw [← hpx]; exact prs_len bzu
    have nmx : ∀ p ∈ px, isNm p.1 = true ∧ isNm p.2 = true := by rw [← hpx]; exact prs_nm bzu
    rw [hpx] at perm hC16
    -- the longest row
    refine ⟨.ref b, rfl, .ref l, rfl, b, l, _, _, rfl, rfl, fb gr16, fl gr16, short z6 u6, fun Z1 nZ1 => ⟨.ref y, rfl, .ref O, rfl, y, O, _, _, rfl, rfl, fy (gr16.new nZ1), fO (gr16.new nZ1), short lv lw, fun Z2 nZ2 => ?_⟩⟩
    obtain ⟨gZ, eZ1, eZ2⟩ := two_lists (o2 := .lst (vs.map V.str ++ ws.map V.str)) nZ1 nZ2
    have gr17 := gr16.trans gZ
    have hM17 := hM.grow gZ (lists_none _) (by simp)
    have hC17 := hC16.grow gZ (lists_none _) (by simp)
    clear gZ
    generalize upd (upd H16 Z1 (HO.lst (zs.map V.str ++ us.map V.str))) Z2 (HO.lst (vs.map V.str ++ ws.map V.str)) = H17 at gr17 hM17 hC17 eZ1 eZ2 ⊢
    rw [← List.map_append] at eZ1 eZ2
    refine ⟨Z1, Z2, zs ++ us, vs ++ ws, rfl, gr17.tabs _ t1, gr17.tabs _ tT, .inl (.inl eZ1), .inl (.inl eZ2), bzu, two.perm2, fun Rw H18 row fR g18 eR _ lrow => ?_⟩
    have gr18 := gr17.trans g18
    have lr : row.length = topN ws zs + topN vs us := by
      rw [← two.topX]
      have := topN_eq (vs ++ ws) (zs ++ us)
      omega
    -- sorted
    refine ⟨.ref Dc, rfl, ?_⟩
    dsimp only [tNil]
    refine sort_pairs (hC17.grow g18 (lists_none _) (by simp)) (by omega) fun p1 o1 np1 hp1 => ?_
    have gs1 : Grow [] H18 (upd H18 p1 o1) := grow_new np1
    refine ⟨.ref M, rfl, ?_⟩
    dsimp only [tNil]
    refine sort_pairs (((hM17.grow g18 (lists_none _) (by simp)).grow gs1 (lists_none _) (by simp))) (by rw [← perm.length_eq]; omega) fun p2 o2 np2 hp2 => ?_
    have hp1' := hp1.grow (grow_new (ex := []) (o := o2) np2) (lists_none _) (by simp)
    have gr19 := (gr18.trans gs1).new (o := o2) np2
    have eR19 := (gs1.new (o := o2) np2).lst (by simp) eR
    generalize upd (upd H18 p1 o1) p2 o2 = H19 at gr19 eR19 hp1' hp2 ⊢
    rw [sort_same perm fun a b => toks_pair] at hp1'
    have ff : Fine (.list (((pz ++ pu ++ allTwo zs us).mergeSort (PySem.W.dataLe false encP)).map encP)) 2 760000 := fine_pairs (fun p hp => nmx p (perm.mem_iff.mpr ((List.mergeSort_perm _ _).mem_iff.mp hp))) (by rw [List.length_mergeSort, ← perm.length_eq]; exact lpx)
    refine ⟨_, _, hp1'.dp, hp2.dp, ff.shaped (by decide), ff.shaped (by decide), ?_⟩
    rw [ff.eqv]
    refine ⟨false, rfl, iteF ?_⟩
    -- as many words as both rows
    refine ⟨.ref Rw, rfl, Rw, _, rfl, .inl (.inl (.inl eR19)), ?_⟩
    refine ⟨.ref b, rfl, .ref O, rfl, b, O, zs, ws, rfl, gr19.tabs _ t1, gr19.tabs _ tT, .inl (.inl (fb gr19)), .inl (.inl (fO gr19)), bz, two.pm, fun Ra H20 ra fRa g20 eRa _ la => ?_⟩
    have gr20 := gr19.trans g20
    refine ⟨.ref l, rfl, .ref y, rfl, l, y, us, vs, rfl, gr20.tabs _ t1, gr20.tabs _ tT, .inl (.inl (fl gr20)), .inl (.inl (fy gr20)), bu, two.pm2, fun Rb H21 rb fRb g21 eRb _ lb => ?_⟩
    have gr21 := gr20.trans g21
    have eRa21 := g21.lst (by simp) eRa
    have la' : ra.length = topN ws zs := by
      have := topN_eq ws zs
      omega
    have lb' : rb.length = topN vs us := by
      have := topN_eq vs us
      omega
    have ta := topN_le2 (ws := ws) bz.nd two.pm
    have tb := topN_le2 (ws := vs) bu.nd two.pm2
    refine ⟨Ra, Rb, _, _, rfl, rfl, eRa21, eRb, by rw [List.length_map, List.length_map]; unfold sizeLine; omega, fun Rc nRc => ?_⟩
    refine ⟨Rc, _, rfl, .inl (.inl (.inl upd_same)), rfl, ?_⟩
    rw [show decide (V.int (((row.map V.str).length : Nat) : Int) = V.int (((ra.map V.str ++ rb.map V.str).length : Nat) : Int)) = true from decide_eq_true (by rw [List.length_map, List.length_append, List.length_map, List.length_map, lr, la', lb'])]
    refine ⟨false, rfl, iteF ?_⟩
    have gr22 := gr21.new (o := .lst (ra.map V.str ++ rb.map V.str)) nRc
    have eR22 := ((g20.trans g21).new (o := .lst (ra.map V.str ++ rb.map V.str)) nRc).lst (by simp) eR19
    generalize upd H21 Rc (HO.lst (ra.map V.str ++ rb.map V.str)) = H22 at gr22 eR22 ⊢
    -- the fewest lots
    refine ⟨.ref b, rfl, .ref l, rfl, b, l, _, _, rfl, rfl, fb gr22, fl gr22, short z6 u6, fun Z3 nZ3 => ⟨.ref y, rfl, .ref O, rfl, y, O, _, _, rfl, rfl, fy (gr22.new nZ3), fO (gr22.new nZ3), short lv lw, fun Z4 nZ4 => ?_⟩⟩
    obtain ⟨gZ, eZ3, eZ4⟩ := two_lists (o2 := .lst (vs.map V.str ++ ws.map V.str)) nZ3 nZ4
    have gr23 := gr22.trans gZ
    have eR23 := gZ.lst (by simp) eR22
    clear gZ
    generalize upd (upd H22 Z3 (HO.lst (zs.map V.str ++ us.map V.str))) Z4 (HO.lst (vs.map V.str ++ ws.map V.str)) = H23 at gr23 eR23 eZ3 eZ4 ⊢
    rw [← List.map_append] at eZ3 eZ4
    refine ⟨Z3, Z4, zs ++ us, vs ++ ws, rfl, gr23.tabs _ t1, gr23.tabs _ tT, .inl (.inl eZ3), .inl (.inl eZ4), bzu, two.perm2, fun Df H24 as fDf g24 eDf _ _ hLL => ?_⟩
    refine ⟨Df, _, rfl, .inl (.inl (.inl eDf)), .ref Rw, rfl, Rw, _, rfl, .inl (.inl (.inl (g24.lst (by simp) eR23))), rfl, ?_⟩
    rw [show decide (V.int (((as.map V.ref).length : Nat) : Int) = V.int (((row.map V.str).length : Nat) : Int)) = true from decide_eq_true (by
      rw [List.length_map, List.length_map, hLL.len, lr, ← two.topX]
      unfold lotsTo
      rw [List.length_map, List.length_map, List.length_range])]
    exact q _ (gr23.trans g24)
end

end Lw

namespace Lw
open PySem PySem.Spec PyProof.Rows L2 GxR Gx
section
variable {P : Program} {w : World} {K : PySem.W.Frag} {mg : Str → Option Value} {base : Heap}
/-! ### _law_more_right -/
def quS : Str := "qu"
theorem quS_nm : isNm quS = true := by decide +kernel
theorem bk_front {zs : List Str} (bz : Bk zs) (hq : quS ∉ zs) (l : zs.length ≤ 100) : Bk ([quS] ++ zs) := ⟨by rw [List.all_append, bz.nm]; show (isNm quS && true) && true = true; rw [quS_nm]; rfl, List.nodup_cons.mpr ⟨hq, bz.nd⟩, by rw [List.length_append]; show 1 + _ ≤ 200; omega⟩
theorem bk_end {zs : List Str} (bz : Bk zs) (hq : quS ∉ zs) (l : zs.length ≤ 100) : Bk (zs ++ [quS]) := (bk_front bz hq l).perm List.perm_append_comm
theorem lot_nm {zs ws : List Str} (bz : Bk zs) : ∀ r ∈ lotsTo ws zs zs.length, r.all isNm = true ∧ r.length ≤ 200 := fun r hr => by
  unfold lotsTo at hr
  obtain ⟨k, _, rfl⟩ := List.mem_map.mp hr
  unfold lotAt
  rw [List.take_length]
  refine ⟨List.all_eq_true.mpr fun x hx => List.all_eq_true.mp bz.nm x (List.mem_filter.mp hx).1, ?_⟩
  have := List.length_filter_le (fun w => decide (rkW ws zs w = (k : Int) + 1)) zs
  have := bz.len
  omega
theorem lots_len {zs ws : List Str} : (lotsTo ws zs zs.length).length = topN ws zs := by unfold lotsTo; rw [List.length_map, List.length_range]
theorem fine_lists {rs : List (List Str)} (h : ∀ r ∈ rs, r.all isNm = true ∧ r.length ≤ 200) (l : rs.length ≤ 300) : Fine (.list (rs.map fun r => PyData.list (r.map PyData.str))) 2 600000 := Fine.list (n := 1) (m := 1800) (fun d hd => by
  obtain ⟨r, hr, rfl⟩ := List.mem_map.mp hd
  exact fine_names (h r hr).1 (h r hr).2) (by rw [List.length_map]; omega)
theorem calls_mir {zs : List Str} (bz : Bk zs) : Calls mirS zs := ⟨fun a ha b hb e => mirS_inj (List.all_eq_true.mp bz.nm a ha) (List.all_eq_true.mp bz.nm b hb) e⟩
theorem bk_mir {zs : List Str} (bz : Bk zs) : Bk (zs.map mirS) := ⟨by rw [List.all_map, List.all_eq_true]; exact fun x hx => mirS_nm (List.all_eq_true.mp bz.nm x hx), (calls_mir bz).nd bz.nd, by rw [List.length_map]; exact bz.len⟩
def spMoreR (K : PySem.W.Frag) (T1 T : Addr) : Sp := fun ar H Q _ => ∃ (b O : Addr) (zs ws : List Str), ar = [.ref b, .ref O] ∧ TabG H T1 ∧ TabG H T ∧ H b = some (.lst (zs.map V.str)) ∧ H O = some (.lst (ws.map V.str)) ∧ Bk zs ∧ zs.Perm ws ∧ quS ∉ zs ∧ zs.length ≤ 100 ∧
  ∀ (H' : Hp), Grow [] H H' → Q (.bl true) H'
theorem ok_law_more_right {f c T1 T : Addr} {fd : FuncData} (B : Nb mg) (D : DefIs K "_law_more_right" "_law_more_right" st_law_more_right f fd (.ref c))
    (c_turned_pairs : Callee P w K mg base CX0 11 "turned_pairs" ["book", "other"] (spTurned K T1 T)) (c_fewest_lots : Callee P w K mg base CX0 11 "fewest_lots" ["book", "other"] (spFewest K T1 T))
    (c_law_called : Callee P w K mg base CX0 1 "_law_called" ["book"] (spCalled K)) : FnG P w K mg base CX0 12 f fd ["book", "other"] (spMoreR K T1 T) := by
  refine D.ok0 (k := 11) sc_law_more_right (fun vs H Q E h => ?_) (fun A outer s H ar Q E g hr h => ?_)
  · obtain ⟨b, O, zs, ws, rfl, _⟩ := h
    rfl
  obtain ⟨b, O, zs, ws, rfl, t1, tT, eb, eO, bz, pm, hq, z100, q⟩ := h
  refine ⟨_,
      (pss_cons (ps_set (i := 2) sc_law_more_right.nd rfl (.inl rfl) (pe_g c_turned_pairs g (hr.mono (by decide)) pass0 (pa_cons (pv 0) (pa_cons (pv 1) pa_nil))))
      (pss_cons (ps_set (i := 3) sc_law_more_right.nd rfl (.inl rfl) (pe_g c_fewest_lots g (hr.mono (by decide)) pass0 (pa_cons (pv 0) (pa_cons (pv 1) pa_nil))))
      (pss_cons (ps_set (i := 4) sc_law_more_right.nd rfl (.inl rfl) (pe_lst (pa_cons (pe_g c_turned_pairs g (hr.mono (by decide)) pass0 (pa_cons (pe_op op_cat (pe_lst (pa_cons pe_str pa_nil)) (pv 0)) (pa_cons (pe_op op_cat (pe_lst (pa_cons pe_str pa_nil)) (pv 1)) pa_nil))) (pa_cons (pe_g c_turned_pairs g (hr.mono (by decide)) pass0 (pa_cons (pe_op op_cat (pv 0) (pe_lst (pa_cons pe_str pa_nil))) (pa_cons (pe_op op_cat (pv 1) (pe_lst (pa_cons pe_str pa_nil))) pa_nil))) pa_nil))))
      (pss_cons (ps_if (pt_cmpR (op_neD hr.units) (pv 4) (pe_lst (pa_cons (pv 2) (pa_cons (pv 2) pa_nil))) (nomark _)) (
        (pss_one (ps_ret pe_bl))) pss_nil)
      (pss_cons (ps_if (pt_cmpR (op_neD hr.units) (pe_g c_turned_pairs g (hr.mono (by decide)) pass0 (pa_cons (pe_op op_cat (pe_lst (pa_cons pe_str pa_nil)) (pv 0)) (pa_cons (pe_op op_cat (pv 1) (pe_lst (pa_cons pe_str pa_nil))) pa_nil))) (pe_op op_cat (pe_lc (own := [("word", 5)]) (tt := tYes) (g := (gName 5)) rfl sc_law_more_right.nd (pi_list (pv 0)) (blkOk_by (N := N_law_more_right) (sc := defScope st_law_more_right) (by decide +kernel)) (fun _ _ _ _ _ => (pg_name (i := 5) sc_law_more_right.nd rfl (.inl rfl))) (fun _ _ _ _ _ => pts_nil) (fun _ _ _ _ _ => pe_to (pe_tup (pa_cons pe_str (pa_cons (pv 5) pa_nil))))) (pv 2)) (nomark _)) (
        (pss_one (ps_ret pe_bl))) pss_nil)
      (pss_cons (ps_if (pt_cmpR (op_neD hr.units) (pe_g c_fewest_lots g (hr.mono (by decide)) pass0 (pa_cons (pe_op op_cat (pe_lst (pa_cons pe_str pa_nil)) (pv 0)) (pa_cons (pe_op op_cat (pv 1) (pe_lst (pa_cons pe_str pa_nil))) pa_nil))) (pe_op op_cat (pe_lst (pa_cons (pe_lst (pa_cons pe_str pa_nil)) pa_nil)) (pv 3)) (nomark _)) (
        (pss_one (ps_ret pe_bl))) pss_nil)
      (pss_cons (ps_if (pt_cmpR (op_neD hr.units) (pe_g c_turned_pairs g (hr.mono (by decide)) pass0 (pa_cons (pe_g c_law_called g (hr.mono (by decide)) pass0 (pa_cons (pv 0) pa_nil)) (pa_cons (pe_g c_law_called g (hr.mono (by decide)) pass0 (pa_cons (pv 1) pa_nil)) pa_nil))) (pe_lc (own := [("pair", 6)]) (tt := tYes) (g := (gName 6)) rfl sc_law_more_right.nd (pi_list (pv 2)) (blkOk_by (N := N_law_more_right) (sc := defScope st_law_more_right) (by decide +kernel)) (fun _ _ _ _ _ => (pg_name (i := 6) sc_law_more_right.nd rfl (.inl rfl))) (fun _ _ _ _ _ => pts_nil) (fun _ _ _ _ _ => pe_to (pe_callTy call_tuple_of rfl B.n_tuple (by decide +kernel) (pa_cons (pe_g c_law_called g (hr.mono (by decide)) pass0 (pa_cons (pe_callTy call_list_of rfl B.n_list (by decide +kernel) (pa_cons (pv 6) pa_nil)) pa_nil)) pa_nil)))) (nomark _)) (
        (pss_one (ps_ret pe_bl))) pss_nil)
      (pss_cons (ps_if (pt_cmpR (op_neD hr.units) (pe_g c_fewest_lots g (hr.mono (by decide)) pass0 (pa_cons (pe_g c_law_called g (hr.mono (by decide)) pass0 (pa_cons (pv 0) pa_nil)) (pa_cons (pe_g c_law_called g (hr.mono (by decide)) pass0 (pa_cons (pv 1) pa_nil)) pa_nil))) (pe_lc (own := [("lot", 7)]) (tt := tYes) (g := (gName 7)) rfl sc_law_more_right.nd (pi_list (pv 3)) (blkOk_by (N := N_law_more_right) (sc := defScope st_law_more_right) (by decide +kernel)) (fun _ _ _ _ _ => (pg_name (i := 7) sc_law_more_right.nd rfl (.inl rfl))) (fun _ _ _ _ _ => pts_nil) (fun _ _ _ _ _ => pe_to (pe_g c_law_called g (hr.mono (by decide)) pass0 (pa_cons (pv 7) pa_nil)))) (nomark _)) (
        (pss_one (ps_ret pe_bl))) pss_nil)
      (pss_cons (ps_set (i := 8) sc_law_more_right.nd rfl (.inl rfl) (pe_g c_turned_pairs g (hr.mono (by decide)) pass0 (pa_cons (pe_revL (pv 0)) (pa_cons (pe_revL (pv 1)) pa_nil))))
      (pss_one (ps_ret (pe_cmpR (op_eqD hr.units) (pe_callB (cr_sortG (val := Prod.fst) (enc := Prod.snd) hr.units) rfl B.n_sorted (by decide +kernel) (pa_cons (pe_lc (own := [("b", 9), ("a", 10)]) (tt := tYes) (g := (gTup _ 2 (gCons (gName 9) (gCons (gName 10) gNil)))) rfl sc_law_more_right.nd (pi_list (pv 8)) (blkOk_by (N := N_law_more_right) (sc := defScope st_law_more_right) (by decide +kernel)) (fun _ _ _ _ _ => (pg_tup rfl (pgs_cons (pg_name (i := 9) sc_law_more_right.nd rfl (.inl rfl)) (pgs_cons (pg_name (i := 10) sc_law_more_right.nd rfl (.inl rfl)) pgs_nil)))) (fun _ _ _ _ _ => pts_nil) (fun _ _ _ _ _ => pe_to (pe_tup (pa_cons (pv 10) (pa_cons (pv 9) pa_nil))))) pa_nil)) (pe_callB (cr_sortG (val := Prod.fst) (enc := Prod.snd) hr.units) rfl B.n_sorted (by decide +kernel) (pa_cons (pv 2) pa_nil)) (nomark _))))))))))))), ?_⟩
  have bw := bz.perm pm
  have hqw : quS ∉ ws := fun z => hq (pm.mem_iff.mpr z)
  have fb : ∀ {H' : Hp}, Grow [] H H' → H' b = some (.lst (zs.map V.str)) := fun g => g.lst (by simp) eb
  have fO : ∀ {H' : Hp}, Grow [] H H' → H' O = some (.lst (ws.map V.str)) := fun g => g.lst (by simp) eO
  have lw : ws.length ≤ 100 := by rw [← pm.length_eq]; exact z100
  obtain ⟨pz, hpz⟩ : ∃ pz, prsTo (later ws) zs zs.length = pz := ⟨_, rfl⟩
  have lpz : pz.length ≤ 40000 := by rw [← hpz]; exact prs_len bz
  have nmz : ∀ p ∈ pz, isNm p.1 = true ∧ isNm p.2 = true := by rw [← hpz]; exact prs_nm bz
  have fz := fine_pairs nmz lpz
  refine ⟨.ref b, rfl, .ref O, rfl, b, O, zs, ws, rfl, t1, tT, .inl (.inl eb), .inl (.inl eO), bz, pm, fun P0 H1 f1 g1 h1 => ?_⟩
  rw [hpz] at h1
  refine ⟨.ref b, rfl, .ref O, rfl, b, O, zs, ws, rfl, g1.tabs _ t1, g1.tabs _ tT, .inl (.inl (fb g1)), .inl (.inl (fO g1)), bz, pm, fun Lo H2 las fLo g2 eLo ndL faL hLL => ?_⟩
  have gr2 := g1.trans g2
  have h2 := h1.grow g2 (lists_none _) (by simp)
  have z1 : ∀ {xs : List Str}, xs.length ≤ 100 → [V.str quS].length + (xs.map V.str).length ≤ sizeLine := fun h => by
    rw [List.length_map]
    show 1 + _ ≤ sizeLine
    unfold sizeLine
    omega
  have z2 : ∀ {xs : List Str}, xs.length ≤ 100 → (xs.map V.str).length + [V.str quS].length ≤ sizeLine := fun h => by
    rw [List.length_map]
    show _ + 1 ≤ sizeLine
    unfold sizeLine
    omega
  have P0e : ∀ {H' : Hp}, Grow [] H2 H' → LstT K H' P0 (pz.map encP) := fun g => h2.grow g (lists_none _) (by simp)
  -- a word at the front of both
  refine ⟨by show 1 ≤ sizeLine; decide, fun A1 n1 => ⟨.ref b, rfl, A1, b, _, _, rfl, rfl, upd_same, fb (gr2.new n1), z1 z100, fun Z1 nZ1 => ?_⟩⟩
  obtain ⟨gA, _, eZ1⟩ := two_lists (o2 := .lst ([V.str "qu"] ++ zs.map V.str)) n1 nZ1
  generalize upd (upd H2 A1 (HO.lst [V.str "qu"])) Z1 (HO.lst ([V.str "qu"] ++ zs.map V.str)) = H3 at gA eZ1 ⊢
  replace eZ1 : H3 Z1 = some (HO.lst (([quS] ++ zs).map V.str)) := eZ1
  have gr3 := gr2.trans gA
  refine ⟨by show 1 ≤ sizeLine; decide, fun A2 n2 => ⟨.ref O, rfl, A2, O, _, _, rfl, rfl, upd_same, fO (gr3.new n2), z1 lw, fun Z2 nZ2 => ?_⟩⟩
  obtain ⟨gB, _, eZ2⟩ := two_lists (o2 := .lst ([V.str "qu"] ++ ws.map V.str)) n2 nZ2
  generalize upd (upd H3 A2 (HO.lst [V.str "qu"])) Z2 (HO.lst ([V.str "qu"] ++ ws.map V.str)) = H4 at gB eZ2 ⊢
  replace eZ2 : H4 Z2 = some (HO.lst (([quS] ++ ws).map V.str)) := eZ2
  have gr4 := gr3.trans gB
  refine ⟨Z1, Z2, [quS] ++ zs, [quS] ++ ws, rfl, gr4.tabs _ t1, gr4.tabs _ tT, .inl (.inl (gB.lst (by simp) eZ1)), .inl (.inl eZ2), bk_front bz hq z100, (List.Perm.refl [quS]).append pm, fun D1 H5 f5 g5 h5 => ?_⟩
  rw [prs_front bz.nd pm hq, hpz] at h5
  have gr5 := gr4.trans g5
  have g25 := (gA.trans gB).trans g5
  -- at the end of both
  refine ⟨.ref b, rfl, by show 1 ≤ sizeLine; decide, fun A3 n3 => ⟨b, A3, _, _, rfl, rfl, fb (gr5.new n3), upd_same, z2 z100, fun Z3 nZ3 => ?_⟩⟩
  obtain ⟨gC, _, eZ3⟩ := two_lists (o2 := .lst (zs.map V.str ++ [V.str "qu"])) n3 nZ3
  generalize upd (upd H5 A3 (HO.lst [V.str "qu"])) Z3 (HO.lst (zs.map V.str ++ [V.str "qu"])) = H6 at gC eZ3 ⊢
  replace eZ3 : H6 Z3 = some (HO.lst (zs.map V.str ++ [quS].map V.str)) := eZ3
  rw [← List.map_append] at eZ3
  have gr6 := gr5.trans gC
  refine ⟨.ref O, rfl, by show 1 ≤ sizeLine; decide, fun A4 n4 => ⟨O, A4, _, _, rfl, rfl, fO (gr6.new n4), upd_same, z2 lw, fun Z4 nZ4 => ?_⟩⟩
  obtain ⟨gD, _, eZ4⟩ := two_lists (o2 := .lst (ws.map V.str ++ [V.str "qu"])) n4 nZ4
  generalize upd (upd H6 A4 (HO.lst [V.str "qu"])) Z4 (HO.lst (ws.map V.str ++ [V.str "qu"])) = H7 at gD eZ4 ⊢
  replace eZ4 : H7 Z4 = some (HO.lst (ws.map V.str ++ [quS].map V.str)) := eZ4
  rw [← List.map_append] at eZ4
  have gr7 := gr6.trans gD
  refine ⟨Z3, Z4, zs ++ [quS], ws ++ [quS], rfl, gr7.tabs _ t1, gr7.tabs _ tT, .inl (.inl (gD.lst (by simp) eZ3)), .inl (.inl eZ4), bk_end bz hq z100, pm.append (List.Perm.refl [quS]), fun D2 H8 f8 g8 h8 => ?_⟩
  rw [prs_end bz.nd pm hq, hpz] at h8
  have gr8 := gr7.trans g8
  have g28 := ((g25.trans gC).trans gD).trans g8
  have h5' := h5.grow ((gC.trans gD).trans g8) (lists_none _) (by simp)
  clear gA gB gC gD eZ1 eZ2 eZ3 eZ4 h5
  refine ⟨by show 2 ≤ sizeLine; decide, fun E1 nE1 => ⟨.ref E1, rfl, .ref P0, rfl, .ref P0, rfl, by show 2 ≤ sizeLine; decide, fun E2 nE2 => ?_⟩⟩
  obtain ⟨gE, eE1, eE2⟩ := two_lists (o2 := .lst [.ref P0, .ref P0]) nE1 nE2
  have f2 : Fine (.list [.list (pz.map encP), .list (pz.map encP)]) 3 2000000 := Fine.list (n := 2) (m := 760000) (fun d hd => by
    rcases List.mem_cons.mp hd with rfl | hd
    · exact fz
    · rw [List.mem_singleton.mp hd]
      exact fz) (by show 2 * (760000 + 1) ≤ _; decide)
  have d1 := (h5'.grow gE (lists_none _) (by simp)).dp
  have d2 := (h8.grow gE (lists_none _) (by simp)).dp
  have d3 := (P0e (g28.trans gE)).dp
  refine ⟨_, _, .lst (.inl (.inl eE1)) (.cons d1 (.cons d2 .nil)), .lst (.inl (.inl eE2)) (.cons d3 (.cons d3 .nil)), f2.shaped (by decide), f2.shaped (by decide), ?_⟩
  rw [f2.eqv]
  refine ⟨false, rfl, iteF ?_⟩
  have gr9 := gr8.trans gE
  have g29 := g28.trans gE
  clear d1 d2 d3 eE1 eE2 h5' h8
  generalize upd (upd H8 E1 (HO.lst [V.ref D1, V.ref D2])) E2 (HO.lst [V.ref P0, V.ref P0]) = H9 at gr9 g29 ⊢
  clear gE
  -- at the front of the one, the end of the other
  refine ⟨by show 1 ≤ sizeLine; decide, fun A1 n1 => ⟨.ref b, rfl, A1, b, _, _, rfl, rfl, upd_same, fb (gr9.new n1), z1 z100, fun Z1 nZ1 => ?_⟩⟩
  obtain ⟨gA, _, eZ1⟩ := two_lists (o2 := .lst ([V.str "qu"] ++ zs.map V.str)) n1 nZ1
  generalize upd (upd H9 A1 (HO.lst [V.str "qu"])) Z1 (HO.lst ([V.str "qu"] ++ zs.map V.str)) = H10 at gA eZ1 ⊢
  replace eZ1 : H10 Z1 = some (HO.lst (([quS] ++ zs).map V.str)) := eZ1
  have gr10 := gr9.trans gA
  refine ⟨.ref O, rfl, by show 1 ≤ sizeLine; decide, fun A4 n4 => ⟨O, A4, _, _, rfl, rfl, fO (gr10.new n4), upd_same, z2 lw, fun Z4 nZ4 => ?_⟩⟩
  obtain ⟨gD, _, eZ4⟩ := two_lists (o2 := .lst (ws.map V.str ++ [V.str "qu"])) n4 nZ4
  generalize upd (upd H10 A4 (HO.lst [V.str "qu"])) Z4 (HO.lst (ws.map V.str ++ [V.str "qu"])) = H11 at gD eZ4 ⊢
  replace eZ4 : H11 Z4 = some (HO.lst (ws.map V.str ++ [quS].map V.str)) := eZ4
  rw [← List.map_append] at eZ4
  have gr11 := gr10.trans gD
  have pmx : ([quS] ++ zs).Perm (ws ++ [quS]) := ((List.Perm.refl [quS]).append pm).trans List.perm_append_comm
  refine ⟨Z1, Z4, [quS] ++ zs, ws ++ [quS], rfl, gr11.tabs _ t1, gr11.tabs _ tT, .inl (.inl (gD.lst (by simp) eZ1)), .inl (.inl eZ4), bk_front bz hq z100, pmx, fun D3 H12 f12 g12 h12 => ?_⟩
  have nmx := prs_nm (ws := ws ++ [quS]) (bk_front bz hq z100)
  have lmx := prs_len (ws := ws ++ [quS]) (bk_front bz hq z100)
  rw [prs_across bz.nd pm hq, hpz] at h12 nmx lmx
  have gr12 := gr11.trans g12
  have g212 := ((g29.trans gA).trans gD).trans g12
  clear gA gD eZ1 eZ4
  refine ⟨.ref b, rfl, b, rfl, ⟨_, .inl (.inl (fb gr12))⟩, fun L1 nL1 => ?_⟩
  refine lc_it (walk_list (xs := zs.map V.str)) (fun j H' => Grow [] H12 H' ∧ LstT K H' L1 (((zs.take j).map fun z => (quS, z)).map encP)) ⟨grow_new nL1, [], upd_same, .nil⟩
    (fun j H' _ h => .inl (.inl (fb (gr12.trans h.1)))) (fun j x H13 H14 hj hp hy => ?_) (fun H13 hp => ?_)
  · obtain ⟨gj, hD⟩ := hp
    obtain ⟨rfl, ex⟩ := hy
    rw [List.length_map] at hj
    rw [List.getElem?_map, getD_in hj] at ex
    cases ex
    obtain ⟨z, hz⟩ : ∃ z, zs.getD j Str.empty = z := ⟨_, rfl⟩
    rw [hz]
    refine ⟨rfl, yes_if ⟨.str z, rfl, by show 2 ≤ sizeLine; decide, fun p np => ?_⟩⟩
    have e5 : upd H14 p (.tup [.str quS, .str z]) p = some (.tup [.str quS, .str z]) := upd_same
    obtain ⟨acc, q1, q2, q3⟩ := hD.push (grow_new np) (DpT.tup (ds := [.str quS, .str z]) e5 (.cons (dpT_str _) (.cons (dpT_str _) .nil)))
    refine ⟨acc, q1, ?_, (gj.new np).put (fresh_none nL1) q1 (fun ps z => by cases z), ?_⟩
    · rw [q2, List.length_map, List.length_map, List.length_take]
      unfold sizeLine
      omega
    · rw [List.take_add_one, getD_in hj, hz, List.map_append, List.map_append]
      exact q3
  obtain ⟨g13, hD⟩ := hp
  rw [List.length_map, List.take_length] at hD
  obtain ⟨x1, e1, d1⟩ := id hD
  obtain ⟨x2, e2, d2⟩ := P0e (g212.trans g13)
  refine ⟨.ref P0, rfl, L1, P0, _, _, rfl, rfl, e1, e2, by rw [d1.length, d2.length, List.length_map, List.length_map, List.length_map]; unfold sizeLine; omega, fun L2 nL2 => ?_⟩
  have g14 : Grow [] H13 (upd H13 L2 (.lst (x1 ++ x2))) := grow_new nL2
  have hL2 : LstT K (upd H13 L2 (.lst (x1 ++ x2))) L2 (((zs.map fun z => (quS, z)) ++ pz).map encP) := by
    refine ⟨_, upd_same, ?_⟩
    rw [List.map_append]
    exact (d1.grow g14 (lists_none _)).app (d2.grow g14 (lists_none _))
  have h12' := h12.grow (g13.trans g14) (lists_none _) (by simp)
  have fx := fine_pairs nmx lmx
  refine ⟨_, _, h12'.dp, hL2.dp, fx.shaped (by decide), fx.shaped (by decide), ?_⟩
  rw [fx.eqv]
  refine ⟨false, rfl, iteF ?_⟩
  have gr15 := (gr12.trans g13).trans g14
  have g215 := (g212.trans g13).trans g14
  clear h12' hL2 e1 e2 d1 d2 hD h12 g14 nL2
  generalize upd H13 L2 (HO.lst (x1 ++ x2)) = H15 at gr15 g215 ⊢
  -- the lots with a word more
  refine ⟨by show 1 ≤ sizeLine; decide, fun A1 n1 => ⟨.ref b, rfl, A1, b, _, _, rfl, rfl, upd_same, fb (gr15.new n1), z1 z100, fun Z1 nZ1 => ?_⟩⟩
  obtain ⟨gA, _, eZ1⟩ := two_lists (o2 := .lst ([V.str "qu"] ++ zs.map V.str)) n1 nZ1
  generalize upd (upd H15 A1 (HO.lst [V.str "qu"])) Z1 (HO.lst ([V.str "qu"] ++ zs.map V.str)) = H16 at gA eZ1 ⊢
  replace eZ1 : H16 Z1 = some (HO.lst (([quS] ++ zs).map V.str)) := eZ1
  have gr16 := gr15.trans gA
  refine ⟨.ref O, rfl, by show 1 ≤ sizeLine; decide, fun A4 n4 => ⟨O, A4, _, _, rfl, rfl, fO (gr16.new n4), upd_same, z2 lw, fun Z4 nZ4 => ?_⟩⟩
  obtain ⟨gD, _, eZ4⟩ := two_lists (o2 := .lst (ws.map V.str ++ [V.str "qu"])) n4 nZ4
  generalize upd (upd H16 A4 (HO.lst [V.str "qu"])) Z4 (HO.lst (ws.map V.str ++ [V.str "qu"])) = H17 at gD eZ4 ⊢
  replace eZ4 : H17 Z4 = some (HO.lst (ws.map V.str ++ [quS].map V.str)) := eZ4
  rw [← List.map_append] at eZ4
  have gr17 := gr16.trans gD
  refine ⟨Z1, Z4, [quS] ++ zs, ws ++ [quS], rfl, gr17.tabs _ t1, gr17.tabs _ tT, .inl (.inl (gD.lst (by simp) eZ1)), .inl (.inl eZ4), bk_front bz hq z100, pmx, fun Dl H18 la2 f18 g18 eDl _ _ hL18 => ?_⟩
  have lx := lots_more bz.nd pm hq
  have nl := lot_nm (ws := ws ++ [quS]) (bk_front bz hq z100)
  rw [show lotsTo (ws ++ [quS]) ([quS] ++ zs) ([quS] ++ zs).length = [quS] :: lotsTo ws zs zs.length from lx] at hL18 nl
  have gr18 := gr17.trans g18
  have g218 := ((g215.trans gA).trans gD).trans g18
  clear gA gD eZ1 eZ4
  have tz := topN_le2 (ws := ws) bz.nd pm
  have lla : las.length = topN ws zs := by rw [hLL.len, List.length_map, lots_len]
  refine ⟨by show 1 ≤ sizeLine; decide, fun B1 nB1 => ⟨by show 1 ≤ sizeLine; decide, fun B2 nB2 => ?_⟩⟩
  obtain ⟨gB, eB1, eB2⟩ := two_lists (o2 := .lst [.ref B1]) nB1 nB2
  have g2b := g218.trans gB
  refine ⟨.ref Lo, rfl, B2, Lo, _, _, rfl, rfl, eB2, g2b.lst (by simp) eLo, by rw [List.length_map, lla]; show 1 + _ ≤ sizeLine; unfold sizeLine; omega, fun B3 nB3 => ?_⟩
  have gB3 := gB.new (o := .lst ([V.ref B1] ++ las.map V.ref)) nB3
  have eB13 := (grow_new (ex := []) (o := .lst ([V.ref B1] ++ las.map V.ref)) nB3).lst (by simp) eB1
  have fl := fine_lists nl (by rw [List.length_cons, lots_len]; omega)
  refine ⟨_, _, .lst (.inl (.inl (gB3.lst (by simp) eDl))) (hL18.grow0 gB3).dp, .lst (.inl (.inl upd_same)) (.cons (dp_book (xs := [quS]) (.inl (.inl eB13))) (hLL.grow0 (g218.trans gB3)).dp), fl.shaped (by decide), fl.shaped (by decide), ?_⟩
  rw [show PyData.eqv (.list (([quS] :: lotsTo ws zs zs.length).map fun r => PyData.list (r.map PyData.str))) (.list (PyData.list ([quS].map PyData.str) :: (lotsTo ws zs zs.length).map fun r => PyData.list (r.map PyData.str))) = true from fl.eqv]
  refine ⟨false, rfl, iteF ?_⟩
  have gr20 := gr18.trans gB3
  have g220 := g218.trans gB3
  clear eB13 eB1 eB2 g2b gB gB3
  generalize upd (upd (upd H18 B1 (HO.lst [V.str "qu"])) B2 (HO.lst [V.ref B1])) B3 (HO.lst ([V.ref B1] ++ las.map V.ref)) = H20 at gr20 g220 ⊢
  -- words called otherwise
  have cz := calls_mir bz
  have bmz := bk_mir bz
  have nmz1 : ∀ z ∈ zs, isNm z = true := fun z hz => List.all_eq_true.mp bz.nm z hz
  have nmw1 : ∀ z ∈ ws, isNm z = true := fun z hz => List.all_eq_true.mp bw.nm z hz
  refine ⟨.ref b, rfl, b, zs, rfl, fb gr20, nmz1, by omega, fun C1 H21 fC1 g21 eC1 => ?_⟩
  have gr21 := gr20.trans g21
  refine ⟨.ref O, rfl, O, ws, rfl, fO gr21, nmw1, by omega, fun C2 H22 fC2 g22 eC2 => ?_⟩
  have gr22 := gr21.trans g22
  refine ⟨C1, C2, zs.map mirS, ws.map mirS, rfl, gr22.tabs _ t1, gr22.tabs _ tT, .inl (.inl (g22.lst (by simp) eC1)), .inl (.inl eC2), bmz, pm.map mirS, fun D4 H23 f23 g23 h23 => ?_⟩
  have nmm := prs_nm (ws := ws.map mirS) bmz
  have lmm := prs_len (ws := ws.map mirS) bmz
  rw [cz.prs bz.nd pm, hpz] at h23 nmm lmm
  have gr23 := gr22.trans g23
  have g223 := ((g220.trans g21).trans g22).trans g23
  obtain ⟨xs, e4, t4⟩ := P0e g223
  have lxs : xs.length = pz.length := by rw [t4.length, List.length_map]
  refine ⟨.ref P0, rfl, P0, rfl, ⟨xs, .inl (.inl e4)⟩, fun L1 nL1 => ?_⟩
  refine lc_it (walk_list (xs := xs)) (fun j H' => Grow [] H23 H' ∧ LstT K H' L1 (((pz.take j).map fun p => (mirS p.1, mirS p.2)).map encP)) ⟨grow_new nL1, [], upd_same, .nil⟩
    (fun j H' _ h => .inl (.inl (h.1.lst (by simp) e4))) (fun j x H24 H25 hj hp hy => ?_) (fun H24 hp => ?_)
  · obtain ⟨gj, hD⟩ := hp
    obtain ⟨rfl, ex⟩ := hy
    obtain ⟨d, hd, td⟩ := t4.get ex
    rw [List.getElem?_map] at hd
    cases ep : pz[j]? with
    | none => rw [ep] at hd; cases hd
    | some p =>
      rw [ep] at hd
      cases hd
      obtain ⟨r, rfl, hr⟩ := pair_inv (td.grow gj (lists_none _))
      obtain ⟨m1, m2⟩ := nmz p (List.mem_of_getElem? ep)
      refine ⟨rfl, yes_if ⟨.ref r, rfl, r, _, rfl, .inr (.inl (.inl hr)), fun l nl => ⟨l, [p.1, p.2], rfl, upd_same, fun z hz => ?_, by show 2 ≤ 200; decide, fun C H26 fC g26 eC => ?_⟩⟩⟩
      · rcases List.mem_cons.mp hz with rfl | hz
        · exact m1
        · rw [List.mem_singleton.mp hz]
          exact m2
      · refine ⟨C, _, rfl, .inl ⟨.inl (.inl eC), fun u nu => ?_⟩⟩
        have gk := (gj.new (o := .lst [V.str p.1, V.str p.2]) nl).trans g26
        have gk2 : Grow [] H25 H26 := (grow_new nl).trans g26
        have e5 : upd H26 u (.tup [.str (mirS p.1), .str (mirS p.2)]) u = some (.tup [.str (mirS p.1), .str (mirS p.2)]) := upd_same
        obtain ⟨acc, q1, q2, q3⟩ := hD.push (gk2.trans (grow_new nu)) (DpT.tup (ds := [.str (mirS p.1), .str (mirS p.2)]) e5 (.cons (dpT_str _) (.cons (dpT_str _) .nil)))
        refine ⟨acc, q1, ?_, (gk.new nu).put (fresh_none nL1) q1 (fun ps z => by cases z), ?_⟩
        · rw [q2, List.length_map, List.length_map, List.length_take]
          unfold sizeLine
          omega
        · rw [List.take_add_one, ep, Option.toList_some, List.map_append, List.map_append]
          exact q3
  obtain ⟨g24, hD⟩ := hp
  rw [lxs, List.take_length] at hD
  have fm := fine_pairs nmm lmm
  refine ⟨_, _, (h23.grow g24 (lists_none _) (by simp)).dp, hD.dp, fm.shaped (by decide), fm.shaped (by decide), ?_⟩
  rw [fm.eqv]
  refine ⟨false, rfl, iteF ?_⟩
  have gr24 := gr23.trans g24
  have g224 := g223.trans g24
  clear h23 hD t4 e4 lxs
  -- the lots called otherwise
  refine ⟨.ref b, rfl, b, zs, rfl, fb gr24, nmz1, by omega, fun C3 H25 fC3 g25 eC3 => ?_⟩
  have gr25 := gr24.trans g25
  refine ⟨.ref O, rfl, O, ws, rfl, fO gr25, nmw1, by omega, fun C4 H26 fC4 g26 eC4 => ?_⟩
  have gr26 := gr25.trans g26
  refine ⟨C3, C4, zs.map mirS, ws.map mirS, rfl, gr26.tabs _ t1, gr26.tabs _ tT, .inl (.inl (g26.lst (by simp) eC3)), .inl (.inl eC4), bmz, pm.map mirS, fun Dm H27 lam f27 g27 eDm _ _ hL27 => ?_⟩
  have nlm := lot_nm (ws := ws.map mirS) bmz
  rw [cz.lots bz.nd pm] at hL27 nlm
  have gr27 := gr26.trans g27
  have g227 := ((g224.trans g25).trans g26).trans g27
  have nlz := lot_nm (ws := ws) bz
  have eLo27 := g227.lst (by simp) eLo
  have hLL27 := hLL.grow0 g227
  refine ⟨.ref Lo, rfl, Lo, rfl, ⟨_, .inl (.inl eLo27)⟩, fun L2 nL2 => ?_⟩
  refine lc_it (walk_list (xs := las.map V.ref)) (fun j H' => Grow [] H27 H' ∧ NewLL H27 H' L2 (((lotsTo ws zs zs.length).take j).map fun r => (r.map mirS).map V.str)) ⟨grow_new nL2, NewLL.nil nL2⟩
    (fun j H' _ h => .inl (.inl (h.1.lst (by simp) eLo27))) (fun j x H28 H29 hj hp hy => ?_) (fun H28 hp => ?_)
  · obtain ⟨gj, hD⟩ := hp
    obtain ⟨rfl, ex⟩ := hy
    rw [List.length_map] at hj
    rw [List.getElem?_map, List.getElem?_eq_getElem hj] at ex
    cases ex
    obtain ⟨a, ea⟩ : ∃ a, las[j] = a := ⟨_, rfl⟩
    have eaj : las[j]? = some a := by rw [List.getElem?_eq_getElem hj, ea]
    rw [ea]
    obtain ⟨lot, hlot⟩ : ∃ lot, (lotsTo ws zs zs.length)[j]? = some lot := ⟨_, List.getElem?_eq_getElem (by rw [lots_len]; omega)⟩
    have eA := gj.lst (by simp) (hLL27.at_ j a (lot.map V.str) eaj (by rw [List.getElem?_map, hlot]; rfl))
    obtain ⟨m1, m2⟩ := nlz lot (List.mem_of_getElem? hlot)
    refine ⟨rfl, yes_if ⟨.ref a, rfl, a, lot, rfl, eA, fun z hz => List.all_eq_true.mp m1 z hz, m2, fun C H30 fC g30 eC => ?_⟩⟩
    obtain ⟨acc, q1, q2, q3, q4⟩ := hD.app gj g30 fC eC
    refine ⟨acc, q1, ?_, q3, ?_⟩
    · rw [q2, List.length_map, List.length_take]
      unfold sizeLine
      omega
    · rw [List.take_add_one, hlot, Option.toList_some, List.map_append]
      exact q4
  obtain ⟨g28, hD⟩ := hp
  rw [List.length_map, lla, ← lots_len (ws := ws) (zs := zs), List.take_length] at hD
  obtain ⟨_, bs, eL2, hB, _⟩ := hD
  have fl2 := fine_lists nlm (by rw [List.length_map, lots_len]; omega)
  have hB' : LL H28 bs (((lotsTo ws zs zs.length).map fun r => r.map mirS).map fun r => r.map V.str) := by rw [List.map_map]; exact hB
  refine ⟨_, _, .lst (.inl (.inl (g28.lst (by simp) eDm))) (hL27.grow0 g28).dp, .lst (.inl (.inl eL2)) hB'.dp, fl2.shaped (by decide), fl2.shaped (by decide), ?_⟩
  rw [fl2.eqv]
  refine ⟨false, rfl, iteF ?_⟩
  have gr28 := gr27.trans g28
  have g228 := g227.trans g28
  -- read from the end
  refine ⟨.ref b, rfl, b, _, rfl, .inl (.inl (fb gr28)), fun R1 nR1 => ?_⟩
  have gr29 := gr28.new (o := .lst (zs.map V.str).reverse) nR1
  refine ⟨.ref O, rfl, O, _, rfl, .inl (.inl (fO gr29)), fun R2 nR2 => ?_⟩
  obtain ⟨gR, eR1, eR2⟩ := two_lists (o2 := .lst (ws.map V.str).reverse) nR1 nR2
  have gr30 := gr28.trans gR
  have g230 := g228.trans gR
  clear gr29
  generalize upd (upd H28 R1 (HO.lst (zs.map V.str).reverse)) R2 (HO.lst (ws.map V.str).reverse) = H30 at gr30 g230 eR1 eR2 ⊢
  rw [← List.map_reverse] at eR1 eR2
  have bzr : Bk zs.reverse := bz.perm (List.reverse_perm zs).symm
  have pmr : zs.reverse.Perm ws.reverse := ((List.reverse_perm zs).trans pm).trans (List.reverse_perm ws).symm
  refine ⟨R1, R2, zs.reverse, ws.reverse, rfl, gr30.tabs _ t1, gr30.tabs _ tT, .inl (.inl eR1), .inl (.inl eR2), bzr, pmr, fun Bk_ H31 f31 g31 hBk => ?_⟩
  obtain ⟨pr, hpr⟩ : ∃ pr, prsTo (later ws.reverse) zs.reverse zs.reverse.length = pr := ⟨_, rfl⟩
  have lpr : pr.length ≤ 40000 := by rw [← hpr]; exact prs_len bzr
  have sw := prs_rev bz.nd pm
  rw [hpr] at hBk sw
  rw [hpz] at sw
  have g231 := g230.trans g31
  have gr31 := gr30.trans g31
  obtain ⟨xs, e4, t4⟩ := id hBk
  refine ⟨.ref Bk_, rfl, Bk_, rfl, ⟨xs, .inl (.inl e4)⟩, fun D1' n1' => ?_⟩
  refine lc_it (walk_list (xs := xs)) (fun j H' => Grow [] H31 H' ∧ LstT K H' D1' (((pr.take j).map fun p => (p.2, p.1)).map encP)) ⟨grow_new n1', [], upd_same, .nil⟩
    (fun j H' _ h => .inl (.inl (h.1.lst (by simp) e4))) (fun j x H32 H33 hj hp hy => ?_) (fun H32 hp => ?_)
  · obtain ⟨gj, hDj⟩ := hp
    obtain ⟨rfl, ex⟩ := hy
    obtain ⟨d, hd, td⟩ := t4.get ex
    rw [List.getElem?_map] at hd
    cases ep : pr[j]? with
    | none => rw [ep] at hd; cases hd
    | some p =>
      rw [ep] at hd
      cases hd
      obtain ⟨r, rfl, hr⟩ := pair_inv (td.grow gj (lists_none _))
      refine ⟨r, _, rfl, .inl (.inl hr), rfl, _, _, rfl, _, _, rfl, rfl, rfl, yes_if ⟨.str p.2, rfl, .str p.1, rfl, by show 2 ≤ sizeLine; decide, fun u nu => ?_⟩⟩
      have e5 : upd H33 u (.tup [.str p.2, .str p.1]) u = some (.tup [.str p.2, .str p.1]) := upd_same
      obtain ⟨acc, q1, q2, q3⟩ := hDj.push (grow_new nu) (DpT.tup (ds := [.str p.2, .str p.1]) e5 (.cons (dpT_str _) (.cons (dpT_str _) .nil)))
      refine ⟨acc, q1, ?_, (gj.new nu).put (fresh_none n1') q1 (fun ps z => by cases z), ?_⟩
      · rw [q2, List.length_map, List.length_map, List.length_take]
        unfold sizeLine
        omega
      · rw [List.take_add_one, ep, Option.toList_some, List.map_append, List.map_append]
        exact q3
  · obtain ⟨gj, hDj⟩ := hp
    have lx : xs.length = pr.length := by rw [t4.length, List.length_map]
    rw [lx, List.take_length] at hDj
    dsimp only [tNil]
    refine sort_pairs hDj (by rw [List.length_map]; omega) fun p1 o1 np1 hp1 => ?_
    have hP := (P0e (g231.trans gj)).grow (grow_new (ex := []) (o := o1) np1) (lists_none _) (by simp)
    refine ⟨.ref P0, rfl, ?_⟩
    dsimp only [tNil]
    refine sort_pairs hP (by omega) fun p2 o2 np2 hp2 => ?_
    have hp1' := hp1.grow (grow_new (ex := []) (o := o2) np2) (lists_none _) (by simp)
    rw [sort_same sw fun a b => toks_pair] at hp1'
    have ff : Fine (.list ((pz.mergeSort (PySem.W.dataLe false encP)).map encP)) 2 760000 := fine_pairs (fun p hp => nmz p ((List.mergeSort_perm _ _).mem_iff.mp hp)) (by rw [List.length_mergeSort]; exact lpz)
    refine ⟨_, _, hp1'.dp, hp2.dp, ff.shaped (by decide), ff.shaped (by decide), ?_⟩
    rw [ff.eqv]
    exact q _ (((gr31.trans gj).new np1).new np2)
end

end Lw

namespace Lw
open PySem PySem.Spec PyProof.Rows L2 GxR Gx
theorem cut_mid (xs : List V) (a k : Nat) : cutV xs (some ((a : Nat) : Int)) (some (((a + k : Nat)) : Int)) = (xs.drop a).take k := by
  unfold cutV
  rw [HT.sIx_nat, HT.sIx_nat]
  by_cases h : a ≤ xs.length
  · rw [Nat.min_eq_left h]
    by_cases h2 : a + k ≤ xs.length
    · rw [Nat.min_eq_left h2, Nat.add_sub_cancel_left]
    · rw [Nat.min_eq_right (by omega), List.take_of_length_le (by rw [List.length_drop]; exact Nat.le_refl _), List.take_of_length_le (by rw [List.length_drop]; omega)]
  · rw [Nat.min_eq_right (by omega), Nat.min_eq_right (by omega), List.drop_of_length_le (Nat.le_refl _), List.drop_of_length_le (by omega), List.take_nil, List.take_nil]
theorem qu_none : quS ∉ names1 ++ names2 := by decide +kernel
theorem two_cut {ys : List Str} (nd : ys.Nodup) {v k : Nat} (hv : v ≤ 5) : (ys.take v ++ (ys.drop 5).take k).Nodup := by
  have e : (ys.take 5 ++ ys.drop 5).Nodup := by rw [List.take_append_drop]; exact nd
  refine e.sublist (List.Sublist.append ?_ (List.take_sublist _ _))
  rw [show ys.take v = (ys.take 5).take v by rw [List.take_take, Nat.min_eq_left hv]]
  exact List.take_sublist _ _
section
variable {P : Program} {w : World} {K : PySem.W.Frag} {mg : Str → Option Value} {base : Heap}
/-! ### law -/
theorem Bk.sub {zs ys : List Str} (b : Bk ys) (s : zs.Sublist ys) : Bk zs := ⟨List.all_eq_true.mpr fun x h => List.all_eq_true.mp b.nm x (s.subset h), b.nd.sublist s, Nat.le_trans s.length_le b.len⟩
def spLaw (K : PySem.W.Frag) (T1 T : Addr) : Sp := fun vs H Q _ => ∃ (a : Addr) (ns : List Int), vs = [.ref a] ∧ TabG H T1 ∧ TabG H T ∧ SqL K H a (ns.map V.int) ∧ ∀ (H' : Hp), Grow [] H H' → Q (.bl true) H'
theorem ok_law {f c T1 T : Addr} {fd : FuncData} (B : Nb mg) (D : DefIs K "law" "law" st_law f fd (.ref c))
    (c_law_pot : Callee P w K mg base CX0 3 "_law_pot" ["script", "k"] (spPot K)) (c_law_take : Callee P w K mg base CX0 3 "_law_take" ["pot", "many"] (spTake K))
    (c_law_names : Callee P w K mg base CX0 5 "_law_names" ["pot", "many"] (spDraw K)) (c_law_other : Callee P w K mg base CX0 5 "_law_other" ["pot", "book"] (spOther K))
    (c_law_joined_right : Callee P w K mg base CX0 12 "_law_joined_right" ["one", "more", "roads"] (spJoined K T1 T)) (c_law_more_right : Callee P w K mg base CX0 12 "_law_more_right" ["book", "other"] (spMoreR K T1 T)) :
    FnG P w K mg base CX0 13 f fd ["script"] (spLaw K T1 T) := by
  refine D.ok0 (k := 12) sc_law (fun vs H Q E h => ?_) (fun A outer s H vs Q E g hr h => ?_)
  · obtain ⟨a, ns, rfl, _⟩ := h
    rfl
  obtain ⟨a, ns, rfl, t1, tT, ha, q⟩ := h
  refine ⟨_,
      (pss_cons (ps_for PassesOwn.never rfl (pi_range1 rfl B.n_range (pa_cons (pe_callB (call_max2 rfl) rfl B.n_max (by decide +kernel) (pa_cons pe_int (pa_cons (pe_callB (call_min2 rfl) rfl B.n_min (by decide +kernel) (pa_cons pe_int (pa_cons (pe_callB call_len_seq rfl B.n_len PySem.boot_len (pa_cons (pv 0) pa_nil)) pa_nil))) pa_nil))) pa_nil)) (pg_name (i := 1) sc_law.nd rfl (.inl rfl)) (
        (pss_cons (ps_set (i := 2) sc_law.nd rfl (.inl rfl) (pe_g c_law_pot g (hr.mono (by decide)) pass0 (pa_cons (pv 0) (pa_cons (pv 1) pa_nil))))
        (pss_cons (ps_set (i := 3) sc_law.nd rfl (.inl rfl) (pe_g c_law_names g (hr.mono (by decide)) pass0 (pa_cons (pv 2) (pa_cons pe_int pa_nil))))
        (pss_cons (ps_par (i := 4) (j := 5) rfl sc_law.nd rfl rfl (by decide) rfl rfl (pa_cons (pe_slice sl_list (pv 3) po_none (po_some (pe_g c_law_take g (hr.mono (by decide)) pass0 (pa_cons (pv 2) (pa_cons pe_int pa_nil))))) (pa_cons (pe_slice sl_list (pv 3) (po_some pe_int) (po_some (pe_op op_add pe_int (pe_g c_law_take g (hr.mono (by decide)) pass0 (pa_cons (pv 2) (pa_cons pe_int pa_nil)))))) pa_nil)) rfl)
        (pss_cons (ps_par (i := 6) (j := 7) rfl sc_law.nd rfl rfl (by decide) rfl rfl (pa_cons (pe_tup (pa_cons (pv 4) (pa_cons (pe_g c_law_other g (hr.mono (by decide)) pass0 (pa_cons (pv 2) (pa_cons (pv 4) pa_nil))) pa_nil))) (pa_cons (pe_tup (pa_cons (pv 5) (pa_cons (pe_g c_law_other g (hr.mono (by decide)) pass0 (pa_cons (pv 2) (pa_cons (pv 5) pa_nil))) pa_nil))) pa_nil)) rfl)
        (pss_cons (ps_if (pt_not (pt_val (pe_g c_law_joined_right g (hr.mono (by decide)) pass0 (pa_cons (pv 6) (pa_cons (pv 7) (pa_cons (pe_g c_law_take g (hr.mono (by decide)) pass0 (pa_cons (pv 2) (pa_cons pe_int pa_nil))) pa_nil)))))) (
          (pss_one (ps_ret pe_bl))) pss_nil)
        (pss_one (ps_if (PW.pt (pw_or (pt_not (pt_val (pe_g c_law_more_right g (hr.mono (by decide)) pass0 (pa_cons (pe_ix ix_tup (pv 6) pe_int (fun _ _ => rfl)) (pa_cons (pe_ix ix_tup (pv 6) pe_int (fun _ _ => rfl)) pa_nil))))) (pw_or1 (pt_not (pt_val (pe_g c_law_more_right g (hr.mono (by decide)) pass0 (pa_cons (pe_ix ix_tup (pv 7) pe_int (fun _ _ => rfl)) (pa_cons (pe_ix ix_tup (pv 7) pe_int (fun _ _ => rfl)) pa_nil)))))))) (
          (pss_one (ps_ret pe_bl))) pss_nil)))))))))
      (pss_one (ps_ret pe_bl))), ?_⟩
  have pgo : ∀ {p : Addr} {H1 H2 : Hp} {k : Int}, Pot H1 p k → Grow [] H1 H2 → Pot H2 p k := fun ⟨a, b, d, e, r⟩ g => ⟨a, b, d, g.lst (by simp) e, r⟩
  have pne : ∀ {H : Hp} {p D : Addr} {c : Int}, Pot H p c → Fresh H D → D ≠ p := fun h f => by
    obtain ⟨a, b, d, e, r⟩ := h
    exact (f.ne e (fun ps z => by cases z)).symm
  refine ⟨.ref a, rfl, a, _, rfl, .inl ha, _, _, rfl, _, _, rfl, ?_⟩
  obtain ⟨n, hn, n8⟩ : ∃ n : Int, (if (if ((ns.map V.int).length : Int) < 6 then ((ns.map V.int).length : Int) else 6) > 1 then (if ((ns.map V.int).length : Int) < 6 then ((ns.map V.int).length : Int) else 6) else 1) = n ∧ 0 ≤ n ∧ n ≤ 8 := ⟨_, rfl, by omega⟩
  rw [hn]
  refine ⟨n, rfl, by omega, by omega, ?_⟩
  refine for_it walk_range (fun i σ H' => ∃ x1 x2 x3 x4 x5 x6 x7 : Option V, σ = [some (.ref a), x1, x2, x3, x4, x5, x6, x7] ∧ Grow [] H H') ⟨none, none, none, none, none, none, none, rfl, Grow.refl _ _⟩ (fun _ _ _ _ _ => trivial) (fun i x σ H2 H3 hi hp hy => ?_) (fun σ H2 hp => ?_)
  · obtain ⟨x1, x2, x3, x4, x5, x6, x7, rfl, gr⟩ := hp
    obtain ⟨rfl, rfl⟩ := hy
    refine ⟨.ref a, rfl, .int (0 + i), rfl, a, ns, i, by show [V.ref a, V.int (0 + (i : Int))] = [V.ref a, V.int (i : Int)]; rw [Int.zero_add], gr.seq0 ha, by omega, fun p H4 fp g4 pot4 => ?_⟩
    have gr4 := gr.trans g4
    have fpH := gr.fresh (by simp) fp
    refine ⟨.ref p, rfl, p, 9, 0, rfl, pot4, by decide, fun Y H5 ys fY g5 eY by_ y9 pot5 => ?_⟩
    have gr5 : Grow [] H H5 := ((gr4.any (ex := [p])).trans g5).drop fpH
    have Yp := pne pot4 fY
    refine ⟨.ref Y, rfl, .ref p, rfl, p, 6, _, rfl, by decide, by decide, by decide, pot5, fun v1 H6 a0 a1 g6 pot6 => ?_⟩
    have gr6 : Grow [] H H6 := ((gr5.any (ex := [p])).trans g6).drop fpH
    have eY6 := g6.lst (by simpa using Yp) eY
    obtain ⟨v, rfl⟩ : ∃ v : Nat, v1 = (v : Int) := ⟨v1.toNat, by omega⟩
    refine ⟨v, rfl, Y, _, rfl, .inl (.inl eY6), fun B nB => ?_⟩
    rw [show cutV (ys.map V.str) none (some ((v : Nat) : Int)) = (ys.take v).map V.str by rw [cut_hi, List.map_take]]
    have gB : Grow [] H6 (upd H6 B (.lst ((ys.take v).map V.str))) := grow_new nB
    have pot7 := pgo pot6 gB
    have Bp := pne pot6 (fresh_none nB)
    have eB : upd H6 B (.lst ((ys.take v).map V.str)) B = some (.lst ((ys.take v).map V.str)) := upd_same
    have gr7 := gr6.trans gB
    have eY7 := gB.lst (by simp) eY6
    clear gB
    generalize upd H6 B (HO.lst ((ys.take v).map V.str)) = H7 at pot7 eB gr7 eY7 ⊢
    refine ⟨.ref Y, rfl, 5, rfl, .ref p, rfl, p, 5, _, rfl, by decide, by decide, by decide, pot7, fun v2 H8 b0 b1 g8 pot8 => ?_⟩
    obtain ⟨k, rfl⟩ : ∃ k : Nat, v2 = (k : Int) := ⟨v2.toNat, by omega⟩
    have gr8 : Grow [] H H8 := ((gr7.any (ex := [p])).trans g8).drop fpH
    have eB8 := g8.lst (by simpa using Bp) eB
    have eY8 := g8.lst (by simpa using Yp) eY7
    refine ⟨_, _, rfl, rfl, _, rfl, Y, _, rfl, .inl (.inl eY8), fun L nL => ?_⟩
    rw [show cutV (ys.map V.str) (some 5) (some (5 + ((k : Nat) : Int))) = ((ys.drop 5).take k).map V.str by
      rw [show (5 : Int) + ((k : Nat) : Int) = ((5 + k : Nat) : Int) by omega, show (5 : Int) = ((5 : Nat) : Int) from rfl, cut_mid, List.map_take, List.map_drop]]
    have gL : Grow [] H8 (upd H8 L (.lst (((ys.drop 5).take k).map V.str))) := grow_new nL
    have pot9 := pgo pot8 gL
    have Lp := pne pot8 (fresh_none nL)
    have eL : upd H8 L (.lst (((ys.drop 5).take k).map V.str)) L = some (.lst (((ys.drop 5).take k).map V.str)) := upd_same
    have gr9 := gr8.trans gL
    have eB9 := gL.lst (by simp) eB8
    clear gL
    generalize upd H8 L (HO.lst (((ys.drop 5).take k).map V.str)) = H9 at pot9 eL gr9 eB9 ⊢
    refine ⟨_, _, rfl, ?_⟩
    have s1 : (ys.take v).Sublist ys := List.take_sublist _ _
    have s2 : ((ys.drop 5).take k).Sublist ys := (List.take_sublist _ _).trans (List.drop_sublist _ _)
    have bz := by_.sub s1
    have bu := by_.sub s2
    have z5 : (ys.take v).length ≤ 5 := by rw [List.length_take]; omega
    have u4 : ((ys.drop 5).take k).length ≤ 4 := by rw [List.length_take]; omega
    have nd := two_cut by_.nd (v := v) (k := k) (by omega)
    have q1 : quS ∉ ys.take v := fun h => qu_none (y9.2.2 _ (s1.subset h))
    have q2 : quS ∉ (ys.drop 5).take k := fun h => qu_none (y9.2.2 _ (s2.subset h))
    generalize ys.take v = zs at *
    generalize (ys.drop 5).take k = us at *
    refine ⟨.ref B, rfl, .ref p, rfl, .ref B, rfl, p, B, _, zs, rfl, pot9, by decide, eB9, Bp, bz, by omega, fun O H10 ws fO g10 eO pm pot10 => ?_⟩
    have gr10 : Grow [] H H10 := ((gr9.any (ex := [p])).trans g10).drop fpH
    have Op := pne pot9 fO
    have eB10 := g10.lst (by simpa using Bp) eB9
    have eL10 := g10.lst (by simpa using Lp) eL
    refine ⟨by show 2 ≤ sizeLine; decide, fun T1' nT1 => ?_⟩
    have gT : Grow [] H10 (upd H10 T1' (.tup [.ref B, .ref O])) := grow_new nT1
    have eT : upd H10 T1' (.tup [.ref B, .ref O]) T1' = some (.tup [.ref B, .ref O]) := upd_same
    have T1p := pne pot10 (fresh_none nT1)
    have pot11 := pgo pot10 gT
    have gr11 := gr10.trans gT
    have eB11 := gT.lst (by simp) eB10
    have eL11 := gT.lst (by simp) eL10
    have eO11 := gT.lst (by simp) eO
    clear gT
    generalize upd H10 T1' (HO.tup [V.ref B, V.ref O]) = H11 at eT pot11 gr11 eB11 eL11 eO11 ⊢
    refine ⟨.ref L, rfl, .ref p, rfl, .ref L, rfl, p, L, _, us, rfl, pot11, by decide, eL11, Lp, bu, by omega, fun Y2 H12 vs fY2 g12 eY2 pm2 pot12 => ?_⟩
    have gr12 : Grow [] H H12 := ((gr11.any (ex := [p])).trans g12).drop fpH
    have Y2p := pne pot11 fY2
    refine ⟨by show 2 ≤ sizeLine; decide, fun T2' nT2 => ?_⟩
    have gT : Grow [] H12 (upd H12 T2' (.tup [.ref L, .ref Y2])) := grow_new nT2
    have eT2 : upd H12 T2' (.tup [.ref L, .ref Y2]) T2' = some (.tup [.ref L, .ref Y2]) := upd_same
    have T2p := pne pot12 (fresh_none nT2)
    have pot13 := pgo pot12 gT
    have gr13 := gr12.trans gT
    have eB13 := gT.lst (by simp) (g12.lst (by simpa using Bp) eB11)
    have eL13 := gT.lst (by simp) (g12.lst (by simpa using Lp) eL11)
    have eO13 := gT.lst (by simp) (g12.lst (by simpa using Op) eO11)
    have eT13 := gT.tup (by simp) (g12.tup (by simpa using T1p) eT)
    have eY13 := gT.lst (by simp) eY2
    clear gT
    generalize upd H12 T2' (HO.tup [V.ref L, V.ref Y2]) = H13 at eT2 pot13 gr13 eB13 eL13 eO13 eT13 eY13 ⊢
    refine ⟨_, _, rfl, ?_⟩
    refine ⟨.ref T1', rfl, .ref T2', rfl, .ref p, rfl, p, 9, _, rfl, by decide, by decide, by decide, pot13, fun v3 H14 c0 c1 g14 pot14 => ?_⟩
    obtain ⟨r, rfl⟩ : ∃ r : Nat, v3 = (r : Int) := ⟨v3.toNat, by omega⟩
    have gr14 : Grow [] H H14 := ((gr13.any (ex := [p])).trans g14).drop fpH
    have eB14 := g14.lst (by simpa using Bp) eB13
    have eL14 := g14.lst (by simpa using Lp) eL13
    have eO14 := g14.lst (by simpa using Op) eO13
    have eY14 := g14.lst (by simpa using Y2p) eY13
    have eT14 := g14.tup (by simpa using T1p) eT13
    have eU14 := g14.tup (by simpa using T2p) eT2
    refine ⟨T1', T2', B, O, L, Y2, r, zs, ws, us, vs, rfl, gr14.tabs _ t1, gr14.tabs _ tT, eT14, eU14, eB14, eO14, eL14, eY14, ⟨nd, pm, pm2⟩, bz, bu, by omega, by omega, by omega, fun H15 g15 => ⟨true, rfl, iteF ?_⟩⟩
    have gr15 := gr14.trans g15
    refine ⟨.ref T1', rfl, T1', _, _, .ref B, rfl, rfl, .inl (.inl (g15.tup (by simp) eT14)), rfl, .ref T1', rfl, T1', _, _, .ref O, rfl, rfl, .inl (.inl (g15.tup (by simp) eT14)), rfl, ?_⟩
    refine ⟨B, O, zs, ws, rfl, gr15.tabs _ t1, gr15.tabs _ tT, g15.lst (by simp) eB14, g15.lst (by simp) eO14, bz, pm, q1, by omega, fun H16 g16 => ⟨true, rfl, iteF ?_⟩⟩
    have gr16 := gr15.trans g16
    have g146 := g15.trans g16
    refine ⟨.ref T2', rfl, T2', _, _, .ref L, rfl, rfl, .inl (.inl (g146.tup (by simp) eU14)), rfl, .ref T2', rfl, T2', _, _, .ref Y2, rfl, rfl, .inl (.inl (g146.tup (by simp) eU14)), rfl, ?_⟩
    exact ⟨L, Y2, us, vs, rfl, gr16.tabs _ t1, gr16.tabs _ tT, g146.lst (by simp) eL14, g146.lst (by simp) eY14, bu, pm2, q2, by omega, fun H17 g17 => ⟨true, rfl, iteF ⟨_, _, _, _, _, _, _, rfl, gr16.trans g17⟩⟩⟩
  · obtain ⟨x1, x2, x3, x4, x5, x6, x7, rfl, gr⟩ := hp
    exact q _ gr
end
theorem law_start {K : PySem.W.Frag} {H : Hp} {a : Addr} {ns : List Int} {c1 c2 : Addr × Addr} (t : ∀ p ∈ [c1, c2], TabG H p.2) (_ : ns.length ≤ 63) (_ : ∀ z ∈ ns, Builtin.Int.intBits z ≤ 1048576) (h : SqL K H a (ns.map V.int)) :
    spLaw K c1.2 c2.2 [.ref a] H (fun v _ => v = .bl true) E0 := ⟨a, ns, rfl, t _ (by simp), t _ (by simp), h, fun _ _ => rfl⟩

end Lw
namespace Lw
open PySem PySem.Spec PyProof.Rows L2 GxR Gx
/-! ### the head -/
def d_is_name : He.DefD := ⟨("is_name", none), "is_name", "is_name", defArgs st_is_name, defBody st_is_name, defScope st_is_name, [], []⟩
def d_are_unlike_names : He.DefD := ⟨("are_unlike_names", none), "are_unlike_names", "are_unlike_names", defArgs st_are_unlike_names, defBody st_are_unlike_names, defScope st_are_unlike_names, [], []⟩
def d_is_book : He.DefD := ⟨("is_book", none), "is_book", "is_book", defArgs st_is_book, defBody st_is_book, defScope st_is_book, [], []⟩
def d_turned_pairs : He.DefD := ⟨("turned_pairs", none), "turned_pairs", "turned_pairs", defArgs st_turned_pairs, defBody st_turned_pairs, defScope st_turned_pairs, [], []⟩
def d_longest_turned : He.DefD := ⟨("longest_turned", none), "longest_turned", "longest_turned", defArgs st_longest_turned, defBody st_longest_turned, defScope st_longest_turned, [], []⟩
def d_fewest_lots : He.DefD := ⟨("fewest_lots", none), "fewest_lots", "fewest_lots", defArgs st_fewest_lots, defBody st_fewest_lots, defScope st_fewest_lots, [], []⟩
def d_roads_between : He.DefD := ⟨("roads_between", none), "roads_between", "roads_between", defArgs st_roads_between, defBody st_roads_between, defScope st_roads_between, [], []⟩
def d_how_many_numberings : He.DefD := ⟨("how_many_numberings", none), "how_many_numberings", "how_many_numberings", defArgs st_how_many_numberings, defBody st_how_many_numberings, defScope st_how_many_numberings, [], []⟩
def d_is_whole : He.DefD := ⟨("is_whole", none), "is_whole", "is_whole", defArgs st_is_whole, defBody st_is_whole, defScope st_is_whole, [], []⟩
def d_check_books : He.DefD := ⟨("check_books", none), "check_books", "check_books", defArgs st_check_books, defBody st_check_books, defScope st_check_books, [], []⟩
def d_check_roads : He.DefD := ⟨("check_roads", none), "check_roads", "check_roads", defArgs st_check_roads, defBody st_check_roads, defScope st_check_roads, [], []⟩
def d_places_of : He.DefD := ⟨("places_of", none), "places_of", "places_of", defArgs st_places_of, defBody st_places_of, defScope st_places_of, [], []⟩
def d_pairs_turned : He.DefD := ⟨("pairs_turned", none), "pairs_turned", "pairs_turned", defArgs st_pairs_turned, defBody st_pairs_turned, defScope st_pairs_turned, [], []⟩
def d_ranks_of : He.DefD := ⟨("ranks_of", none), "ranks_of", "ranks_of", defArgs st_ranks_of, defBody st_ranks_of, defScope st_ranks_of, [], []⟩
def d_how_many_above : He.DefD := ⟨("how_many_above", none), "how_many_above", "how_many_above", defArgs st_how_many_above, defBody st_how_many_above, defScope st_how_many_above, [], []⟩
def d_ways_by_numbers : He.DefD := ⟨("ways_by_numbers", none), "ways_by_numbers", "ways_by_numbers", defArgs st_ways_by_numbers, defBody st_ways_by_numbers, defScope st_ways_by_numbers, [], []⟩
def d_with_one_number_more : He.DefD := ⟨("with_one_number_more", none), "with_one_number_more", "with_one_number_more", defArgs st_with_one_number_more, defBody st_with_one_number_more, defScope st_with_one_number_more, [], []⟩
def d_law_pot : He.DefD := ⟨("_law_pot", none), "_law_pot", "_law_pot", defArgs st_law_pot, defBody st_law_pot, defScope st_law_pot, [], []⟩
def d_law_take : He.DefD := ⟨("_law_take", none), "_law_take", "_law_take", defArgs st_law_take, defBody st_law_take, defScope st_law_take, [], []⟩
def d_law_some : He.DefD := ⟨("_law_some", none), "_law_some", "_law_some", defArgs st_law_some, defBody st_law_some, defScope st_law_some, [], []⟩
def d_law_names : He.DefD := ⟨("_law_names", none), "_law_names", "_law_names", defArgs st_law_names, defBody st_law_names, defScope st_law_names, [], []⟩
def d_law_other : He.DefD := ⟨("_law_other", none), "_law_other", "_law_other", defArgs st_law_other, defBody st_law_other, defScope st_law_other, [], []⟩
def d_law_called : He.DefD := ⟨("_law_called", none), "_law_called", "_law_called", defArgs st_law_called, defBody st_law_called, defScope st_law_called, [], []⟩
def d_law_joined_right : He.DefD := ⟨("_law_joined_right", none), "_law_joined_right", "_law_joined_right", defArgs st_law_joined_right, defBody st_law_joined_right, defScope st_law_joined_right, [], []⟩
def d_law_more_right : He.DefD := ⟨("_law_more_right", none), "_law_more_right", "_law_more_right", defArgs st_law_more_right, defBody st_law_more_right, defScope st_law_more_right, [], []⟩
def d_law : He.DefD := ⟨("law", none), "law", "law", defArgs st_law, defBody st_law, defScope st_law, [], []⟩
def hdDefs : List He.DefD := [d_is_name, d_are_unlike_names, d_is_book, d_turned_pairs, d_longest_turned, d_fewest_lots, d_roads_between, d_how_many_numberings, d_is_whole, d_check_books, d_check_roads, d_places_of, d_pairs_turned, d_ranks_of, d_how_many_above, d_ways_by_numbers, d_with_one_number_more, d_law_pot, d_law_take, d_law_some, d_law_names, d_law_other, d_law_called, d_law_joined_right, d_law_more_right, d_law]
def hdFacts : List He.Fa := [.glo "is_name", .glo "are_unlike_names", .glo "is_book", .glo "turned_pairs", .glo "longest_turned", .glo "fewest_lots", .glo "roads_between", .glo "how_many_numberings", .glo "is_whole", .glo "check_books", .glo "check_roads", .glo "places_of", .glo "pairs_turned", .glo "ranks_of", .glo "how_many_above", .glo "ways_by_numbers", .glo "with_one_number_more", .glo "_law_pot", .glo "_law_take", .glo "_law_some", .glo "_law_names", .glo "_law_other", .glo "_law_called", .glo "_law_joined_right", .glo "_law_more_right", .glo "law", .free "all", .free "enumerate", .free "int", .free "len", .free "list", .free "max", .free "min", .free "range", .free "reversed", .free "set", .free "sorted", .free "str", .free "sum", .free "tuple", .free "type", .int "MOST_LETTERS" 8, .int "MOST_NUMBERED" 12]
def hdTabs : List He.Defn := [("is_name", none), ("are_unlike_names", none)]
def hdLoose : List Str := (["comb", "ApartError", "NoBook", "Unlike", "NoNumber", "TooMany", "MOST_LETTERS", "MOST_NUMBERED", "is_name", "are_unlike_names", "is_book", "turned_pairs", "longest_turned", "fewest_lots", "roads_between", "how_many_numberings", "is_whole", "check_books", "check_roads", "places_of"] : List Str) ++ (["pairs_turned", "ranks_of", "how_many_above", "ways_by_numbers", "with_one_number_more", "_law_pot", "_law_take", "_law_some", "_law_names", "_law_other", "_law_called", "_law_joined_right", "_law_more_right"] : List Str)
abbrev hdRow : PySem.W.OpenRow := PySem.W.OpenLaw.row PySem.Challenge.rw_heardapart_k15_whole_books_put_together
abbrev hdView : Program := PySem.W.view hdRow.prog [37]
abbrev hdTop : DefRec := HandSHeadRun.topDef hdRow.prog 37
def hdEx : PySem.W.Frag → Bool := fun K => He.eqO (PySem.W.nsIn K mainGlobals "comb") (some (some (.builtin "math.comb")))
abbrev hdHook : PySem.W.Hook := He.hookX 4 hdFacts hdDefs [] hdTabs hdEx
def hdOb (s : PySem.W.SharedT) : He.AlX := He.obsX 4 hdFacts hdDefs [] hdTabs hdEx (HandSHeadRun.getT s)
theorem hdOb_eq (s : PySem.W.SharedT) : hdOb s = hdHook.obs s.abs := He.obsX_eq (HandSHeadRun.getT_eq s)
theorem hdRun (w : World) : HandSHeadRun.RunEqI hdRow hdView hdHook hdOb 4000 hdLoose w := by
  unfold HandSHeadRun.RunEqI
  kernel_rfl
theorem triples_none : TriplesOk (#[] : Array Value).toList := trivial
/-- the law's promise, from the head's word -/
theorem hd_all {w : World} {K : PySem.W.Frag} {h : Heap} {mg : Str → Option Value} {f : Addr} (X : K.In h) (G : h.Ns mainGlobals mg) (hfa : mg ("law" : Str) = some (.ref f)) (c : He.SaysX hdFacts hdDefs [] hdTabs hdEx w h K) :
    LawG PySem.Challenge.rw_heardapart_k15_whole_books_put_together w K 13 63 "script" mg f h := by
  have glo : ∀ x : Str, He.Fa.glo x ∈ hdFacts → mg x = some (.ref (He.ga K x)) := fun x hx => He.glo_ok X G (c.t.d.facts hx)
  have free : ∀ x : Str, He.Fa.free x ∈ hdFacts → mg x = none := fun x hx => He.free_ok X G (c.t.d.facts hx)
  have e := hfa.symm.trans (glo "law" (by simp [hdFacts]))
  cases e
  obtain ⟨fd_is_name, F_is_name⟩ := c.t.d.def_ 0 (d := d_is_name) rfl
  have D_is_name : DefIs K "is_name" "is_name" st_is_name _ fd_is_name _ := DefIs.of (p := ("is_name", none)) F_is_name
  have b_is_name : Binds K fd_is_name ["thing"] [] := D_is_name.binds fun _ _ _ _ _ us hl => match us, hl with | [_], _ => rfl
  have g_is_name := glo "is_name" (by simp [hdFacts])
  obtain ⟨fd_are_unlike_names, F_are_unlike_names⟩ := c.t.d.def_ 1 (d := d_are_unlike_names) rfl
  have D_are_unlike_names : DefIs K "are_unlike_names" "are_unlike_names" st_are_unlike_names _ fd_are_unlike_names _ := DefIs.of (p := ("are_unlike_names", none)) F_are_unlike_names
  have b_are_unlike_names : Binds K fd_are_unlike_names ["thing"] [] := D_are_unlike_names.binds fun _ _ _ _ _ us hl => match us, hl with | [_], _ => rfl
  have g_are_unlike_names := glo "are_unlike_names" (by simp [hdFacts])
  obtain ⟨fd_is_book, F_is_book⟩ := c.t.d.def_ 2 (d := d_is_book) rfl
  have D_is_book : DefIs K "is_book" "is_book" st_is_book _ fd_is_book _ := DefIs.of (p := ("is_book", none)) F_is_book
  have b_is_book : Binds K fd_is_book ["thing"] [] := D_is_book.binds fun _ _ _ _ _ us hl => match us, hl with | [_], _ => rfl
  have g_is_book := glo "is_book" (by simp [hdFacts])
  obtain ⟨fd_turned_pairs, F_turned_pairs⟩ := c.t.d.def_ 3 (d := d_turned_pairs) rfl
  have D_turned_pairs : DefIs K "turned_pairs" "turned_pairs" st_turned_pairs _ fd_turned_pairs _ := DefIs.of (p := ("turned_pairs", none)) F_turned_pairs
  have b_turned_pairs : Binds K fd_turned_pairs ["book", "other"] [] := D_turned_pairs.binds fun _ _ _ _ _ us hl => match us, hl with | [_, _], _ => rfl
  have g_turned_pairs := glo "turned_pairs" (by simp [hdFacts])
  obtain ⟨fd_longest_turned, F_longest_turned⟩ := c.t.d.def_ 4 (d := d_longest_turned) rfl
  have D_longest_turned : DefIs K "longest_turned" "longest_turned" st_longest_turned _ fd_longest_turned _ := DefIs.of (p := ("longest_turned", none)) F_longest_turned
  have b_longest_turned : Binds K fd_longest_turned ["book", "other"] [] := D_longest_turned.binds fun _ _ _ _ _ us hl => match us, hl with | [_, _], _ => rfl
  have g_longest_turned := glo "longest_turned" (by simp [hdFacts])
  obtain ⟨fd_fewest_lots, F_fewest_lots⟩ := c.t.d.def_ 5 (d := d_fewest_lots) rfl
  have D_fewest_lots : DefIs K "fewest_lots" "fewest_lots" st_fewest_lots _ fd_fewest_lots _ := DefIs.of (p := ("fewest_lots", none)) F_fewest_lots
  have b_fewest_lots : Binds K fd_fewest_lots ["book", "other"] [] := D_fewest_lots.binds fun _ _ _ _ _ us hl => match us, hl with | [_, _], _ => rfl
  have g_fewest_lots := glo "fewest_lots" (by simp [hdFacts])
  obtain ⟨fd_roads_between, F_roads_between⟩ := c.t.d.def_ 6 (d := d_roads_between) rfl
  have D_roads_between : DefIs K "roads_between" "roads_between" st_roads_between _ fd_roads_between _ := DefIs.of (p := ("roads_between", none)) F_roads_between
  have b_roads_between : Binds K fd_roads_between ["book", "other"] [] := D_roads_between.binds fun _ _ _ _ _ us hl => match us, hl with | [_, _], _ => rfl
  have g_roads_between := glo "roads_between" (by simp [hdFacts])
  obtain ⟨fd_how_many_numberings, F_how_many_numberings⟩ := c.t.d.def_ 7 (d := d_how_many_numberings) rfl
  have D_how_many_numberings : DefIs K "how_many_numberings" "how_many_numberings" st_how_many_numberings _ fd_how_many_numberings _ := DefIs.of (p := ("how_many_numberings", none)) F_how_many_numberings
  have b_how_many_numberings : Binds K fd_how_many_numberings ["book", "other", "roads"] [] := D_how_many_numberings.binds fun _ _ _ _ _ us hl => match us, hl with | [_, _, _], _ => rfl
  have g_how_many_numberings := glo "how_many_numberings" (by simp [hdFacts])
  obtain ⟨fd_is_whole, F_is_whole⟩ := c.t.d.def_ 8 (d := d_is_whole) rfl
  have D_is_whole : DefIs K "is_whole" "is_whole" st_is_whole _ fd_is_whole _ := DefIs.of (p := ("is_whole", none)) F_is_whole
  have b_is_whole : Binds K fd_is_whole ["thing", "least"] [] := D_is_whole.binds fun _ _ _ _ _ us hl => match us, hl with | [_, _], _ => rfl
  have g_is_whole := glo "is_whole" (by simp [hdFacts])
  obtain ⟨fd_check_books, F_check_books⟩ := c.t.d.def_ 9 (d := d_check_books) rfl
  have D_check_books : DefIs K "check_books" "check_books" st_check_books _ fd_check_books _ := DefIs.of (p := ("check_books", none)) F_check_books
  have b_check_books : Binds K fd_check_books ["book", "other"] [] := D_check_books.binds fun _ _ _ _ _ us hl => match us, hl with | [_, _], _ => rfl
  have g_check_books := glo "check_books" (by simp [hdFacts])
  obtain ⟨fd_check_roads, F_check_roads⟩ := c.t.d.def_ 10 (d := d_check_roads) rfl
  have D_check_roads : DefIs K "check_roads" "check_roads" st_check_roads _ fd_check_roads _ := DefIs.of (p := ("check_roads", none)) F_check_roads
  have b_check_roads : Binds K fd_check_roads ["thing"] [] := D_check_roads.binds fun _ _ _ _ _ us hl => match us, hl with | [_], _ => rfl
  have g_check_roads := glo "check_roads" (by simp [hdFacts])
  obtain ⟨fd_places_of, F_places_of⟩ := c.t.d.def_ 11 (d := d_places_of) rfl
  have D_places_of : DefIs K "places_of" "places_of" st_places_of _ fd_places_of _ := DefIs.of (p := ("places_of", none)) F_places_of
  have b_places_of : Binds K fd_places_of ["book"] [] := D_places_of.binds fun _ _ _ _ _ us hl => match us, hl with | [_], _ => rfl
  have g_places_of := glo "places_of" (by simp [hdFacts])
  obtain ⟨fd_pairs_turned, F_pairs_turned⟩ := c.t.d.def_ 12 (d := d_pairs_turned) rfl
  have D_pairs_turned : DefIs K "pairs_turned" "pairs_turned" st_pairs_turned _ fd_pairs_turned _ := DefIs.of (p := ("pairs_turned", none)) F_pairs_turned
  have b_pairs_turned : Binds K fd_pairs_turned ["book", "other"] [] := D_pairs_turned.binds fun _ _ _ _ _ us hl => match us, hl with | [_, _], _ => rfl
  have g_pairs_turned := glo "pairs_turned" (by simp [hdFacts])
  obtain ⟨fd_ranks_of, F_ranks_of⟩ := c.t.d.def_ 13 (d := d_ranks_of) rfl
  have D_ranks_of : DefIs K "ranks_of" "ranks_of" st_ranks_of _ fd_ranks_of _ := DefIs.of (p := ("ranks_of", none)) F_ranks_of
  have b_ranks_of : Binds K fd_ranks_of ["book", "other"] [] := D_ranks_of.binds fun _ _ _ _ _ us hl => match us, hl with | [_, _], _ => rfl
  have g_ranks_of := glo "ranks_of" (by simp [hdFacts])
  obtain ⟨fd_how_many_above, F_how_many_above⟩ := c.t.d.def_ 14 (d := d_how_many_above) rfl
  have D_how_many_above : DefIs K "how_many_above" "how_many_above" st_how_many_above _ fd_how_many_above _ := DefIs.of (p := ("how_many_above", none)) F_how_many_above
  have b_how_many_above : Binds K fd_how_many_above ["falling", "least"] [] := D_how_many_above.binds fun _ _ _ _ _ us hl => match us, hl with | [_, _], _ => rfl
  have g_how_many_above := glo "how_many_above" (by simp [hdFacts])
  obtain ⟨fd_ways_by_numbers, F_ways_by_numbers⟩ := c.t.d.def_ 15 (d := d_ways_by_numbers) rfl
  have D_ways_by_numbers : DefIs K "ways_by_numbers" "ways_by_numbers" st_ways_by_numbers _ fd_ways_by_numbers _ := DefIs.of (p := ("ways_by_numbers", none)) F_ways_by_numbers
  have b_ways_by_numbers : Binds K fd_ways_by_numbers ["pairs", "places"] [] := D_ways_by_numbers.binds fun _ _ _ _ _ us hl => match us, hl with | [_, _], _ => rfl
  have g_ways_by_numbers := glo "ways_by_numbers" (by simp [hdFacts])
  obtain ⟨fd_with_one_number_more, F_with_one_number_more⟩ := c.t.d.def_ 16 (d := d_with_one_number_more) rfl
  have D_with_one_number_more : DefIs K "with_one_number_more" "with_one_number_more" st_with_one_number_more _ fd_with_one_number_more _ := DefIs.of (p := ("with_one_number_more", none)) F_with_one_number_more
  have b_with_one_number_more : Binds K fd_with_one_number_more ["counts", "above"] [] := D_with_one_number_more.binds fun _ _ _ _ _ us hl => match us, hl with | [_, _], _ => rfl
  have g_with_one_number_more := glo "with_one_number_more" (by simp [hdFacts])
  obtain ⟨fd_law_pot, F_law_pot⟩ := c.t.d.def_ 17 (d := d_law_pot) rfl
  have D_law_pot : DefIs K "_law_pot" "_law_pot" st_law_pot _ fd_law_pot _ := DefIs.of (p := ("_law_pot", none)) F_law_pot
  have b_law_pot : Binds K fd_law_pot ["script", "k"] [] := D_law_pot.binds fun _ _ _ _ _ us hl => match us, hl with | [_, _], _ => rfl
  have g_law_pot := glo "_law_pot" (by simp [hdFacts])
  obtain ⟨fd_law_take, F_law_take⟩ := c.t.d.def_ 18 (d := d_law_take) rfl
  have D_law_take : DefIs K "_law_take" "_law_take" st_law_take _ fd_law_take _ := DefIs.of (p := ("_law_take", none)) F_law_take
  have b_law_take : Binds K fd_law_take ["pot", "many"] [] := D_law_take.binds fun _ _ _ _ _ us hl => match us, hl with | [_, _], _ => rfl
  have g_law_take := glo "_law_take" (by simp [hdFacts])
  obtain ⟨fd_law_some, F_law_some⟩ := c.t.d.def_ 19 (d := d_law_some) rfl
  have D_law_some : DefIs K "_law_some" "_law_some" st_law_some _ fd_law_some _ := DefIs.of (p := ("_law_some", none)) F_law_some
  have b_law_some : Binds K fd_law_some ["pot", "things", "many"] [] := D_law_some.binds fun _ _ _ _ _ us hl => match us, hl with | [_, _, _], _ => rfl
  have g_law_some := glo "_law_some" (by simp [hdFacts])
  obtain ⟨fd_law_names, F_law_names⟩ := c.t.d.def_ 20 (d := d_law_names) rfl
  have D_law_names : DefIs K "_law_names" "_law_names" st_law_names _ fd_law_names _ := DefIs.of (p := ("_law_names", none)) F_law_names
  have b_law_names : Binds K fd_law_names ["pot", "many"] [] := D_law_names.binds fun _ _ _ _ _ us hl => match us, hl with | [_, _], _ => rfl
  have g_law_names := glo "_law_names" (by simp [hdFacts])
  obtain ⟨fd_law_other, F_law_other⟩ := c.t.d.def_ 21 (d := d_law_other) rfl
  have D_law_other : DefIs K "_law_other" "_law_other" st_law_other _ fd_law_other _ := DefIs.of (p := ("_law_other", none)) F_law_other
  have b_law_other : Binds K fd_law_other ["pot", "book"] [] := D_law_other.binds fun _ _ _ _ _ us hl => match us, hl with | [_, _], _ => rfl
  have g_law_other := glo "_law_other" (by simp [hdFacts])
  obtain ⟨fd_law_called, F_law_called⟩ := c.t.d.def_ 22 (d := d_law_called) rfl
  have D_law_called : DefIs K "_law_called" "_law_called" st_law_called _ fd_law_called _ := DefIs.of (p := ("_law_called", none)) F_law_called
  have b_law_called : Binds K fd_law_called ["book"] [] := D_law_called.binds fun _ _ _ _ _ us hl => match us, hl with | [_], _ => rfl
  have g_law_called := glo "_law_called" (by simp [hdFacts])
  obtain ⟨fd_law_joined_right, F_law_joined_right⟩ := c.t.d.def_ 23 (d := d_law_joined_right) rfl
  have D_law_joined_right : DefIs K "_law_joined_right" "_law_joined_right" st_law_joined_right _ fd_law_joined_right _ := DefIs.of (p := ("_law_joined_right", none)) F_law_joined_right
  have b_law_joined_right : Binds K fd_law_joined_right ["one", "more", "roads"] [] := D_law_joined_right.binds fun _ _ _ _ _ us hl => match us, hl with | [_, _, _], _ => rfl
  have g_law_joined_right := glo "_law_joined_right" (by simp [hdFacts])
  obtain ⟨fd_law_more_right, F_law_more_right⟩ := c.t.d.def_ 24 (d := d_law_more_right) rfl
  have D_law_more_right : DefIs K "_law_more_right" "_law_more_right" st_law_more_right _ fd_law_more_right _ := DefIs.of (p := ("_law_more_right", none)) F_law_more_right
  have b_law_more_right : Binds K fd_law_more_right ["book", "other"] [] := D_law_more_right.binds fun _ _ _ _ _ us hl => match us, hl with | [_, _], _ => rfl
  have g_law_more_right := glo "_law_more_right" (by simp [hdFacts])
  obtain ⟨fd_law, F_law⟩ := c.t.d.def_ 25 (d := d_law) rfl
  have D_law : DefIs K "law" "law" st_law _ fd_law _ := DefIs.of (p := ("law", none)) F_law
  have b_law : Binds K fd_law ["script"] [] := D_law.binds fun _ _ _ _ _ us hl => match us, hl with | [_], _ => rfl
  have g_law := glo "law" (by simp [hdFacts])
  have m_comb : mg "comb" = some (.builtin "math.comb") := PySem.W.mg_of X G (He.eqO_ok c.more)
  have B : Nb mg := ⟨free "all" (by simp [hdFacts]), free "enumerate" (by simp [hdFacts]), free "int" (by simp [hdFacts]), free "len" (by simp [hdFacts]), free "list" (by simp [hdFacts]), free "max" (by simp [hdFacts]), free "min" (by simp [hdFacts]), free "range" (by simp [hdFacts]), free "reversed" (by simp [hdFacts]), free "set" (by simp [hdFacts]), free "sorted" (by simp [hdFacts]), free "str" (by simp [hdFacts]), free "sum" (by simp [hdFacts]), free "tuple" (by simp [hdFacts]), free "type" (by simp [hdFacts])⟩
  obtain ⟨tk_MOST_LETTERS, k_MOST_LETTERS⟩ := He.int_ok X G (c.t.d.facts (f := .int "MOST_LETTERS" 8) (by simp [hdFacts]))
  obtain ⟨tk_MOST_NUMBERED, k_MOST_NUMBERED⟩ := He.int_ok X G (c.t.d.facts (f := .int "MOST_NUMBERED" 12) (by simp [hdFacts]))
  refine ⟨fd_law, [He.cT K ("is_name", none), He.cT K ("are_unlike_names", none)], (spLaw K (He.cT K ("is_name", none)).2 (He.cT K ("are_unlike_names", none)).2), fun p hp => ?_, fun s u => ?_, fun H a ns hl hbits hT hS => law_start (fun p hp => ⟨#[], hT p hp, triples_none⟩) hl hbits hS, fun base KX GX TB => ?_⟩
  · obtain ⟨q, hq, rfl⟩ := List.mem_map.mp (show p ∈ hdTabs.map (He.cT K) from hp)
    exact ⟨c.empty q hq, c.out q hq, PySem.W.codeHd_of_K X (c.hd q hq)⟩
  · exact FunD.bindsA (ps := ["script"]) F_law (fun _ _ _ _ _ _ us hl => match us, hl with | [_], _ => rfl) s [u] rfl
  · have X_is_name := TB _ List.mem_cons_self
    have X_are_unlike_names := TB _ (List.mem_cons_of_mem _ List.mem_cons_self)
    have c_is_name : Callee PySem.Challenge.rw_heardapart_k15_whole_books_put_together.prog w K mg base CX0 4 "is_name" ["thing"] (spIsName K (He.cT K ("is_name", none)).2) := ⟨_, fd_is_name, ok_is_name B D_is_name X_is_name k_MOST_LETTERS, g_is_name, F_is_name.kp, b_is_name⟩
    have c_are_unlike_names : Callee PySem.Challenge.rw_heardapart_k15_whole_books_put_together.prog w K mg base CX0 8 "are_unlike_names" ["thing"] (spUnlike K (He.cT K ("is_name", none)).2 (He.cT K ("are_unlike_names", none)).2) := ⟨_, fd_are_unlike_names, ok_are_unlike_names B D_are_unlike_names X_are_unlike_names c_is_name, g_are_unlike_names, F_are_unlike_names.kp, b_are_unlike_names⟩
    have c_is_book : Callee PySem.Challenge.rw_heardapart_k15_whole_books_put_together.prog w K mg base CX0 9 "is_book" ["thing"] (spUnlike K (He.cT K ("is_name", none)).2 (He.cT K ("are_unlike_names", none)).2) := ⟨_, fd_is_book, ok_is_book D_is_book c_are_unlike_names, g_is_book, F_is_book.kp, b_is_book⟩
    have c_check_books : Callee PySem.Challenge.rw_heardapart_k15_whole_books_put_together.prog w K mg base CX0 10 "check_books" ["book", "other"] (spCheck K (He.cT K ("is_name", none)).2 (He.cT K ("are_unlike_names", none)).2) := ⟨_, fd_check_books, ok_check_books B D_check_books c_is_book, g_check_books, F_check_books.kp, b_check_books⟩
    have c_places_of : Callee PySem.Challenge.rw_heardapart_k15_whole_books_put_together.prog w K mg base CX0 4 "places_of" ["book"] (spPlaces K) := ⟨_, fd_places_of, ok_places_of B D_places_of, g_places_of, F_places_of.kp, b_places_of⟩
    have c_pairs_turned : Callee PySem.Challenge.rw_heardapart_k15_whole_books_put_together.prog w K mg base CX0 5 "pairs_turned" ["book", "other"] (spPairs K) := ⟨_, fd_pairs_turned, ok_pairs_turned B D_pairs_turned c_places_of, g_pairs_turned, F_pairs_turned.kp, b_pairs_turned⟩
    have c_turned_pairs : Callee PySem.Challenge.rw_heardapart_k15_whole_books_put_together.prog w K mg base CX0 11 "turned_pairs" ["book", "other"] (spTurned K (He.cT K ("is_name", none)).2 (He.cT K ("are_unlike_names", none)).2) := ⟨_, fd_turned_pairs, ok_turned_pairs D_turned_pairs c_check_books c_pairs_turned, g_turned_pairs, F_turned_pairs.kp, b_turned_pairs⟩
    have c_is_whole : Callee PySem.Challenge.rw_heardapart_k15_whole_books_put_together.prog w K mg base CX0 1 "is_whole" ["thing", "least"] (spWhole K) := ⟨_, fd_is_whole, ok_is_whole B D_is_whole, g_is_whole, F_is_whole.kp, b_is_whole⟩
    have c_check_roads : Callee PySem.Challenge.rw_heardapart_k15_whole_books_put_together.prog w K mg base CX0 2 "check_roads" ["thing"] (spRoadsNo K) := ⟨_, fd_check_roads, ok_check_roads B D_check_roads c_is_whole, g_check_roads, F_check_roads.kp, b_check_roads⟩
    have c_with_one_number_more : Callee PySem.Challenge.rw_heardapart_k15_whole_books_put_together.prog w K mg base CX0 4 "with_one_number_more" ["counts", "above"] (spMore K) := ⟨_, fd_with_one_number_more, ok_with_one_number_more B D_with_one_number_more, g_with_one_number_more, F_with_one_number_more.kp, b_with_one_number_more⟩
    have c_ways_by_numbers : Callee PySem.Challenge.rw_heardapart_k15_whole_books_put_together.prog w K mg base CX0 6 "ways_by_numbers" ["pairs", "places"] (spWays K) := ⟨_, fd_ways_by_numbers, ok_ways_by_numbers B D_ways_by_numbers c_with_one_number_more, g_ways_by_numbers, F_ways_by_numbers.kp, b_ways_by_numbers⟩
    have c_how_many_numberings : Callee PySem.Challenge.rw_heardapart_k15_whole_books_put_together.prog w K mg base CX0 11 "how_many_numberings" ["book", "other", "roads"] (spNumb K (He.cT K ("is_name", none)).2 (He.cT K ("are_unlike_names", none)).2) := ⟨_, fd_how_many_numberings, ok_how_many_numberings B D_how_many_numberings k_MOST_NUMBERED m_comb c_check_books c_check_roads c_pairs_turned c_places_of c_ways_by_numbers, g_how_many_numberings, F_how_many_numberings.kp, b_how_many_numberings⟩
    have c_law_pot : Callee PySem.Challenge.rw_heardapart_k15_whole_books_put_together.prog w K mg base CX0 3 "_law_pot" ["script", "k"] (spPot K) := ⟨_, fd_law_pot, ok_law_pot B D_law_pot, g_law_pot, F_law_pot.kp, b_law_pot⟩
    have c_law_take : Callee PySem.Challenge.rw_heardapart_k15_whole_books_put_together.prog w K mg base CX0 3 "_law_take" ["pot", "many"] (spTake K) := ⟨_, fd_law_take, ok_law_take B D_law_take, g_law_take, F_law_take.kp, b_law_take⟩
    have c_law_some : Callee PySem.Challenge.rw_heardapart_k15_whole_books_put_together.prog w K mg base CX0 4 "_law_some" ["pot", "things", "many"] (spSome K) := ⟨_, fd_law_some, ok_law_some B D_law_some c_law_take, g_law_some, F_law_some.kp, b_law_some⟩
    have c_law_names : Callee PySem.Challenge.rw_heardapart_k15_whole_books_put_together.prog w K mg base CX0 5 "_law_names" ["pot", "many"] (spDraw K) := ⟨_, fd_law_names, ok_law_names B D_law_names c_law_some, g_law_names, F_law_names.kp, b_law_names⟩
    have c_law_other : Callee PySem.Challenge.rw_heardapart_k15_whole_books_put_together.prog w K mg base CX0 5 "_law_other" ["pot", "book"] (spOther K) := ⟨_, fd_law_other, ok_law_other B D_law_other c_law_take c_law_some, g_law_other, F_law_other.kp, b_law_other⟩
    have c_how_many_above : Callee PySem.Challenge.rw_heardapart_k15_whole_books_put_together.prog w K mg base CX0 1 "how_many_above" ["falling", "least"] (spAbove K) := ⟨_, fd_how_many_above, ok_how_many_above B D_how_many_above, g_how_many_above, F_how_many_above.kp, b_how_many_above⟩
    have c_ranks_of : Callee PySem.Challenge.rw_heardapart_k15_whole_books_put_together.prog w K mg base CX0 5 "ranks_of" ["book", "other"] (spRanks K) := ⟨_, fd_ranks_of, ok_ranks_of B D_ranks_of c_places_of c_how_many_above, g_ranks_of, F_ranks_of.kp, b_ranks_of⟩
    have c_roads_between : Callee PySem.Challenge.rw_heardapart_k15_whole_books_put_together.prog w K mg base CX0 11 "roads_between" ["book", "other"] (spRoads K (He.cT K ("is_name", none)).2 (He.cT K ("are_unlike_names", none)).2) := ⟨_, fd_roads_between, ok_roads_between B D_roads_between c_check_books c_ranks_of, g_roads_between, F_roads_between.kp, b_roads_between⟩
    have c_longest_turned : Callee PySem.Challenge.rw_heardapart_k15_whole_books_put_together.prog w K mg base CX0 11 "longest_turned" ["book", "other"] (spLongest K (He.cT K ("is_name", none)).2 (He.cT K ("are_unlike_names", none)).2) := ⟨_, fd_longest_turned, ok_longest_turned B D_longest_turned c_check_books c_ranks_of, g_longest_turned, F_longest_turned.kp, b_longest_turned⟩
    have c_fewest_lots : Callee PySem.Challenge.rw_heardapart_k15_whole_books_put_together.prog w K mg base CX0 11 "fewest_lots" ["book", "other"] (spFewest K (He.cT K ("is_name", none)).2 (He.cT K ("are_unlike_names", none)).2) := ⟨_, fd_fewest_lots, ok_fewest_lots B D_fewest_lots c_check_books c_ranks_of, g_fewest_lots, F_fewest_lots.kp, b_fewest_lots⟩
    have c_law_called : Callee PySem.Challenge.rw_heardapart_k15_whole_books_put_together.prog w K mg base CX0 1 "_law_called" ["book"] (spCalled K) := ⟨_, fd_law_called, ok_law_called B D_law_called, g_law_called, F_law_called.kp, b_law_called⟩
    have c_law_joined_right : Callee PySem.Challenge.rw_heardapart_k15_whole_books_put_together.prog w K mg base CX0 12 "_law_joined_right" ["one", "more", "roads"] (spJoined K (He.cT K ("is_name", none)).2 (He.cT K ("are_unlike_names", none)).2) := ⟨_, fd_law_joined_right, ok_law_joined_right B D_law_joined_right c_turned_pairs c_roads_between c_how_many_numberings c_longest_turned c_fewest_lots, g_law_joined_right, F_law_joined_right.kp, b_law_joined_right⟩
    have c_law_more_right : Callee PySem.Challenge.rw_heardapart_k15_whole_books_put_together.prog w K mg base CX0 12 "_law_more_right" ["book", "other"] (spMoreR K (He.cT K ("is_name", none)).2 (He.cT K ("are_unlike_names", none)).2) := ⟨_, fd_law_more_right, ok_law_more_right B D_law_more_right c_turned_pairs c_fewest_lots c_law_called, g_law_more_right, F_law_more_right.kp, b_law_more_right⟩
    exact ok_law B D_law c_law_pot c_law_take c_law_names c_law_other c_law_joined_right c_law_more_right
end Lw
open PyProof.Rows PySem PySem.W PySem.Calls
theorem PySem.Challenge.cw_heardapart_k15_whole_books_put_together_holds : PySem.Challenge.rw_heardapart_k15_whole_books_put_together.Holds := by
  w_on; o_law
  refine HandSHeadRun.head_imp (r := Lw.hdRow) (q := Lw.hdView) (H := Lw.hdHook) (ob := Lw.hdOb) (M := 4000) (loose := Lw.hdLoose) (d := Lw.hdTop) (kwd := []) Lw.hdOb_eq
    Lw.hdRun (by kernel_rfl) (by kernel_rfl) (by kernel_rfl) (by rfl) (by first | assumption | decide +kernel) (by decide +kernel) ⟨rfl, rfl, rfl, rfl, rfl, by decide +kernel⟩ ?hw ?hc
  case hw => w_witness2
  case hc =>
    refine Gx.walk_GE (l := PySem.Challenge.rw_heardapart_k15_whole_books_put_together) (n := 63) (k := 13) (x := "script") rfl (by decide) (by kernel_rfl) ⟨rfl, by decide, by decide⟩ ?F
    intro w mg fa h Y G hmg0
    obtain ⟨K, KX, c⟩ := Y
    have hmg : mg ("law" : PySem.Str) = some (.ref fa) := by
      have e : Lw.hdTop.name = ("law" : PySem.Str) := by kernel_rfl
      rw [← e]
      exact hmg0
    exact ⟨K, KX, Lw.hd_all KX G hmg c⟩

