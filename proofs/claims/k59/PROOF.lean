import PyProof.Rows.All
import Wide.All
import OpenK.AllK
import Wide.FinOn
import HandS.ForMost
import HandS.AnyAll
import HandS.GenList
import HandS.EndTab
import KE.SortData
import HandS.WideBits
import HandS.DictComp
import HandS.More
import HandS.TupAny
import HandS.TupLe
import HandS.Walk
import HandS.HeadHook4
import HandS.Head4
import HandS.SortKw
import HandS.Iter
import HandS.SetFor
import HandS.SortInts
import HandS.Strs
import HandS.Dict
import PyProof.RowDictHeap
import HandS.HeadHook3
import HandS.FStr
import HandS.Style
import HandS.Small
import HandS.Deep
import HandS.IsInst
import HandS.Conv
import HandS.NoneIn
import HandS.Text
import HandS.TupLen
import PySem.Challenge.RW_heardapart_k59_written_and_read
set_option Elab.async false
set_option linter.all false
set_option maxRecDepth 100000
set_option maxHeartbeats 8000000
/-! A generator expression whose element may do anything, under all( ) and any( ). -/
namespace Gx
open PySem PySem.Spec PyProof.Rows L2 GxR GenW

abbrev genv (X : Cx) (sc : Scope) (C : Addr) (code : Value) : Env :=
  genEnv sc (cloFrom X.env.cells sc.names []) C code builtinsNs X.env
abbrev gcx (X : Cx) (s : Shared) (H : Hp) (sc : Scope) (C : Addr) (code : Value) (fp : List Addr) : Cx :=
  { X with
    A := X.A.in1.in1.deeper (genv X sc C code)
    s_0 := s
    H_0 := H
    env := genv X sc C code
    outer := X.stack
    stack := genv X sc C code :: X.stack
    ex := fp
    fn := fun _ => false
    calm := true
    pn := []
    xe := fun _ _ => False }

theorem over_loop_gx {A : Around} {elt : Expr} {gs : List Comprehension} {sc : Scope} {pos : Pos} {it acc : Value} {env : Env} :
    A.over (.compLoop (.GeneratorExp elt gs sc pos) 0 it acc env) [] = A.deeper env := by
  obtain ⟨a, b, c, d, e⟩ := A
  cases c <;> cases d <;>
  simp [Around.over, Around.deeper, marksOver, frameCount, unitsOf, envsOf, guardsOf, pushEnvs, pushGuards, Code.envs, Code.env?, Code.isFrame, Code.guards, Code.isGuard, Code.weight, Code.frames, Code.isCreation, Code.isCaller, Code.cUnits]
theorem over_start_gx {A : Around} {elt : Expr} {gs : List Comprehension} {sc : Scope} {pos : Pos} {it acc : Value} {env : Env} :
    A.over (.compStart (.GeneratorExp elt gs sc pos) 0 it acc env) [] = A.deeper env := by
  obtain ⟨a, b, c, d, e⟩ := A
  cases c <;> cases d <;>
  simp [Around.over, Around.deeper, marksOver, frameCount, unitsOf, envsOf, guardsOf, pushEnvs, pushGuards, Code.envs, Code.env?, Code.isFrame, Code.guards, Code.isGuard, Code.weight, Code.frames, Code.isCreation, Code.isCaller, Code.cUnits]

section
variable {X : Cx} {pins : List (Addr × Obj)} {σ : L2.St} {H : Hp} {s : Shared}

theorem clo_look {cells : List (Str × Addr)} {names : List (Str × NameKind)} {y : Str} {c : Addr} (hf : ∀ z ∈ names, z.2 = .free → ∃ c, cells.lookup z.1 = some c)
    (h : (cloFrom cells names []).lookup y = some c) : cells.lookup y = some c ∧ (y, NameKind.free) ∈ names := by
  rcases cloFrom_mem (PySem.mem_of_lookup h) with q | ⟨q1, q2⟩
  · cases q
  · obtain ⟨c', e⟩ := hf _ q1 rfl
    rw [e] at q2
    have q3 : c = c' := q2
    exact ⟨by rw [q3]; exact e, q1⟩
theorem clo_has {cells : List (Str × Addr)} {names : List (Str × NameKind)} {y : Str} (hf : ∀ z ∈ names, z.2 = .free → ∃ c, cells.lookup z.1 = some c)
    (h : (y, NameKind.free) ∈ names) : ∃ c, (cloFrom cells names []).lookup y = some c ∧ cells.lookup y = some c := by
  obtain ⟨c, e⟩ := mem_lookup (cloFrom_has (cells := cells) (acc := []) h)
  exact ⟨c, e, (clo_look hf e).1⟩

/-- the generator's frame has been made: the state as its body sees it -/
theorem gx_start {sc : Scope} {own : List (Str × Nat)} {fp : List Addr} {C : Addr} {code : Value} {h' : Heap} {g' : Array GenState} {d' : Drawn} {t' : Nat}
    (I : Inv X pins σ H s) (hh : X.A.handled = none) (ok : BlkOk X.N X.env.scope sc own) (hN : X.N.Nodup) (hcell : ∀ y ∈ sc.names, y.2 ≠ .cell)
    (hfp : ∀ b ∈ fp, FpOk X pins H b ∧ b < s.heap.objs.size) (hC : C = s.heap.objs.size) (hns : ∃ m, h'.Ns C m)
    (kp : ∀ b o, s.heap.get? b = some o → h'.get? b = some o) (hg : AllBare g') :
    Inv (gcx X s H sc C code fp) [] (wipe σ (own.map (·.2))) H { s with heap := h', gens := g', drawn := d', toks := t' } := by
  have hf : ∀ z ∈ sc.names, z.2 = .free → ∃ c, X.env.cells.lookup z.1 = some c := fun z hz e => by
    rcases ok.free z hz e with k | k
    · exact I.ok.has _ (.inl k)
    · exact I.ok.has _ (.inr k)
  have cl : ∀ {y c}, (genv X sc C code).cells.lookup y = some c → X.env.cells.lookup y = some c ∧ (y, NameKind.free) ∈ sc.names := fun {y c} e => clo_look hf e
  have clt : ∀ {y c}, X.env.cells.lookup y = some c → c < s.heap.objs.size := fun {y c} e => by
    obtain ⟨w, z⟩ := I.cell y c e
    exact z.lt
  have free_of : ∀ {y}, (genv X sc C code).kindOf y = some .cell ∨ (genv X sc C code).kindOf y = some .free → (y, NameKind.free) ∈ sc.names := fun {y} hy => by
    rcases hy with hy | hy
    · exact absurd rfl (hcell _ (PySem.mem_of_lookup (show sc.names.lookup y = some .cell from hy)))
    · exact PySem.mem_of_lookup (show sc.names.lookup y = some .free from hy)
  have okY : (gcx X s H sc C code fp).Ok :=
    { mod := I.ok.mod
      kind := ok.kind
      glob := I.ok.glob
      blt := rfl
      above := Nat.le_of_eq hC.symm
      inj := fun y z c e1 e2 => I.ok.inj y z c (cl e1).1 (cl e2).1
      has := fun y hy => by
        obtain ⟨c, e, _⟩ := clo_has (cells := X.env.cells) hf (free_of hy)
        exact ⟨c, e⟩
      cab := fun y c e => by cases e
      hd := fun _ => hh
      frames := by
        have q := I.ok.frames
        show X.A.frames.map (genv X sc C code :: ·) = _
        rw [q]
        rfl
      stk := .inr ⟨rfl, rfl⟩
      exf := fun b hb => ⟨by
          show b ≠ C
          rw [hC]
          exact Nat.ne_of_lt (hfp b hb).2, fun y c e => (hfp b hb).1.2.2.2.2.1 y c (cl e).1⟩
      bs := I.bs
      bsz := Nat.le_trans I.ok.bsz I.sz
      noex := fun b o e hb => by
        rcases (hfp b hb).1.2.2.2.1 with z | z
        · exact I.ok.noex b o e z
        · exact absurd (Nat.lt_of_lt_of_le (Heap.lt_size e) (Nat.le_trans I.ok.bsz z)) (Nat.lt_irrefl _)
      exfs := fun b hb z => by
        rcases List.mem_cons.mp (I.stkSub b z) with z | z
        · exact (hfp b hb).1.2.1 z
        · exact (hfp b hb).1.2.2.1 z
      funs := I.stack
      frf := I.stkFree }
  obtain ⟨m, hm⟩ := hns
  have hn : ∀ b, s.heap.objs.size ≤ b → H b = none := fun b hb => I.hok.fresh hb
  refine { ok := okY, os := rfl, bare := hg, base := Un.kept kp, loc := ⟨m, hm, fun i y v e1 e2 e3 => ?_⟩, cell := fun y c e => ?_, free := hn C (Nat.le_of_eq hC.symm), freeC := fun y c e => I.freeC y c (cl e).1,
           pin := fun p hp => absurd (show p ∈ ([] : List (Addr × Obj)) ++ [] from hp) (by simp), hok := I.hok.kept kp, len := by rw [wipe_length]; exact I.len }
  · obtain ⟨e2, hne⟩ := wipe_some e2
    have hfr : (y, NameKind.free) ∈ sc.names := by
      have e3' : sc.names.lookup y = some .local ∨ sc.names.lookup y = some .cell ∨ sc.names.lookup y = some .free := e3
      have own : ∀ k, (y, k) ∈ sc.names → k = .local ∨ k = .cell → False := fun k hk hk2 => by
        rcases ok.own _ hk hk2 with q | q
        · obtain ⟨p, hp, hpy⟩ := List.mem_map.mp q
          have q3 := ok.ix p hp
          rw [show p.1 = y from hpy] at q3
          exact hne (List.mem_map.mpr ⟨p, hp, nodup_ix hN q3 e1⟩)
        · exact q (List.mem_of_getElem? e1)
      rcases e3' with q | q | q
      · exact (own _ (PySem.mem_of_lookup q) (.inl rfl)).elim
      · exact (own _ (PySem.mem_of_lookup q) (.inr rfl)).elim
      · exact PySem.mem_of_lookup q
    obtain ⟨m0, _, hl⟩ := I.loc
    have vis : Vis X.env.scope y := (ok.free _ hfr rfl).elim (fun k => .inr (.inl k)) fun k => .inr (.inr k)
    obtain ⟨w, r, q⟩ := hl i y v e1 e2 vis
    obtain ⟨c, h1, h2⟩ := clo_has (cells := X.env.cells) hf hfr
    have kf : (genv X sc C code).kindOf y = some .free := ok.uniq _ hfr
    refine ⟨w, r, .inr ⟨.inr kf, c, h1, ?_⟩⟩
    rcases q with ⟨k, _⟩ | ⟨_, c', e', z⟩
    · have k' : X.env.scope.names.lookup y = some .local := k
      rcases ok.free _ hfr rfl with k2 | k2 <;> rw [show X.env.scope.names.lookup y = _ from k2] at k' <;> cases k'
    · rw [h2] at e'
      cases e'
      exact z.keeps kp
  · obtain ⟨w, z⟩ := I.cell y c (cl e).1
    exact ⟨w, z.keeps kp⟩

/-- generators, tokens and what was drawn are no matter -/
theorem inv_gens {g' : Array GenState} {d' : Drawn} {t' : Nat} (I : Inv X pins σ H s) (hg : AllBare g') : Inv X pins σ H { s with gens := g', drawn := d', toks := t' } :=
  I.step (h' := s.heap) (ch := []) (fun b hb => absurd hb (by simp)) (fun _ _ _ _ _ e _ => e) (fun _ o _ _ _ e _ => ⟨o.slots, e⟩) (fun _ _ _ _ n => n) (fun _ o _ e => ⟨o, e⟩)
    (fun _ _ e => e) (fun _ _ _ e => e) (fun _ ps e => ⟨#[], by rw [e]; simp⟩) (fun _ hm => hm) I.hok hg
theorem inv_like {s' : Shared} (I : Inv X pins σ H s) (hh : s'.heap = s.heap) (ho : s'.os = s.os) (hg : AllBare s'.gens) : Inv X pins σ H s' := by
  have J := inv_gens (g' := s'.gens) (d' := s'.drawn) (t' := s'.toks) I hg
  rw [← hh] at J
  rw [sh_eta s s' ho] at J
  exact J

/-- what is known once and for all of one run of the generator -/
structure Run (X : Cx) (s0 : Shared) (H0 : Hp) (sc : Scope) (C : Addr) (code : Value) (fp : List Addr) (tg elt : Expr) (g : TG) (te : TE) (J : It) (it : Addr) (tn : Nat → Heap → Prop) (vs : List Nat) (σ0 : L2.St)
    (sb : Bool) (W : Nat → Nat → Hp → Prop) (Q : VK) : Prop where
  turns : Turn X.prog X.w X.K tg J fp it tn
  target : PG (gcx X s0 H0 sc C code fp) tg g
  element : PE (gcx X s0 H0 sc C code fp) elt te
  nocor : sc.isCoroutine = false
  step : ∀ i m H, W i m H → (J.stop i H ∧ Q (.bl (!sb)) H) ∨ (J.go i H ∧ ∃ Nx : Hp → Prop, (∀ H', Nx H' → ∃ m', m' < m ∧ W (i + 1) m' H') ∧
    ∀ x H', J.yld i H x H' → g x σ0 H' fun σ2 H2 => wipe σ2 vs = σ0 ∧ te σ2 H2 fun y H4 => ∃ b, y = .bl b ∧ if b = sb then Q (.bl sb) H4 else Nx H4)

/-- the generator stands ahead of its i-th turn, with room for n more -/
def Ahead (X : Cx) (s0 : Shared) (H0 : Hp) (sc : Scope) (C : Addr) (code : Value) (fp : List Addr) (tn : Nat → Heap → Prop) (σ0 : L2.St) (W : Nat → Nat → Hp → Prop) (pin : Addr × Obj) (i n : Nat) (s : Shared) : Prop :=
  ∃ H m, Inv (gcx X s0 H0 sc C code fp) [pin] σ0 H s ∧ tn i s.heap ∧ (∀ b ∈ fp, H b = none) ∧ m ≤ n ∧ W i m H
/-- it hands out a truth -/
def Out (X : Cx) (s0 : Shared) (H0 : Hp) (sc : Scope) (C : Addr) (code : Value) (fp : List Addr) (pin : Addr × Obj) (sb : Bool) (Q : VK) : Protocol := fun n s₀ v s kap =>
  ∃ (b : Bool) (σ1 : L2.St) (H1 : Hp), v = .bool b ∧ Inv (gcx X s0 H0 sc C code fp) [pin] σ1 H1 s ∧ (b = sb → Q (.bl sb) H1) ∧
    (b ≠ sb → ∀ s'', s''.heap = s.heap → s''.os = s.os → AllBare s''.gens → kap (.send .none) s'')
/-- it has come to its end -/
def Over (X : Cx) (s0 : Shared) (H0 : Hp) (sc : Scope) (C : Addr) (code : Value) (fp : List Addr) (pin : Addr × Obj) (sb : Bool) (Q : VK) (n : Nat) (s₀ s : Shared) : Prop :=
  ∃ (σ1 : L2.St) (H1 : Hp), Inv (gcx X s0 H0 sc C code fp) [pin] σ1 H1 s ∧ Q (.bl (!sb)) H1

section
variable {s0 : Shared} {H0 : Hp} {sc : Scope} {C : Addr} {code : Value} {fp : List Addr} {tg elt iter : Expr} {g : TG} {te : TE} {J : It} {it : Addr} {tn : Nat → Heap → Prop} {vs : List Nat} {σ0 : L2.St} {sb : Bool} {W : Nat → Nat → Hp → Prop} {Q : VK}
  {pin : Addr × Obj} {pos : Pos}

theorem ahead_like {i n : Nat} {s s' : Shared} (h : Ahead X s0 H0 sc C code fp tn σ0 W pin i n s) (hh : s'.heap = s.heap) (ho : s'.os = s.os) (hg : AllBare s'.gens) : Ahead X s0 H0 sc C code fp tn σ0 W pin i n s' := by
  obtain ⟨H, m, I, st, n, le, w⟩ := h
  exact ⟨H, m, inv_like I hh ho hg, by rw [hh]; exact st, n, le, w⟩

abbrev LoopC (X : Cx) (elt tg iter : Expr) (sc : Scope) (pos : Pos) (it C : Addr) (code : Value) : Code := .compLoop (.GeneratorExp elt [⟨tg, iter, [], 0⟩] sc pos) 0 (.ref it) .none (genv X sc C code)
abbrev SegX (X : Cx) (s0 : Shared) (H0 : Hp) (sc : Scope) (C : Addr) (code : Value) (fp : List Addr) (pin : Addr × Obj) (sb : Bool) (Q : VK) (n : Nat) (s₀ : Shared) (c : Code) (t : Sem PySem.Fin) (s : Shared) : Prop :=
  Seg (model X.prog X.w) X.A.in1.in1 (fun n s₀ r s₁ => r = .ok .next ∧ Over X s0 H0 sc C code fp pin sb Q n s₀ s₁) (Out X s0 H0 sc C code fp pin sb Q) n s₀ c t [] s

theorem seg_turn (R : Run X s0 H0 sc C code fp tg elt g te J it tn vs σ0 sb W Q) (hp : pin.1 ∉ fp) (n i : Nat) (s₀ s : Shared) (h : Ahead X s0 H0 sc C code fp tn σ0 W pin i n s)
    (again : ∀ n' s'', n = n' + 1 → Ahead X s0 H0 sc C code fp tn σ0 W pin (i + 1) n' s'' → SegX X s0 H0 sc C code fp pin sb Q (n' + 1) s'' (LoopC X elt tg iter sc pos it C code) ((model X.prog X.w).den (LoopC X elt tg iter sc pos it C code)) s'') :
    SegX X s0 H0 sc C code fp pin sb Q (n + 1) s₀ (LoopC X elt tg iter sc pos it C code) ((model X.prog X.w).den (LoopC X elt tg iter sc pos it C code)) s := by
  have T := R.turns
  have eA : (X.A.in1.in1).over (LoopC X elt tg iter sc pos it C code) [] = (gcx X s0 H0 sc C code fp).A := over_loop_gx
  obtain ⟨H, m, I, st, nf, le, w⟩ := h
  have stat : ∀ {σ' : L2.St} {H' : Hp} {s' : Shared}, Inv (gcx X s0 H0 sc C code fp) [pin] σ' H' s' → (∀ b ∈ fp, H' b = none) → ∀ b ∈ fp, FpOk (gcx X s0 H0 sc C code fp) [pin] H' b := fun {σ' H' s'} I' hn b hb =>
    ⟨hn b hb, (I'.ok.exf b hb).1, I'.ok.exfs b hb, .inl hb, fun x c e => (I'.ok.exf b hb).2 x c e, fun p hp' => by
      have e : p = pin := by simpa using hp'
      rw [e]
      exact fun z => hp (z ▸ hb)⟩
  show Seg _ _ _ _ _ _ _ ((compTurn (.GeneratorExp elt [⟨tg, iter, [], 0⟩] sc pos) 0 (.ref it) .none (genv X sc C code)).onRaise (leaving (genv X sc C code))) _ _
  rw [compTurn_gen, Sem.onRaise_eq_wrap]
  refine seg_bind_wrap (wpAny_standAt ?_)
  rcases R.step i m H w with ⟨stop, q⟩ | ⟨go, Nx, hNx, turn⟩
  · refine seg_bind_wrap ?_
    rw [eA]
    refine wpAny_mono (T.done (gcx X s0 H0 sc C code fp) rfl rfl rfl rfl i [pin] s σ0 H (fun _ _ => False) I (stat I nf) st stop) (fun r s1 h1 => ?_) fun e s z => z.elim
    obtain ⟨hr, I1⟩ := h1
    subst hr
    exact seg_end (.ok .next) ⟨rfl, σ0, H, I1, q⟩
  · refine seg_bind_wrap ?_
    rw [eA]
    refine wpAny_mono (T.item (gcx X s0 H0 sc C code fp) rfl rfl rfl rfl i [pin] s σ0 H (fun _ _ => False) I (stat I nf) st go) (fun r s1 h1 => ?_) fun e s z => z.elim
    obtain ⟨u, hr, h1⟩ := h1
    subst hr
    refine seg_bind_wrap ?_
    rw [eA]
    refine wpAny_mono h1 (fun _ s2 h2 => ?_) fun e s z => z.elim
    obtain ⟨x, H2, I2, r2, y2, st2, nf2⟩ := h2
    have I2' := I2.pinned (stat I2 nf2) (T.obj _ _ st2)
    refine seg_bind_wrap ?_
    rw [eA]
    refine wpAny_mono (R.target.run _ s2 σ0 H2 x u _ I2' r2 (turn x H2 y2)) (fun _ s3 h3 => ?_) fun e s z => z.elim
    obtain ⟨σ3, H3, I3, hw3, q3⟩ := h3
    refine seg_bind_wrap ?_
    rw [List.forIn_nil]
    refine wpAny_pure ?_
    simp only [if_true]
    have hy : ∀ v, yieldOut (genv X sc C code) v = yieldValue v := fun v => by
      have e : (genv X sc C code).scope.isCoroutine = false := R.nocor
      simp only [yieldOut, e, Bool.false_eq_true, if_false]
    simp only [hy]
    rw [Sem.bind_eq_wrap', Sem.bind_eq_wrap', Sem.wrap_wrap, Sem.wrap_wrap]
    refine seg_wrap ?_
    rw [eA]
    refine wpAny_mono (R.element.run _ s3 σ3 H3 _ I3 q3) (fun y s4 h4 => ?_) fun e s z => z.elim
    obtain ⟨yv, H4, I4, r4, b, ey, q4⟩ := h4
    subst ey
    have er : y = Value.bool b := r4
    subst er
    have pinK : ∀ b ∈ fp, ∀ o, s2.heap.get? b = some o → s4.heap.get? b = some o ∧ H4 b = none := fun b hb o e =>
      let z := I4.pin (b, o) (List.mem_append_right _ (List.mem_append_right _ (mem_pinsAt hb e)))
      ⟨z.1, z.2.1⟩
    have hl : σ0.length = σ3.length := by rw [← hw3, wipe_length]
    have I4' : Inv (gcx X s0 H0 sc C code fp) [pin] σ0 H4 s4 := (I4.unpinned (pins := [pin])).weak hl fun j v e => by
      rw [← hw3] at e
      exact (wipe_some e).1
    refine seg_at (seg_yield rfl rfl rfl ⟨b, σ0, H4, rfl, I4', fun e => ?_, fun ne s'' hh ho hg => ?_⟩)
    · rw [if_pos e] at q4
      exact q4
    · rw [if_neg ne] at q4
      obtain ⟨m', hm, w'⟩ := hNx H4 q4
      obtain ⟨n', rfl⟩ : ∃ n', n = n' + 1 := ⟨n - 1, by omega⟩
      refine seg_again rfl (again n' s'' rfl (ahead_like (s := s4) ⟨H4, m', I4', T.keep _ _ _ st2 fun b hb o e => (pinK b hb o e).1, fun b hb => ?_, by omega, w'⟩ hh ho hg))
      obtain ⟨o, e, _⟩ := T.obj _ _ st2 b hb
      exact (pinK b hb o e).2
theorem seg_turns (R : Run X s0 H0 sc C code fp tg elt g te J it tn vs σ0 sb W Q) (hp : pin.1 ∉ fp) : ∀ (n i : Nat) (s₀ s : Shared), Ahead X s0 H0 sc C code fp tn σ0 W pin i n s →
    SegX X s0 H0 sc C code fp pin sb Q (n + 1) s₀ (LoopC X elt tg iter sc pos it C code) ((model X.prog X.w).den (LoopC X elt tg iter sc pos it C code)) s := by
  intro n
  induction n with
  | zero => exact fun i s₀ s h => seg_turn R hp 0 i s₀ s h fun n' s'' e _ => by omega
  | succ n ih =>
    refine fun i s₀ s h => seg_turn R hp (n + 1) i s₀ s h fun n' s'' e h' => ?_
    have e' : n' = n := by omega
    rw [e'] at h' ⊢
    exact ih (i + 1) s'' s'' h'
abbrev StartC (X : Cx) (elt tg iter : Expr) (sc : Scope) (pos : Pos) (it C : Addr) (code : Value) : Code := .compStart (.GeneratorExp elt [⟨tg, iter, [], 0⟩] sc pos) 0 (.ref it) .none (genv X sc C code)
theorem seg_begin (R : Run X s0 H0 sc C code fp tg elt g te J it tn vs σ0 sb W Q) (hp : pin.1 ∉ fp) (n : Nat) (s₀ s : Shared) (h : Ahead X s0 H0 sc C code fp tn σ0 W pin 0 n s) :
    SegX X s0 H0 sc C code fp pin sb Q (n + 1) s₀ (StartC X elt tg iter sc pos it C code) ((model X.prog X.w).den (StartC X elt tg iter sc pos it C code)) s := by
  have loop := seg_turns (iter := iter) (pos := pos) R hp n 0 s₀ s h
  obtain ⟨H, m, I, st, _⟩ := h
  show Seg _ _ _ _ _ _ _ ((compStart (.GeneratorExp elt [⟨tg, iter, [], 0⟩] sc pos) 0 (.ref it) .none (genv X sc C code)).onRaise (leaving (genv X sc C code))) _ _
  unfold compStart
  rw [Sem.onRaise_eq_wrap]
  show Seg _ _ _ _ _ _ _ ((ask >>= _).wrap _ _ _ _) _ _
  refine seg_bind_wrap (wpAny_askSetting ?_)
  split
  · exact seg_again rfl loop
  · refine seg_bind_wrap (wpAny_rule ?_)
    show Seg _ _ _ _ _ _ _ ((standAt iter.pos >>= _).wrap _ _ _ _) _ _
    refine seg_bind_wrap (wpAny_standAt (seg_bind_wrap ?_))
    exact R.turns.self _ 0 s _ _ st (seg_again rfl loop)
end
end
end Gx

namespace Gx
open PySem PySem.Spec PyProof.Rows L2 GxR GenW
section
variable {X : Cx} {s0 : Shared} {H0 : Hp} {sc : Scope} {C : Addr} {code : Value} {fp : List Addr} {sb : Bool} {Q : VK} {a : Addr} {go : Obj} {gi : Nat}

abbrev EndX (X : Cx) (s0 : Shared) (H0 : Hp) (sc : Scope) (C : Addr) (code : Value) (fp : List Addr) (pin : Addr × Obj) (sb : Bool) (Q : VK) : GenEnd := fun n s₀ r s₁ => r = .ok .next ∧ Over X s0 H0 sc C code fp pin sb Q n s₀ s₁
/-- the generator sleeps, n turns at most are ahead -/
def Awake (X : Cx) (s0 : Shared) (H0 : Hp) (sc : Scope) (C : Addr) (code : Value) (fp : List Addr) (sb : Bool) (Q : VK) (a : Addr) (go : Obj) (gi n : Nat) (s : Shared) : Prop :=
  (∃ σ1 H1, Inv (gcx X s0 H0 sc C code fp) [(a, go)] σ1 H1 s) ∧
  ∃ gs, s.gens[gi]? = some gs ∧ ∀ s'', s''.heap = s.heap → s''.os = s.os → AllBare s''.gens →
    gs.Goes (model X.prog X.w) X.A.in1.in1 (EndX X s0 H0 sc C code fp (a, go) sb Q) (Out X s0 H0 sc C code fp (a, go) sb Q) n (.send .none) s''
/-- what is wanted of the whole -/
def Fin' (X : Cx) (s0 : Shared) (H0 : Hp) (sc : Scope) (C : Addr) (code : Value) (fp : List Addr) (Q : VK) (a : Addr) (go : Obj) (R : Result → Shared → Prop) : Prop :=
  ∀ b σ1 H1 s1, Inv (gcx X s0 H0 sc C code fp) [(a, go)] σ1 H1 s1 → Q (.bl b) H1 → ∀ s', s'.os = s1.os → AllBare s'.gens → (∀ b o, s1.heap.get? b = some o → s'.heap.get? b = some o) → R (.ok (.ret (.bool b))) s'

theorem pin_at {σ1 : L2.St} {H1 : Hp} {s : Shared} (I : Inv (gcx X s0 H0 sc C code fp) [(a, go)] σ1 H1 s) : s.heap.get? a = some go := (I.pin (a, go) (by simp)).1

/-- one next( ) of it: a truth, or the end -/
theorem next_truth (hh : X.A.handled = none) (hd : X.A.depth < recursionLimit) (hgo : ∀ h : Heap, h.get? a = some go → h.IsGen a gi) {n : Nat} {s : Shared} (h : Awake X s0 H0 sc C code fp sb Q a go gi n s) {P : Option Value → Shared → Prop} {E : Value → Shared → Prop}
    (stop : ∀ σ1 H1 s1 s2, Inv (gcx X s0 H0 sc C code fp) [(a, go)] σ1 H1 s1 → Q (.bl sb) H1 → s2.os = s1.os → AllBare s2.gens → s2.heap = s1.heap → P (some (.bool sb)) s2)
    (more : ∀ n' s2, n = n' + 1 → Awake X s0 H0 sc C code fp sb Q a go gi n' s2 → P (some (.bool (!sb))) s2)
    (done : ∀ σ1 H1 s1 s2, Inv (gcx X s0 H0 sc C code fp) [(a, go)] σ1 H1 s1 → Q (.bl (!sb)) H1 → s2.os = s1.os → AllBare s2.gens → (∀ b o, s1.heap.get? b = some o → s2.heap.get? b = some o) → P none s2) :
    wpAny (model X.prog X.w) X.A.in1 (pyNext (.ref a)) P E s := by
  obtain ⟨⟨σ1, H1, I⟩, gs, hgs, goes⟩ := h
  have hlt : gi < s.gens.size := (Array.getElem?_eq_some_iff.mp hgs).1
  have hrun : AllBare (s.setGen gi .running).gens := allBare_setGen I.bare rfl
  refine wpAny_gsz (n := gi + 1) hlt (wpAny_pyNext_genexpQ (A := X.A.in1) (P := Over X s0 H0 sc C code fp (a, go) sb Q) hh I.nolimit hd (hgo _ (pin_at I)) hgs (goes _ rfl rfl hrun) (fun v s1 gs' hb hv => ?_) fun s1 hp h' hk => ?_)
  · intro hsz
    obtain ⟨b, σ2, H2, ev, I2, hst, hmore⟩ := hv
    subst ev
    have hb2 : AllBare (s1.setGen gi gs').gens := allBare_setGen I2.bare hb
    by_cases e : b = sb
    · rw [e]
      exact stop σ2 H2 s1 _ I2 (hst e) rfl hb2 rfl
    · have e2 : b = !sb := by cases b <;> cases sb <;> simp_all
      have q := hmore e
      cases n with
      | zero => exact (q s1 rfl rfl I2.bare).elim
      | succ n' =>
        rw [e2]
        have hlt2 : gi < s1.gens.size := by
          have z : (s1.setGen gi gs').gens.size = s1.gens.size := setGen_size _ _ _
          omega
        refine more n' _ rfl ⟨⟨σ2, H2, inv_like I2 rfl rfl hb2⟩, gs', setGen_at hlt2, fun s'' h1 h2 h3 => q s'' h1 h2 h3⟩
  · intro hsz
    obtain ⟨σ2, H2, I2, q⟩ := hp
    exact done σ2 H2 s1 _ I2 q rfl (allBare_setGen I2.bare rfl) hk

theorem all_turns (hh : X.A.handled = none) (hd : X.A.depth < recursionLimit) (hgo : ∀ h : Heap, h.get? a = some go → h.IsGen a gi) {R : Result → Shared → Prop} (fin : Fin' X s0 H0 sc C code fp Q a go R) :
    ∀ (n : Nat) (s : Shared), Awake X s0 H0 sc C code fp false Q a go gi n s → codeAny (model X.prog X.w) X.A (.builtin "all.loop" ⟨[.ref a], []⟩) R s := by
  intro n
  induction n with
  | zero =>
    intro s h
    refine codeAny_builtin F.entry_all_loop ?_
    rw [Around.under_plainId F.plain_all_loop _]
    show wpAny _ X.A.in1 (pyNext (.ref a) >>= _) _ _ s
    refine wpAny_bind (next_truth hh hd hgo h (fun σ1 H1 s1 s2 I q e1 e2 e3 => ?_) (fun n' s2 e _ => by omega) fun σ1 H1 s1 s2 I q e1 e2 e3 => ?_)
    · refine wpAny_bind (wpAny_holding (wpAny_truthy_bool ?_))
      refine wpAny_bind (wpAny_letGo ?_)
      simp only [Bool.false_eq_true, if_false]
      exact wpAny_bind (wpAny_rule (wpAny_pure (fin false σ1 H1 s1 I q s2 e1 e2 fun b o e => by rw [e3]; exact e)))
    · exact wpAny_bind (wpAny_rule (wpAny_pure (fin true σ1 H1 s1 I q s2 e1 e2 e3)))
  | succ n ih =>
    intro s h
    refine codeAny_builtin F.entry_all_loop ?_
    rw [Around.under_plainId F.plain_all_loop _]
    show wpAny _ X.A.in1 (pyNext (.ref a) >>= _) _ _ s
    refine wpAny_bind (next_truth hh hd hgo h (fun σ1 H1 s1 s2 I q e1 e2 e3 => ?_) (fun n' s2 e h2 => ?_) fun σ1 H1 s1 s2 I q e1 e2 e3 => ?_)
    · refine wpAny_bind (wpAny_holding (wpAny_truthy_bool ?_))
      refine wpAny_bind (wpAny_letGo ?_)
      simp only [Bool.false_eq_true, if_false]
      exact wpAny_bind (wpAny_rule (wpAny_pure (fin false σ1 H1 s1 I q s2 e1 e2 fun b o e => by rw [e3]; exact e)))
    · refine wpAny_bind (wpAny_holding (wpAny_truthy_bool ?_))
      refine wpAny_bind (wpAny_letGo ?_)
      simp only [Bool.not_false, if_true]
      have en : n' = n := by omega
      rw [en] at h2
      exact wpAny_pure ⟨plainId_quiet F.plain_all_loop _, ih s2 h2⟩
    · exact wpAny_bind (wpAny_rule (wpAny_pure (fin true σ1 H1 s1 I q s2 e1 e2 e3)))
theorem any_turns (hh : X.A.handled = none) (hd : X.A.depth < recursionLimit) (hgo : ∀ h : Heap, h.get? a = some go → h.IsGen a gi) {R : Result → Shared → Prop} (fin : Fin' X s0 H0 sc C code fp Q a go R) :
    ∀ (n : Nat) (s : Shared), Awake X s0 H0 sc C code fp true Q a go gi n s → codeAny (model X.prog X.w) X.A (.builtin "any.loop" ⟨[.ref a], []⟩) R s := by
  intro n
  induction n with
  | zero =>
    intro s h
    refine codeAny_builtin F.entry_any_loop ?_
    rw [Around.under_plainId F.plain_any_loop _]
    show wpAny _ X.A.in1 (pyNext (.ref a) >>= _) _ _ s
    refine wpAny_bind (next_truth hh hd hgo h (fun σ1 H1 s1 s2 I q e1 e2 e3 => ?_) (fun n' s2 e _ => by omega) fun σ1 H1 s1 s2 I q e1 e2 e3 => ?_)
    · refine wpAny_bind (wpAny_holding (wpAny_truthy_bool ?_))
      refine wpAny_bind (wpAny_letGo ?_)
      simp only [if_true]
      exact wpAny_bind (wpAny_rule (wpAny_pure (fin true σ1 H1 s1 I q s2 e1 e2 fun b o e => by rw [e3]; exact e)))
    · exact wpAny_bind (wpAny_rule (wpAny_pure (fin false σ1 H1 s1 I q s2 e1 e2 e3)))
  | succ n ih =>
    intro s h
    refine codeAny_builtin F.entry_any_loop ?_
    rw [Around.under_plainId F.plain_any_loop _]
    show wpAny _ X.A.in1 (pyNext (.ref a) >>= _) _ _ s
    refine wpAny_bind (next_truth hh hd hgo h (fun σ1 H1 s1 s2 I q e1 e2 e3 => ?_) (fun n' s2 e h2 => ?_) fun σ1 H1 s1 s2 I q e1 e2 e3 => ?_)
    · refine wpAny_bind (wpAny_holding (wpAny_truthy_bool ?_))
      refine wpAny_bind (wpAny_letGo ?_)
      simp only [if_true]
      exact wpAny_bind (wpAny_rule (wpAny_pure (fin true σ1 H1 s1 I q s2 e1 e2 fun b o e => by rw [e3]; exact e)))
    · refine wpAny_bind (wpAny_holding (wpAny_truthy_bool ?_))
      refine wpAny_bind (wpAny_letGo ?_)
      simp only [Bool.not_true, Bool.false_eq_true, if_false]
      have en : n' = n := by omega
      rw [en] at h2
      exact wpAny_pure ⟨plainId_quiet F.plain_any_loop _, ih s2 h2⟩
    · exact wpAny_bind (wpAny_rule (wpAny_pure (fin false σ1 H1 s1 I q s2 e1 e2 e3)))
end
end Gx

namespace Gx
open PySem PySem.Spec PyProof.Rows L2 GxR GenW
section
variable {X : Cx} {pins : List (Addr × Obj)} {σ : L2.St} {H : Hp} {s : Shared}

/-- what stands once the generator has been made, ahead of its first turn -/
structure Made (X : Cx) (pins : List (Addr × Obj)) (σ : L2.St) (P : Addr) (elt tg iter : Expr) (sc : Scope) (pos : Pos) (vs : List Nat) (J : It) (H1 H2 : Hp) (it : Addr) (fp : List Addr) (tn : Nat → Heap → Prop) (s0 : Shared) (C : Addr) (code : Value) (a : Addr) (go : Obj) (gi : Nat) (s5 : Shared) : Prop where
  tab : Tabbed P H1 H2
  turns : Turn X.prog X.w X.K tg J fp it tn
  st : tn 0 s5.heap
  i0 : Inv X pins σ H2 s0
  fpo : ∀ b ∈ fp, FpOk X pins H2 b ∧ b < s0.heap.objs.size
  i5 : Inv (gcx X s0 H2 sc C code fp) [(a, go)] (wipe σ vs) H2 s5
  apart : a ∉ fp
  gens : s5.gens[gi]? = some (.fresh (StartC X elt tg iter sc pos it C code))
  isgen : ∀ h : Heap, h.get? a = some go → h.IsGen a gi

theorem gen_made {c P : Addr} {elt tg iter : Expr} {gpos : Pos} {sc : Scope} {own : List (Str × Nat)} {wi : TI} {k : Nat} {Q' : Value → Shared → Prop} {R : It → Hp → Prop}
    (hr : Room k X.A) (TB : TabB X.base X.mg c P) (hcode : X.env.code = .ref c) (ok : BlkOk X.N X.env.scope sc own) (hN : X.N.Nodup) (hcell : ∀ y ∈ sc.names, y.2 ≠ .cell) (hdot : sc.names.lookup (".0" : Str) = some NameKind.local)
    (hco : sc.isCoroutine = false) (hi : PI X tg iter wi) (hs : ∀ v, genFold iter X.env v = pure v) (I : Inv X pins σ H s) (h : wi σ H fun J H1 => TabG H1 P ∧ R J H1)
    (hQ : ∀ J H1 H2 it fp tn s0 C code a go gi s5, R J H1 → Made X pins σ P elt tg iter sc gpos (own.map (·.2)) J H1 H2 it fp tn s0 C code a go gi s5 → Q' (.ref a) s5) :
    wpAny (model X.prog X.w) X.A (eval (.GeneratorExp elt [⟨tg, iter, [], 0⟩] sc gpos) X.env) Q' X.xe s := by
  have hf : ∀ z ∈ sc.names, z.2 = .free → ∃ c, X.env.cells.lookup z.1 = some c := fun z hz e => by
    rcases ok.free z hz e with k | k
    · exact I.ok.has _ (.inl k)
    · exact I.ok.has _ (.inr k)
  refine wpAny_GeneratorExp_make hco (closure_ok hf) hcell hdot ok.kind (by have := hr.dp; omega) ?_ hs
  refine thn (hi.run pins s σ H _ I h) fun xv s1 h1 => thn h1 fun itv s2 h2 => ?_
  obtain ⟨it, fp, tn, J, H1, e, I1, T, st, f1, ⟨ps, hP, htr⟩, q⟩ := h2
  subst e
  refine ⟨I1.nolimit, ?_⟩
  have hPs : s2.heap.get? P = some { cls := .none, data := .fields ps } := I1.hok P _ hP
  have cd : PySem.W.CodeHd s2.heap c P := TB.code.keeps I1.bk
  -- behind the making of the code object
  have cont : ∀ (cv : Value) (h3 : Heap) (tk : Nat) (more : Array Value), (∀ b o, b ≠ P → s2.heap.get? b = some o → h3.get? b = some o) → h3.get? P = some { cls := .none, data := .fields (ps ++ more) } → TriplesOk (ps ++ more).toList →
      wpAny (model X.prog X.w) X.A (builtinsFor X.env.globals X.env.builtins) (fun bi s4 => ∀ h', h'.Ns s4.heap.objs.size (fun y => if y = ".0" then some (.ref it) else none) → Heap.SameBut s4.heap.objs.size (s4.heap.push { cls := .type "frame", data := .dict #[] }) h' →
        Q' (.ref h'.objs.size) { s4 with
          gens := s4.gens.push (.fresh (.compStart (.GeneratorExp elt [⟨tg, iter, [], 0⟩] sc gpos) 0 (.ref it) .none (genEnv sc (cloFrom X.env.cells sc.names []) s4.heap.objs.size cv bi X.env))),
          toks := s4.toks + 1 + 1 + 1,
          heap := h'.push { cls := .type "generator", data := .fields #[.int s4.gens.size 0, .str "<genexpr>" (s4.toks + 1), .str (X.env.qual ++ "<genexpr>") (s4.toks + 1 + 1)] } }) X.xe { s2 with heap := h3, toks := tk } := by
    intro cv h3 tk more k3 hP3 ht3
    have I3 : Inv X pins σ (upd H1 P (.tbl (ps ++ more))) { s2 with heap := h3, toks := tk } := inv_tab (g' := s2.gens) (d' := s2.drawn) (t' := tk) I1 hP k3 hP3 I1.bare
    have tbd : Tabbed P H1 (upd H1 P (.tbl (ps ++ more))) := ⟨⟨ps ++ more, upd_same, ht3⟩, fun b hb => upd_ne hb⟩
    obtain ⟨bm, ob, e1, e2, e3, e4, e5, e6, e7, e8⟩ := TB.bm
    have gNs := I3.mod.glob.keeps I3.bk
    refine wpAny_builtinsFor (m := X.mg) (by rw [I3.ok.glob]; exact gNs) e1 e2 (I3.bk _ _ e5) e6 e7 e8 ?_
    intro h' hns' hsb
    generalize hH2 : upd H1 P (.tbl (ps ++ more)) = H2 at I3 tbd
    have n2 : ∀ b, H1 b = none → H2 b = none := fun b e => by
      have hne : b ≠ P := fun z => by rw [z, hP] at e; cases e
      rw [tbd.2 b hne]
      exact e
    have f3 : ∀ b ∈ fp, FpOk X pins H2 b ∧ b < h3.objs.size := fun b hb => by
      have hne : b ≠ P := fun z => by
        have := (f1 b hb).1
        rw [z, hP] at this
        cases this
      obtain ⟨o, e, _⟩ := T.obj _ _ st b hb
      exact ⟨⟨n2 b (f1 b hb).1, (f1 b hb).2⟩, Heap.lt_size (k3 b o hne e)⟩
    have hsz : h'.objs.size = h3.objs.size + 1 := by
      have z := hsb.1
      rw [Heap.size_push] at z
      exact z
    have kp : ∀ b o, h3.get? b = some o → h'.get? b = some o := fun b o e => hsb.extBut b o (Nat.ne_of_lt (Heap.lt_size e)) (Heap.get?_push_of_some _ e)
    generalize hgo : ({ cls := .type "generator", data := .fields #[.int s2.gens.size 0, .str "<genexpr>" (tk + 1), .str (X.env.qual ++ "<genexpr>") (tk + 1 + 1)] } : Obj) = go
    have ggo : (h'.push go).get? h'.objs.size = some go := Heap.get?_push_size _ (by rw [← hgo]; rfl)
    have kp5 : ∀ b o, h3.get? b = some o → (h'.push go).get? b = some o := fun b o e => Heap.get?_push_of_some _ (kp b o e)
    have bg : AllBare (s2.gens.push (.fresh (.compStart (.GeneratorExp elt [⟨tg, iter, [], 0⟩] sc gpos) 0 (.ref it) .none (genv X sc h3.objs.size cv)))) := I1.bare.push rfl
    have I5 := gx_start (C := h3.objs.size) (code := cv) (d' := s2.drawn) (t' := tk + 1 + 1 + 1) (h' := h'.push go) (s := { s2 with heap := h3, toks := tk }) I3 hr.hd ok hN hcell f3 rfl ⟨_, hns'.push _⟩ kp5 bg
    have na : h3.objs.size ≤ h'.objs.size := by rw [hsz]; exact Nat.le_succ _
    have I5' := I5.pins_of (pins' := [(h'.objs.size, go)]) fun p hp => by
      have ep : p = (h'.objs.size, go) := by simpa using hp
      subst ep
      refine ⟨ggo, I3.hok.fresh na, ?_, fun z => ?_, fun v z => ?_⟩
      · show h'.objs.size ≠ h3.objs.size
        rw [hsz]
        exact Nat.succ_ne_self _
      · rcases List.mem_cons.mp (I3.stkSub _ z) with y | y
        · have l : X.env.locals < h3.objs.size := I3.lt
          rw [← show h'.objs.size = X.env.locals from y] at l
          exact Nat.lt_irrefl _ (Nat.lt_of_lt_of_le l na)
        · exact I3.nofs (a := h'.objs.size) na y
      · rw [← hgo] at z
        cases z
    refine hQ J H1 H2 it fp tn { s2 with heap := h3, toks := tk } h3.objs.size cv h'.objs.size go s2.gens.size _ q ⟨tbd, T, ?_, I3, f3, I5', fun z => ?_, Array.getElem?_push_size .., fun h e => ⟨go, _, _, e, by rw [← hgo], by rw [← hgo], by rw [← hgo]⟩⟩
    · refine T.keep _ _ _ st fun b hb o e => kp5 b o (k3 b o (fun z => ?_) e)
      have := (f1 b hb).1
      rw [z, hP] at this
      cases this
    · exact Nat.lt_irrefl _ (Nat.lt_of_lt_of_le (f3 _ z).2 na)
  cases hf2 : codeAmong gpos ps.toList with
  | none =>
    refine wpAny_genexprCodeX hcode (cd.code hPs htr) (cd.tab hPs) hf2 fun c' h' tk hx hge hlt hco' _ htab' _ => ?_
    obtain ⟨o1, us, f1', tf, fl, tg', inF, tx, tt, op, _, _, _, _, _, _, _, _, _, htr', _⟩ := hco'
    exact cont _ h' tk _ (fun b o hb e => hx b o hb e) htab'.2 htr'
  | some cv =>
    refine wpAny_genexprCode_hit hcode (cd.code hPs htr) hf2 ?_
    exact cont cv s2.heap s2.toks #[] (fun b o _ e => e) (by rw [Array.append_empty]; exact hPs) (by rw [Array.append_empty]; exact htr)

/-- all( ), any( ) of a generator expression: sb is the truth at which it stops -/
def rTruth (P : Addr) (sb : Bool) (g : TG) (te : TE) (vs : List Nat) (σ : L2.St) (Q : VK) (J : It) (H1 : Hp) : Prop := ∀ H2, Tabbed P H1 H2 → ∃ W : Nat → Nat → Hp → Prop, (∃ m, W 0 m H2) ∧
  ∀ i m H, W i m H → (J.stop i H ∧ Q (.bl (!sb)) H) ∨ (J.go i H ∧ ∃ Nx : Hp → Prop, (∀ H', Nx H' → ∃ m', m' < m ∧ W (i + 1) m' H') ∧
    ∀ x H', J.yld i H x H' → g x (wipe σ vs) H' fun σ2 H2 => wipe σ2 vs = wipe σ vs ∧ te σ2 H2 fun y H4 => ∃ b, y = .bl b ∧ if b = sb then Q (.bl sb) H4 else Nx H4)
def tTruthG (P : Addr) (sb : Bool) (wi : TI) (g : TG) (te : TE) (vs : List Nat) : TE := fun σ H Q => wi σ H fun J H1 => TabG H1 P ∧ rTruth P sb g te vs σ Q J H1
/-- how a run of it is told -/
def Told (X : Cx) (pins : List (Addr × Obj)) (σ : L2.St) (sc : Scope) (sb : Bool) (Q : VK) (a : Addr) (s5 : Shared) : Prop :=
  ∀ R : Result → Shared → Prop, (∀ b s', EP X pins σ Q (.bool b) s' → R (.ok (.ret (.bool b))) s') → ∃ s0 H0 C code fp go gi n, Awake X s0 H0 sc C code fp sb Q a go gi n s5 ∧ (∀ h : Heap, h.get? a = some go → h.IsGen a gi) ∧ Fin' X s0 H0 sc C code fp Q a go R
/-- what the generator expression must have; the two names of it that are the program's -/
structure GxOk (X : Cx) (sc : Scope) (own : List (Str × Nat)) (c P : Addr) : Prop where
  tb : TabB X.base X.mg c P
  code : X.env.code = .ref c
  blk : BlkOk X.N X.env.scope sc own
  nd : X.N.Nodup
  nocell : ∀ y ∈ sc.names, y.2 ≠ .cell
  dot : sc.names.lookup (".0" : Str) = some NameKind.local
  nocor : sc.isCoroutine = false

section
variable {c P : Addr} {elt tg iter : Expr} {gpos p pos : Pos} {sc : Scope} {own : List (Str × Nat)} {wi : TI} {g : TG} {te : TE} {k : Nat}
theorem truth_core {sb : Bool} {Q : VK} (hr : Room k X.A) (G : GxOk X sc own c P) (hi : PI X tg iter wi) (hs : ∀ v, genFold iter X.env v = pure v)
    (hg : ∀ (s : Shared) (H : Hp) (C : Addr) (code : Value) (fp : List Addr), PG (gcx X s H sc C code fp) tg g) (he : ∀ (s : Shared) (H : Hp) (C : Addr) (code : Value) (fp : List Addr), PE (gcx X s H sc C code fp) elt te)
    (I : Inv X pins σ H s) (h : tTruthG P sb wi g te (own.map (·.2)) σ H Q) {Q' : Value → Shared → Prop}
    (hQ : ∀ a s5, s5.heap.NoLimit → (∃ gi, s5.heap.IsGen a gi) →
      Told X pins σ sc sb Q a s5 → Q' (.ref a) s5) :
    wpAny (model X.prog X.w) X.A (eval (.GeneratorExp elt [⟨tg, iter, [], 0⟩] sc gpos) X.env) Q' X.xe s := by
  have h' : wi σ H fun J H1 => TabG H1 P ∧ rTruth P sb g te (own.map (·.2)) σ Q J H1 := h
  refine gen_made (own := own)
    hr G.tb G.code G.blk G.nd G.nocell G.dot G.nocor hi hs I h' fun J H1 H2 it fp tn s0 C code a go gi s5 hR M => ?_
  obtain ⟨W, ⟨m, w0⟩, step⟩ := hR H2 M.tab
  have I5 := M.i5
  have n2 : ∀ b ∈ fp, H2 b = none := fun b hb => (M.fpo b hb).1.1
  have RR : Run X s0 H2 sc C code fp tg elt g te J it tn (own.map (·.2)) (wipe σ (own.map (·.2))) sb W Q := ⟨M.turns, hg _ _ _ _ _, he _ _ _ _ _, G.nocor, step⟩
  refine hQ a s5 I5.nolimit ⟨gi, M.isgen _ (pin_at I5)⟩ fun R hRR => ⟨s0, H2, C, code, fp, go, gi, m + 1, ⟨⟨_, _, I5⟩, _, M.gens, fun s'' e1 e2 e3 => ⟨rfl, seg_begin RR M.apart m s'' s'' (ahead_like ⟨H2, m, I5, M.st, n2, Nat.le_refl _, w0⟩ e1 e2 e3)⟩⟩, M.isgen, ?_⟩
  intro b σ1 H3 s1 I1 q s' ho hgs hk
  refine hRR b s' ⟨.bl b, H3, ?_, rfl, q⟩
  have un := I1.base.trans (Un.kept hk)
  exact M.i0.call' (ch := fp) (ho.trans I1.os) un (I1.hok.kept hk) hgs fun b hb => ⟨(M.fpo b hb).1.2.2.2.1, (M.fpo b hb).1.2.1, (M.fpo b hb).1.2.2.2.2.1, (M.fpo b hb).1.2.2.2.2.2⟩

theorem told_all {Q : VK} {a : Addr} {s5 : Shared} {R : Result → Shared → Prop} (hr : Room k X.A) (h : Told X pins σ sc false Q a s5) (hR : ∀ b s', EP X pins σ Q (.bool b) s' → R (.ok (.ret (.bool b))) s') :
    codeAny (model X.prog X.w) X.A (.builtin "all.loop" ⟨[.ref a], []⟩) R s5 := by
  obtain ⟨s0, H0, C, code, fp, go, gi, n, aw, hgo, fin⟩ := h R hR
  exact all_turns hr.hd (by have := hr.dp; omega) hgo fin n s5 aw
theorem told_any {Q : VK} {a : Addr} {s5 : Shared} {R : Result → Shared → Prop} (hr : Room k X.A) (h : Told X pins σ sc true Q a s5) (hR : ∀ b s', EP X pins σ Q (.bool b) s' → R (.ok (.ret (.bool b))) s') :
    codeAny (model X.prog X.w) X.A (.builtin "any.loop" ⟨[.ref a], []⟩) R s5 := by
  obtain ⟨s0, H0, C, code, fp, go, gi, n, aw, hgo, fin⟩ := h R hR
  exact any_turns hr.hd (by have := hr.dp; omega) hgo fin n s5 aw
theorem pe_allG (hr : Room k X.A) (G : GxOk X sc own c P) (hga : Gl X "all") (hma : X.mg "all" = none) (hb : bootBuiltins "all" = some (.builtin "all")) (hi : PI X tg iter wi)
    (hg : ∀ (s : Shared) (H : Hp) (C : Addr) (code : Value) (fp : List Addr), PG (gcx X s H sc C code fp) tg g) (he : ∀ (s : Shared) (H : Hp) (C : Addr) (code : Value) (fp : List Addr), PE (gcx X s H sc C code fp) elt te)
    (hs : ∀ v, genFold iter X.env v = pure v := by intro _; rfl)
    (hst : starEach [.GeneratorExp elt [⟨tg, iter, [], 0⟩] sc gpos] X.env = (false, eval (.GeneratorExp elt [⟨tg, iter, [], 0⟩] sc gpos) X.env) :: starEach [] X.env := by rfl) :
    PE X (.Call (.Name "all" p) [.GeneratorExp elt [⟨tg, iter, [], 0⟩] sc gpos] [] pos) (tTruthG P false wi g te (own.map (·.2))) := by
  refine ⟨fun pins s σ H Q I h => ?_⟩
  refine wpAny_Call_Name_kw (ld_blt I hga hma hb ?_)
  refine PyProof.Rows.callWith_builtin1 ?_ hst (by rfl)
  rw [hst]
  show wpAny _ _ (spliced ((false, eval (.GeneratorExp elt [⟨tg, iter, [], 0⟩] sc gpos) X.env) :: backTo pos (starEach [] X.env))) _ _ s
  refine Calls.spliced_cons (truth_core hr G hi hs hg he I h fun a s5 hl hgn hall => ?_)
  refine Calls.spliced_nil ?_
  refine call_function_tree F.kind_all F.plain_all F.entry_all (F.args_all1 _) ?_
  unfold Builtin.«all»
  refine wpAny_bind (m := oneArg "all" _) (wpAny_pure ?_)
  obtain ⟨gi, hgn⟩ := hgn
  refine wpAny_bind (wpAny_pyIter_gen hgn ?_)
  exact wpAny_pure ⟨plainId_quiet F.plain_all_loop _, told_all hr hall fun b s' h => h⟩
theorem pe_anyG (hr : Room k X.A) (G : GxOk X sc own c P) (hga : Gl X "any") (hma : X.mg "any" = none) (hb : bootBuiltins "any" = some (.builtin "any")) (hi : PI X tg iter wi)
    (hg : ∀ (s : Shared) (H : Hp) (C : Addr) (code : Value) (fp : List Addr), PG (gcx X s H sc C code fp) tg g) (he : ∀ (s : Shared) (H : Hp) (C : Addr) (code : Value) (fp : List Addr), PE (gcx X s H sc C code fp) elt te)
    (hs : ∀ v, genFold iter X.env v = pure v := by intro _; rfl)
    (hst : starEach [.GeneratorExp elt [⟨tg, iter, [], 0⟩] sc gpos] X.env = (false, eval (.GeneratorExp elt [⟨tg, iter, [], 0⟩] sc gpos) X.env) :: starEach [] X.env := by rfl) :
    PE X (.Call (.Name "any" p) [.GeneratorExp elt [⟨tg, iter, [], 0⟩] sc gpos] [] pos) (tTruthG P true wi g te (own.map (·.2))) := by
  refine ⟨fun pins s σ H Q I h => ?_⟩
  refine wpAny_Call_Name_kw (ld_blt I hga hma hb ?_)
  refine PyProof.Rows.callWith_builtin1 ?_ hst (by rfl)
  rw [hst]
  show wpAny _ _ (spliced ((false, eval (.GeneratorExp elt [⟨tg, iter, [], 0⟩] sc gpos) X.env) :: backTo pos (starEach [] X.env))) _ _ s
  refine Calls.spliced_cons (truth_core hr G hi hs hg he I h fun a s5 hl hgn hall => ?_)
  refine Calls.spliced_nil ?_
  refine call_function_tree F.kind_any F.plain_any F.entry_any (F.args_any1 _) ?_
  unfold Builtin.«any»
  refine wpAny_bind (m := oneArg "any" _) (wpAny_pure ?_)
  obtain ⟨gi, hgn⟩ := hgn
  refine wpAny_bind (wpAny_pyIter_gen hgn ?_)
  exact wpAny_pure ⟨plainId_quiet F.plain_any_loop _, told_any hr hall fun b s' h => h⟩
end
end
end Gx

/-! Defs whose callers run no repr; how they are called; repr and sorted of data; the end of a law. -/
namespace Gx
open PySem PySem.Spec PyProof.Rows L2 GxR GenW

/-- a def's promise where no repr is running around -/
structure FnG (P : Program) (w : World) (K : PySem.W.Frag) (mg : Str → Option Value) (base : Heap) (CX : CXT) (k : Nat) (f : Addr) (fd : FuncData) (ps : List Str) (sp : Sp) : Prop where
  many : ∀ vs H Q E, sp vs H Q E → vs.length = ps.length
  runs : ∀ (A : Around) (outer : List Env) (s : Shared) (H : Hp) (args : Args) (us : List Value) (vs : List V) (Q : VK) (E : XK), A.guards = some [] → Room k A →
    Env0 P w K mg base A outer s H → BindsTo s fd args (ps.zip us) → Vals vs us → sp vs H Q E → codeAny (model P w) A (.call (.ref f) args) (CR CX outer P w H s Q E) s
/-- a def of the text, with its code object's value -/
structure DefIs (K : PySem.W.Frag) (x qual : Str) (st : Stmt) (f : Addr) (fd : FuncData) (cdv : Value) : Prop where
  at_ : ∃ (oc : Value) (od : Option Addr) (kV doc pm : Value) (an : Option Addr) (ct : Value) (osl : Array (Option Value)),
    fd = PySem.W.fnOf x qual (defArgs st) (defBody st) (defScope st) .none kV doc pm an cdv ct ∧ K.lookup f = some ⟨oc, od, .func fd, osl⟩
  code : PySem.W.codeIn K cdv qual = true
  keep : PySem.W.keepIn K (.ref f) = true
theorem defIs_mk {K : PySem.W.Frag} {x qual : Str} {st : Stmt} {f : Addr} {oc : Value} {od an : Option Addr} {osl : Array (Option Value)} {kV doc pm cdv ct : Value}
    (l : K.lookup f = some ⟨oc, od, .func (PySem.W.fnOf x qual (defArgs st) (defBody st) (defScope st) .none kV doc pm an cdv ct), osl⟩) (c : PySem.W.codeIn K cdv qual = true) (kp : PySem.W.keepIn K (.ref f) = true) :
    DefIs K x qual st f (PySem.W.fnOf x qual (defArgs st) (defBody st) (defScope st) .none kV doc pm an cdv ct) cdv := ⟨⟨oc, od, kV, doc, pm, an, ct, osl, rfl, l⟩, c, kp⟩

section
variable {P : Program} {w : World} {K : PySem.W.Frag} {mg : Str → Option Value} {base : Heap} {CX : CXT}
theorem FnG.less {j k : Nat} {f : Addr} {fd : FuncData} {ps : List Str} {sp : Sp} (F : FnG P w K mg base CX j f fd ps sp) (h : j ≤ k) : FnG P w K mg base CX k f fd ps sp :=
  ⟨F.many, fun A outer s H args us vs Q E g r => F.runs A outer s H args us vs Q E g (r.mono h)⟩
/-- by its body -/
theorem DefIs.ok {x qual : Str} {st : Stmt} {f : Addr} {fd : FuncData} {cdv : Value} {N ps : List Str} {k : Nat} {sp : Sp} (D : DefIs K x qual st f fd cdv) (S : FnScope N ps (defScope st)) (len : ∀ vs H Q E, sp vs H Q E → vs.length = ps.length)
    (body : ∀ (A : Around) (outer : List Env) (s : Shared) (H : Hp) (vs : List V) (Q : VK) (E : XK), A.guards = some [] → Room k (A.deeper (envOfC qual (defScope st) s.heap.objs.size f cdv)) → sp vs H Q E →
      ∃ t, PSs (cxOf CX P w K mg base N qual (defScope st) f cdv A outer s H E) (defBody st) t ∧ t { nx := fun _ H' => Q .non H', rt := Q } (start N vs) H) : FnG P w K mg base CX (k + 1) f fd ps sp := by
  obtain ⟨oc, od, kV, doc, pm, an, ct, osl, rfl, lk⟩ := D.at_
  refine ⟨len, fun A outer s H args us vs Q E g hr e0 hb r hsp => ?_⟩
  have KX : K.In s.heap := e0.mod.kin.keeps fun b o e => (e0.bs b o e).1
  have inits : ∀ y ∈ ps.zip us, (defScope st).names.lookup y.1 = some .local ∨ ((defScope st).names.lookup y.1 = some .cell ∧ ((cellsFrom (s.heap.objs.size + 1) (defScope st).names []).lookup y.1).isSome = true) := by
    rintro ⟨n, v⟩ hy
    exact (S.par n (List.of_mem_zip hy).1).elim .inl fun q => .inr ⟨q, PySem.W.cellsFrom_some _ _ _ (.inl q)⟩
  refine codeAny_call_function hr.depth (KX _ _ lk) rfl S.co S.gen rfl (PySem.W.codeRec_of KX D.code) (hb _ _ _ _ (wpAny_newFunctionEnv_cells S.kind inits fun env he s1 x => ?_))
  subst he
  refine ⟨(e0.mod.nolimit.keeps fun b o e => (e0.bs b o e).1).keeps x.toInCall.keep, codeAny_func ?_⟩
  obtain ⟨t, ht, hq⟩ := body A outer s H vs Q E g (hr.deeper _) hsp
  refine wpAny_mono (ht.run [] s1 (start N vs) H _ (inv_start S hr.hd e0 (len _ _ _ _ hsp) r x) hq) (fun fl s' hs => ?_) fun e s' hs => hs
  cases fl with
  | ret u =>
    obtain ⟨v, σ', H', J, rv, q⟩ := hs
    exact ⟨v, H', J.os, J.bare, J.base, J.hok, rv, q⟩
  | next =>
    obtain ⟨σ', H', J, q⟩ := hs
    exact ⟨V.non, H', J.os, J.bare, J.base, J.hok, rfl, q⟩
  | brk => exact hs.elim fun _ z => z.elim fun _ y => False.elim y.2
  | cont => exact hs.elim fun _ z => z.elim fun _ y => False.elim y.2
/-- .. that nothing raised leaves -/
theorem DefIs.ok0 {x qual : Str} {st : Stmt} {f : Addr} {fd : FuncData} {cdv : Value} {N ps : List Str} {k : Nat} {sp : Sp} (D : DefIs K x qual st f fd cdv) (S : FnScope N ps (defScope st)) (len : ∀ vs H Q E, sp vs H Q E → vs.length = ps.length)
    (body : ∀ (A : Around) (outer : List Env) (s : Shared) (H : Hp) (vs : List V) (Q : VK) (E : XK), A.guards = some [] → Room k (A.deeper (envOfC qual (defScope st) s.heap.objs.size f cdv)) → sp vs H Q E →
      ∃ t, PSs (cxOf CX P w K mg base N qual (defScope st) f cdv A outer s H E).nox (defBody st) t ∧ t { nx := fun _ H' => Q .non H', rt := Q } (start N vs) H) : FnG P w K mg base CX (k + 1) f fd ps sp :=
  D.ok S len fun A outer s H vs Q E g hr hsp => let ⟨t, ht, q⟩ := body A outer s H vs Q E g hr hsp; ⟨t, ht.nox, q⟩
theorem DefIs.binds {x qual : Str} {st : Stmt} {f : Addr} {fd : FuncData} {cdv : Value} {ps : List Str} (D : DefIs K x qual st f fd cdv)
    (h : ∀ (kV doc pm : Value) (an : Option Addr) (ct : Value) (us : List Value), us.length = ps.length → bindArgs (PySem.W.fnOf x qual (defArgs st) (defBody st) (defScope st) .none kV doc pm an cdv ct) ⟨us, []⟩ = pure (ps.zip us)) : Binds K fd ps [] := by
  obtain ⟨oc, od, kV, doc, pm, an, ct, osl, rfl, lk⟩ := D.at_
  exact .all (h kV doc pm an ct)
end

/-- a def that can be called by its name: its promise, its place, how it binds -/
structure Callee (P : Program) (w : World) (K : PySem.W.Frag) (mg : Str → Option Value) (base : Heap) (CX : CXT) (k : Nat) (x : Str) (ps : List Str) (sp : Sp) : Prop where
  is : ∃ f fd, FnG P w K mg base CX k f fd ps sp ∧ mg x = some (.ref f) ∧ PySem.W.keepIn K (.ref f) = true ∧ Binds K fd ps []

section
variable {X : Cx} {CX : CXT} {k : Nat} {x : Str} {ps : List Str} {sp : Sp} {E : XK} {p pos : Pos} {e : Expr} {es : List Expr} {t : TA}
theorem run_g {pins : List (Addr × Obj)} {σ : L2.St} {H : Hp} {s : Shared} {Q : VK} {us : List Value} {vs : List V} {f : Addr} {fd : FuncData} (F : FnG X.prog X.w X.K X.mg X.base CX k f fd ps sp) (g : X.A.guards = some []) (hr : Room k X.A) (hb : Binds X.K fd ps []) (hx : Passes CX X E)
    (I : Inv X pins σ H s) (r : Vals vs us) (h : sp vs H Q E) : wpAny (model X.prog X.w) X.A (call (.ref f) us) (EP X pins σ Q) X.xe s := by
  have hl : (us ++ ([] : List Value)).length = ps.length := by rw [List.append_nil, ← r.length]; exact F.many _ _ _ _ h
  have hB := hb s us I.kIn hl
  rw [List.append_nil] at hB
  refine wpAny_call (codeAny_mono (F.runs X.A X.stack s H ⟨us, []⟩ us vs Q E g hr I.env0 hB r h) fun q s' hq => ?_)
  match q, hq with
  | .error e, hq => exact hx pins σ H s e s' I hq
  | .ok (.ret u), hq => exact I.after hq
/-- f(e, ..) -/
theorem pe_g (C : Callee X.prog X.w X.K X.mg X.base CX k x ps sp) (g : X.A.guards = some []) (hr : Room k X.A) (hx : Passes CX X E) (ha : PA X (e :: es) t) (hg : Gl X x := by rfl)
    (hdb : (x == ("__debug__" : Str)) = false := by decide) (he : starEach (e :: es) X.env = (false, eval e X.env) :: starEach es X.env := by rfl) (hpl : (backTo pos (starEach es X.env)).any (·.1) = false := by rfl) :
    PE X (.Call (.Name x p) (e :: es) [] pos) (tCall sp [] E t) := by
  obtain ⟨f, fd, F, hm, hk, hb⟩ := C.is
  refine ⟨fun pins s σ H Q I h => wpAny_Call_Name_kw (ld_glob I hg hm (PySem.W.callWith_K (h₀ := X.base) I.ok.mod.kin hk (thn (ha.run pos pins s σ H _ I h) fun us s1 h1 => ?_) he hpl) hdb)⟩
  obtain ⟨vs, H1, I1, r, q⟩ := h1
  rw [List.append_nil] at q
  exact ⟨I1.kIn, run_g F g hr hb hx I1 r q⟩
theorem pe_g0 (C : Callee X.prog X.w X.K X.mg X.base CX k x ps sp) (g : X.A.guards = some []) (hr : Room k X.A) (hx : Passes CX X E) (hg : Gl X x := by rfl) (hdb : (x == ("__debug__" : Str)) = false := by decide) :
    PE X (.Call (.Name x p) [] [] pos) (tCall sp [] E tNil) := by
  obtain ⟨f, fd, F, hm, hk, hb⟩ := C.is
  exact ⟨fun pins s σ H Q I h => wpAny_Call_Name_kw (ld_glob I hg hm (PySem.W.callWith_K0 I.kIn hk (run_g (us := []) F g hr hb hx I .nil h)) hdb)⟩
/-- a statement, a block that is never come to -/
theorem ps_dead {st : Stmt} : PS X st (fun _ _ _ => False) := ⟨fun _ _ _ _ _ _ h => h.elim⟩
theorem pss_dead {st : List Stmt} : PSs X st (fun _ _ _ => False) := ⟨fun _ _ _ _ _ _ h => h.elim⟩
theorem pe_dead {e : Expr} : PE X e (fun _ _ _ => False) := ⟨fun _ _ _ _ _ _ h => h.elim⟩
end
end Gx

namespace Gx
open PySem PySem.Spec PyProof.Rows L2 GxR GenW

/-! ### repr and sorted of data -/
section
variable {X : Cx}
def rRepr (K : PySem.W.Frag) : List V → Hp → VK → Prop := fun xs H Q => ∃ x d, xs = [x] ∧ Dp K H x d ∧ d.showable = true ∧ d.hasDict = false ∧ d.depth ≤ 60 ∧ d.shown.length ≤ sizeLine ∧ Q (.str d.shown) H
theorem cr_repr (g : X.A.guards = some []) (hu : X.A.units + 64 < cLine) : CallR X (.builtin "repr") (rRepr X.K) := by
  intro pins s σ H xs us Q I r h
  obtain ⟨x, d, rfl, hD, hs, hd, hp, hz, q⟩ := h
  obtain ⟨u, rfl, rx⟩ : ∃ u, us = [u] ∧ RelV x u := by
    cases r with
    | cons r1 r2 => cases r2; exact ⟨_, rfl, r1⟩
  obtain ⟨as, rd⟩ := Dp.reads I d x u hD rx
  have refs : ∀ a, x = .ref a → wpAny (model X.prog X.w) X.A (call (.builtin "repr") [u]) (EP X pins σ Q) X.xe s := fun a e => by
    subst e
    have e2 : u = .ref a := rx
    subst e2
    exact repr_of_reads' rd hs (PyData.noDict_hsm hd) g (by omega) (fun _ _ e => e) (fun h' v tk hk => ⟨.str _, H, I.kept hk, ⟨_, rfl⟩, q⟩) hz
  cases hD with
  | non =>
    have e2 : u = .none := rx
    subst e2
    exact PySem.P.repr_of_none ⟨.str _, H, I.tok _, ⟨_, rfl⟩, q⟩
  | bl b =>
    have e2 : u = .bool b := rx
    subst e2
    refine PySem.P.repr_of_bool ⟨.str _, H, I.tok _, ⟨_, rfl⟩, ?_⟩
    cases b <;> exact q
  | int i =>
    obtain ⟨t, rfl⟩ := rx
    exact PySem.P.repr_of_int (of_decide_eq_true hs) ⟨.str _, H, I.tok _, ⟨_, rfl⟩, q⟩
  | str z =>
    obtain ⟨t, rfl⟩ := rx
    exact PySem.P.repr_of_str ⟨.str _, H, I.tok _, ⟨_, rfl⟩, q⟩ hz
  | lst h1 h2 => exact refs _ rfl
  | tup h1 h2 => exact refs _ rfl

/-- sorted of a list of data, all of one shape -/
def rSortG (K : PySem.W.Frag) {β : Type} (val : β → V) (enc : β → PyData) : List V → Hp → VK → Prop := fun vs H Q => ∃ (a : Addr) (bs : List β), vs = [V.ref a] ∧ SqL K H a (bs.map val) ∧
  (∀ b ∈ bs, Dp K H (val b) (enc b) ∧ (enc b).depth ≤ 60) ∧ PySem.W.AllAlike (bs.map enc) ∧ PySem.W.Sortable (bs.map enc) ∧ bs.length ≤ sizeLine ∧
  ∀ p, H p = none → Q (.ref p) (upd H p (.lst ((bs.mergeSort (PySem.W.dataLe false enc)).map val)))
theorem each_vals {β : Type} {val : β → V} : ∀ {bs : List β} {us : List Value}, Vals (bs.map val) us → PySem.W.EachIs (fun u b => RelV (val b) u) us bs
  | [], _, .nil => .nil
  | _ :: _, _, .cons r t => .cons r (each_vals t)
theorem vals_each {β : Type} {val : β → V} : ∀ {bs : List β} {us : List Value}, PySem.W.EachIs (fun u b => RelV (val b) u) us bs → Vals (bs.map val) us
  | _, _, .nil => .nil
  | _, _, .cons r t => .cons r (vals_each t)
theorem each_mem {α β : Type} {R S : α → β → Prop} : ∀ {as : List α} {bs : List β}, PySem.W.EachIs R as bs → (∀ a b, b ∈ bs → R a b → S a b) → PySem.W.EachIs S as bs
  | _, _, .nil, _ => .nil
  | _, _, .cons r t, f => .cons (f _ _ List.mem_cons_self r) (each_mem t fun a b hb => f a b (List.mem_cons_of_mem _ hb))
theorem cr_sortG {β : Type} {val : β → V} {enc : β → PyData} (hu : X.A.units + 64 < cLine) : CallR X (.builtin "sorted") (rSortG X.K val enc) := by
  intro pins s σ H xs us Q I r h
  obtain ⟨a, bs, rfl, hL, hD, hal, hk, hz, q⟩ := h
  obtain ⟨u, rfl, rx⟩ : ∃ u, us = [u] ∧ RelV (.ref a) u := by
    cases r with
    | cons r1 r2 => cases r2; exact ⟨_, rfl, r1⟩
  have e2 : u = .ref a := rx
  subst e2
  obtain ⟨its, rv, pl, hz'⟩ := I.list hL
  have ev := each_vals rv
  have er : PySem.W.EachIs (fun v b => ∃ as, Reads s.heap v (enc b) as) its bs := each_mem ev fun v b hb rb => Dp.reads I (enc b) (val b) v (hD b hb).1 rb
  refine PySem.W.sorted_data pl.isList ev er hal hk hz (fun b hb => by have := (hD b hb).2; omega) fun out ho eo => ?_
  obtain ⟨n, hat⟩ := sortedAll_at s.heap its out.toArray
  have rout : Vals ((bs.mergeSort (PySem.W.dataLe false enc)).map val) out := vals_each eo
  have hlen : ((bs.mergeSort (PySem.W.dataLe false enc)).map val).length ≤ sizeLine := by rw [rout.length, ho]; exact hz
  have hf : H (s.heap.objs.size + 1) = none := I.hok.fresh (Nat.le_succ _)
  exact ⟨.ref (s.heap.objs.size + 1), upd H (s.heap.objs.size + 1) (.lst _), I.laid (t' := s.toks) (fun b o e => sortedAll_old e) (Nat.le_succ _) ⟨hlen, out, n, rout, hat⟩, rfl, q _ hf⟩
end

/-! ### the end of a law -/
section
variable {P : Program} {w : World} {K : PySem.W.Frag} {mg mb : Str → Option Value} {k : Nat} {fa a : Addr} {cs : List (Addr × Addr)} {fd : FuncData} {x : Str} {sp : Sp} {s₁ : Shared} {vs : List Value} {ns : List Int}
abbrev scriptObj (vs : List Value) : Obj := { cls := .type "list", data := .seq vs.toArray }
abbrev tabObj : Obj := { cls := .none, data := .fields #[] }
/-- the law's call from a heap in which the script and the tables alone are told -/
theorem law_from (H : Hp) (hT : ∀ p ∈ cs, H p.2 = some (.tbl #[])) (hall : ∀ b u, H b = some u → (b ∈ cs.map Prod.snd ∧ u = .tbl #[]) ∨ (b = a ∧ K.lookup a = none ∧ u = .frz (scriptObj vs) (.lst (ns.map V.int))))
    (KX : K.In s₁.heap) (hns : s₁.heap.Ns mainGlobals mg) (hb : s₁.heap.Ns builtinsNs mb) (hbb : ∀ x : Str, x ≠ "__name__" → mb x = bootBuiltins x) (hlim : s₁.heap.NoLimit) (hg : s₁.gens = #[])
    (tabs : ∀ p ∈ cs, s₁.heap.get? p.2 = some tabObj ∧ K.lookup p.2 = none ∧ PySem.W.CodeHd s₁.heap p.1 p.2)
    (hbm : ∃ (bm : Addr) (ob : Obj), mg "__builtins__" = some (.ref bm) ∧ bm ≠ builtinsNs ∧ s₁.heap.get? bm = some ob ∧ ob.cls = .type "module" ∧ ob.dict = some builtinsNs ∧ ob.data = .plain)
    (ha : s₁.heap.get? a = some (scriptObj vs)) (rv : Vals (ns.map V.int) vs) (hl : ns.length ≤ sizeLine) (hS : SqL K H a (ns.map V.int)) (hr : Room k callerA)
    (F : ∀ base : Heap, K.In base → base.Ns mainGlobals mg → (∀ p ∈ cs, TabB base mg p.1 p.2) → FnG P w K mg base CX0 k fa fd [x] sp) (hbind : ∀ (s : Shared) (u : Value), BindsTo s fd ⟨[u], []⟩ [(x, u)])
    (hsp : sp [.ref a] H (fun v _ => v = .bl true) E0) :
    codeAny (model P w) callerA (.call (.ref fa) ⟨[.ref a], []⟩) (fun r s' => r = .ok (.ret (.bool true)) ∧ OldK s₁.heap s'.heap ∧ s'.os = s₁.os ∧ AllBare s'.gens) s₁ := by
  have isT : ∀ b ∈ cs.map Prod.snd, s₁.heap.get? b = some tabObj := fun b h => by
    obtain ⟨p, hp, rfl⟩ := List.mem_map.mp h
    exact (tabs p hp).1
  -- what is of another kind is not told of
  have un : ∀ {b : Addr} {o : Obj}, s₁.heap.get? b = some o → o.data ≠ (scriptObj vs).data → o.data ≠ tabObj.data → H b = none := fun {b o} e n1 n2 => by
    cases q : H b with
    | none => rfl
    | some u =>
      rcases hall b u q with ⟨hm, _⟩ | ⟨rfl, _, _⟩
      · rw [isT b hm] at e
        exact (n2 (by rw [← Option.some.inj e])).elim
      · rw [ha] at e
        exact (n1 (by rw [← Option.some.inj e])).elim
  have unD : ∀ {b : Addr} {o : Obj} {es : Array DictEntry} {ep : Nat}, s₁.heap.get? b = some o → o.data = .dict es ep → H b = none := fun e d => un e (fun z => by rw [d] at z; cases z) fun z => by rw [d] at z; cases z
  have nsK : ∀ {b : Addr} {m : Str → Option Value}, s₁.heap.Ns b m → (hidT s₁.heap H).Ns b m := fun ⟨o, es, ep, e, d, r⟩ => ⟨o, es, ep, hidT_get e (unD e d), d, r⟩
  have hKb : K.In (hidT s₁.heap H) := fun b o e => hidT_get (KX b o e) (by
    cases q : H b with
    | none => rfl
    | some u =>
      rcases hall b u q with ⟨hm, _⟩ | ⟨rfl, hk, _⟩
      · obtain ⟨p, hp, rfl⟩ := List.mem_map.mp hm
        rw [(tabs p hp).2.1] at e
        cases e
      · rw [hk] at e
        cases e)
  have hok : HOk P w H s₁.heap := fun b u q => by
    rcases hall b u q with ⟨hm, rfl⟩ | ⟨rfl, _, rfl⟩
    · exact isT b hm
    · exact ⟨ha, by rw [List.length_map]; exact hl, vs, _, rv, ha⟩
  have TB : ∀ p ∈ cs, TabB (hidT s₁.heap H) mg p.1 p.2 := fun p hp => by
    obtain ⟨t1, t2, o, us, file, tf, flags, tg, inF, text, tt, e1, r1, r2, r3, rr⟩ := tabs p hp
    have nMain : mainGlobals ≠ p.2 := fun z => by
      obtain ⟨o, es, ep, e, d, _⟩ := hns
      rw [z, t1] at e
      cases e
      cases d
    refine ⟨⟨o, us, file, tf, flags, tg, inF, text, tt, hidT_get e1 (un e1 (fun z => ?_) fun z => ?_), r1, r2, r3, rr⟩, ?_, nMain⟩
    · rw [r2] at z
      cases z
    · rw [r2] at z
      cases z
      simp at r3
    · obtain ⟨bm, ob, b1, b2, b3, b4, b5, b6⟩ := hbm
      refine ⟨bm, ob, b1, b2, fun z => ?_, fun z => ?_, hidT_get b3 (un b3 (fun z => ?_) fun z => ?_), b4, b5, b6⟩
      · obtain ⟨o, es, ep, e, d, _⟩ := hns
        rw [z, e] at b3
        cases b3
        rw [d] at b6
        cases b6
      · rw [z, t1] at b3
        cases b3
        cases b6
      · rw [b6] at z
        cases z
      · rw [b6] at z
        cases z
  have lim2 : (hidT s₁.heap H).NoLimit := hlim.elim fun mc h => ⟨mc, nsK h.1, h.2⟩
  have e0 : Env0 P w K mg (hidT s₁.heap H) callerA [] s₁ H :=
    { frames := rfl, mod := ⟨hKb, nsK hns, ⟨mb, nsK hb, hbb⟩, lim2⟩, bs := fun b o e => of_hidT e, bsz := Nat.le_of_eq (hidT_size _ _), funs := trivial, frf := fun b hb => absurd (show b ∈ ([] : List Addr) from hb) (by simp), hok := hok, bare := .of_eq hg }
  refine codeAny_mono ((F _ hKb (nsK hns) TB).runs callerA [] s₁ H ⟨[.ref a], []⟩ [.ref a] [.ref a] _ _ rfl hr e0 (hbind s₁ (.ref a)) (.cons rfl .nil) hsp) fun r s' h => ?_
  match r, h with
  | .ok (.ret u), h =>
    obtain ⟨v, H', os, bare, U, hok', ru, ev⟩ := h
    subst ev
    have eu : u = .bool true := ru
    subst eu
    have kept : ∀ b o, b ∉ cs.map Prod.snd → s₁.heap.get? b = some o → s'.heap.get? b = some o := fun b o nb e => by
      cases q : H b with
      | none => exact U.keep b o e q (fun z => absurd (show b ∈ ([] : List Addr) from z) (by simp)) (by simp)
      | some u =>
        rcases hall b u q with ⟨hm, _⟩ | ⟨rfl, _, rfl⟩
        · exact (nb hm).elim
        · obtain ⟨e1, _⟩ := hok b _ q
          obtain ⟨e2, _⟩ := hok' b _ (U.frzs b _ _ q)
          rw [e] at e1
          rw [e1]
          exact e2
    have grown : ∀ p ∈ cs, ∃ more : Array Value, s'.heap.get? p.2 = some { cls := .none, data := .fields more } := fun p hp => by
      obtain ⟨more, z⟩ := U.tbls p.2 #[] (hT p hp)
      exact ⟨_, hok' p.2 _ z⟩
    refine ⟨rfl, ⟨fun b o e => ?_, fun b o e => ?_⟩, os, bare⟩
    · by_cases hm : b ∈ cs.map Prod.snd
      · obtain ⟨p, hp, rfl⟩ := List.mem_map.mp hm
        obtain ⟨more, hmore⟩ := grown p hp
        rw [(tabs p hp).1] at e
        cases e
        exact .inr (.inl ⟨((tabs p hp).2.2.tab (tabs p hp).1).isCodeTable, rfl, #[], more, rfl, by rw [Array.empty_append]; exact hmore⟩)
      · exact .inl (kept b o hm e)
    · by_cases hm : b ∈ cs.map Prod.snd
      · obtain ⟨p, hp, rfl⟩ := List.mem_map.mp hm
        exact (grown p hp).elim fun more h => ⟨_, h⟩
      · exact ⟨o, kept b o hm e⟩
/-- what is known of the law's promise at the heap h behind the top -/
def LawG (l : PySem.W.OpenLaw) (w : World) (K : PySem.W.Frag) (k n : Nat) (x : Str) (mg : Str → Option Value) (fa : Addr) (h : Heap) : Prop :=
  ∃ (fd : FuncData) (cs : List (Addr × Addr)) (sp : Sp), (∀ p ∈ cs, h.get? p.2 = some tabObj ∧ K.lookup p.2 = none ∧ PySem.W.CodeHd h p.1 p.2) ∧ (∀ (s : Shared) (u : Value), BindsTo s fd ⟨[u], []⟩ [(x, u)]) ∧
    (∀ (H : Hp) (a : Addr) (ns : List Int), ns.length ≤ n → (∀ z ∈ ns, Builtin.Int.intBits z ≤ 1048576) → (∀ p ∈ cs, H p.2 = some (.tbl #[])) → SqL K H a (ns.map V.int) → sp [.ref a] H (fun v _ => v = .bl true) E0) ∧
    ∀ base : Heap, K.In base → base.Ns mainGlobals mg → (∀ p ∈ cs, TabB base mg p.1 p.2) → FnG l.prog w K mg base CX0 k fa fd [x] sp
theorem walk_G {l : PySem.W.OpenLaw} {n k : Nat} {q : Program} {loose : List Str} {XP : (Str → Option Value) → Heap → Prop} {YP : World → Heap → Prop} {d : DefRec} {K : Params → PySem.W.Frag} {x : Str}
    (hn : l.most = some n) (hn2 : n ≤ sizeLine) (hdf : d.params.defaults = []) (hr : Room k callerA) (hY : ∀ (w : World) (h : Heap), YP w h → (K w.params).In h)
    (F : ∀ (w : World) (mg : Str → Option Value) (fa : Addr) (h : Heap), YP w h → (K w.params).In h → h.Ns mainGlobals mg → mg d.name = some (.ref fa) → LawG l w (K w.params) k n x mg fa h) :
    PySem.W.WalkO q loose XP YP l.row.toRowW d [] (fun f vs => PySem.call f vs) := by
  refine Att.attach_callB hn hdf fun w s₀ s₁ mg mb fa o pm cd doc a vs ns G Y ho hd hcd hmg hobj hints hlen hbits hg => ?_
  have KX := hY w _ Y
  obtain ⟨fd, cs, sp, hT, hb, hsp, hF⟩ := F w mg fa _ Y KX G.T.g hmg
  have aT : a ∉ cs.map Prod.snd := fun z => by
    obtain ⟨p, hp, e⟩ := List.mem_map.mp z
    have q := (hT p hp).1
    rw [e, hobj] at q
    have z' : Data.seq vs.toArray _ = Data.fields #[] := congrArg Obj.data (Option.some.inj q)
    cases z'
  have rv := vals_ints hints
  cases hk : (K w.params).lookup a with
  | some o2 =>
    have e := KX a o2 hk
    rw [hobj] at e
    cases e
    have sl : SqL (K w.params) (fun b => if b ∈ cs.map Prod.snd then some (.tbl #[]) else none) a (ns.map V.int) :=
      .inr ⟨_, vs.toArray, _, hk, rfl, rfl, rfl, by rw [List.size_toArray, hints.length]; exact Nat.le_trans hlen hn2, by simpa using rv⟩
    have hT' : ∀ p ∈ cs, (fun b => if b ∈ cs.map Prod.snd then some (HO.tbl #[]) else none) p.2 = some (.tbl #[]) := fun p hp => if_pos (List.mem_map.mpr ⟨p, hp, rfl⟩)
    refine law_from _ hT' (fun b u z => ?_) KX G.T.g G.T.b G.T.builtins G.T.nolimit hg hT G.T.bmain hobj rv (Nat.le_trans hlen hn2) sl hr hF hb (hsp _ a ns hlen hbits hT' sl)
    by_cases hm : b ∈ cs.map Prod.snd
    · exact .inl ⟨hm, Option.some.inj (z.symm.trans (if_pos hm))⟩
    · have z' := z.symm.trans (if_neg hm)
      cases z'
  | none =>
    have sl : SqL (K w.params) (fun b => if b = a then some (.frz (scriptObj vs) (.lst (ns.map V.int))) else if b ∈ cs.map Prod.snd then some (.tbl #[]) else none) a (ns.map V.int) := .inl (.inr ⟨scriptObj vs, if_pos rfl⟩)
    have hT' : ∀ p ∈ cs, (fun b => if b = a then some (HO.frz (scriptObj vs) (.lst (ns.map V.int))) else if b ∈ cs.map Prod.snd then some (.tbl #[]) else none) p.2 = some (.tbl #[]) := fun p hp =>
      (if_neg (show ¬ p.2 = a from fun z => aT (by rw [← z]; exact List.mem_map.mpr ⟨p, hp, rfl⟩))).trans (if_pos (List.mem_map.mpr ⟨p, hp, rfl⟩))
    refine law_from _ hT' (fun b u z => ?_) KX G.T.g G.T.b G.T.builtins G.T.nolimit hg hT G.T.bmain hobj rv (Nat.le_trans hlen hn2) sl hr hF hb (hsp _ a ns hlen hbits hT' sl)
    by_cases hm : b = a
    · exact .inr ⟨hm, hk, Option.some.inj (z.symm.trans (if_pos hm))⟩
    · have z1 := z.symm.trans (if_neg hm)
      by_cases hm2 : b ∈ cs.map Prod.snd
      · exact .inl ⟨hm2, Option.some.inj (z1.trans (if_pos hm2))⟩
      · have z' := z1.trans (if_neg hm2)
        cases z'
end
end Gx

/-! set( ) of a list of keys of any kind, fewer than 4,000; len(set( )) of a list of texts -/
namespace Gx
open PySem PySem.Spec PyProof.Rows L2 GxR GenW
/-- the unlike ones, in their order -/
def uq {κ : Type} [DecidableEq κ] : List κ → List κ → List κ
  | acc, [] => acc
  | acc, x :: r => uq (if x ∈ acc then acc else acc ++ [x]) r
theorem uq_append {κ : Type} [DecidableEq κ] : ∀ (l acc : List κ) (x : κ), uq acc (l ++ [x]) = if x ∈ uq acc l then uq acc l else uq acc l ++ [x]
  | [], acc, x => rfl
  | y :: r, acc, x => uq_append r _ x
theorem uq_len {κ : Type} [DecidableEq κ] : ∀ (l acc : List κ), (uq acc l).length ≤ acc.length + l.length
  | [], acc => Nat.le_refl _
  | x :: r, acc => by
    have h := uq_len r (if x ∈ acc then acc else acc ++ [x])
    have e : (if x ∈ acc then acc else acc ++ [x]).length ≤ acc.length + 1 := by split <;> simp
    show (uq _ r).length ≤ acc.length + (r.length + 1)
    omega
theorem uq_mem {κ : Type} [DecidableEq κ] : ∀ (l acc : List κ) (k : κ), k ∈ uq acc l ↔ k ∈ acc ∨ k ∈ l
  | [], acc, k => by simp [uq]
  | x :: r, acc, k => by
    show k ∈ uq (if x ∈ acc then acc else acc ++ [x]) r ↔ _
    rw [uq_mem r]
    by_cases h : x ∈ acc
    · rw [if_pos h]
      constructor
      · rintro (h1 | h1)
        · exact .inl h1
        · exact .inr (List.mem_cons_of_mem _ h1)
      · rintro (h1 | h1)
        · exact .inl h1
        · rcases List.mem_cons.mp h1 with e | h2
          · exact .inl (e ▸ h)
          · exact .inr h2
    · rw [if_neg h]
      simp only [List.mem_append, List.mem_cons, List.not_mem_nil, or_false]
      constructor
      · rintro ((h1 | h1) | h1)
        · exact .inl h1
        · exact .inr (.inl h1)
        · exact .inr (.inr h1)
      · rintro (h1 | h1 | h1)
        · exact .inl (.inl h1)
        · exact .inl (.inr h1)
        · exact .inr h1
theorem uq_nodup {κ : Type} [DecidableEq κ] : ∀ (l acc : List κ), (acc ++ l).Nodup → uq acc l = acc ++ l
  | [], acc, _ => by simp [uq]
  | x :: r, acc, h => by
    have hx : x ∉ acc := fun hm => by
      rw [List.nodup_append] at h
      exact h.2.2 x hm x List.mem_cons_self rfl
    show uq (if x ∈ acc then acc else acc ++ [x]) r = _
    rw [if_neg hx]
    have e : acc ++ x :: r = (acc ++ [x]) ++ r := by simp
    rw [e] at h ⊢
    exact uq_nodup r _ h
theorem uq_short {κ : Type} [DecidableEq κ] : ∀ (l acc : List κ), acc.Nodup → ¬ (acc ++ l).Nodup → (uq acc l).length < acc.length + l.length
  | [], acc, h, h2 => absurd (by simpa using h) h2
  | x :: r, acc, h, h2 => by
    show (uq (if x ∈ acc then acc else acc ++ [x]) r).length < acc.length + (r.length + 1)
    by_cases hx : x ∈ acc
    · rw [if_pos hx]
      have := uq_len r acc
      omega
    · rw [if_neg hx]
      have hn : (acc ++ [x]).Nodup := by
        rw [List.nodup_append]
        refine ⟨h, by simp, fun a ha b hb => ?_⟩
        have e : b = x := by simpa using hb
        rw [e]
        exact fun z => hx (z ▸ ha)
      have e : acc ++ x :: r = (acc ++ [x]) ++ r := by simp
      rw [e] at h2
      have := uq_short r (acc ++ [x]) hn h2
      rw [List.length_append, List.length_singleton] at this
      omega

section
variable {prog : Program} {w : World} {A : Around} {κ : Type} [DecidableEq κ] {knd : PySem.KeyKind prog w κ}
/-- the loop that fills it -/
theorem fill_set {R : Result → Shared → Prop} {it : Addr} {fp wr : List Addr} {G : Array GenState → Array GenState → Prop} {n : Nat} {P : Nat → Value → Prop} {St : Nat → Shared → Prop} (W : WalksS prog w A.in1 it fp wr G n P St) {Z : Addr} (zf : Z ∉ fp)
    (ks : List κ) (hn : ks.length = n) (hv : ∀ (i : Nat) (v : Value), P i v → v.scannable = true ∧ ∃ k, ks[i]? = some k ∧ knd.is k v = true) (hb : n + 1 < scanBound) :
    ∀ (m i : Nat) (s : Shared), n = i + m → St i s → s.heap.SetOf knd Z (fun k => decide (k ∈ ks.take i)) (uq [] (ks.take i)).length →
      (∀ s', Moved (Z :: wr) G s s' → s'.heap.SetOf knd Z (fun k => decide (k ∈ ks)) (uq [] ks).length → R (.ok (.ret .none)) s') →
      codeAny (model prog w) A (.builtin "set.update.loop" ⟨[.ref Z, .ref it], []⟩) R s := by
  have zw : Z ∉ wr := fun z => zf (W.sub _ z)
  have more : ∀ b ∈ wr, b ∈ Z :: wr := fun b hb => List.mem_cons_of_mem _ hb
  have stays : ∀ {s s' : Shared} {T : κ → Bool} {c : Nat}, Moved wr G s s' → s.heap.SetOf knd Z T c → s'.heap.SetOf knd Z T c := fun mv ⟨o, es, ep, tb, ho, r⟩ => ⟨o, es, ep, tb, mv.heap Z _ zw ho, r⟩
  intro m
  induction m with
  | zero =>
    intro i s hi hst hS hR
    have e1 : i = n := by omega
    subst e1
    have e2 : ks.take ks.length = ks := List.take_length
    refine codeAny_builtin PyProof.Rows.F.entry_set_update_loop ?_
    rw [Around.under_plainId PyProof.Rows.F.plain_set_update_loop _]
    show wpAny (model prog w) A.in1 (pyNext (.ref it) >>= _) _ _ s
    refine wpAny_bind (W.done s _ _ hst fun s' mv => ?_)
    show wpAny (model prog w) A.in1 (ret Value.none) _ _ s'
    refine wpAny_pure (hR s' (mv.mono more) ?_)
    have q := stays mv hS
    rw [← hn, e2] at q
    exact q
  | succ m ih =>
    intro i s hi hst hS hR
    have il : i < n := by omega
    refine codeAny_builtin PyProof.Rows.F.entry_set_update_loop ?_
    rw [Around.under_plainId PyProof.Rows.F.plain_set_update_loop _]
    show wpAny (model prog w) A.in1 (pyNext (.ref it) >>= _) _ _ s
    refine wpAny_bind (W.item i s _ _ il hst fun v s' hP hst' mv => ?_)
    obtain ⟨hsc, k, hk, his⟩ := hv i v hP
    have hS' := stays mv hS
    show wpAny (model prog w) A.in1 (holding [v] (setAdd Z v) >>= _) _ _ s'
    refine wpAny_bind (wpAny_holding ?_)
    unfold setAdd
    refine wpAny_holding (wpAny_bind (knd.pyHash his ?_))
    have room : (uq [] (ks.take i)).length + 1 < scanBound := by
      have h1 := uq_len (ks.take i) ([] : List κ)
      have h2 : (ks.take i).length ≤ i := by rw [List.length_take]; omega
      simp only [List.length_nil] at h1
      omega
    refine wpAny_setAddHashed_of (knd := knd) (s := { s' with toks := s'.toks + 1 }) his hsc hS' room fun h' sb hS2 => ?_
    have et : ks.take (i + 1) = ks.take i ++ [k] := by rw [List.take_add_one, hk]; rfl
    have hS3 : h'.SetOf knd Z (fun k => decide (k ∈ ks.take (i + 1))) (uq [] (ks.take (i + 1))).length := by
      have e1 : (fun k' => decide (k' ∈ ks.take i) || decide (k' = k)) = fun k' => decide (k' ∈ ks.take (i + 1)) := by
        funext k'
        rw [et]
        by_cases c1 : k' ∈ ks.take i <;> by_cases c2 : k' = k <;> simp [c1, c2]
      have e2 : (if decide (k ∈ ks.take i) = true then (uq [] (ks.take i)).length else (uq [] (ks.take i)).length + 1) = (uq [] (ks.take (i + 1))).length := by
        rw [et, uq_append]
        by_cases c : k ∈ ks.take i
        · have c2 : k ∈ uq [] (ks.take i) := (uq_mem _ _ _).mpr (.inr c)
          rw [if_pos c2, if_pos (decide_eq_true c)]
        · have c2 : k ∉ uq [] (ks.take i) := fun z => by
            rcases (uq_mem _ _ _).mp z with y | y
            · cases y
            · exact c y
          rw [if_neg c2, if_neg (by simpa using c), List.length_append, List.length_singleton]
      rw [← e1, ← e2]
      exact hS2
    have same : ∀ b o, b ≠ Z → s'.heap.get? b = some o → h'.get? b = some o := fun b o hb e => by rw [sb.2 b hb]; exact e
    refine wpAny_pure ⟨plainId_quiet PyProof.Rows.F.plain_set_update_loop _, ih (i + 1) _ (by omega) (W.frame _ s' _ _ hst' (Nat.le_succ _) fun b hb o e => same b o (fun z => zf (z ▸ hb)) e) hS3 fun s'' mv2 hS4 => ?_⟩
    exact hR s'' (Moved.trans W.gtrans ((mv.mono more).then_heap (Nat.le_succ _) fun b o hb e => same b o (fun z => hb (by rw [z]; exact List.mem_cons_self)) e) mv2) hS4

/-- set(l), l a list of keys -/
theorem set_of_list {E : Value → Shared → Prop} {s : Shared} {l : Addr} {items : Array Value} {ks : List κ} {Q : Value → Shared → Prop} (hh : A.handled = none) (hl : s.heap.IsList l items) (hn : ks.length = items.size)
    (hv : ∀ (i : Nat) (v : Value), items[i]? = some v → v.scannable = true ∧ ∃ k, ks[i]? = some k ∧ knd.is k v = true) (hb : items.size + 1 < scanBound)
    (h : ∀ (h' : Heap) (tk : Nat), h'.SetOf knd s.heap.objs.size (fun k => decide (k ∈ ks)) (uq [] ks).length → (∀ b o, s.heap.get? b = some o → h'.get? b = some o) → Q (.ref s.heap.objs.size) { s with heap := h', toks := tk }) :
    wpAny (model prog w) A (call (.type "set") [.ref l]) Q E s := by
  obtain ⟨c0, tl0, mro0⟩ := PySem.F.called_set.mro
  have made0 := PySem.F.called_set.made; have sub0 := PySem.F.called_set.sub
  have nt0 := PySem.F.called_set.notType; have cc0 := PySem.F.called_set.canCreate
  have tc0 := PySem.F.typeCall_set_1 (.ref l)
  refine wpAny_call (codeAny_of_tree ?_)
  show wpAny (model prog w) _ (callAny (.type "set") _) _ _ _
  refine wpAny_pure ⟨Code.quiet_builtin _ (by decide +kernel), codeAny_builtin PySem.F.entry_type_call ?_⟩
  rw [Around.under_plain (weight_type_call_type "set" [.ref l] []) rfl]
  repeat any_goals first | assumption | wp_step
  refine codeAny_mono (code_set_new_1 (.ref l) (E := E) (Q₁ := fun z t => ∃ led : Bool, z = .ref s.heap.objs.size ∧ t = { s with heap := s.heap.push { cls := .type "set", dict := none, data := .set #[] 0 (.fresh 0 0 led) } }) fun led => ⟨led, rfl, rfl⟩) fun r1 t1 q1 => ?_
  match r1, q1 with
  | .error e, q1 => exact q1
  | .ok (.ret z), q1 =>
    obtain ⟨led, rfl, rfl⟩ := q1
    have gS : (s.heap.push { cls := .type "set", dict := none, data := .set #[] 0 (.fresh 0 0 led) }).get? s.heap.objs.size = some { cls := .type "set", dict := none, data := .set #[] 0 (.fresh 0 0 led) } := Heap.get?_push_size _ rfl
    have tS : Shared.TypeIs { s with heap := s.heap.push { cls := .type "set", dict := none, data := .set #[] 0 (.fresh 0 0 led) } } (.ref s.heap.objs.size) "set" := ⟨_, gS, rfl⟩
    have li := PySem.F.called_set.init.lookup; have bi := PySem.F.called_set.init.bind (.ref s.heap.objs.size)
    repeat any_goals first | assumption | wp_step
    refine codeAny_mono (codeAny_call_builtin (R := wants (fun r t => r = .none ∧ ∃ h' tk, t = { s with heap := h', toks := tk } ∧ h'.SetOf knd s.heap.objs.size (fun k => decide (k ∈ ks)) (uq [] ks).length ∧
        ∀ b o, s.heap.get? b = some o → h'.get? b = some o) E) PySem.F.called_set.init.plain PySem.F.entry_set_init (check_set_init_1 tS ?_)) fun r2 t2 q2 => ?_
    · obtain ⟨ol, gl, cl, nl, dl⟩ := hl
      obtain ⟨oc, od, ot, os⟩ := ol
      simp only at cl dl
      subst cl; subst dl
      have ll : l < s.heap.objs.size := Heap.lt_size gl
      have gl' : (s.heap.push { cls := .type "set", dict := none, data := .set #[] 0 (.fresh 0 0 led) }).get? l = some { cls := .type "list", dict := od, data := .seq items nl, slots := os } := Heap.get?_push_of_some _ gl
      have il : (s.heap.push { cls := .type "set", dict := none, data := .set #[] 0 (.fresh 0 0 led) }).IsList l items := ⟨_, gl', rfl, nl, rfl⟩
      have s1 := PySem.F.sub_list_set; have s2 := PySem.F.sub_list_frozenset
      have nd : (Value.type "list" == Value.type "dict") = false := by decide
      unfold Builtin.«set.__init__» noKeywords Builtin.Frozenset.updateFrom
      generalize hp : pyIter = pI
      wp_walk
      subst hp
      refine wpAny_pyIter_list il (wpAny_bind (wpAny_runValue ?_))
      have h3 : A.in1.in1.in1.handled = none := by simp [hh]
      have ni : l ≠ (s.heap.push { cls := .type "set", dict := none, data := .set #[] 0 (.fresh 0 0 led) }).objs.size := by rw [Heap.size_push]; exact Nat.ne_of_lt (Nat.lt_succ_of_lt ll)
      have zf : s.heap.objs.size ∉ [(s.heap.push { cls := .type "set", dict := none, data := .set #[] 0 (.fresh 0 0 led) }).objs.size, l] := by
        rw [Heap.size_push]; simp only [List.mem_cons, List.mem_singleton, List.not_mem_nil, or_false, not_or]
        exact ⟨Nat.ne_of_lt (Nat.lt_succ_self _), Nat.ne_of_gt ll⟩
      refine fill_set ((Walks.list h3 _ l ni items).toS) zf ks hn hv hb items.size 0 _ (by omega) ⟨⟨_, Heap.get?_push_size _ rfl, rfl, rfl⟩, il.push _⟩ ?_ fun t mv hS => ?_
      · have g2 : ((s.heap.push { cls := .type "set", dict := none, data := .set #[] 0 (.fresh 0 0 led) }).push { cls := .type "list_iterator", data := .fields #[.ref l, .int 0 0] }).get? s.heap.objs.size =
            some { cls := .type "set", dict := none, data := .set #[] 0 (.fresh 0 0 led) } := Heap.get?_push_of_some _ gS
        have q := (PyProof.Rows.setObjOf_fresh (knd := knd) led).setOf g2 (by unfold scanBound; omega)
        have e : (fun k => decide (k ∈ ks.take 0)) = fun _ : κ => false := by funext k; simp
        rw [e]
        exact q
      · obtain ⟨h', g', d', tk', os'⟩ := t
        obtain rfl : g' = s.gens := mv.gens
        obtain rfl : d' = s.drawn := mv.drawn
        obtain rfl : os' = s.os := mv.os
        show wpAny (model prog w) _ _ _ _ _
        refine wpAny_pure ?_
        show wpAny (model prog w) _ (ret Value.none) _ _ _
        refine wpAny_pure ⟨rfl, h', tk', rfl, hS, fun b o e => ?_⟩
        have lb := Heap.lt_size e
        refine mv.heap b o (fun z => ?_) (Heap.get?_push_of_some _ (Heap.get?_push_of_some _ e))
        rcases List.mem_cons.mp z with y | y
        · exact Nat.ne_of_lt lb y
        · rcases List.mem_cons.mp y with y | y
          · rw [Heap.size_push] at y
            exact Nat.ne_of_lt (Nat.lt_succ_of_lt lb) y
          · cases y
    · match r2, q2 with
      | .error e, q2 => exact q2
      | .ok (.ret r), q2 =>
        obtain ⟨rfl, h', tk, rfl, hS, hk⟩ := q2
        repeat any_goals first | assumption | wp_step
        exact h _ _ hS hk
end
end Gx
namespace Gx
open PySem PySem.Spec PyProof.Rows L2 GxR GenW
section
variable {X : Cx}
/-- len(set(xs)) of a list of texts -/
def tLenSetS (K : PySem.W.Frag) (ta : TE) : TE := fun σ H Q => ta σ H fun x H1 => ∃ (l : Addr) (xs : List Str), x = .ref l ∧ SqL K H1 l (xs.map V.str) ∧ xs.length ≤ 4000 ∧ Q (.int ((uq [] xs).length : Nat)) H1
theorem pe_lenSetS {a : Expr} {ta : TE} {p p2 q pos : Pos} (hg : Gl X "len") (hm : X.mg "len" = none) (hg2 : Gl X "set") (hm2 : X.mg "set" = none) (hh : X.A.handled = none) (ha : PE X a ta)
    (na : starEach [a] X.env = (false, eval a X.env) :: starEach [] X.env := by rfl) : PE X (.Call (.Name "len" p) [.Call (.Name "set" p2) [a] [] q] [] pos) (tLenSetS X.K ta) := by
  refine ⟨fun pins s σ H Q I h => Call_ (ld_blt I hg hm boot_len (PyProof.Rows.callWith_builtin1 (PyProof.Rows.args_cons (Call_ (ld_blt I hg2 hm2 boot_set ?_)) rfl) rfl rfl))⟩
  refine PyProof.Rows.callWith_type1 (PyProof.Rows.args_cons (thn (ha.run pins s σ H _ I h) fun v s1 h1 => PyProof.Rows.args_nil ?_) na) na rfl
  obtain ⟨x, H1, I1, r1, l, xs, rfl, hq, hz, q1⟩ := h1
  have e : v = .ref l := r1
  subst e
  obtain ⟨its, rv, pl, _⟩ := I1.list hq
  have hlen : xs.length = its.length := by have := rv.length; rw [List.length_map] at this; exact this
  refine set_of_list (knd := PySem.strKind X.prog X.w) hh pl.isList (ks := xs) (by rw [List.size_toArray]; exact hlen) (fun i v hv => ?_) (by rw [List.size_toArray, ← hlen]; unfold scanBound; omega) fun h' tk hS hk => ?_
  · have hv' : its[i]? = some v := by simpa using hv
    have hi : i < xs.length := by rw [hlen]; exact (List.getElem?_eq_some_iff.mp hv').1
    have e1 : (xs.map V.str)[i]? = some (V.str xs[i]) := by rw [List.getElem?_map, List.getElem?_eq_getElem hi]; rfl
    obtain ⟨u, hu, t, rfl⟩ := rv.get e1
    rw [hv'] at hu
    obtain rfl := Option.some.inj hu
    exact ⟨rfl, xs[i], List.getElem?_eq_getElem hi, PySem.strKind_is _ _ _ _⟩
  · obtain ⟨o, es, ep, t, ho, hex, hd, _, _, _, hf, hn⟩ := hS
    have I2 : Inv X pins σ H1 { s1 with heap := h', toks := tk } := I1.kept hk
    have hle : (uq ([] : List Str) xs).length ≤ 4000 := by have := uq_len xs ([] : List Str); simp only [List.length_nil] at this; omega
    exact PyProof.Rows.args_nil (call_len_set ho hex hd hf (by rw [hn]; omega) ⟨.int _, H1, I2.tok _, ⟨_, by rw [hn]⟩, q1⟩)
end
end Gx

/-! What else the programs want: powers, generator expressions by their scopes, what stays of a heap. -/
namespace Gx
open PySem PySem.Spec PyProof.Rows L2 GxR GenW
theorem bits_le {x : Int} {n : Nat} (h0 : 0 < n) (h : x.natAbs < 2 ^ n) : Builtin.Int.intBits x ≤ n := by
  have l := PySem.Flt.log2_lt_of h0 h
  unfold Builtin.Int.intBits
  split <;> omega
section
variable {X : Cx}
/-- ** of any base, together below 2 ^ 27 bits -/
def CPowX (i j : Int) : Prop := 0 ≤ j ∧ (Builtin.Int.intBits i : Int) * j ≤ 2 ^ 27
theorem op_powX : OpR X (binaryOp .Pow) (rI CPowX fun i j => .int (i ^ j.toNat)) := opI fun _ _ _ _ _ _ _ hc q => pow_int hc.1 hc.2 q
theorem room_gx {k : Nat} {s : Shared} {H : Hp} {sc : Scope} {C : Addr} {code : Value} {fp : List Addr} (r : Room (k + 3) X.A) : Room k (gcx X s H sc C code fp).A := r.in1.in1.deeper _
def gxC (sc : Scope) : Bool := (sc.names.all fun y => match y.2 with | .cell => false | _ => true) && (match sc.names.lookup (".0" : Str) with | some .local => true | _ => false) && !sc.isCoroutine
theorem gx_ok {gsc dsc : Scope} {own : List (Str × Nat)} {c P : Addr} {N : List Str} (tb : TabB X.base X.mg c P) (nd : N.Nodup) (b : blkC N dsc gsc own = true) (h2 : gxC gsc = true)
    (e1 : X.N = N := by rfl) (e2 : X.env.scope = dsc := by rfl) (e3 : X.env.code = .ref c := by rfl) : GxOk X gsc own c P := by
  unfold gxC at h2
  rw [Bool.and_eq_true, Bool.and_eq_true, List.all_eq_true] at h2
  refine ⟨tb, e3, ?_, by rw [e1]; exact nd, fun y hy e => ?_, ?_, ?_⟩
  · rw [e1, e2]
    exact blkOk_by b
  · have := h2.1.1 y hy
    rw [e] at this
    cases this
  · have := h2.1.2
    split at this
    · assumption
    · cases this
  · simpa using h2.2
end

/-! ### what stays -/
/-- all but tables and what stands at ex is as it was; tables may have grown -/
structure Grow (ex : List Addr) (H H' : Hp) : Prop where
  keep : ∀ b o, b ∉ ex → H b = some o → (∀ ps, o ≠ .tbl ps) → H' b = some o
  tabs : ∀ b, TabG H b → TabG H' b
theorem Grow.refl (ex : List Addr) (H : Hp) : Grow ex H H := ⟨fun _ _ _ e _ => e, fun _ t => t⟩
theorem Grow.trans {ex : List Addr} {H H1 H2 : Hp} (a : Grow ex H H1) (b : Grow ex H1 H2) : Grow ex H H2 := ⟨fun c o h e t => b.keep c o h (a.keep c o h e t) t, fun c t => b.tabs c (a.tabs c t)⟩
theorem Grow.mono {ex ex' : List Addr} {H H1 : Hp} (a : Grow ex H H1) (h : ∀ b ∈ ex, b ∈ ex') : Grow ex' H H1 := ⟨fun c o n e t => a.keep c o (fun z => n (h c z)) e t, a.tabs⟩
theorem Grow.any {ex : List Addr} {H H1 : Hp} (a : Grow [] H H1) : Grow ex H H1 := a.mono fun _ z => by cases z
theorem Grow.lst {ex : List Addr} {H H' : Hp} (a : Grow ex H H') {p : Addr} {xs : List V} (n : p ∉ ex) (h : H p = some (.lst xs)) : H' p = some (.lst xs) := a.keep p _ n h fun ps z => by cases z
theorem Grow.tup {ex : List Addr} {H H' : Hp} (a : Grow ex H H') {p : Addr} {xs : List V} (n : p ∉ ex) (h : H p = some (.tup xs)) : H' p = some (.tup xs) := a.keep p _ n h fun ps z => by cases z
theorem Grow.seq {K : PySem.W.Frag} {ex : List Addr} {H H' : Hp} (a : Grow ex H H') {p : Addr} {xs : List V} (n : p ∉ ex) (h : SqL K H p xs) : SqL K H' p xs := by
  rcases h with (h | ⟨o, h⟩) | h
  · exact .inl (.inl (a.lst n h))
  · exact .inl (.inr ⟨o, a.keep p _ n h fun ps z => by cases z⟩)
  · exact .inr h
theorem Grow.seq0 {K : PySem.W.Frag} {H H' : Hp} (a : Grow [] H H') {p : Addr} {xs : List V} (h : SqL K H p xs) : SqL K H' p xs := a.seq (by simp) h
/-- a new object -/
theorem grow_new {ex : List Addr} {H : Hp} {p : Addr} {o : HO} (h : H p = none) : Grow ex H (upd H p o) :=
  ⟨fun b u _ e _ => by rw [upd_ne (ne_of_none e h)]; exact e, fun b ⟨ps, e, t⟩ => ⟨ps, by rw [upd_ne (ne_of_none e h)]; exact e, t⟩⟩
/-- what stands at p, no table, is changed -/
theorem grow_at {ex : List Addr} {H : Hp} {p : Addr} {o u : HO} (h : H p = some u) (hu : ∀ ps, u ≠ .tbl ps) (hp : p ∈ ex) : Grow ex H (upd H p o) :=
  ⟨fun b v n e _ => by rw [upd_ne (show b ≠ p from fun z => n (by rw [z]; exact hp))]; exact e, fun b ⟨ps, e, t⟩ => ⟨ps, by rw [upd_ne (show b ≠ p from fun z => by rw [z, h] at e; exact hu ps (Option.some.inj e))]; exact e, t⟩⟩
theorem grow_tab {ex : List Addr} {P : Addr} {H H' : Hp} (h : TabG H P) (t : Tabbed P H H') : Grow ex H H' :=
  ⟨fun b o _ e no => by
    have n : b ≠ P := fun z => by
      obtain ⟨ps, e2, _⟩ := h
      rw [z, e2] at e
      exact no ps (Option.some.inj e).symm
    rw [t.2 b n]
    exact e, fun b ht => by
    by_cases z : b = P
    · rw [z]
      exact t.1
    · obtain ⟨ps, e, q⟩ := ht
      exact ⟨ps, by rw [t.2 b z]; exact e, q⟩⟩
/-- what was not told of before may be dropped from ex -/
theorem Grow.less {ex : List Addr} {p : Addr} {H H' : Hp} (a : Grow (p :: ex) H H') (h : H p = none) : Grow ex H H' :=
  ⟨fun b o n e t => a.keep b o (fun z => by
    rcases List.mem_cons.mp z with y | y
    · rw [y, h] at e
      cases e
    · exact n y) e t, a.tabs⟩
/-- nothing stood there, or a table did -/
def Fresh (H : Hp) (p : Addr) : Prop := ∀ o, H p = some o → ∃ ps, o = .tbl ps
theorem fresh_none {H : Hp} {p : Addr} (h : H p = none) : Fresh H p := fun o e => by
  rw [h] at e
  cases e
theorem Grow.fresh {ex : List Addr} {H H' : Hp} (a : Grow ex H H') {p : Addr} (n : p ∉ ex) (h : Fresh H' p) : Fresh H p := fun o e => by
  cases o with
  | tbl ps => exact ⟨ps, rfl⟩
  | _ => exact h _ (a.keep p _ n e (fun ps z => by cases z))
theorem Grow.fresh0 {H H' : Hp} (a : Grow [] H H') {p : Addr} (h : H' p = none) : Fresh H p := a.fresh (by simp) (fresh_none h)
theorem Fresh.ne {H : Hp} {p b : Addr} {o : HO} (n : Fresh H p) (h : H b = some o) (ho : ∀ ps, o ≠ .tbl ps) : b ≠ p := fun z => by
  rw [z] at h
  obtain ⟨ps, e⟩ := n o h
  exact ho ps e
/-- what is new may be changed -/
theorem Grow.put {ex : List Addr} {p : Addr} {o u : HO} {H H' : Hp} (a : Grow ex H H') (n : Fresh H p) (h : H' p = some u) (hu : ∀ ps, u ≠ .tbl ps) : Grow ex H (upd H' p o) :=
  ⟨fun b v z e t => by
    rw [upd_ne (n.ne e t)]
    exact a.keep b v z e t, fun b t => by
    obtain ⟨ps, e, q⟩ := a.tabs b t
    exact ⟨ps, by rw [upd_ne (show b ≠ p from fun z => by rw [z, h] at e; exact hu ps (Option.some.inj e))]; exact e, q⟩⟩
theorem Grow.drop {ex : List Addr} {p : Addr} {H H' : Hp} (a : Grow (p :: ex) H H') (n : Fresh H p) : Grow ex H H' :=
  ⟨fun b o nb e t => a.keep b o (fun z => by
    rcases List.mem_cons.mp z with y | y
    · exact n.ne e t y
    · exact nb y) e t, a.tabs⟩
theorem Grow.new {ex : List Addr} {p : Addr} {o : HO} {H H' : Hp} (a : Grow ex H H') (h : H' p = none) : Grow ex H (upd H' p o) := a.trans (grow_new h)
/-! ### data -/
mutual
theorem Dp.grow {K : PySem.W.Frag} {H H' : Hp} (a : Grow [] H H') : ∀ {x : V} {d : PyData}, Dp K H x d → Dp K H' x d
  | _, _, .non => .non
  | _, _, .bl b => .bl b
  | _, _, .int i => .int i
  | _, _, .str x => .str x
  | _, _, .lst h1 h2 => .lst (a.seq0 h1) (DpAll.grow a h2)
  | _, _, .tup h1 h2 => .tup (by
      rcases h1 with (h | ⟨o, h⟩) | h
      · exact .inl (.inl (a.keep _ _ (by simp) h fun ps z => by cases z))
      · exact .inl (.inr ⟨o, a.keep _ _ (by simp) h fun ps z => by cases z⟩)
      · exact .inr h) (DpAll.grow a h2)
theorem DpAll.grow {K : PySem.W.Frag} {H H' : Hp} (a : Grow [] H H') : ∀ {x : List V} {d : List PyData}, DpAll K H x d → DpAll K H' x d
  | _, _, .nil => .nil
  | _, _, .cons h t => .cons (Dp.grow a h) (DpAll.grow a t)
end
theorem dp_strs {K : PySem.W.Frag} {H : Hp} : ∀ xs : List Str, DpAll K H (xs.map V.str) (xs.map PyData.str)
  | [] => .nil
  | x :: r => .cons (.str x) (dp_strs r)
theorem dp_book {K : PySem.W.Frag} {H : Hp} {p : Addr} {xs : List Str} (h : SqL K H p (xs.map V.str)) : Dp K H (.ref p) (.list (xs.map PyData.str)) := .lst h (dp_strs xs)

theorem tyB_str {K : PySem.W.Frag} {H : Hp} {z : Str} {p : String → Prop} : (∃ U, TyB K H (.str z) U ∧ p U) ↔ p "str" := by
  constructor
  · rintro ⟨U, t, h⟩
    cases t
    exact h
  · exact fun h => ⟨_, .str z, h⟩
theorem tyB_int {K : PySem.W.Frag} {H : Hp} {z : Int} {p : String → Prop} : (∃ U, TyB K H (.int z) U ∧ p U) ↔ p "int" := by
  constructor
  · rintro ⟨U, t, h⟩
    cases t
    exact h
  · exact fun h => ⟨_, .int z, h⟩

/-! ### all( ), any( ) over items that are known -/
section
variable {sb : Bool} {g : TG} {te : TE} {vs : List Nat} {σ : L2.St} {Q : VK} {P : Addr} {J : It} {H1 : Hp}
theorem truth_by {items : List V} (Pv : Nat → Hp → Prop) (h0 : ∀ H2, Tabbed P H1 H2 → Pv 0 H2) (yld : ∀ i H x H', Pv i H → J.yld i H x H' → H' = H ∧ items[i]? = some x) (go : ∀ i H, i < items.length → Pv i H → J.go i H)
    (stop : ∀ H, Pv items.length H → J.stop items.length H) (step : ∀ i x H, items[i]? = some x → Pv i H → g x (wipe σ vs) H fun σ2 H2 => wipe σ2 vs = wipe σ vs ∧ te σ2 H2 fun y H4 => ∃ b, y = .bl b ∧ if b = sb then Q (.bl sb) H4 else Pv (i + 1) H4)
    (fin : ∀ H, Pv items.length H → Q (.bl (!sb)) H) : rTruth P sb g te vs σ Q J H1 := by
  refine fun H2 t => ⟨fun i m H => m = items.length - i ∧ i ≤ items.length ∧ Pv i H, ⟨_, rfl, Nat.zero_le _, h0 H2 t⟩, fun i m H hw => ?_⟩
  obtain ⟨rfl, hi, hp⟩ := hw
  by_cases hl : i < items.length
  · refine .inr ⟨go i H hl hp, Pv (i + 1), fun H' h' => ⟨items.length - (i + 1), by omega, rfl, hl, h'⟩, fun x H' hy => ?_⟩
    obtain ⟨rfl, hx⟩ := yld i H x H' hp hy
    exact step i x _ hx hp
  · have e : i = items.length := by omega
    subst e
    exact .inl ⟨stop H hp, fin H hp⟩
theorem truth_list {K : PySem.W.Frag} {a : Addr} {xs : List V} (Pv : Nat → Hp → Prop) (h0 : ∀ H2, Tabbed P H1 H2 → Pv 0 H2) (hl : ∀ i H, Pv i H → SqL K H a xs)
    (step : ∀ i x H, xs[i]? = some x → Pv i H → g x (wipe σ vs) H fun σ2 H2 => wipe σ2 vs = wipe σ vs ∧ te σ2 H2 fun y H4 => ∃ b, y = .bl b ∧ if b = sb then Q (.bl sb) H4 else Pv (i + 1) H4)
    (fin : ∀ H, Pv xs.length H → Q (.bl (!sb)) H) : rTruth P sb g te vs σ Q (Itl K a) H1 :=
  truth_by (items := xs) Pv h0 (fun i H x H' hp hy => ⟨hy.1, hy.2 xs (hl i H hp)⟩) (fun i H hi hp => ⟨xs, xs[i], hl i H hp, List.getElem?_eq_getElem hi⟩) (fun H hp => ⟨xs, hl _ H hp, Nat.le_refl _⟩) step fin
theorem truth_text {z : Str} (Pv : Nat → Hp → Prop) (h0 : ∀ H2, Tabbed P H1 H2 → Pv 0 H2)
    (step : ∀ (i : Nat) (c : Nat) H, z.cps.toList[i]? = some c → Pv i H → g (.str ⟨#[c]⟩) (wipe σ vs) H fun σ2 H2 => wipe σ2 vs = wipe σ vs ∧ te σ2 H2 fun y H4 => ∃ b, y = .bl b ∧ if b = sb then Q (.bl sb) H4 else Pv (i + 1) H4)
    (fin : ∀ H, Pv z.cps.toList.length H → Q (.bl (!sb)) H) : rTruth P sb g te vs σ Q (Its z) H1 := by
  have el : (z.cps.toList.map fun c => V.str ⟨#[c]⟩).length = z.cps.toList.length := by rw [List.length_map]
  refine truth_by (items := z.cps.toList.map fun c => V.str ⟨#[c]⟩) Pv h0 (fun i H x H' hp hy => ?_) (fun i H hi hp => ?_) (fun H hp => ?_) (fun i x H hx hp => ?_) fun H hp => fin H (by rw [← el]; exact hp)
  · obtain ⟨e, c, hc, rfl⟩ := hy
    refine ⟨e, ?_⟩
    rw [List.getElem?_map, Array.getElem?_toList, hc]
    rfl
  · rw [el] at hi
    show i < z.cps.size
    simpa using hi
  · show z.cps.size ≤ _
    rw [el]
    simp
  · rw [List.getElem?_map] at hx
    cases hc : z.cps.toList[i]? with
    | none => rw [hc] at hx; cases hx
    | some c =>
      rw [hc] at hx
      cases hx
      exact step i c H hc hp
end

theorem put_len {κ : Type} [DecidableEq κ] (c : List (κ × V)) (k : κ) (x : V) : (putK c k x).length ≤ c.length + 1 := by
  unfold putK
  split
  · rw [List.length_map]
    omega
  · rw [List.length_append]
    exact Nat.le_refl _
/-! ### readings within a block -/
section
variable {X : Cx}
theorem blk_K {s : Shared} {H : Hp} {sc : Scope} {ce : Env} {fp : List Addr} : (X.blk s H sc ce fp).K = X.K := rfl
theorem gcx_K {s : Shared} {H : Hp} {sc : Scope} {C : Addr} {code : Value} {fp : List Addr} : (gcx X s H sc C code fp).K = X.K := rfl
theorem pe_to {e : Expr} {t t' : TE} (p : PE X e t) (h : t = t' := by first | exact rfl | (simp only [Gx.blk_K, Gx.gcx_K]; exact rfl)) : PE X e t' := h ▸ p
theorem pg_to {e : Expr} {t t' : TG} (p : PG X e t) (h : t = t' := by first | exact rfl | (simp only [Gx.blk_K, Gx.gcx_K]; exact rfl)) : PG X e t' := h ▸ p
theorem pts_to {e : List Expr} {t t' : TT} (p : PTs X e t) (h : t = t' := by first | exact rfl | (simp only [Gx.blk_K, Gx.gcx_K]; exact rfl)) : PTs X e t' := h ▸ p
theorem pi_to {tg e : Expr} {t t' : TI} (p : PI X tg e t) (h : t = t' := by first | exact rfl | (simp only [Gx.blk_K, Gx.gcx_K]; exact rfl)) : PI X tg e t' := h ▸ p
end
/-! ### things that are known, lists that are names -/
theorem _root_.L2.TyB.grow {K : PySem.W.Frag} {H H' : Hp} {x : V} {U : String} (g : Grow [] H H') (t : TyB K H x U) : TyB K H' x U := by
  cases t with
  | non => exact .non
  | bl b => exact .bl b
  | int i => exact .int i
  | str z => exact .str z
  | byt b => exact .byt b
  | lst h => exact .lst (g.seq0 h)
  | @tup p xs h =>
    refine .tup (xs := xs) ?_
    rcases h with (h | ⟨o, h⟩) | h
    · exact .inl (.inl (g.keep _ _ (by simp) h fun ps z => by cases z))
    · exact .inl (.inr ⟨o, g.keep _ _ (by simp) h fun ps z => by cases z⟩)
    · exact .inr h
  | dK h => exact .dK (g.keep _ _ (by simp) h fun ps z => by cases z)
/-- a text of no great length, or of a kind that is told -/
def Known (K : PySem.W.Frag) (H : Hp) (x : V) : Prop := (∃ z : Str, x = .str z ∧ z.length ≤ sizeLine) ∨ ∃ U, U ≠ "str" ∧ TyB K H x U
theorem Known.grow {K : PySem.W.Frag} {H H' : Hp} {x : V} (g : Grow [] H H') : Known K H x → Known K H' x
  | .inl h => .inl h
  | .inr ⟨U, n, t⟩ => .inr ⟨U, n, t.grow g⟩
/-- a text's own -/
def theStr : V → Str
  | .str z => z
  | _ => Str.empty
theorem strs_of {p : V → Bool} (hp : ∀ x, p x = true → ∃ z, x = .str z) : ∀ {xs : List V}, xs.all p = true → xs = (xs.map theStr).map V.str
  | [], _ => rfl
  | x :: r, h => by
    rw [List.all_cons, Bool.and_eq_true] at h
    obtain ⟨z, rfl⟩ := hp x h.1
    show V.str z :: r = V.str z :: (r.map theStr).map V.str
    rw [← strs_of hp h.2]
theorem nodup_str {zs : List Str} : (zs.map V.str).Nodup ↔ zs.Nodup := by
  constructor
  · exact fun h => (List.pairwise_map.mp h).imp fun q e => q (congrArg V.str e)
  · exact fun h => List.pairwise_map.mpr (h.imp fun q e => q (V.str.inj e))
theorem uq_same {κ : Type} [DecidableEq κ] (l : List κ) : decide (((uq [] l).length : Int) = (l.length : Int)) = decide l.Nodup := by
  by_cases h : l.Nodup
  · rw [decide_eq_true h, uq_nodup l [] (by simpa using h)]
    exact decide_eq_true rfl
  · rw [decide_eq_false h]
    have := uq_short l [] List.nodup_nil (by simpa using h)
    simp only [List.length_nil] at this
    exact decide_eq_false (by omega)
end Gx

/-! Dict comprehensions and comprehensions of two clauses over walks; data that no list is in. -/
namespace Gx
open PySem PySem.Spec PyProof.Rows L2 GxR
section
variable {J J1 : It} {n : Nat} {G : Hp → Prop} {Y : Nat → Hp → V → Hp → Prop}
theorem dc_it (w : Walk J n G Y) {g : TG} {tt : TT} {tk tv : TE} {vs : List Nat} {σ : L2.St} {H1 : Hp} {D : Addr} {Qd : Hp → Prop} (Pv : Nat → Hp → Prop) (h0 : Pv 0 (upd H1 D (.dK []))) (hG : ∀ i H, i ≤ n → Pv i H → G H)
    (hs : ∀ i x H H', i < n → Pv i H → Y i H x H' → g x (wipe σ vs) H' fun σ2 H2 => wipe σ2 vs = wipe σ vs ∧ tt σ2 H2 fun b H3 =>
      if b = true then tk σ2 H3 fun y H4 => tv σ2 H4 fun z H5 => ∃ kvs k, y = kV k ∧ H5 D = some (.dK kvs) ∧ kvs.length < sizeLine ∧ Pv (i + 1) (upd H5 D (.dK (putK kvs k z))) else Pv (i + 1) H3) (hd : ∀ H, Pv n H → Qd H) :
    ∃ W : Nat → Nat → Hp → Prop, (∃ m, W 0 m (upd H1 D (.dK []))) ∧ ∀ i m H, W i m H →
      (J.stop i H ∧ Qd H) ∨ (J.go i H ∧ ∃ Nx : Hp → Prop, (∀ H', Nx H' → ∃ m', m' < m ∧ W (i + 1) m' H') ∧ ∀ x H', J.yld i H x H' → g x (wipe σ vs) H' fun σ2 H2 => wipe σ2 vs = wipe σ vs ∧ tt σ2 H2 fun b H3 =>
        if b = true then tk σ2 H3 fun y H4 => tv σ2 H4 fun z H5 => ∃ kvs k, y = kV k ∧ H5 D = some (.dK kvs) ∧ kvs.length < sizeLine ∧ Nx (upd H5 D (.dK (putK kvs k z))) else Nx H3) := by
  refine ⟨fun i m H => m = n - i ∧ i ≤ n ∧ Pv i H, ⟨n, by simp, Nat.zero_le _, h0⟩, ?_⟩
  rintro i m H ⟨rfl, hi, p⟩
  by_cases hlt : i < n
  · exact .inr ⟨w.goes i H hlt (hG i H hi p), Pv (i + 1), fun H' p' => ⟨n - (i + 1), by omega, rfl, hlt, p'⟩, fun x H' y => hs i x H H' hlt p (w.yields i H x H' hlt (hG i H hi p) y)⟩
  · have e : i = n := by omega
    subst e
    exact .inl ⟨w.stops H (hG _ H hi p), hd H p⟩
/-- the loop of the second clause -/
abbrev In1 (D : Addr) (g1 : TG) (tt1 : TT) (te : TE) (vs1 : List Nat) (σ2 : L2.St) (Nx : Hp → Prop) (J1 : It) (H4 : Hp) : Prop := ∃ W1 : Nat → Nat → Hp → Prop, (∃ m, W1 0 m H4) ∧ ∀ j k H, W1 j k H →
  (J1.stop j H ∧ Nx H) ∨ (J1.go j H ∧ ∃ Nx1 : Hp → Prop, (∀ H', Nx1 H' → ∃ k', k' < k ∧ W1 (j + 1) k' H') ∧ ∀ x H', J1.yld j H x H' → g1 x (wipe σ2 vs1) H' fun σ3 H5 => wipe σ3 vs1 = wipe σ2 vs1 ∧ tt1 σ3 H5 fun b H6 =>
    if b = true then te σ3 H6 fun y H7 => ∃ acc, H7 D = some (.lst acc) ∧ acc.length < sizeLine ∧ Nx1 (upd H7 D (.lst (acc ++ [y]))) else Nx1 H6)
theorem lc2_it (w : Walk J n G Y) {g g1 : TG} {tt tt1 : TT} {wi1 : TI} {te : TE} {vs vs1 : List Nat} {σ : L2.St} {H1 : Hp} {D : Addr} {Qd : Hp → Prop} (Pv : Nat → Hp → Prop) (h0 : Pv 0 (upd H1 D (.lst []))) (hG : ∀ i H, i ≤ n → Pv i H → G H)
    (hs : ∀ i x H H', i < n → Pv i H → Y i H x H' → g x (wipe σ vs) H' fun σ2 H2 => wipe σ2 vs = wipe σ vs ∧ tt σ2 H2 fun b H3 =>
      if b = true then wi1 σ2 H3 fun J1 H4 => In1 D g1 tt1 te vs1 σ2 (Pv (i + 1)) J1 H4 else Pv (i + 1) H3) (hd : ∀ H, Pv n H → Qd H) :
    ∃ W : Nat → Nat → Hp → Prop, (∃ m, W 0 m (upd H1 D (.lst []))) ∧ ∀ i m H, W i m H →
      (J.stop i H ∧ Qd H) ∨ (J.go i H ∧ ∃ Nx : Hp → Prop, (∀ H', Nx H' → ∃ m', m' < m ∧ W (i + 1) m' H') ∧ ∀ x H', J.yld i H x H' → g x (wipe σ vs) H' fun σ2 H2 => wipe σ2 vs = wipe σ vs ∧ tt σ2 H2 fun b H3 =>
        if b = true then wi1 σ2 H3 fun J1 H4 => In1 D g1 tt1 te vs1 σ2 Nx J1 H4 else Nx H3) := by
  refine ⟨fun i m H => m = n - i ∧ i ≤ n ∧ Pv i H, ⟨n, by simp, Nat.zero_le _, h0⟩, ?_⟩
  rintro i m H ⟨rfl, hi, p⟩
  by_cases hlt : i < n
  · exact .inr ⟨w.goes i H hlt (hG i H hi p), Pv (i + 1), fun H' p' => ⟨n - (i + 1), by omega, rfl, hlt, p'⟩, fun x H' y => hs i x H H' hlt p (w.yields i H x H' hlt (hG i H hi p) y)⟩
  · have e : i = n := by omega
    subst e
    exact .inl ⟨w.stops H (hG _ H hi p), hd H p⟩
theorem in1_it (w : Walk J1 n G Y) {g1 : TG} {tt1 : TT} {te : TE} {vs1 : List Nat} {σ2 : L2.St} {H4 : Hp} {D : Addr} {Nx : Hp → Prop} (Pw : Nat → Hp → Prop) (h0 : Pw 0 H4) (hG : ∀ i H, i ≤ n → Pw i H → G H)
    (hs : ∀ i x H H', i < n → Pw i H → Y i H x H' → g1 x (wipe σ2 vs1) H' fun σ3 H5 => wipe σ3 vs1 = wipe σ2 vs1 ∧ tt1 σ3 H5 fun b H6 =>
      if b = true then te σ3 H6 fun y H7 => ∃ acc, H7 D = some (.lst acc) ∧ acc.length < sizeLine ∧ Pw (i + 1) (upd H7 D (.lst (acc ++ [y]))) else Pw (i + 1) H6) (hd : ∀ H, Pw n H → Nx H) :
    In1 D g1 tt1 te vs1 σ2 Nx J1 H4 := by
  refine ⟨fun i m H => m = n - i ∧ i ≤ n ∧ Pw i H, ⟨n, by simp, Nat.zero_le _, h0⟩, ?_⟩
  rintro i m H ⟨rfl, hi, p⟩
  by_cases hlt : i < n
  · exact .inr ⟨w.goes i H hlt (hG i H hi p), Pw (i + 1), fun H' p' => ⟨n - (i + 1), by omega, rfl, hlt, p'⟩, fun x H' y => hs i x H H' hlt p (w.yields i H x H' hlt (hG i H hi p) y)⟩
  · have e : i = n := by omega
    subst e
    exact .inl ⟨w.stops H (hG _ H hi p), hd H p⟩
end

theorem yes_if {σ : L2.St} {H : Hp} {A B : Hp → Prop} (h : A H) : tYes σ H fun b H3 => if b = true then A H3 else B H3 := by
  show if true = true then A H else B H
  rw [if_pos rfl]
  exact h
theorem if_yes {A B : Hp → Prop} {H : Hp} (h : A H) : (fun (b : Bool) H3 => if b = true then A H3 else B H3) true H := by
  show if true = true then A H else B H
  rw [if_pos rfl]
  exact h
theorem if_no {A B : Hp → Prop} {H : Hp} (h : B H) : (fun (b : Bool) H3 => if b = true then A H3 else B H3) false H := by
  show if false = true then A H else B H
  rw [if_neg Bool.false_ne_true]
  exact h
theorem tyl {K : PySem.W.Frag} {H : Hp} {p : Addr} {xs : List V} (h : H p = some (.lst xs)) : tyV K "list" (.ref p) H := .inl ⟨rfl, xs, .inl (.inl h)⟩
theorem erase_map {α β} (f : α → β) (l : List α) (i : Nat) : (l.map f).eraseIdx i = (l.eraseIdx i).map f := by
  simp [List.eraseIdx_eq_take_drop_succ, List.map_take, List.map_drop]
theorem erase_perm {α} : ∀ (l : List α) (i : Nat) (h : i < l.length), (l[i] :: l.eraseIdx i).Perm l
  | x :: r, 0, _ => .refl _
  | x :: r, i + 1, h => (List.Perm.swap x _ _).trans ((erase_perm r i (Nat.lt_of_succ_lt_succ h)).cons x)
theorem cut_lo (xs : List V) (k : Nat) : cutV xs (some (k : Int)) none = xs.drop k := by
  unfold cutV
  rw [HT.sIx_none, HT.sIx_nat]
  by_cases h : k ≤ xs.length
  · rw [Nat.min_eq_left h]
    exact List.take_of_length_le (by rw [List.length_drop]; exact Nat.le_refl _)
  · rw [Nat.min_eq_right (by omega), Nat.sub_self, List.take_zero, List.drop_of_length_le (by omega)]
theorem cut_hi (xs : List V) (k : Nat) : cutV xs none (some (k : Int)) = xs.take k := by
  unfold cutV
  rw [HT.sIx_none, HT.sIx_nat, List.drop_zero, Nat.sub_zero]
  by_cases h : k ≤ xs.length
  · rw [Nat.min_eq_left h]
  · rw [Nat.min_eq_right (by omega), List.take_length, List.take_of_length_le (by omega)]
theorem swap_perm {α : Type} (xs : List α) (a : Nat) (h : a + 1 < xs.length) : (xs.take a ++ [xs[a + 1], xs[a]] ++ xs.drop (a + 2)).Perm xs := by
  have e : xs = xs.take a ++ [xs[a], xs[a + 1]] ++ xs.drop (a + 2) := by
    have h1 : xs.drop a = xs[a] :: xs[a + 1] :: xs.drop (a + 2) := by rw [List.drop_eq_getElem_cons (by omega), List.drop_eq_getElem_cons h]
    conv => lhs; rw [← List.take_append_drop a xs, h1]
    simp
  conv => rhs; rw [e]
  exact List.Perm.append_right _ (List.Perm.append_left _ (List.Perm.swap _ _ _))
theorem turn_perm {α : Type} (xs : List α) (a : Nat) : (xs.drop a ++ xs.take a).Perm xs := List.perm_append_comm.trans (by rw [List.take_append_drop])
theorem cut_from (xs : List V) (k : Nat) : cutV xs (some ((k : Int) + 1)) none = xs.drop (k + 1) := by
  unfold cutV
  have e : ((k : Int) + 1) = ((k + 1 : Nat) : Int) := by omega
  rw [e, HT.sIx_none, HT.sIx_nat]
  by_cases h : k + 1 ≤ xs.length
  · rw [Nat.min_eq_left h]
    exact List.take_of_length_le (by rw [List.length_drop]; exact Nat.le_refl _)
  · rw [Nat.min_eq_right (by omega), Nat.sub_self, List.take_zero, List.drop_of_length_le (by omega)]
/-- a cut: what holds behind the statement, and from there the rest -/
def tCut (I : L2.St → Hp → Prop) (t u : TS) : TS := fun D σ H => t { D with nx := I } σ H ∧ ∀ σ' H', I σ' H' → u D σ' H'
theorem pss_cut {X : Cx} {st : Stmt} {rest : List Stmt} {t u : TS} (I : L2.St → Hp → Prop) (h1 : PS X st t) (h2 : PSs X rest u) : PSs X (st :: rest) (tCut I t u) := by
  refine ⟨fun pins s σ H D J h => ?_⟩
  refine wpAny_execs_cons (thn (h1.run pins s σ H { D with nx := I } J h.1) fun f s1 q => ?_)
  cases f with
  | next =>
    obtain ⟨σ', H', I', q⟩ := q
    exact h2.run pins s1 σ' H' D I' (h.2 σ' H' q)
  | ret v => exact q
  | brk => exact q
  | cont => exact q
theorem valV_none {κ : Type} [DecidableEq κ] {k : κ} : ∀ {kvs : List (κ × V)}, k ∉ kvs.map Prod.fst → valV kvs k = none
  | [], _ => rfl
  | p :: r, h => by
    rw [valV_neg fun e => h (by rw [← e]; exact List.mem_cons_self)]
    exact valV_none fun z => h (List.mem_cons_of_mem _ z)
theorem valV_some {κ : Type} [DecidableEq κ] {k : κ} {v : V} : ∀ {kvs : List (κ × V)} {j : Nat}, (kvs.map Prod.fst).Nodup → kvs[j]? = some (k, v) → valV kvs k = some v
  | p :: r, 0, _, e => by
    cases e
    exact valV_pos rfl
  | p :: r, j + 1, nd, e => by
    obtain ⟨h1, h2⟩ := List.nodup_cons.mp nd
    have hk : k ∈ r.map Prod.fst := List.mem_map.mpr ⟨(k, v), List.mem_of_getElem? (i := j) e, rfl⟩
    rw [valV_neg fun q => h1 (by rw [q]; exact hk)]
    exact valV_some (j := j) h2 e
/-! ### data that no list is in -/
mutual
inductive DpT (K : PySem.W.Frag) (H : Hp) : V → PyData → Prop
  | non : DpT K H .non .none
  | bl (b : Bool) : DpT K H (.bl b) (.bool b)
  | int (i : Int) : DpT K H (.int i) (.int i)
  | str (z : Str) : DpT K H (.str z) (.str z)
  | tup {a : Addr} {xs : List V} {ds : List PyData} : H a = some (.tup xs) → DpTs K H xs ds → DpT K H (.ref a) (.tuple ds)
inductive DpTs (K : PySem.W.Frag) (H : Hp) : List V → List PyData → Prop
  | nil : DpTs K H [] []
  | cons {x : V} {d : PyData} {xs : List V} {ds : List PyData} : DpT K H x d → DpTs K H xs ds → DpTs K H (x :: xs) (d :: ds)
end
mutual
theorem DpT.dp {K : PySem.W.Frag} {H : Hp} : ∀ {x : V} {d : PyData}, DpT K H x d → Dp K H x d
  | _, _, .non => .non
  | _, _, .bl b => .bl b
  | _, _, .int i => .int i
  | _, _, .str z => .str z
  | _, _, .tup h t => .tup (.inl (.inl h)) (DpTs.dp t)
theorem DpTs.dp {K : PySem.W.Frag} {H : Hp} : ∀ {x : List V} {d : List PyData}, DpTs K H x d → DpAll K H x d
  | _, _, .nil => .nil
  | _, _, .cons h t => .cons (DpT.dp h) (DpTs.dp t)
end
/-- where only lists (or nothing) stood, they stay -/
def Lists (ex : List Addr) (H : Hp) : Prop := ∀ b ∈ ex, ∀ xs, H b ≠ some (.tup xs)
theorem lists_none (H : Hp) : Lists [] H := fun b h => by cases h
theorem lists_one {H : Hp} {a : Addr} {xs : List V} (h : H a = some (.lst xs)) : Lists [a] H := fun b hb ys e => by
  rw [List.mem_singleton.mp hb, h] at e
  cases e
mutual
theorem DpT.grow {K : PySem.W.Frag} {ex : List Addr} {H H' : Hp} (a : Grow ex H H') (l : Lists ex H) : ∀ {x : V} {d : PyData}, DpT K H x d → DpT K H' x d
  | _, _, .non => .non
  | _, _, .bl b => .bl b
  | _, _, .int i => .int i
  | _, _, .str z => .str z
  | _, _, .tup (a := p) (xs := xs) h t => .tup (a.keep p _ (fun z => l p z xs h) h fun ps z => by cases z) (DpTs.grow a l t)
theorem DpTs.grow {K : PySem.W.Frag} {ex : List Addr} {H H' : Hp} (a : Grow ex H H') (l : Lists ex H) : ∀ {x : List V} {d : List PyData}, DpTs K H x d → DpTs K H' x d
  | _, _, .nil => .nil
  | _, _, .cons h t => .cons (DpT.grow a l h) (DpTs.grow a l t)
end
theorem dpT_str {K : PySem.W.Frag} {H : Hp} (z : Str) : DpT K H (.str z) (.str z) := .str z
theorem dpT_int {K : PySem.W.Frag} {H : Hp} (z : Int) : DpT K H (.int z) (.int z) := .int z
theorem dpT_strs {K : PySem.W.Frag} {H : Hp} : ∀ xs : List Str, DpTs K H (xs.map V.str) (xs.map PyData.str)
  | [] => .nil
  | x :: r => .cons (dpT_str x) (dpT_strs r)
theorem DpTs.snoc {K : PySem.W.Frag} {H : Hp} : ∀ {xs : List V} {ds : List PyData} {x : V} {d : PyData}, DpTs K H xs ds → DpT K H x d → DpTs K H (xs ++ [x]) (ds ++ [d])
  | _, _, _, _, .nil, q => .cons q .nil
  | _, _, _, _, .cons h t, q => .cons h (t.snoc q)
theorem DpTs.app {K : PySem.W.Frag} {H : Hp} : ∀ {xs ys : List V} {ds es : List PyData}, DpTs K H xs ds → DpTs K H ys es → DpTs K H (xs ++ ys) (ds ++ es)
  | _, _, _, _, .nil, q => q
  | _, _, _, _, .cons h t, q => .cons h (t.app q)
theorem DpTs.get {K : PySem.W.Frag} {H : Hp} : ∀ {xs : List V} {ds : List PyData} {i : Nat} {x : V}, DpTs K H xs ds → xs[i]? = some x → ∃ d, ds[i]? = some d ∧ DpT K H x d
  | _, _, 0, _, .cons h _, e => ⟨_, rfl, by cases e; exact h⟩
  | _, _, _ + 1, _, .cons _ t, e => t.get e
theorem DpTs.zip {K : PySem.W.Frag} {H : Hp} : ∀ {xs : List V} {ds : List PyData}, DpTs K H xs ds → ∀ b ∈ xs.zip ds, DpT K H b.1 b.2
  | _, _, .nil, b, hb => by cases hb
  | _, _, .cons h t, b, hb => by
    rcases List.mem_cons.mp hb with rfl | hb
    · exact h
    · exact t.zip b hb
theorem dpTs_of {K : PySem.W.Frag} {H : Hp} : ∀ {bs : List (V × PyData)}, (∀ b ∈ bs, DpT K H b.1 b.2) → DpTs K H (bs.map Prod.fst) (bs.map Prod.snd)
  | [], _ => .nil
  | b :: r, h => .cons (h b List.mem_cons_self) (dpTs_of fun c hc => h c (List.mem_cons_of_mem _ hc))
theorem DpTs.length {K : PySem.W.Frag} {H : Hp} : ∀ {xs : List V} {ds : List PyData}, DpTs K H xs ds → xs.length = ds.length
  | _, _, .nil => rfl
  | _, _, .cons _ t => congrArg (· + 1) t.length
/-- a list of such data -/
def LstT (K : PySem.W.Frag) (H : Hp) (D : Addr) (ds : List PyData) : Prop := ∃ xs, H D = some (.lst xs) ∧ DpTs K H xs ds
theorem LstT.dp {K : PySem.W.Frag} {H : Hp} {D : Addr} {ds : List PyData} (h : LstT K H D ds) : Dp K H (.ref D) (.list ds) := by
  obtain ⟨xs, h1, h2⟩ := h
  exact .lst (.inl (.inl h1)) h2.dp
theorem LstT.grow {K : PySem.W.Frag} {ex : List Addr} {H H' : Hp} {D : Addr} {ds : List PyData} (h : LstT K H D ds) (a : Grow ex H H') (l : Lists ex H) (n : D ∉ ex) : LstT K H' D ds := by
  obtain ⟨xs, h1, h2⟩ := h
  exact ⟨xs, a.lst n h1, h2.grow a l⟩
/-- one more at the end -/
theorem LstT.push {K : PySem.W.Frag} {H H' : Hp} {D : Addr} {ds : List PyData} {x : V} {d : PyData} (h : LstT K H D ds) (g : Grow [] H H') (q : DpT K H' x d) :
    ∃ acc, H' D = some (.lst acc) ∧ acc.length = ds.length ∧ LstT K (upd H' D (.lst (acc ++ [x]))) D (ds ++ [d]) := by
  obtain ⟨xs, h1, h2⟩ := h
  have e := g.lst (p := D) (by simp) h1
  have gr : Grow [D] H' (upd H' D (.lst (xs ++ [x]))) := grow_at e (fun ps z => by cases z) (by simp)
  exact ⟨xs, e, h2.length, _, upd_same, ((h2.grow g (lists_none H)).snoc q).grow gr (lists_one e)⟩
/-- the items of another such list behind them -/
theorem LstT.ext {K : PySem.W.Frag} {H : Hp} {D F : Addr} {ds es : List PyData} (h : LstT K H D ds) (k : LstT K H F es) :
    ∃ xs zs, H D = some (.lst xs) ∧ H F = some (.lst zs) ∧ xs.length = ds.length ∧ zs.length = es.length ∧ LstT K (upd H D (.lst (xs ++ zs))) D (ds ++ es) := by
  obtain ⟨xs, h1, h2⟩ := h
  obtain ⟨zs, k1, k2⟩ := k
  have gr : Grow [D] H (upd H D (.lst (xs ++ zs))) := grow_at h1 (fun ps z => by cases z) (by simp)
  exact ⟨xs, zs, h1, k1, h2.length, k2.length, _, upd_same, (h2.app k2).grow gr (lists_one h1)⟩
/-- list.index of a text that is in -/
theorem index_str {K : PySem.W.Frag} {H : Hp} {m : Addr} {ws : List Str} {b : Str} {Q : VK} (h : SqL K H m (ws.map V.str)) (hb : b ∈ ws) (q : Q (.int (ws.idxOf b : Nat)) H) : rIndex K (.ref m) [.str b] H Q := by
  have h1 := List.idxOf_lt_length_of_mem hb
  refine ⟨m, ws.map V.str, .str b, ws.idxOf b, .str b, rfl, rfl, h, rfl, ?_, ?_, by simp [eqV], fun j z' hj hz => ?_, q⟩
  · rw [List.all_map, List.all_eq_true]
    exact fun x _ => rfl
  · rw [List.getElem?_map, List.getElem?_eq_getElem h1, List.getElem_idxOf h1]
    rfl
  · rw [List.getElem?_map] at hz
    cases hw : ws[j]? with
    | none => rw [hw] at hz; cases hz
    | some z =>
      rw [hw] at hz
      cases hz
      have : z ≠ b := fun e => by
        subst e
        have h2 := List.not_of_lt_findIdx (p := (· == z)) (xs := ws) hj
        obtain ⟨h3, h4⟩ := List.getElem?_eq_some_iff.mp hw
        rw [h4] at h2
        simp at h2
      simp [eqV, this]
end Gx

/-! Sorted rows of data: what is a rearrangement of another sorts alike. -/
namespace Gx
open PySem PySem.Spec PyProof.Rows L2 GxR
open PySem.W in
theorem sort_same {β : Type} {enc : β → PyData} {xs ys : List β} (p : xs.Perm ys) (inj : ∀ a b, keyToks (enc a) = keyToks (enc b) → a = b) : xs.mergeSort (dataLe false enc) = ys.mergeSort (dataLe false enc) := by
  have tot := sortLe_total (listOrd itemOrd) false fun b => keyToks (enc b)
  refine List.Perm.eq_of_pairwise (le := fun a b => dataLe false enc a b = true) (fun a b _ _ h h' => ?_) (sort_pairwise tot xs) (sort_pairwise tot ys) ((List.mergeSort_perm xs _).trans (p.trans (List.mergeSort_perm ys _).symm))
  have h1 : (listOrd itemOrd).blt (keyToks (enc b)) (keyToks (enc a)) = false := by simpa [dataLe, sortLe] using h
  have h2 : (listOrd itemOrd).blt (keyToks (enc a)) (keyToks (enc b)) = false := by simpa [dataLe, sortLe] using h'
  exact inj a b ((listOrd itemOrd).total _ _ h2 h1)
theorem str_cps {x y : Str} (h : x.cps.toList = y.cps.toList) : x = y := by
  cases x; cases y
  congr 1
  exact Array.ext' h
theorem toks_str {a b : Str} (h : PySem.W.keyToks (.str a) = PySem.W.keyToks (.str b)) : a = b := by
  simp only [PySem.W.keyToks] at h
  exact str_cps (by simpa using h)
/-- a pair of texts -/
def encP (p : Str × Str) : PyData := .tuple [.str p.1, .str p.2]
theorem toks_pair {a b : Str × Str} (h : PySem.W.keyToks (encP a) = PySem.W.keyToks (encP b)) : a = b := by
  unfold encP at h
  simp only [PySem.W.keyToks, PySem.W.keyToksAll] at h
  simp at h
  exact Prod.ext (by have := h.1; exact str_cps (by simpa using this)) (by have := h.2; exact str_cps (by simpa using this))
theorem alike_strs (zs : List Str) : PySem.W.AllAlike (zs.map PyData.str) := PySem.W.AllAlike.of fun b b' => by simp [PySem.W.alike]
theorem sortable_strs (zs : List Str) : PySem.W.Sortable (zs.map PyData.str) := PySem.W.Sortable.others (enc := PyData.str) fun b => ⟨(nomatch ·), fun xs => (nomatch ·)⟩
theorem alike_pairs (ps : List (Str × Str)) : PySem.W.AllAlike (ps.map encP) := PySem.W.AllAlike.of fun b b' => by simp [encP, PySem.W.alike, PySem.W.alikeAll]
theorem sortable_pairs (ps : List (Str × Str)) : PySem.W.Sortable (ps.map encP) := PySem.W.Sortable.tuples fun b => ⟨_, _, rfl⟩

/-- of a pair of texts -/
theorem pair_inv {K : PySem.W.Frag} {H : Hp} {x : V} {p : Str × Str} (h : DpT K H x (encP p)) : ∃ r, x = .ref r ∧ H r = some (.tup [.str p.1, .str p.2]) := by
  unfold encP at h
  cases h with
  | tup e t =>
    cases t with
    | cons a t =>
      cases t with
      | cons b t =>
        cases t
        cases a
        cases b
        exact ⟨_, rfl, e⟩
/-- sorted of a list of pairs of texts -/
theorem sort_pairs {K : PySem.W.Frag} {H : Hp} {D : Addr} {ps : List (Str × Str)} {Q : VK} (h : LstT K H D (ps.map encP)) (hl : ps.length ≤ 1000000)
    (q : ∀ p o, H p = none → LstT K (upd H p o) p ((ps.mergeSort (PySem.W.dataLe false encP)).map encP) → Q (.ref p) (upd H p o)) : rSortG K Prod.fst Prod.snd [.ref D] H Q := by
  obtain ⟨xs, e, t⟩ := h
  have hlen := t.length
  have m1 : (xs.zip (ps.map encP)).map Prod.fst = xs := List.map_fst_zip (Nat.le_of_eq hlen)
  have m2 : (xs.zip (ps.map encP)).map Prod.snd = ps.map encP := List.map_snd_zip (Nat.le_of_eq hlen.symm)
  refine ⟨D, xs.zip (ps.map encP), rfl, .inl (.inl (by rw [m1]; exact e)), fun b hb => ⟨(t.zip b hb).dp, ?_⟩, by rw [m2]; exact alike_pairs ps, by rw [m2]; exact sortable_pairs ps, ?_, fun p np => q p _ np ⟨_, upd_same, ?_⟩⟩
  · have := List.mem_map_of_mem (f := Prod.snd) hb
    rw [m2] at this
    obtain ⟨y, _, hy⟩ := List.mem_map.mp this
    rw [← hy]
    simp [encP, PyData.depth, PyData.depthAll]
  · rw [List.length_zip, hlen, Nat.min_self, List.length_map]
    unfold sizeLine
    omega
  · have k : ((xs.zip (ps.map encP)).mergeSort (PySem.W.dataLe false Prod.snd)).map Prod.snd = (ps.mergeSort (PySem.W.dataLe false encP)).map encP := by
      rw [List.map_mergeSort (f := Prod.snd) (r := PySem.W.dataLe false Prod.snd) (s := PySem.W.dataLe false id) fun a _ b _ => rfl, m2,
        ← List.map_mergeSort (f := encP) (r := PySem.W.dataLe false encP) (s := PySem.W.dataLe false id) fun a _ b _ => rfl]
    rw [← k]
    exact (dpTs_of fun b hb => t.zip b ((List.mergeSort_perm _ _).mem_iff.mp hb)).grow (grow_new (ex := []) np) (lists_none _)
/-- data that can be shown, compared, sorted: no deeper than n, no more than m -/
structure Fine (d : PyData) (n m : Nat) : Prop where
  lay : d.canLay0 = true
  show_ : d.showable = true
  nod : d.hasDict = false
  leaves : d.leavesShort 8 = true
  deep : d.depth ≤ n
  bulk : d.bulk ≤ m
structure Fines (ds : List PyData) (n m : Nat) : Prop where
  lay : PyData.canLayAll0 ds = true
  show_ : PyData.showableAll ds = true
  nod : PyData.hasDictAll ds = false
  leaves : PyData.leavesShortAll 8 ds = true
  deep : PyData.depthAll ds ≤ n
  bulk : PyData.bulkAll ds ≤ ds.length * (m + 1)
theorem fines {n m : Nat} : ∀ {ds : List PyData}, (∀ d ∈ ds, Fine d n m) → Fines ds n m
  | [], _ => ⟨rfl, rfl, rfl, rfl, Nat.zero_le _, by simp [PyData.bulkAll]⟩
  | d :: r, h => by
    have h1 := h d List.mem_cons_self
    have h2 := fines (ds := r) fun d q => h d (List.mem_cons_of_mem _ q)
    refine ⟨?_, ?_, ?_, ?_, ?_, ?_⟩
    · rw [PyData.canLayAll0, h1.lay, h2.lay]; rfl
    · rw [PyData.showableAll, h1.show_, h2.show_]; rfl
    · rw [PyData.hasDictAll, h1.nod, h2.nod]; rfl
    · rw [PyData.leavesShortAll, h1.leaves, h2.leaves]; rfl
    · rw [PyData.depthAll]
      exact Nat.max_le.mpr ⟨h1.deep, h2.deep⟩
    · rw [PyData.bulkAll, List.length_cons, Nat.succ_mul]
      have := h1.bulk
      have := h2.bulk
      omega
theorem Fine.list {n m k : Nat} {ds : List PyData} (h : ∀ d ∈ ds, Fine d n m) (hk : ds.length * (m + 1) ≤ k) : Fine (.list ds) (n + 1) k := by
  have f := fines h
  exact ⟨by rw [PyData.canLay0]; exact f.lay, by rw [PyData.showable]; exact f.show_, by rw [PyData.hasDict]; exact f.nod, by rw [PyData.leavesShort]; exact f.leaves, by rw [PyData.depth]; exact Nat.succ_le_succ f.deep, by rw [PyData.bulk]; exact Nat.le_trans f.bulk hk⟩
theorem Fine.tuple {n m k : Nat} {ds : List PyData} (h : ∀ d ∈ ds, Fine d n m) (hk : ds.length * (m + 1) ≤ k) : Fine (.tuple ds) (n + 1) k := by
  have f := fines h
  exact ⟨by rw [PyData.canLay0]; exact f.lay, by rw [PyData.showable]; exact f.show_, by rw [PyData.hasDict]; exact f.nod, by rw [PyData.leavesShort]; exact f.leaves, by rw [PyData.depth]; exact Nat.succ_le_succ f.deep, by rw [PyData.bulk]; exact Nat.le_trans f.bulk hk⟩
theorem Fine.str {z : Str} {m : Nat} (h : ∀ c ∈ z.cps.toList, c < 0x110000) (l : z.length ≤ m) : Fine (.str z) 0 m := by
  refine ⟨?_, rfl, rfl, ?_, Nat.le_refl _, l⟩
  · show PyData.strOk z = true
    unfold PyData.strOk
    rw [← Array.all_toList, List.all_eq_true]
    exact fun c hc => decide_eq_true (h c hc)
  · show (z.cps.toList.all fun c => decide (c < 16 ^ 8)) = true
    rw [List.all_eq_true]
    exact fun c hc => decide_eq_true (Nat.lt_of_lt_of_le (h c hc) (by decide))
theorem Fine.shaped {d : PyData} {n m : Nat} (f : Fine d n m) (hn : n ≤ 60) : SeqAt.shaped d = true := by
  unfold SeqAt.shaped
  rw [f.lay, decide_eq_true (by have := f.deep; omega)]
  rfl
theorem Fine.shown {d : PyData} {n m : Nat} (f : Fine d n m) (h : 10 * m + 8 ≤ sizeLine) : d.shown.length ≤ sizeLine := by
  have := PyData.shown_le_bulk 8 (by decide) d f.leaves
  have := f.bulk
  omega
theorem Fine.eqv {d : PyData} {n m : Nat} (f : Fine d n m) : PyData.eqv d d = true := PySem.SeqAt.eqv_refl d f.lay
end Gx

/-! The end of a law over a head whose facts are told by names. -/
namespace Gx
open PySem PySem.Spec PyProof.Rows L2 GxR GenW
/-- a def without defaults, from the head's word of it -/
theorem DefIs.of {K : PySem.W.Frag} {x qual : Str} {st : Stmt} {fd : FuncData} {p : He.Defn} (F : FunD K x qual (defArgs st) (defBody st) (defScope st) [] [] (He.fAd K p) fd) : DefIs K x qual st (He.fAd K p) fd (.ref (He.cT K p).1) := by
  obtain ⟨oc, od, dV, kV, doc, pm, an, cdv, ct, osl, rfl, lk, hcd, hd, _⟩ := F.ex
  obtain ⟨c, rfl⟩ := He.codeIn_ref hcd
  rcases hd with ⟨_, rfl⟩ | ⟨h, _⟩
  · have e : He.codeOf K p = c := He.codeOf_eq lk rfl
    show DefIs K x qual st (He.fAd K p) _ (.ref (He.codeOf K p))
    rw [e]
    exact ⟨⟨oc, od, kV, doc, pm, an, ct, osl, rfl, lk⟩, hcd, F.kp⟩
  · exact absurd rfl h
section
theorem walk_GE {l : PySem.W.OpenLaw} {n k : Nat} {q : Program} {loose : List Str} {XP : (Str → Option Value) → Heap → Prop} {YP : World → Heap → Prop} {d : DefRec} {x : Str}
    (hn : l.most = some n) (hn2 : n ≤ sizeLine) (hdf : d.params.defaults = []) (hr : Room k callerA)
    (F : ∀ (w : World) (mg : Str → Option Value) (fa : Addr) (h : Heap), YP w h → h.Ns mainGlobals mg → mg d.name = some (.ref fa) → ∃ K : PySem.W.Frag, K.In h ∧ LawG l w K k n x mg fa h) :
    PySem.W.WalkO q loose XP YP l.row.toRowW d [] (fun f vs => PySem.call f vs) := by
  refine Att.attach_callB hn hdf fun w s₀ s₁ mg mb fa o pm cd doc a vs ns G Y ho hd hcd hmg hobj hints hlen hbits hg => ?_
  obtain ⟨K, KX, fd, cs, sp, hT, hb, hsp, hF⟩ := F w mg fa _ Y G.T.g hmg
  have aT : a ∉ cs.map Prod.snd := fun z => by
    obtain ⟨p, hp, e⟩ := List.mem_map.mp z
    have q := (hT p hp).1
    rw [e, hobj] at q
    have z' : Data.seq vs.toArray _ = Data.fields #[] := congrArg Obj.data (Option.some.inj q)
    cases z'
  have rv := vals_ints hints
  cases hk : K.lookup a with
  | some o2 =>
    have e := KX a o2 hk
    rw [hobj] at e
    cases e
    have sl : SqL K (fun b => if b ∈ cs.map Prod.snd then some (.tbl #[]) else none) a (ns.map V.int) :=
      .inr ⟨_, vs.toArray, _, hk, rfl, rfl, rfl, by rw [List.size_toArray, hints.length]; exact Nat.le_trans hlen hn2, by simpa using rv⟩
    have hT' : ∀ p ∈ cs, (fun b => if b ∈ cs.map Prod.snd then some (HO.tbl #[]) else none) p.2 = some (.tbl #[]) := fun p hp => if_pos (List.mem_map.mpr ⟨p, hp, rfl⟩)
    refine law_from _ hT' (fun b u z => ?_) KX G.T.g G.T.b G.T.builtins G.T.nolimit hg hT G.T.bmain hobj rv (Nat.le_trans hlen hn2) sl hr hF hb (hsp _ a ns hlen hbits hT' sl)
    by_cases hm : b ∈ cs.map Prod.snd
    · exact .inl ⟨hm, Option.some.inj (z.symm.trans (if_pos hm))⟩
    · have z' := z.symm.trans (if_neg hm)
      cases z'
  | none =>
    have sl : SqL K (fun b => if b = a then some (.frz (scriptObj vs) (.lst (ns.map V.int))) else if b ∈ cs.map Prod.snd then some (.tbl #[]) else none) a (ns.map V.int) := .inl (.inr ⟨scriptObj vs, if_pos rfl⟩)
    have hT' : ∀ p ∈ cs, (fun b => if b = a then some (HO.frz (scriptObj vs) (.lst (ns.map V.int))) else if b ∈ cs.map Prod.snd then some (.tbl #[]) else none) p.2 = some (.tbl #[]) := fun p hp =>
      (if_neg (show ¬ p.2 = a from fun z => aT (by rw [← z]; exact List.mem_map.mpr ⟨p, hp, rfl⟩))).trans (if_pos (List.mem_map.mpr ⟨p, hp, rfl⟩))
    refine law_from _ hT' (fun b u z => ?_) KX G.T.g G.T.b G.T.builtins G.T.nolimit hg hT G.T.bmain hobj rv (Nat.le_trans hlen hn2) sl hr hF hb (hsp _ a ns hlen hbits hT' sl)
    by_cases hm : b = a
    · exact .inr ⟨hm, hk, Option.some.inj (z.symm.trans (if_pos hm))⟩
    · have z1 := z.symm.trans (if_neg hm)
      by_cases hm2 : b ∈ cs.map Prod.snd
      · exact .inl ⟨hm2, Option.some.inj (z1.trans (if_pos hm2))⟩
      · have z' := z1.trans (if_neg hm2)
        cases z'
end
end Gx

/-! max( ) of whole numbers with a default. -/
namespace Gx
open PySem PySem.Spec PyProof.Rows L2
def MaxA (a d : Value) : Args := ⟨[a], [(Str.ofString "default", d)]⟩
theorem maxA_ok (a d : Value) : argsOk "max" (MaxA a d) := by
  unfold argsOk MaxA
  kernel_rfl
section
variable {prog : Program} {w : World} {A : Around} {R : Result → Shared → Prop} {I : Addr} {fp wr : List Addr} {n : Nat} {P : Nat → Value → Prop} {St : Nat → Heap → Prop}
/-- what the loop holds: nothing yet, or the best so far -/
def MaxHeld (P : Nat → Value → Prop) (bt : Nat → Nat → Bool) (j : Nat) (vs : Array Value) : Prop := (j = 0 ∧ vs = #[]) ∨ ∃ v, vs = #[v, v] ∧ 0 < j ∧ P (argBest bt (j - 1)) v
def MaxOut (P : Nat → Value → Prop) (bt : Nat → Nat → Bool) (n : Nat) (d v : Value) : Prop := (n = 0 ∧ v = d) ∨ (0 < n ∧ P (argBest bt (n - 1)) v)
theorem max_rounds (W : Walks prog w A.in1 I fp wr n P St) (bt : Nat → Nat → Bool) (hcmp : CmpOf prog w A.in1 .Gt P bt) (S : Addr) (hS0 : S ∉ fp) (d : Value) :
    ∀ (k j : Nat) (s : Shared) (vs : Array Value) (c : Nat), n - j = k → j ≤ n → St j s.heap → MaxHeld P bt j vs → s.heap.get? S = some { cls := .type "list", dict := none, data := .seq vs c, slots := #[] } →
    (∀ v h2 tk, MaxOut P bt n d v → (∀ b o, b ∉ wr → b ≠ S → s.heap.get? b = some o → h2.get? b = some o) → R (.ok (.ret v)) { s with heap := h2, toks := tk }) →
    codeAny (model prog w) A (.builtin "max.loop" ⟨[.ref I, .none, .ref S], [(Str.ofString "default", d)]⟩) R s := by
  have sw : S ∉ wr := fun h => hS0 (W.sub _ h)
  have nm : (toString "max" ++ toString ".loop" : String) = "max.loop" := by decide
  intro k
  induction k with
  | zero =>
    intro j s vs c e hj st held hS fin
    have ej : j = n := by omega
    subst ej
    refine codeAny_builtin F.entry_max_loop (by
      rw [Around.under_plainId F.plain_max_loop _]
      show wpAny _ A.in1 (seqItems? (.ref S) >>= _) _ _ s
      refine wpAny_bind (wpAny_seqItems hS rfl ?_)
      show wpAny _ A.in1 (tryCatch (pyNext (.ref I)) _ >>= _) _ _ s
      refine wpAny_bind (wpAny_tryCatch (W.done s _ _ st fun h2 tk keep => ?_))
      have hS2 := keep S _ sw hS
      rcases held with ⟨e0, rfl⟩ | ⟨v, rfl, j0, hv⟩
      · show wpAny _ A.in1 (rule _ >>= _) _ _ _
        refine wpAny_bind (wpAny_rule ?_)
        refine wpAny_pure ?_
        exact fin d h2 tk (.inl ⟨e0, rfl⟩) fun b o hw _ q => keep b o hw q
      · show wpAny _ A.in1 (updateSeq S (fun _ => #[]) >>= _) _ _ _
        refine wpAny_bind (wpAny_updateSeq hS2 rfl (wpAny_bind (wpAny_letGo (wpAny_pure ?_))))
        exact fin v _ tk (.inr ⟨j0, hv⟩) fun b o hw hb q => (Heap.get?_update_other _ _ (Ne.symm hb)).trans (keep b o hw q))
  | succ k ih =>
    intro j s vs c e hj st held hS fin
    have hlt : j < n := by omega
    refine codeAny_builtin F.entry_max_loop (by
      rw [Around.under_plainId F.plain_max_loop _]
      show wpAny _ A.in1 (seqItems? (.ref S) >>= _) _ _ s
      refine wpAny_bind (wpAny_seqItems hS rfl ?_)
      show wpAny _ A.in1 (tryCatch (pyNext (.ref I)) _ >>= _) _ _ s
      refine wpAny_bind (wpAny_tryCatch (W.item j s _ _ hlt st fun v h2 tk hP st2 keep => ?_))
      have hS2 := keep S _ sw hS
      rcases held with ⟨rfl, rfl⟩ | ⟨b0, rfl, j0, hb0⟩
      · show wpAny _ A.in1 (updateSeq S (fun _ => #[v, v]) >>= _) _ _ _
        refine wpAny_bind (wpAny_updateSeq hS2 rfl ?_)
        rw [nm]
        refine wpAny_pure ⟨plainId_quiet F.plain_max_loop _, ih 1 _ #[v, v] _ (by omega) (by omega) (W.frame _ _ _ st2 fun b hb o q => (Heap.get?_update_other _ _ (fun h : S = b => hS0 (by rw [h]; exact hb))).trans q) (.inr ⟨v, rfl, Nat.one_pos, hP⟩) (Heap.get?_update_self _ hS2 rfl) fun v3 h3 tk3 out keep3 => ?_⟩
        exact fin v3 h3 tk3 out fun b o hw hb q => keep3 b o hw hb ((Heap.get?_update_other _ _ (Ne.symm hb)).trans (keep b o hw q))
      · show wpAny _ A.in1 (tryCatch (holding [v, v] (richCompare .Gt v b0 >>= _)) _ >>= _) _ _ _
        refine wpAny_bind (wpAny_tryCatch (wpAny_holding (wpAny_bind (hcmp j (argBest bt (j - 1)) v b0 _ _ _ hP hb0 ?_))))
        refine wpAny_bind (wpAny_holding (wpAny_truthy_bool (wpAny_bind (wpAny_letGo (wpAny_pure ?_)))))
        have ea : ∀ q, bt j (argBest bt (j - 1)) = q → argBest bt j = if q = true then j else argBest bt (j - 1) := fun q hq => by
          obtain ⟨i, rfl⟩ : ∃ i, j = i + 1 := ⟨j - 1, by omega⟩
          rw [argBest]
          rw [show i + 1 - 1 = i from rfl] at hq ⊢
          rw [hq]
        cases hb : bt j (argBest bt (j - 1)) with
        | true =>
          have eb := ea true hb
          rw [if_pos rfl] at eb ⊢
          refine wpAny_bind (wpAny_updateSeq hS2 rfl (wpAny_bind (wpAny_letGo ?_)))
          rw [nm]
          refine wpAny_pure ⟨plainId_quiet F.plain_max_loop _, ih (j + 1) _ #[v, v] _ (by omega) (by omega) (W.frame _ _ _ st2 fun b hb o q => (Heap.get?_update_other _ _ (fun h : S = b => hS0 (by rw [h]; exact hb))).trans q) (.inr ⟨v, rfl, Nat.succ_pos _, by rw [Nat.add_sub_cancel, eb]; exact hP⟩) (Heap.get?_update_self _ hS2 rfl) fun v3 h3 tk3 out keep3 => ?_⟩
          exact fin v3 h3 tk3 out fun b o hw hb q => keep3 b o hw hb ((Heap.get?_update_other _ _ (Ne.symm hb)).trans (keep b o hw q))
        | false =>
          have eb := ea false hb
          rw [if_neg Bool.false_ne_true] at eb ⊢
          refine wpAny_bind (wpAny_letGo ?_)
          rw [nm]
          refine wpAny_pure ⟨plainId_quiet F.plain_max_loop _, ih (j + 1) _ #[b0, b0] c (by omega) (by omega) st2 (.inr ⟨b0, rfl, Nat.succ_pos _, by rw [Nat.add_sub_cancel, eb]; exact hb0⟩) hS2 fun v3 h3 tk3 out keep3 => ?_⟩
          exact fin v3 h3 tk3 out fun b o hw hb q => keep3 b o hw hb (keep b o hw q))
end
end Gx
namespace Gx
open PySem PySem.Spec PyProof.Rows L2
section
variable {prog : Program} {w : World} {A : Around} {E : Value → Shared → Prop} {s : Shared}
theorem max_def_walk {x d : Value} {Q : Value → Shared → Prop}
    (h : wpAny (model prog w) A.in1 (pyIter x) (fun it s2 => ∃ I fp wr n P St bt, it = .ref I ∧ Walks prog w A.in1 I fp wr n P St ∧ St 0 s2.heap ∧ (∀ b ∈ fp, b < s2.heap.objs.size) ∧ CmpOf prog w A.in1 .Gt P bt ∧
      ∀ v h2 tk, MaxOut P bt n d v → (∀ b o, b ∉ wr → s2.heap.get? b = some o → h2.get? b = some o) → Q v { s2 with heap := h2, toks := tk }) E s) :
    wpAny (model prog w) A (call (.builtin "max") [x] [(Str.ofString "default", d)]) Q E s := by
  have nm : (toString "max" ++ toString ".loop" : String) = "max.loop" := by decide
  refine wpAny_call (codeAny_call_builtin F.plain_max F.entry_max ?_)
  simp only [checkBuiltinCall, F.kind_max]
  have body : wpAny (model prog w) A.in1 (Builtin.«max» (MaxA x d)) (fun fin s' => match fin with
      | .done f => (match (Except.ok f : Result) with | .ok (.ret v) => Q v s' | .ok _ => False | .error e => E e s')
      | .again c' => c'.quiet = true ∧ codeAny (model prog w) A c' (fun r s' => match r with | .ok (.ret v) => Q v s' | .ok _ => False | .error e => E e s') s') E s := by
    show wpAny _ A.in1 (Builtin.Builtins.bindParams "max" ["key", "default"] 0 ⟨[], [(Str.ofString "default", d)]⟩ >>= _) _ _ s
    refine wpAny_bind (wpAny_of_eq (show Builtin.Builtins.bindParams "max" ["key", "default"] 0 ⟨[], [(Str.ofString "default", d)]⟩ = pure [none, some d] from rfl) ?_)
    refine wpAny_bind (wpAny_pure ?_)
    refine wpAny_bind (wpAny_mono h (fun it s2 h2 => ?_) fun _ _ e => e)
    obtain ⟨I, fp, wr, n, P, St, bt, rfl, W, hst, hfp, hcmp, hQ⟩ := h2
    refine wpAny_bind (wpAny_newObj_type ?_)
    have sf : s2.heap.objs.size ∉ fp := fun hm => Nat.lt_irrefl _ (hfp _ hm)
    rw [nm]
    refine wpAny_pure ⟨plainId_quiet F.plain_max_loop _, max_rounds W bt hcmp s2.heap.objs.size sf d n 0 _ #[] _ rfl (Nat.zero_le _) (W.frame _ _ _ hst fun b _ o e => Heap.get?_push_of_some _ e) (.inl ⟨rfl, rfl⟩) (Heap.get?_push_size _ rfl) fun v h3 tk out keep => ?_⟩
    exact hQ v h3 tk out fun b o hbw e => keep b o hbw (Nat.ne_of_lt (Heap.lt_size e)) (Heap.get?_push_of_some _ e)
  cases hsig : Manifest.signature? "max" with
  | none => exact wpAny_pure body
  | some sig =>
    have ok := maxA_ok x d
    simp only [argsOk, hsig] at ok
    have h2 : Bind.checkArgs "max" sig (MaxA x d) = pure () := ok
    show wpAny _ A.in1 (Bind.checkArgs "max" sig (MaxA x d)) _ _ s
    rw [h2]
    exact wpAny_pure body
end
end Gx
namespace Gx
open PySem PySem.Spec PyProof.Rows L2
/-- what max(ns, default=d) is -/
def TopOf (d : Int) (ns : List Int) (m : Int) : Prop := (ns = [] ∧ m = d) ∨ (m ∈ ns ∧ ∀ y ∈ ns, y ≤ m)
section
variable {prog : Program} {w : World} {A : Around} {E : Value → Shared → Prop} {s : Shared}
theorem max_def_ints {l : Addr} {its : List Value} {ns : List Int} {d : Int} {dt : Tok} {Q : Value → Shared → Prop} (hh : A.handled = none) (hl : s.heap.IsList l its.toArray) (hi : IntsAre its ns)
    (h : ∀ h2 tk m t2, (∀ b o, s.heap.get? b = some o → h2.get? b = some o) → TopOf d ns m → Q (.int m t2) { s with heap := h2, toks := tk }) : wpAny (model prog w) A (call (.builtin "max") [.ref l] [(Str.ofString "default", .int d dt)]) Q E s := by
  obtain ⟨xs, e⟩ := hi.allInts.items
  have hn : numsOf (intItems xs).toList = ns := by rw [← e]; exact hi.numsOf
  rw [nums_intItems] at hn
  subst hn
  rw [e] at hl
  refine max_def_walk (iter_intList hl fun s2 e2 st hfp hlI => ?_)
  subst e2
  refine ⟨_, _, _, _, _, _, _, rfl, Walks.list (A := A.in1) hh _ l hlI (intItems xs), st, hfp, CmpOf.ints_gt (numAt xs) (fun _ _ => intItems_at), fun v h2 tk out keep => ?_⟩
  rcases out with ⟨e0, rfl⟩ | ⟨n0, hv⟩
  · refine h h2 tk d dt (old_kept keep) (.inl ⟨?_, rfl⟩)
    have : xs.toList = [] := List.eq_nil_of_length_eq_zero (by simpa [intItems] using e0)
    rw [this]
    rfl
  · obtain ⟨t, rfl⟩ := intItems_at hv
    obtain ⟨h1, h2'⟩ := argBest_gt (numAt xs) ((intItems xs).size - 1)
    have hs : (intItems xs).size = xs.size := by simp [intItems]
    rw [hs] at h1 h2' n0
    rw [hs]
    refine h h2 tk _ t (old_kept keep) (.inr ⟨?_, fun a ha => ?_⟩)
    · rw [numAt_eq]
      exact PySem.getD_mem (by rw [List.length_map, Array.length_toList]; omega)
    · obtain ⟨j, hj, rfl⟩ := mem_getD ha
      rw [List.length_map, Array.length_toList] at hj
      rw [← numAt_eq]
      exact h2' j (by omega)
end
section
variable {X : Cx}
def rMaxDef (K : PySem.W.Frag) : List V → List V → Hp → VK → Prop := fun vs zs H Q => ∃ (a : Addr) (ns : List Int) (d : Int), vs = [V.ref a] ∧ zs = [V.int d] ∧ SqL K H a (ns.map V.int) ∧ ∀ m, TopOf d ns m → Q (.int m) H
theorem cr_maxDef (hc : X.calm = true) : CallRK X (.builtin "max") [Str.ofString "default"] (rMaxDef X.K) := by
  intro pins s σ H xs zs us ws Q I r1 r2 h
  obtain ⟨a, ns, d, rfl, rfl, hs, q⟩ := h
  obtain ⟨its, rv, hl, _⟩ := I.list hs
  rw [Vals.ref1 r1]
  cases r2 with
  | cons r rr =>
    cases rr
    obtain ⟨t, rfl⟩ := r
    exact max_def_ints (I.ok.hd hc) hl.isList rv.ints fun h2 tk m t2 keep top => ⟨.int m, H, I.kept keep, ⟨_, rfl⟩, q m top⟩
end
end Gx

/-! max(d.values(), default=k) of whole numbers. -/
namespace Gx
open PySem PySem.Spec PyProof.Rows L2
theorem topOf_out {ns : List Int} {d : Int} {n : Nat} (hn : n = ns.length) {P : Nat → Value → Prop} (hP : ∀ i v, P i v → i < n ∧ ∃ t, v = .int (ns.getD i 0) t) {dv v : Value} {dt : Tok} (hd : dv = .int d dt)
    (out : MaxOut P (fun i j => decide (ns.getD i 0 > ns.getD j 0)) n dv v) : ∃ m t, v = .int m t ∧ TopOf d ns m := by
  rcases out with ⟨e0, rfl⟩ | ⟨n0, hv⟩
  · exact ⟨d, dt, hd, .inl ⟨List.eq_nil_of_length_eq_zero (by omega), rfl⟩⟩
  · obtain ⟨hi, t, rfl⟩ := hP _ _ hv
    obtain ⟨h1, h2⟩ := argBest_gt (fun i => ns.getD i 0) (n - 1)
    refine ⟨_, t, rfl, .inr ⟨PySem.getD_mem (by omega), fun a ha => ?_⟩⟩
    obtain ⟨j, hj, rfl⟩ := mem_getD ha
    exact h2 j (by omega)
section
variable {X : Cx}
def tMaxVals (td : TE) (k : Int) : TE := fun σ H Q => td σ H fun x H1 => ∃ (d : Addr) (kvs : List (Key × V)) (ns : List Int), x = .ref d ∧ H1 d = some (.dK kvs) ∧ kvs.map Prod.snd = ns.map V.int ∧ ∀ m, TopOf k ns m → Q (.int m) H1
theorem pe_maxVals {e : Expr} {td : TE} {p apos cpos kpos kp pos : Pos} {k : Int} {kk : Nat} (hc : X.calm = true) (hg : Gl X "max") (hm : X.mg "max" = none) (he : PE X e td)
    (hbase : attributeBase e "values" X.env (eval e X.env) = eval e X.env := by rfl) (hline : (apos.endLine == cpos.line) = true := by rfl) :
    PE X (.Call (.Name "max" p) [.Call (.Attribute e "values" apos) [] [] cpos] [⟨some "default", .Constant (.int k) kk kp, kpos⟩] pos) (tMaxVals td k) := by
  refine ⟨fun pins s σ H Q I h => ?_⟩
  refine wpAny_Call_Name_kw (ld_blt I hg hm (show bootBuiltins "max" = some (.builtin "max") by decide +kernel) ?_)
  refine PyProof.Rows.callWith_kw ?_
  refine Calls.spliced_cons ?_
  refine wpAny_Call_method (T := "dict") (id := "dict.values") hbase rfl hline F.plainAttrs_dict F.slot_dict_values F.type_dict_values (thn (he.run pins s σ H _ I h) fun u s1 h1 => ?_)
  obtain ⟨x, H1, I1, rx, d, kvs, ns, rfl, hd, hv, q⟩ := h1
  obtain rfl : u = Value.ref d := rx
  obtain ⟨hz, hs, vs, kv, o1, es, ep, ho, hx, hdt, r⟩ := I1.hok d _ hd
  have hD : s1.heap.DictAt (mixKind X.prog X.w) d vs ep := ⟨o1, es, ho, hx, hdt, r⟩
  have hl : kvs.length = vs.length := Paired.length kv
  have hln : kvs.length = ns.length := by have := congrArg List.length hv; rwa [List.length_map, List.length_map] at this
  refine ⟨hD.dictOf.typeIs, hD.dictOf.mapOf.noDict, ?_⟩
  refine method_meetsIn F.slot_dict_values F.entry_dict_values rfl (PySem.evalArgs_none ⟨rfl, hD.dictOf.typeIs, F.args_dict_values_1 _, _, meets_dict_values (mixKind X.prog X.w) d hs, ⟨vs, hD.dictOf⟩, ?_⟩)
  have I2 : L2.Inv X pins σ H1 { s1 with heap := s1.heap.push { cls := .type "dict_values", data := .fields #[.ref d] } } := I1.kept (t' := s1.toks) fun b ob z => Heap.get?_push_of_some _ z
  have nb : H1 s1.heap.objs.size = none := I1.hok.fresh (Nat.le_refl _)
  have I3 := I2.pinned (fp := [s1.heap.objs.size]) (fun b hb => by
    rw [List.mem_singleton.mp hb]
    exact I1.fpOk (Nat.le_refl _) nb) (fun b hb => by
    rw [List.mem_singleton.mp hb]
    exact ⟨_, Heap.get?_push_size _ rfl, fun v z => by cases z⟩)
  show wpAny _ _ (spliced []) _ _ _
  refine Calls.spliced_nil ?_
  refine thn ((pk_cons pe_int pk_nil).run pos _ _ σ H1 _ I3 (show tCons (tC (.int k)) tNil σ H1 (fun zs H2 => zs = [V.int k] ∧ H2 = H1) from ⟨rfl, rfl⟩)) fun ws s4 h4 => ?_
  obtain ⟨zs, H2, I4, rz, rfl, rfl⟩ := h4
  obtain ⟨t, rfl⟩ : ∃ t, ws = [Value.int k t] := by
    cases rz with
    | cons r0 rr =>
      cases rr
      obtain ⟨t, rfl⟩ := r0
      exact ⟨t, rfl⟩
  obtain ⟨_, _, us, ku, o4, es4, ep4, ho4, hx4, hdt4, r4⟩ := I4.hok d _ hd
  have hD4 : s4.heap.DictAt (mixKind X.prog X.w) d us ep4 := ⟨o4, es4, ho4, hx4, hdt4, r4⟩
  have hlu : kvs.length = us.length := Paired.length ku
  have view : s4.heap.get? s1.heap.objs.size = some { cls := .type "dict_values", data := .fields #[.ref d] } :=
    (I4.pin (s1.heap.objs.size, { cls := .type "dict_values", data := .fields #[.ref d] }) (List.mem_append_right _ (List.mem_append_right _ (mem_pinsAt (List.mem_singleton.mpr rfl) (Heap.get?_push_size _ rfl))))).1
  show wpAny _ _ (call (.builtin "max") [.ref s1.heap.objs.size] [(Str.ofString "default", .int k t)]) _ _ _
  have vals : ∀ i v, (∃ key, us[i]? = some (key, v)) → i < us.length ∧ ∃ t, v = .int (ns.getD i 0) t := fun i v hk => by
    obtain ⟨key, hk⟩ := hk
    have hi := (List.getElem?_eq_some_iff.mp hk).1
    obtain ⟨⟨k2, x2⟩, hk2⟩ : ∃ q, kvs[i]? = some q := ⟨kvs[i]'(by omega), List.getElem?_eq_getElem (by omega)⟩
    obtain ⟨u2, hu2, ru2⟩ := kv_get ku hk2
    rw [hk] at hu2
    cases hu2
    have e1 := congrArg (fun l => l[i]?) hv
    simp only [List.getElem?_map, hk2] at e1
    have hni : i < ns.length := by omega
    rw [List.getElem?_eq_getElem hni] at e1
    have e2 : x2 = V.int ns[i] := Option.some.inj e1
    subst e2
    obtain ⟨t2, rfl⟩ := ru2
    exact ⟨hi, t2, by rw [List.getD_eq_getElem?_getD, List.getElem?_eq_getElem hni]; rfl⟩
  refine max_def_walk (wpAny_pyIter_values (d := d) (knd := mixKind X.prog X.w) ⟨_, view, rfl, rfl⟩ hD4 ?_)
  have hlt : d < s4.heap.objs.size := by
    obtain ⟨_, _, e, _⟩ := hD4
    exact Heap.lt_size e
  refine ⟨s4.heap.objs.size, _, _, _, _, _, fun i j => decide (ns.getD i 0 > ns.getD j 0), rfl, Walks.dictValues (A := X.A.in1) (knd := mixKind X.prog X.w) (I.ok.hd hc) s4.heap.objs.size d (Nat.ne_of_lt hlt) us ep4, ⟨⟨_, Heap.get?_push_size _ rfl, rfl, rfl⟩, hD4.push _⟩, fun b hb => ?_, CmpOf.ints_gt (fun i => ns.getD i 0) (fun i v hk => (vals i v hk).2), fun v h2 tk out keep => ?_⟩
  · show b < (s4.heap.push _).objs.size
    rw [Heap.size_push]
    rcases List.mem_cons.mp hb with rfl | hb
    · exact Nat.lt_succ_self _
    · rw [List.mem_singleton.mp hb]
      exact Nat.lt_succ_of_lt hlt
  · obtain ⟨m, t3, rfl, top⟩ := topOf_out (by omega) vals rfl out
    refine ⟨.int m, H2, (I4.unpinned.kept fun b o e => ?_), ⟨_, rfl⟩, q m top⟩
    exact keep b o (fun z => by rw [List.mem_singleton.mp z] at e; exact absurd (Heap.lt_size e) (Nat.lt_irrefl _)) (Heap.get?_push_of_some _ e)
end
end Gx
namespace Gx
open PySem PySem.Spec PyProof.Rows L2
theorem kv_vals {κ : Type} : ∀ {kvs : List (κ × V)} {us : List (κ × Value)} {vs : List Value}, KV kvs us → vs = us.map Prod.snd → Vals (kvs.map Prod.snd) vs
  | _, _, _, .nil, rfl => .nil
  | _, _, _, .cons h t, rfl => .cons h.2 (kv_vals t rfl)
section
variable {X : Cx}
/-- list(d.values()) -/
def tListVals (td : TE) : TE := fun σ H Q => td σ H fun x H1 => ∃ (d : Addr) (kvs : List (Key × V)), x = .ref d ∧ H1 d = some (.dK kvs) ∧ ∀ l, H1 l = none → Q (.ref l) (upd H1 l (.lst (kvs.map Prod.snd)))
theorem pe_listVals {e : Expr} {td : TE} {p apos cpos pos : Pos} (hc : X.calm = true) (hg : Gl X "list") (hm : X.mg "list" = none) (he : PE X e td)
    (hbase : attributeBase e "values" X.env (eval e X.env) = eval e X.env := by rfl) (hline : (apos.endLine == cpos.line) = true := by rfl) (na : starEach [(.Call (.Attribute e "values" apos) [] [] cpos : Expr)] X.env = (false, eval (.Call (.Attribute e "values" apos) [] [] cpos) X.env) :: starEach [] X.env := by rfl) :
    PE X (.Call (.Name "list" p) [.Call (.Attribute e "values" apos) [] [] cpos] [] pos) (tListVals td) := by
  refine ⟨fun pins s σ H Q I h => Call_ (ld_blt I hg hm (show bootBuiltins "list" = some (.type "list") by decide +kernel) ?_)⟩
  refine PyProof.Rows.callWith_type1 (PyProof.Rows.args_cons ?_ na) na rfl
  refine wpAny_Call_method (T := "dict") (id := "dict.values") hbase rfl hline F.plainAttrs_dict F.slot_dict_values F.type_dict_values (thn (he.run pins s σ H _ I h) fun u s1 h1 => ?_)
  obtain ⟨x, H1, I1, rx, d, kvs, rfl, hd, q⟩ := h1
  obtain rfl : u = Value.ref d := rx
  obtain ⟨hz, hs, vs, kv, o1, es, ep, ho, hx, hdt, r⟩ := I1.hok d _ hd
  have hD : s1.heap.DictAt (mixKind X.prog X.w) d vs ep := ⟨o1, es, ho, hx, hdt, r⟩
  have hl : kvs.length = vs.length := Paired.length kv
  refine ⟨hD.dictOf.typeIs, hD.dictOf.mapOf.noDict, ?_⟩
  refine method_meetsIn F.slot_dict_values F.entry_dict_values rfl (PySem.evalArgs_none ⟨rfl, hD.dictOf.typeIs, F.args_dict_values_1 _, _, meets_dict_values (mixKind X.prog X.w) d hs, ⟨vs, hD.dictOf⟩, PyProof.Rows.args_nil ?_⟩)
  have I2 : L2.Inv X pins σ H1 { s1 with heap := s1.heap.push { cls := .type "dict_values", data := .fields #[.ref d] } } := I1.kept (t' := s1.toks) fun b ob z => Heap.get?_push_of_some _ z
  refine PySem.W.kdl_call (PySem.W.kdl_values (knd := mixKind X.prog X.w) (d := d) (r := s1.heap.objs.size) (kvs := vs) (ep := ep)) (I.ok.hd hc) ⟨⟨_, Heap.get?_push_size _ rfl, rfl, rfl⟩, hD.push _⟩ (by omega) fun h2 tk acc c keep new items => ?_
  have ev : acc.toList = vs.map Prod.snd := PySem.W.kdl_vals_eq acc.toList (by rw [Array.length_toList]; exact items.1) fun j v e => items.2 j v (by rw [← Array.getElem?_toList]; exact e)
  refine ⟨.ref _, _, I2.laid (t' := tk) (h' := h2) keep (Nat.le_refl _) (show ObjOk X.prog X.w _ h2 _ (.lst (kvs.map Prod.snd)) from ⟨by rw [List.length_map]; exact hz, acc.toList, c, kv_vals kv ev, ?_⟩), rfl, q _ (I2.hok.fresh (Nat.le_refl _))⟩
  rw [Array.toArray_toList]
  exact new
end
end Gx

/-! sorted(set(xs)) of a list of whole numbers -/
namespace Gx
open PySem PySem.Spec PyProof.Rows L2
section
variable {prog : Program} {w : World} {A : Around}
/-- set(l), l a list of whole numbers, with the order of its members -/
theorem set_of_ints {E : Value → Shared → Prop} {s : Shared} {l : Addr} {items : Array Value} {ns : List Int} {Q : Value → Shared → Prop} (hh : A.handled = none) (hl : s.heap.IsList l items) (hi : IntsAre items.toList ns) (hb : ns.length + 1 < scanBound)
    (h : ∀ (h' : Heap) (tk c : Nat), SetR w h' s.heap.objs.size (fun j => decide (j ∈ ns)) c → c ≤ ns.length → (∀ b o, s.heap.get? b = some o → h'.get? b = some o) → Q (.ref s.heap.objs.size) { s with heap := h', toks := tk }) :
    wpAny (model prog w) A (call (.type "set") [.ref l]) Q E s := by
  have hn : ns.length = items.size := by have q := IntsAre.length hi; rw [Array.length_toList] at q; exact q.symm
  obtain ⟨led, hled⟩ : ∃ led : Bool, (!w.params.followText "set-order") = led := ⟨_, rfl⟩
  obtain ⟨c0, tl0, mro0⟩ := PySem.F.called_set.mro
  have made0 := PySem.F.called_set.made; have sub0 := PySem.F.called_set.sub
  have nt0 := PySem.F.called_set.notType; have cc0 := PySem.F.called_set.canCreate
  have tc0 := PySem.F.typeCall_set_1 (.ref l)
  refine wpAny_call (codeAny_of_tree ?_)
  show wpAny (model prog w) _ (callAny (.type "set") _) _ _ _
  refine wpAny_pure ⟨Code.quiet_builtin _ (by decide +kernel), codeAny_builtin PySem.F.entry_type_call ?_⟩
  rw [Around.under_plain (weight_type_call_type "set" [.ref l] []) rfl]
  repeat any_goals first | assumption | wp_step
  refine codeAny_mono (code_set_led1 (.ref l) (E := E) (Q₁ := fun z t => z = .ref s.heap.objs.size ∧ t = { s with heap := s.heap.push { cls := .type "set", dict := none, data := .set #[] 0 (.fresh 0 0 (!w.params.followText "set-order")) } }) ⟨rfl, rfl⟩) fun r1 t1 q1 => ?_
  match r1, q1 with
  | .error e, q1 => exact q1
  | .ok (.ret z), q1 =>
    obtain ⟨rfl, rfl⟩ := q1
    have gS : (s.heap.push { cls := .type "set", dict := none, data := .set #[] 0 (.fresh 0 0 (!w.params.followText "set-order")) }).get? s.heap.objs.size = some { cls := .type "set", dict := none, data := .set #[] 0 (.fresh 0 0 (!w.params.followText "set-order")) } := Heap.get?_push_size _ rfl
    have tS : Shared.TypeIs { s with heap := s.heap.push { cls := .type "set", dict := none, data := .set #[] 0 (.fresh 0 0 (!w.params.followText "set-order")) } } (.ref s.heap.objs.size) "set" := ⟨_, gS, rfl⟩
    have li := PySem.F.called_set.init.lookup; have bi := PySem.F.called_set.init.bind (.ref s.heap.objs.size)
    repeat any_goals first | assumption | wp_step
    refine codeAny_mono (codeAny_call_builtin (R := wants (fun r t => r = .none ∧ ∃ h' tk c, t = { s with heap := h', toks := tk } ∧ SetR w h' s.heap.objs.size (fun j => decide (j ∈ ns)) c ∧ c ≤ ns.length ∧
        ∀ b o, s.heap.get? b = some o → h'.get? b = some o) E) PySem.F.called_set.init.plain PySem.F.entry_set_init (check_set_init_1 tS ?_)) fun r2 t2 q2 => ?_
    · obtain ⟨ol, gl, cl, nl, dl⟩ := hl
      obtain ⟨oc, od, ot, os⟩ := ol
      simp only at cl dl
      subst cl; subst dl
      have ll : l < s.heap.objs.size := Heap.lt_size gl
      have gl' : (s.heap.push { cls := .type "set", dict := none, data := .set #[] 0 (.fresh 0 0 (!w.params.followText "set-order")) }).get? l = some { cls := .type "list", dict := od, data := .seq items nl, slots := os } := Heap.get?_push_of_some _ gl
      have il : (s.heap.push { cls := .type "set", dict := none, data := .set #[] 0 (.fresh 0 0 (!w.params.followText "set-order")) }).IsList l items := ⟨_, gl', rfl, nl, rfl⟩
      have s1 := PySem.F.sub_list_set; have s2 := PySem.F.sub_list_frozenset
      have nd : (Value.type "list" == Value.type "dict") = false := by decide
      unfold Builtin.«set.__init__» noKeywords Builtin.Frozenset.updateFrom
      generalize hp : pyIter = pI
      wp_walk
      subst hp
      refine wpAny_pyIter_list il ?_
      refine wpAny_bind (wpAny_runValue ?_)
      have h3 : A.in1.in1.in1.handled = none := by simp [hh]
      have ni : l ≠ (s.heap.push { cls := .type "set", dict := none, data := .set #[] 0 (.fresh 0 0 (!w.params.followText "set-order")) }).objs.size := by rw [Heap.size_push]; exact Nat.ne_of_lt (Nat.lt_succ_of_lt ll)
      have zf : s.heap.objs.size ∉ [(s.heap.push { cls := .type "set", dict := none, data := .set #[] 0 (.fresh 0 0 (!w.params.followText "set-order")) }).objs.size, l] := by
        rw [Heap.size_push]; simp only [List.mem_cons, List.mem_singleton, List.not_mem_nil, or_false, not_or]
        exact ⟨Nat.ne_of_lt (Nat.lt_succ_self _), Nat.ne_of_gt ll⟩
      have hv : ∀ (i : Nat) (v : Value), items[i]? = some v → ∃ k t, ns[i]? = some k ∧ v = .int k t := fun i v q => by
        have il2 : i < ns.length := by rw [hn]; exact (Array.getElem?_eq_some_iff.mp q).1
        obtain ⟨t, e⟩ := PyProof.Rows.IntsAre.int_at hi i v (by rw [Array.getElem?_toList]; exact q)
        refine ⟨ns[i], t, List.getElem?_eq_getElem il2, ?_⟩
        rw [e, List.getD_eq_getElem?_getD, List.getElem?_eq_getElem il2] <;> rfl
      refine set_update_ints ((Walks.list h3 _ l ni items).toS) s.heap.objs.size zf ns hn.symm hb hv (items.size - 0) 0 _ (by omega) (Nat.zero_le _) ⟨⟨_, Heap.get?_push_size _ rfl, rfl, rfl⟩, il.push _⟩ ?_ fun t c mv hc hS => ?_
      · refine ⟨0, Nat.le_refl 0, setR_new_at ?_⟩
        exact Heap.get?_push_of_some _ gS
      · obtain ⟨h', g', d', tk', os'⟩ := t
        obtain rfl : g' = s.gens := mv.gens
        obtain rfl : d' = s.drawn := mv.drawn
        obtain rfl : os' = s.os := mv.os
        show wpAny (model prog w) _ _ _ _ _
        refine wpAny_pure ?_
        show wpAny (model prog w) _ (ret Value.none) _ _ _
        refine wpAny_pure ⟨rfl, h', tk', c, rfl, hS, by omega, fun b o e => ?_⟩
        have lb := Heap.lt_size e
        refine mv.heap b o (fun z => ?_) (Heap.get?_push_of_some _ (Heap.get?_push_of_some _ e))
        rcases List.mem_cons.mp z with y | y
        · exact Nat.ne_of_lt lb y
        · rcases List.mem_cons.mp y with y | y
          · rw [Heap.size_push] at y
            exact Nat.ne_of_lt (Nat.lt_succ_of_lt lb) y
          · cases y
    · match r2, q2 with
      | .error e, q2 => exact q2
      | .ok (.ret r), q2 =>
        obtain ⟨rfl, h', tk, c, rfl, hS, hc, hk⟩ := q2
        repeat any_goals first | assumption | wp_step
        exact h _ _ _ hS hc hk
/-- sorted(s), s a set of whole numbers, any number of them -/
theorem sorted_setN {E : Value → Shared → Prop} {s : Shared} {a : Addr} {S : Int → Bool} {n : Nat} {Q : Value → Shared → Prop} (R : SetR w s.heap a S n) (hh : A.handled = none)
    (hQ : ∀ s' p (out : Array Value) (c : Nat) (ns : List Int), (∀ b o, s.heap.get? b = some o → s'.heap.get? b = some o) → s'.gens = s.gens → s'.os = s.os → s.heap.objs.size ≤ p →
      s'.heap.get? p = some (seqObj "list" out c) → IntsAre out.toList ns → ns.Pairwise (· < ·) → (∀ k, k ∈ ns ↔ S k = true) → ns.length = n → Q (.ref p) s') :
    wpAny (model prog w) A (call (.builtin "sorted") [.ref a]) Q E s := by
  obtain ⟨o, es, ep, t, ho, hex, hd, g, nd, hm, hb, hf, hn, hr, hl⟩ := R
  refine Calls.call_function_entry kind_sorted plain_sorted entry_sorted (args_sorted1 _) ?_
  unfold Builtin.«sorted»
  refine wpAny_bind (m := checkCount "sorted" 1 1 _) (wpAny_pure (wpAny_bind (collect_set (A := A.in1) hh ⟨o, ho, hex.1, hd⟩ hf hb hr hl fun s1 vs keep le g1 o1 pm => ?_)))
  have lv : vs.length = n := by rw [pm.length_eq, List.length_map, Array.length_toList]; exact hn
  have lz : vs.length ≤ sizeLine := by rw [lv, ← hn]; unfold scanBound at hb; unfold sizeLine; omega
  have hI : IntsAre vs (vs.map Builtin.Re.reRawOf) := ints_of vs fun v hv => by
    obtain ⟨e, he, q⟩ := List.mem_map.mp (pm.mem_iff.mp hv)
    obtain ⟨k, tk, h1, _⟩ := g e he
    exact ⟨k, tk, q.symm.trans h1⟩
  have pk : (vs.map Builtin.Re.reRawOf).Perm (es.toList.map keyOf) := by
    have q := pm.map Builtin.Re.reRawOf
    rwa [List.map_map] at q
  refine wpAny_bind (wpAny_newList ?_ lz)
  have gL : (s1.heap.push (seqObj "list" vs.toArray 0)).get? s1.heap.objs.size = some (seqObj "list" vs.toArray 0) := Heap.get?_push_size _ rfl
  refine wpAny_bind (wpAny_holding (wpAny_call_entry slot_list_sort ⟨_, gL, rfl⟩ entry_list_sort (SrtO.list_sort_ord SrtO.swo_int gL lz (fun h2 => SrtO.ints_sortable hI h2) fun out a1 a2 => ⟨_, rfl, ?_⟩) (args_list_sort _)))
  obtain ⟨k1, k2, k3⟩ := SrtO.ints_out hI a1 a2
  obtain ⟨c, hc⟩ := sortedHeap_at (vs := vs) (out := out.toArray) gL
  have pn : (out.map SrtO.iv).Perm (es.toList.map keyOf) := k2.trans pk
  refine wpAny_pure ⟨_, rfl, hQ _ s1.heap.objs.size out.toArray c _ (fun b u e => ?_) g1 o1 le hc k1 (lt_of_le_nodup _ k3 (pn.nodup_iff.mpr nd)) (fun k => by rw [pn.mem_iff, ← hm k]) ?_⟩
  · have q := keep b u e
    have hlt := Heap.lt_size q
    show (sortedHeap (s1.heap.push (seqObj "list" vs.toArray 0)) s1.heap.objs.size vs out.toArray).get? b = some u
    rw [sortedHeap_old (Nat.ne_of_lt hlt) (by rw [size_push']; exact Nat.lt_succ_of_lt hlt)]
    exact Heap.get?_push_of_some _ q
  · rw [pn.length_eq, List.length_map, Array.length_toList]; exact hn
end
section
variable {X : Cx}
/-- sorted(set(xs)) of a list of whole numbers -/
def tSortedSetI (K : PySem.W.Frag) (ta : TE) : TE := fun σ H Q => ta σ H fun x H1 => ∃ (l : Addr) (ns : List Int), x = .ref l ∧ SqL K H1 l (ns.map V.int) ∧ ns.length ≤ 4000 ∧
  ∀ (ms : List Int) p, ms.Pairwise (· < ·) → (∀ k, k ∈ ms ↔ k ∈ ns) → H1 p = none → Q (.ref p) (upd H1 p (.lst (ms.map V.int)))
theorem pe_sortedSetI {a : Expr} {ta : TE} {p p2 q pos : Pos} (hg : Gl X "sorted") (hm : X.mg "sorted" = none) (hg2 : Gl X "set") (hm2 : X.mg "set" = none) (hh : X.A.handled = none) (ha : PE X a ta)
    (na : starEach [a] X.env = (false, eval a X.env) :: starEach [] X.env := by rfl) : PE X (.Call (.Name "sorted" p) [.Call (.Name "set" p2) [a] [] q] [] pos) (tSortedSetI X.K ta) := by
  refine ⟨fun pins s σ H Q I h => Call_ (ld_blt I hg hm (show bootBuiltins "sorted" = some (.builtin "sorted") by decide +kernel) (PyProof.Rows.callWith_builtin1 (PyProof.Rows.args_cons (Call_ (ld_blt I hg2 hm2 boot_set ?_)) rfl) rfl rfl))⟩
  refine PyProof.Rows.callWith_type1 (PyProof.Rows.args_cons (thn (ha.run pins s σ H _ I h) fun v s1 h1 => PyProof.Rows.args_nil ?_) na) na rfl
  obtain ⟨x, H1, I1, r1, l, ns, rfl, hq, hz, q1⟩ := h1
  have e : v = .ref l := r1
  subst e
  obtain ⟨its, rv, pl, _⟩ := I1.list hq
  refine set_of_ints hh pl.isList (ns := ns) (by simpa using rv.ints) (by unfold scanBound; omega) fun h' tk c hS hc hk => ?_
  have I2 : Inv X pins σ H1 { s1 with heap := h', toks := tk } := I1.kept hk
  refine PyProof.Rows.args_nil ?_
  obtain ⟨s2, hs2⟩ : ∃ s2 : Shared, s2 = { s1 with heap := h', toks := tk } := ⟨_, rfl⟩
  rw [← hs2] at I2 ⊢
  refine sorted_setN (by rw [hs2]; exact hS) hh fun s' p out c ms k g o hp hgp hi hs hm hl => ?_
  have hlen : (ms.map V.int).length ≤ sizeLine := by rw [List.length_map, hl]; unfold sizeLine; omega
  have hn : H1 p = none := I2.hok.fresh hp
  have J : Inv X pins σ (upd H1 p (.lst (ms.map V.int))) { s2 with heap := s'.heap, gens := s'.gens, drawn := s'.drawn, toks := s'.toks } :=
    I2.call (ch := []) (Un.laid k hp hn) (I2.hok.laid k hp ⟨hlen, out.toList, c, vals_of_ints hi, hgp⟩) (by rw [g]; exact I2.bare) (fun _ z => nomatch z)
  have e : s' = { s2 with heap := s'.heap, gens := s'.gens, drawn := s'.drawn, toks := s'.toks } := by
    cases s'
    cases s2
    cases o
    rfl
  rw [e]
  exact ⟨.ref p, _, J, rfl, q1 ms p hs (fun k => by rw [hm k]; exact decide_eq_true_iff) hn⟩
end
end Gx
namespace Gx
open L2
theorem room65 {A : PySem.Around} {k : Nat} (r : Room k A) : A.units + 65 < PySem.cLine := by have := r.un; omega
end Gx

/-! name = {key: value for ..}, the name a local of its def -/
namespace Gx
open PySem PySem.Spec PyProof.Rows L2 GxR
section
variable {X : Cx}
theorem swD_true {k v : Expr} {gs : List Comprehension} {sc : Scope} {p q : Pos} {n : Str} {ln : Nat} {en : Env} (k1 : en.scope.kind = .function) (k2 : en.scope.names.lookup n = some .local) (k3 : (q.line == p.line) = true)
    (k4 : (sc.names.any fun (z, y) => z == n && (y == .local || y == .cell)) = false) : swapsWith (.DictComp k v gs sc p) (some (.Name n q)) ln en = pure true := by
  have e1 : en.kindOf n = some .local := k2
  have e2 : en.blockKind = .function := by
    unfold Env.blockKind
    rw [k1]
    rfl
  unfold swapsWith
  simp only [e2, e1, k4, Expr.pos, k3]
  rfl
theorem ps_setDc {n : Nat} {x : Str} {px p sp : Pos} {ke ve tg it : Expr} {ifs : List Expr} {sc : Scope} {own : List (Str × Nat)} {w : TI} {g : TG} {tt : TT} {tk tv : TE}
    (calm : X.calm = true) (nd : X.N.Nodup) (at_ : X.N[n]? = some x) (loc : X.env.scope.names.lookup x = some .local) (used : swapsWith (.DictComp ke ve [⟨tg, it, ifs, 0⟩] sc p) (some (.Name x px)) sp.line X.env = pure true)
    (hw : PI X tg it w) (ok : BlkOk X.N X.env.scope sc own)
    (hg : ∀ (s : Shared) (H : Hp) (C : Addr) (cl : List (Str × Addr)) (fp : List Addr),
      PG (X.blk s H sc (compEnvC sc cl C X.env) fp) tg g)
    (ht : ∀ (s : Shared) (H : Hp) (C : Addr) (cl : List (Str × Addr)) (fp : List Addr),
      PTs (X.blk s H sc (compEnvC sc cl C X.env) fp) ifs tt)
    (hk : ∀ (s : Shared) (H : Hp) (C : Addr) (cl : List (Str × Addr)) (fp : List Addr),
      PE (X.blk s H sc (compEnvC sc cl C X.env) fp) ke tk)
    (hv : ∀ (s : Shared) (H : Hp) (C : Addr) (cl : List (Str × Addr)) (fp : List Addr),
      PE (X.blk s H sc (compEnvC sc cl C X.env) fp) ve tv)
    (fold : ∀ z, foldedSetIterable it X.env z = pure z := by intro _; rfl) :
    PS X (.Assign [.Name x px] (.DictComp ke ve [⟨tg, it, ifs, 0⟩] sc p) sp) (tAsg (tDc w g tt tk tv (own.map (·.2))) (gName n)) := by
  refine ⟨fun pins s σ H J I h => ?_⟩
  rw [exec_Assign_Name_used _ _ _ _ used]
  refine wpAny_bind (wpAny_standAt (wpAny_bind ?_))
  show wpAny _ X.A (do
    let _ ← comprehension (.DictComp ke ve [⟨tg, it, ifs, 0⟩] sc p) sc X.env (firstIterPos [⟨tg, it, ifs, 0⟩] p) newDict false (eval it X.env) (some (assign (.Name x px) X.env))) _ _ s
  have h2 : tDc w g tt tk tv (own.map (·.2)) σ H (fun y H1 => gName n y σ H1 J.nx) := h
  refine wpAny_bind (thn (dc_core (Qf := fun _ s' => SP X pins J .next s') calm nd I hw ok hg ht hk hv fold h2 fun L C t m H' I' q ns fr => ?_) fun _ t hq => wpAny_pure (wpAny_pure hq))
  show wpAny _ _ (assign (.Name x px) X.env (.ref L)) _ _ _
  refine wpAny_assign_Name (store_ok2 (v := V.ref L) I' nd at_ (.inl loc) rfl (fun t2 I2 hb => ?_) (.inr loc))
  obtain ⟨b, sb, hb⟩ := hb
  obtain ⟨r0, r1, r2, r3, r4, r5⟩ := fr
  have ne : C ≠ b := by
    rcases hb with z | z
    · rw [z]
      exact r1
    · exact fun e => r4 x b z e.symm
  refine ⟨m, ns.sameBut sb ne, fun h3 sb3 => ⟨_, H', I2.turned (t' := t2.toks) (fun c o hc e => ?_) r0 r1 r3 r4 r5, q⟩⟩
  exact (sb3.2 c hc).trans e
end
end Gx

/-! Tuples whose objects are known to have no names of their own: made by tuple( ), and their methods. -/
namespace Gx
open PySem PySem.Spec PyProof.Rows L2 GxR
section
variable {X : Cx}
def rTupF (K : PySem.W.Frag) : List V → Hp → VK → Prop := fun xs H Q => ∃ (p : Addr) (ys : List V), xs = [.ref p] ∧ SqL K H p ys ∧ ∀ (l : Addr) (o : Obj), H l = none → o.dict = none → Q (.ref l) (upd H l (.frz o (.tup ys)))
theorem call_tupleF : CallR X (.type "tuple") (rTupF X.K) := by
  intro pins s σ H xs us Q I r h
  obtain ⟨p, ys, rfl, hq, q⟩ := h
  obtain ⟨u, rfl, rx⟩ := vals1 r
  obtain rfl : u = Value.ref p := rx
  obtain ⟨its, rv, pl, hz⟩ := I.list hq
  have hlen := rv.length
  refine call_tuple_list pl.isList (fun g keep => ?_) (by rw [List.size_toArray]; omega)
  have J : Inv X pins σ H { s with heap := g } := I.kept (t' := s.toks) keep
  have J2 : Inv X pins σ (upd H g.objs.size (.frz { cls := .type "tuple", data := .seq its.toArray } (.tup ys))) { s with heap := g.push { cls := .type "tuple", data := .seq its.toArray } } :=
    J.laid (t' := s.toks) (fun b o e => Heap.get?_push_of_some _ e) (Nat.le_refl _)
      (show ObjOk X.prog X.w _ _ _ (.frz _ (.tup ys)) from ⟨Heap.get?_push_size _ rfl, hz, its, rv, IsTup.new _ _⟩)
  exact ⟨.ref g.objs.size, _, J2, rfl, q _ _ (J.hok.fresh (Nat.le_refl _)) rfl⟩
/-- t.name(..), t such a tuple -/
def tBMF (r : V → List V → Hp → VK → Prop) (to : TE) (t : TA) : TE := fun σ H Q => to σ H fun x H1 => (∃ (p : Addr) (o : Obj) (ys : List V), x = .ref p ∧ H1 p = some (.frz o (.tup ys)) ∧ o.dict = none) ∧ t σ H1 fun xs H2 => r x xs H2 Q
variable {o e : Expr} {es : List Expr} {to : TE} {t : TA} {name : Str} {apos cpos : Pos} {id : String} {r : V → List V → Hp → VK → Prop}
theorem pe_bmF (slot : Slot "tuple" name id) (hty : typeOf (.builtin id) = pure (.type "method_descriptor")) (hm : MtR X id r) (ho : PE X o to) (ha : PA X (e :: es) t)
    (base : attributeBase o name X.env (eval o X.env) = eval o X.env := by rfl)
    (few : ((backTo cpos (starEach (e :: es) X.env)).all (fun x => !x.1) && (backToKw cpos (keywordEach [] X.env)).all (fun x => x.1.isSome) && decide ((e :: es).length + ([] : List Keyword).length + (if ([] : List Keyword).isEmpty then 0 else 1) < 30)) = true := by rfl)
    (line : (apos.endLine == cpos.line) = true := by rfl) (star : starEach (e :: es) X.env = (false, eval e X.env) :: starEach es X.env := by rfl)
    (plain : (backTo cpos (starEach es X.env)).any (·.1) = false := by rfl) :
    PE X (.Call (.Attribute o name apos) (e :: es) [] cpos) (tBMF r to t) := by
  refine ⟨fun pins s σ H Q I h => ?_⟩
  refine wpAny_Call_method_late base few line rfl (thn (ho.run pins s σ H _ I h) fun v s1 hx => ?_)
  obtain ⟨x, H1, I1, r1, ⟨p, ob, ys, rfl, hp, hd⟩, q1⟩ := hx
  obtain rfl : v = Value.ref p := r1
  obtain ⟨g, _, its, _, o2, g2, c2, _⟩ := I1.hok p _ hp
  have ty : s1.TypeIs (.ref p) "tuple" := ⟨o2, g2, c2⟩
  refine ⟨"tuple", id, PySem.F.plainAttrs_tuple, slot, hty, ty, fun a ea => ?_, ?_⟩
  · cases ea
    exact ⟨ob, g, hd⟩
  · have hA := ha.run cpos pins s1 σ H1 _ I1 q1
    rw [star] at hA ⊢
    refine Calls.callWith_builtin (by show (false || (backTo cpos (starEach es X.env)).any (·.1)) = false; rw [plain] <;> rfl) (Calls.evalArgs_plain ?_)
    exact thn hA fun us s2 hu => by
      obtain ⟨vs, H2, I2, r2, q2⟩ := hu
      exact hm pins s2 σ H2 (.ref p) vs (.ref p) us Q I2 rfl r2 q2
end
end Gx

/-! ### repr of a list in which dicts from texts to whole numbers stand -/
namespace Gx
open PySem PySem.Spec PyProof.Rows L2 GxR GenW
def encN (ps : List (Str × Int)) : PyData := .dict (ps.map fun p => (.str p.1, .int p.2))
inductive Dm (K : PySem.W.Frag) (H : Hp) : V → PyData → Prop
  | p {v : V} {d : PyData} : Dp K H v d → d.hasDict = false → Dm K H v d
  | k {a : Addr} {ps : List (Str × Int)} : H a = some (.dK (ps.map fun p => ((Sum.inr p.1 : Key), V.int p.2))) → Dm K H (.ref a) (encN ps)
inductive Dms (K : PySem.W.Frag) (H : Hp) : List V → List PyData → Prop
  | nil : Dms K H [] []
  | cons {v : V} {d : PyData} {vs : List V} {ds : List PyData} : Dm K H v d → Dms K H vs ds → Dms K H (v :: vs) (d :: ds)
section
variable {X : Cx} {pins : List (Addr × Obj)} {σ : L2.St} {H : Hp} {s : Shared}
theorem pairs_read {h : Heap} : ∀ {ps : List (Str × Int)} {vs : List (Key × Value)}, KV (ps.map fun p => ((Sum.inr p.1 : Key), V.int p.2)) vs →
    PyProof.V.PairsRead h (fun k : Key => match k with | .inl i => PyData.int i | .inr x => PyData.str x) vs (ps.map fun p => (.str p.1, .int p.2)) []
  | [], _, h => by
    unfold KV at h
    rw [List.map_nil] at h
    cases h
    exact .nil
  | p :: ps, _, h => by
    unfold KV at h
    rw [List.map_cons] at h
    cases h with
    | @cons a b as bs r t =>
      obtain ⟨k, u⟩ := b
      obtain ⟨e, t2, eu⟩ := r
      have e : Sum.inr p.1 = k := e
      have eu : u = Value.int p.2 t2 := eu
      subst e eu
      exact PyProof.V.PairsRead.cons (as := []) (bs := []) (Reads.int _ _) (pairs_read t)
theorem Dm.shows (I : Inv X pins σ H s) {v : V} {u : Value} {d : PyData} (h : Dm X.K H v d) (r : RelV v u) (hs : d.showable = true) (hz : d.shown.length ≤ sizeLine) :
    ∃ as bs, Reads s.heap u d as ∧ ReadAtMost s.heap d.depth bs ∧ ReprK X.prog X.w bs s.heap d.depth u d.shown := by
  cases h with
  | p hd nod =>
    obtain ⟨as, rd⟩ := Dp.reads I d v u hd r
    obtain ⟨bs, h1, h2⟩ := ReprK.of_reads (prog := X.prog) (w := X.w) rd hs (PyData.noDict_hsm nod) hz
    exact ⟨as, bs, rd, h1, h2⟩
  | @k a ps e =>
    cases r
    obtain ⟨_, lo, vs, rel, dd⟩ := dk_of I.hok e
    have rd : Reads s.heap (.ref a) (encN ps) [a] := PyProof.V.reads_dictOf (fun k key hk => by
      rcases keyIs_shape hk with ⟨i, t, rfl, rfl⟩ | ⟨x, t, rfl, rfl⟩
      · exact Reads.int i t
      · exact Reads.str x t) dd (pairs_read rel)
    obtain ⟨bs, h1, h2⟩ := ReprK.of_reads (prog := X.prog) (w := X.w) rd hs (fun _ hm => by
      rw [List.mem_singleton.mp hm] at lo
      exact absurd lo (by simp)) hz
    exact ⟨_, bs, rd, h1, h2⟩
theorem Dms.shows (I : Inv X pins σ H s) : ∀ {vs : List V} {us : List Value} {ds : List PyData}, Dms X.K H vs ds → Vals vs us → PyData.showableAll ds = true → (∀ t ∈ PyData.shownAll ds, t.length ≤ sizeLine) →
    ∃ as bs, ReadsAll s.heap us ds as ∧ ReadAtMost s.heap (PyData.depthAll ds) bs ∧ ReprAllK X.prog X.w bs s.heap (PyData.depthAll ds) us (PyData.shownAll ds)
  | _, _, _, .nil, r, _, _ => by
    cases r
    exact ⟨[], [], .nil, (fun _ h => nomatch h), by simp only [PyData.shownAll]; exact .nil⟩
  | _, _, _, .cons (d := d) (ds := ds) h t, r, hs, hz => by
    cases r with
    | cons r1 r2 =>
      rw [PyData.showableAll, Bool.and_eq_true] at hs
      obtain ⟨as, bs, a1, a2, a3⟩ := h.shows I r1 hs.1 (hz _ (by rw [PyData.shownAll]; exact List.mem_cons_self))
      obtain ⟨cs, ds', b1, b2, b3⟩ := t.shows I r2 hs.2 fun t ht => hz t (by rw [PyData.shownAll]; exact List.mem_cons_of_mem _ ht)
      refine ⟨_, bs ++ ds', .cons a1 b1, (a2.mono ?_).append (b2.mono ?_), ?_⟩
      · rw [PyData.depthAll]
        exact Nat.le_max_left _ _
      · rw [PyData.depthAll]
        exact Nat.le_max_right _ _
      · rw [PyData.shownAll, PyData.depthAll]
        exact .cons ((a3.more fun b hb => List.mem_append_left _ hb).level_le (Nat.le_max_left _ _)) (b3.more_le (fun b hb => List.mem_append_right _ hb) (Nat.le_max_right _ _))
end
section
variable {X : Cx}
def rReprM (K : PySem.W.Frag) : List V → Hp → VK → Prop := fun xs H Q => ∃ (L : Addr) (v : V) (vs : List V) (ds : List PyData), xs = [.ref L] ∧ H L = some (.lst (v :: vs)) ∧ Dms K H (v :: vs) ds ∧ PyData.showableAll ds = true ∧
  PyData.depthAll ds ≤ 60 ∧ (PyData.list ds).shown.length ≤ sizeLine ∧ Q (.str (PyData.list ds).shown) H
theorem cr_reprM (g : X.A.guards = some []) (hu : X.A.units + 64 < cLine) : CallR X (.builtin "repr") (rReprM X.K) := by
  intro pins s σ H xs us Q I r h
  obtain ⟨L, v, vs, ds, rfl, hL, hD, hs, hd, hz, q⟩ := h
  obtain ⟨u, rfl, rx⟩ : ∃ u, us = [u] ∧ RelV (.ref L) u := by
    cases r with
    | cons r1 r2 => cases r2; exact ⟨_, rfl, r1⟩
  cases rx
  obtain ⟨z, its, n, ri, hl, e⟩ := I.lstM hL
  have hz2 : (listText (PyData.shownAll ds)).length ≤ sizeLine := by simpa only [PyData.shown] using hz
  obtain ⟨as, bs, a1, a2, a3⟩ := hD.shows I ri hs fun t ht => Nat.le_trans (listText_mem_le ht) hz2
  have rd : Reads s.heap (.ref L) (.list ds) (L :: as) := Reads.list e rfl rfl (by simpa using a1)
  have hna : L ∉ bs := not_mem_of_deeper rd (by simp only [PyData.depth]; omega) a2
  cases ri with
  | @cons _ y _ ys r1 r2 =>
    refine call_repr_slot (T := "list") (by omega) ⟨_, e, rfl⟩ F.slot_list_repr.toG ?_
    refine call_list_reprK e rfl rfl hna (by simpa using a3.length_eq) (fun i y e => a3.item i y (by simpa using e)) g (fun b _ => Clear.nil b) (by show X.A.units + 1 + (_ + 1) < cLine; omega) (fun _ _ e => e) (fun h' u tk hk => ?_) hz2
    refine ⟨_, _, rfl, .str _, H, I.kept hk, ⟨_, rfl⟩, ?_⟩
    have : (PyData.list ds).shown = listText (PyData.shownAll ds) := by simp only [PyData.shown]
    rw [this] at q
    exact q
end
end Gx

/-! A dict of the module, with text keys, asked by get. -/
namespace Gx
open PySem PySem.Spec PyProof.Rows L2 GxR
section
variable {X : Cx} {d : Addr} {es : Array DictEntry} {n : Nat}
def tKGet (K : PySem.W.Frag) (d : Addr) (ty : TE) : TE := fun σ H Q => ty σ H fun y H2 => ∃ (z : Str) (u0 : Value) (v0 : V), y = .str z ∧ PySem.W.nsIn K d z = some (some u0) ∧ RelV v0 u0 ∧ Q v0 H2
theorem pe_kget1 {o e : Expr} {apos cpos : Pos} {ty : TE} (D : KDict X.K X.w d es n) (ho : PE X o (tC (.ref d))) (he : PE X e ty) (m : M1 X o "get" apos e cpos) : PE X (.Call (.Attribute o "get" apos) [e] [] cpos) (tKGet X.K d ty) := by
  refine ⟨fun pins s σ H Q I h => ?_⟩
  refine wpAny_Call_method m.base m.few m.line PySem.F.plainAttrs_dict PySem.F.slot_dict_get PySem.F.type_dict_get (thn (ho.run pins s σ H (fun x H1 => x = .ref d ∧ tKGet X.K d ty σ H1 Q) I ⟨rfl, h⟩) fun u s1 ⟨x, H1, I1, rx, ex, q1⟩ => ?_)
  subst ex
  obtain rfl : u = Value.ref d := rx
  refine ⟨kd_type D I1, fun a ea => ?_, ?_⟩
  · cases ea
    exact ⟨_, I1.kIn d _ D.at_, rfl⟩
  · rw [m.trees]
    refine Calls.callWith_builtin rfl (Calls.evalArgs_plain (Calls.spliced_cons (thn (he.run pins s1 σ H1 _ I1 q1) fun iv s2 ⟨y, H2, I2, ry, z, u0, v0, ey, e0, r0, q2⟩ => Calls.spliced_nil ?_)))
    subst ey
    obtain ⟨t, rfl⟩ := ry
    refine call_meetsIn PySem.F.slot_dict_get (kd_type D I2) PySem.F.entry_dict_get (PySem.F.args_dict_get_2 _ _) (meets_dict_get (PySem.strKind X.prog X.w) d (PySem.strKind_is X.prog X.w z t) D.low) ⟨_, PySem.W.mapOf_K (prog := X.prog) I2.kIn D.at_ D.lit, ?_⟩
    rw [PySem.W.find_K D.at_ e0]
    exact ⟨v0, H2, I2.tok _, r0, q2⟩
/-- f'..' -/
def tJoin (ts : List TE) : TE := fun σ H Q => tJs ts Str.empty σ H fun out H1 => Q (.str out) H1
theorem pe_joinF {v1 v2 : Expr} {rest : List Expr} {ts : List TE} {pos : Pos} (h : PJ X (v1 :: v2 :: rest) ts) : PE X (.JoinedStr (v1 :: v2 :: rest) pos) (tJoin ts) := pe_joined h
end
end Gx

namespace Lw
open PySem PySem.Spec PyProof.Rows L2 GxR Gx
def topS (i : Nat) : Stmt := PySem.Challenge.pw_heardapart_k59_written_and_read.main.body.getD i (.Pass ⟨0, 0, 0, 0⟩)
abbrev st_is_name : Stmt := topS 5
abbrev N_is_name : List Str := ["thing", "letter"]
theorem sc_is_name : FnScope N_is_name ["thing"] (defScope st_is_name) := ⟨rfl, rfl, rfl, by decide +kernel, rfl, by decide +kernel, by decide +kernel⟩
abbrev st_are_unlike_names : Stmt := topS 6
abbrev N_are_unlike_names : List Str := ["thing", "name"]
theorem sc_are_unlike_names : FnScope N_are_unlike_names ["thing"] (defScope st_are_unlike_names) := ⟨rfl, rfl, rfl, by decide +kernel, rfl, by decide +kernel, by decide +kernel⟩
abbrev st_is_pair : Stmt := topS 7
abbrev N_is_pair : List Str := ["thing"]
theorem sc_is_pair : FnScope N_is_pair ["thing"] (defScope st_is_pair) := ⟨rfl, rfl, rfl, by decide +kernel, rfl, by decide +kernel, by decide +kernel⟩
abbrev st_is_road : Stmt := topS 8
abbrev N_is_road : List Str := ["thing", "hands", "one", "other"]
theorem sc_is_road : FnScope N_is_road ["thing", "hands"] (defScope st_is_road) := ⟨rfl, rfl, rfl, by decide +kernel, rfl, by decide +kernel, by decide +kernel⟩
abbrev st_is_web : Stmt := topS 9
abbrev N_is_web : List Str := ["thing", "hands", "roads", "known", "hand", "road"]
theorem sc_is_web : FnScope N_is_web ["thing"] (defScope st_is_web) := ⟨rfl, rfl, rfl, by decide +kernel, rfl, by decide +kernel, by decide +kernel⟩
abbrev st_neighbours_in : Stmt := topS 10
abbrev N_neighbours_in : List Str := ["web", "hands", "roads", "near", "hand", "one", "other"]
theorem sc_neighbours_in : FnScope N_neighbours_in ["web"] (defScope st_neighbours_in) := ⟨rfl, rfl, rfl, by decide +kernel, rfl, by decide +kernel, by decide +kernel⟩
abbrev st_hands_ahead : Stmt := topS 11
abbrev N_hands_ahead : List Str := ["web", "start", "barred", "near", "ahead", "waiting", "hand", "other"]
theorem sc_hands_ahead : FnScope N_hands_ahead ["web", "start", "barred"] (defScope st_hands_ahead) := ⟨rfl, rfl, rfl, by decide +kernel, rfl, by decide +kernel, by decide +kernel⟩
abbrev st_is_book : Stmt := topS 13
abbrev N_is_book : List Str := ["thing"]
theorem sc_is_book : FnScope N_is_book ["thing"] (defScope st_is_book) := ⟨rfl, rfl, rfl, by decide +kernel, rfl, by decide +kernel, by decide +kernel⟩
abbrev st_show_web : Stmt := topS 16
abbrev N_show_web : List Str := ["web"]
theorem sc_show_web : FnScope N_show_web ["web"] (defScope st_show_web) := ⟨rfl, rfl, rfl, by decide +kernel, rfl, by decide +kernel, by decide +kernel⟩
abbrev st_read_web : Stmt := topS 17
abbrev N_read_web : List Str := ["text", "rows", "web"]
theorem sc_read_web : FnScope N_read_web ["text"] (defScope st_read_web) := ⟨rfl, rfl, rfl, by decide +kernel, rfl, by decide +kernel, by decide +kernel⟩
abbrev st_show_book : Stmt := topS 18
abbrev N_show_book : List Str := ["book"]
theorem sc_show_book : FnScope N_show_book ["book"] (defScope st_show_book) := ⟨rfl, rfl, rfl, by decide +kernel, rfl, by decide +kernel, by decide +kernel⟩
abbrev st_read_book : Stmt := topS 19
abbrev N_read_book : List Str := ["text", "book"]
theorem sc_read_book : FnScope N_read_book ["text"] (defScope st_read_book) := ⟨rfl, rfl, rfl, by decide +kernel, rfl, by decide +kernel, by decide +kernel⟩
abbrev st_show_history : Stmt := topS 20
abbrev N_show_history : List Str := ["history", "deed"]
theorem sc_show_history : FnScope N_show_history ["history"] (defScope st_show_history) := ⟨rfl, rfl, rfl, by decide +kernel, rfl, by decide +kernel, by decide +kernel⟩
abbrev st_read_history : Stmt := topS 21
abbrev N_read_history : List Str := ["text", "history", "row", "deed"]
theorem sc_read_history : FnScope N_read_history ["text"] (defScope st_read_history) := ⟨rfl, rfl, rfl, by decide +kernel, rfl, by decide +kernel, by decide +kernel⟩
abbrev st_rows_in : Stmt := topS 22
abbrev N_rows_in : List Str := ["text"]
theorem sc_rows_in : FnScope N_rows_in ["text"] (defScope st_rows_in) := ⟨rfl, rfl, rfl, by decide +kernel, rfl, by decide +kernel, by decide +kernel⟩
abbrev st_rows_of_web : Stmt := topS 23
abbrev N_rows_of_web : List Str := ["web", "hands", "roads", "one", "other"]
theorem sc_rows_of_web : FnScope N_rows_of_web ["web"] (defScope st_rows_of_web) := ⟨rfl, rfl, rfl, by decide +kernel, rfl, by decide +kernel, by decide +kernel⟩
abbrev st_web_in : Stmt := topS 24
abbrev N_web_in : List Str := ["rows", "row"]
theorem sc_web_in : FnScope N_web_in ["rows"] (defScope st_web_in) := ⟨rfl, rfl, rfl, by decide +kernel, rfl, by decide +kernel, by decide +kernel⟩
abbrev st_row_of_book : Stmt := topS 25
abbrev N_row_of_book : List Str := ["book"]
theorem sc_row_of_book : FnScope N_row_of_book ["book"] (defScope st_row_of_book) := ⟨rfl, rfl, rfl, by decide +kernel, rfl, by decide +kernel, by decide +kernel⟩
abbrev st_book_in : Stmt := topS 26
abbrev N_book_in : List Str := ["row"]
theorem sc_book_in : FnScope N_book_in ["row"] (defScope st_book_in) := ⟨rfl, rfl, rfl, by decide +kernel, rfl, by decide +kernel, by decide +kernel⟩
abbrev st_is_deed : Stmt := topS 27
abbrev N_is_deed : List Str := ["thing", "name"]
theorem sc_is_deed : FnScope N_is_deed ["thing"] (defScope st_is_deed) := ⟨rfl, rfl, rfl, by decide +kernel, rfl, by decide +kernel, by decide +kernel⟩
abbrev st_law_pot : Stmt := topS 29
abbrev N_law_pot : List Str := ["script", "k", "cell"]
theorem sc_law_pot : FnScope N_law_pot ["script", "k"] (defScope st_law_pot) := ⟨rfl, rfl, rfl, by decide +kernel, rfl, by decide +kernel, by decide +kernel⟩
abbrev st_law_dip : Stmt := topS 30
abbrev N_law_dip : List Str := ["pot", "many", "found", "mixed"]
theorem sc_law_dip : FnScope N_law_dip ["pot", "many"] (defScope st_law_dip) := ⟨rfl, rfl, rfl, by decide +kernel, rfl, by decide +kernel, by decide +kernel⟩
abbrev st_law_names : Stmt := topS 31
abbrev N_law_names : List Str := ["pot", "many", "pool", "one", "other", "k"]
theorem sc_law_names : FnScope N_law_names ["pot", "many"] (defScope st_law_names) := ⟨rfl, rfl, rfl, by decide +kernel, rfl, by decide +kernel, by decide +kernel⟩
abbrev st_law_web : Stmt := topS 32
abbrev N_law_web : List Str := ["pot", "many", "hands", "way", "roads", "k", "at"]
theorem sc_law_web : FnScope N_law_web ["pot", "many"] (defScope st_law_web) := ⟨rfl, rfl, rfl, by decide +kernel, rfl, by decide +kernel, by decide +kernel⟩
abbrev st_law_history : Stmt := topS 33
abbrev N_law_history : List Str := ["pot", "found", "turn", "names"]
theorem sc_law_history : FnScope N_law_history ["pot"] (defScope st_law_history) := ⟨rfl, rfl, rfl, by decide +kernel, rfl, by decide +kernel, by decide +kernel⟩
abbrev st_law_line : Stmt := topS 34
abbrev N_law_line : List Str := ["words", "between", "found", "word"]
theorem sc_law_line : FnScope N_law_line ["words", "between"] (defScope st_law_line) := ⟨rfl, rfl, rfl, by decide +kernel, rfl, by decide +kernel, by decide +kernel⟩
abbrev st_law_book_text : Stmt := topS 35
abbrev N_law_book_text : List Str := ["book"]
theorem sc_law_book_text : FnScope N_law_book_text ["book"] (defScope st_law_book_text) := ⟨rfl, rfl, rfl, by decide +kernel, rfl, by decide +kernel, by decide +kernel⟩
abbrev st_law_web_rows : Stmt := topS 36
abbrev N_law_web_rows : List Str := ["web", "one", "other"]
theorem sc_law_web_rows : FnScope N_law_web_rows ["web"] (defScope st_law_web_rows) := ⟨rfl, rfl, rfl, by decide +kernel, rfl, by decide +kernel, by decide +kernel⟩
abbrev st_law_moment_rows : Stmt := topS 37
abbrev N_law_moment_rows : List Str := ["moment", "web", "mouths", "books", "rows", "hand", "word"]
theorem sc_law_moment_rows : FnScope N_law_moment_rows ["moment"] (defScope st_law_moment_rows) := ⟨rfl, rfl, rfl, by decide +kernel, rfl, by decide +kernel, by decide +kernel⟩
abbrev st_law_some : Stmt := topS 38
abbrev N_law_some : List Str := ["pot", "web", "book"]
theorem sc_law_some : FnScope N_law_some ["pot"] (defScope st_law_some) := ⟨rfl, rfl, rfl, by decide +kernel, rfl, by decide +kernel, by decide +kernel⟩
abbrev st_law_shown : Stmt := topS 39
abbrev N_law_shown : List Str := ["some"]
theorem sc_law_shown : FnScope N_law_shown ["some"] (defScope st_law_shown) := ⟨rfl, rfl, rfl, by decide +kernel, rfl, by decide +kernel, by decide +kernel⟩
abbrev st_law_texts : Stmt := topS 40
abbrev N_law_texts : List Str := ["some", "rows", "deed"]
theorem sc_law_texts : FnScope N_law_texts ["some"] (defScope st_law_texts) := ⟨rfl, rfl, rfl, by decide +kernel, rfl, by decide +kernel, by decide +kernel⟩
abbrev st_law_ordered : Stmt := topS 41
abbrev N_law_ordered : List Str := ["some"]
theorem sc_law_ordered : FnScope N_law_ordered ["some"] (defScope st_law_ordered) := ⟨rfl, rfl, rfl, by decide +kernel, rfl, by decide +kernel, by decide +kernel⟩
abbrev st_law : Stmt := topS 42
abbrev N_law : List Str := ["script", "k", "pot", "some", "mate", "kept", "due", "turn", "told", "same", "one", "other"]
theorem sc_law : FnScope N_law ["script"] (defScope st_law) := ⟨rfl, rfl, rfl, by decide +kernel, rfl, by decide +kernel, by decide +kernel⟩
/-- names that the top leaves to the built-ins -/
structure Nb (mg : Str → Option Value) : Prop where
  n_all : mg "all" = none
  n_int : mg "int" = none
  n_len : mg "len" = none
  n_list : mg "list" = none
  n_max : mg "max" = none
  n_min : mg "min" = none
  n_range : mg "range" = none
  n_repr : mg "repr" = none
  n_set : mg "set" = none
  n_sorted : mg "sorted" = none
  n_str : mg "str" = none
  n_tuple : mg "tuple" = none
  n_type : mg "type" = none
  n_zip : mg "zip" = none
section
variable {P : Program} {w : World} {K : PySem.W.Frag} {mg : Str → Option Value} {base : Heap}
/-! ### is_name -/
def nameC (c : Nat) : Bool := decide (97 ≤ c) && decide (c ≤ 122)
def isNm (z : Str) : Bool := decide (1 ≤ z.length) && decide (z.length ≤ 8) && z.cps.toList.all nameC
def spIsName (K : PySem.W.Frag) (T : Addr) : Sp := fun vs H Q _ => ∃ x, vs = [x] ∧ TabG H T ∧
  ((∃ z : Str, x = .str z ∧ z.length ≤ sizeLine ∧ ∀ H', Grow [] H H' → Q (.bl (isNm z)) H') ∨ ∃ U, U ≠ "str" ∧ TyB K H x U ∧ Q (.bl false) H)
theorem lt1 (a b : Nat) : decide ([a] < [b]) = decide (a < b) := by
  have h : ([a] < [b]) ↔ a < b := by
    rw [List.cons_lt_cons_iff]
    simp
  exact decide_eq_decide.mpr h
theorem ge_a (c : Nat) : (!decide ([c] < [97])) = decide (97 ≤ c) := by
  rw [lt1]
  by_cases h : 97 ≤ c
  · rw [decide_eq_true h, decide_eq_false (by omega)]; rfl
  · rw [decide_eq_false h, decide_eq_true (by omega)]; rfl
theorem le_z (c : Nat) : (!decide ([122] < [c])) = decide (c ≤ 122) := by
  rw [lt1]
  by_cases h : c ≤ 122
  · rw [decide_eq_true h, decide_eq_false (by omega)]; rfl
  · rw [decide_eq_false h, decide_eq_true (by omega)]; rfl
theorem ok_is_name {f c T : Addr} {fd : FuncData} {tk : Tok} (B : Nb mg) (D : DefIs K "is_name" "is_name" st_is_name f fd (.ref c)) (x_is_name : TabB base mg c T) (k_MOST_LETTERS : mg "MOST_LETTERS" = some (.int 8 tk)) :
    FnG P w K mg base CX0 4 f fd ["thing"] (spIsName K T) := by
  refine D.ok0 (k := 3) sc_is_name (fun vs H Q E h => ?_) (fun A outer s H vs Q E g hr h => ?_)
  · obtain ⟨x, rfl, _⟩ := h
    rfl
  obtain ⟨x, rfl, tT, h⟩ := h
  refine ⟨_,
      (pss_cons (ps_if (PW.pt (pw_or (pt_cmpR (op_notTyB) (pe_callTy call_type1 rfl B.n_type (by decide +kernel) (pa_cons (pv 0) pa_nil)) (pe_bltn (v := .ty "str") rfl B.n_str (by decide +kernel) rfl) (nomark _)) (pw_or1 (pt_not (pt_chain (op_le) (op_le) pe_int (pe_callB call_len_str rfl B.n_len PySem.boot_len (pa_cons (pv 0) pa_nil)) (pe_glob (v := .int 8) rfl k_MOST_LETTERS ⟨_, rfl⟩)))))) (
        (pss_one (ps_ret pe_bl))) pss_nil)
      (pss_one (ps_ret (pe_allG (own := [("letter", 1)]) hr (gx_ok (N := N_is_name) (dsc := defScope st_is_name) x_is_name sc_is_name.nd (by decide +kernel) (by decide +kernel)) rfl B.n_all (by decide +kernel) (pi_str (pv 0)) (fun _ _ _ _ _ => (pg_name (i := 1) sc_is_name.nd rfl (.inl rfl))) (fun _ _ _ _ _ => pe_to (pe_chain (op_le_str) (op_le_str) pe_str (pv 1) pe_str)))))), ?_⟩
  rcases h with ⟨z, rfl, hz, q⟩ | ⟨U, hU, ty, q⟩
  · refine ⟨.str z, rfl, _, "str", rfl, .str z, "str", "str", rfl, rfl, _, rfl, iteNS rfl ⟨.str z, rfl, z, rfl, hz, 1, z.length, rfl, rfl, _, rfl, ?_⟩⟩
    have no : isNm z = false → Q (.bl false) H := fun e => by
      rw [← e]
      exact q H (Grow.refl _ _)
    by_cases h1 : (1 : Int) ≤ z.length
    · rw [if_pos (decide_eq_true h1)]
      refine ⟨z.length, 8, rfl, rfl, _, rfl, ?_⟩
      by_cases h8 : (z.length : Int) ≤ 8
      · rw [decide_eq_true h8]
        refine iteF ⟨.str z, rfl, z, rfl, tT, ?_⟩
        have hall : ∀ b : Bool, b = z.cps.toList.all nameC → ∀ H', Grow [] H H' → Q (.bl b) H' := fun b e H' gr => by
          have e2 : isNm z = b := by
            unfold isNm
            rw [decide_eq_true (by omega : 1 ≤ z.length), decide_eq_true (by omega : z.length ≤ 8), e]
            rfl
          rw [← e2]
          exact q H' gr
        refine truth_text (fun i H' => Grow [] H H' ∧ (z.cps.toList.take i).all nameC = true) (fun H2 t => ⟨grow_tab tT t, rfl⟩) (fun i cc H' hc hp => ?_) fun H' hp => ?_
        · have e1 : (!decide ((⟨#[cc]⟩ : Str).cps.toList < (Str.ofString "a").cps.toList)) = decide (97 ≤ cc) := ge_a cc
          have e2 : (!decide ((Str.ofString "z").cps.toList < (⟨#[cc]⟩ : Str).cps.toList)) = decide (cc ≤ 122) := le_z cc
          have out : nameC cc = false → Q (.bl false) H' := fun e => by
            refine hall false ?_ H' hp.1
            refine (List.all_eq_false.mpr ⟨cc, List.mem_of_getElem? hc, ?_⟩).symm
            rw [e]
            exact Bool.false_ne_true
          refine ⟨rfl, .str ⟨#[cc]⟩, rfl, _, _, rfl, rfl, _, rfl, ?_⟩
          rw [e1]
          by_cases ca : 97 ≤ cc
          · rw [if_pos (decide_eq_true ca)]
            refine ⟨_, _, rfl, rfl, _, rfl, ?_⟩
            rw [e2]
            by_cases cz : cc ≤ 122
            · rw [if_neg (by rw [decide_eq_true cz]; exact fun z => Bool.noConfusion z)]
              refine ⟨hp.1, ?_⟩
              rw [List.take_add_one, hc, List.all_append, hp.2]
              show (true && (nameC cc && true)) = true
              unfold nameC
              rw [decide_eq_true ca, decide_eq_true cz]
              rfl
            · rw [if_pos (decide_eq_false cz)]
              refine out ?_
              unfold nameC
              rw [decide_eq_false cz, Bool.and_false]
          · rw [if_neg (by rw [decide_eq_false ca]; exact Bool.false_ne_true)]
            refine ⟨false, rfl, ?_⟩
            rw [if_pos rfl]
            refine out ?_
            unfold nameC
            rw [decide_eq_false ca, Bool.false_and]
        · refine hall true ?_ H' hp.1
          have := hp.2
          rw [List.take_length] at this
          exact this.symm
      · rw [decide_eq_false h8]
        refine iteT (no ?_)
        unfold isNm
        rw [decide_eq_false (by omega : ¬ z.length ≤ 8), Bool.and_false, Bool.false_and]
    · rw [decide_eq_false h1]
      refine iteF ⟨_, rfl, iteT (no ?_)⟩
      unfold isNm
      rw [decide_eq_false (by omega : ¬ 1 ≤ z.length), Bool.false_and, Bool.false_and]
  · refine ⟨x, rfl, _, U, rfl, ty, U, "str", rfl, rfl, _, rfl, ?_⟩
    rw [decide_eq_false hU]
    exact iteT (iteT q)
end

section
variable {P : Program} {w : World} {K : PySem.W.Frag} {mg : Str → Option Value} {base : Heap}
/-! ### are_unlike_names, is_book -/
def nameV : V → Bool
  | .str z => isNm z
  | _ => false
def bookV (xs : List V) : Bool := xs.all nameV && decide xs.Nodup
theorem nameV_str (x : V) (h : nameV x = true) : ∃ z, x = .str z := by
  cases x with
  | str z => exact ⟨z, rfl⟩
  | _ => cases h
def spUnlike (K : PySem.W.Frag) (T1 T2 : Addr) : Sp := fun vs H Q _ => ∃ x, vs = [x] ∧ TabG H T1 ∧ TabG H T2 ∧
  ((∃ (l : Addr) (xs : List V), x = .ref l ∧ SqL K H l xs ∧ (∀ x ∈ xs, Known K H x) ∧ xs.length ≤ 4000 ∧ ∀ H', Grow [] H H' → Q (.bl (bookV xs)) H') ∨ ∃ U, U ≠ "list" ∧ TyB K H x U ∧ Q (.bl false) H)
theorem ok_are_unlike_names {f c T1 T : Addr} {fd : FuncData} (B : Nb mg) (D : DefIs K "are_unlike_names" "are_unlike_names" st_are_unlike_names f fd (.ref c)) (x_are_unlike_names : TabB base mg c T)
    (c_is_name : Callee P w K mg base CX0 4 "is_name" ["thing"] (spIsName K T1)) : FnG P w K mg base CX0 8 f fd ["thing"] (spUnlike K T1 T) := by
  refine D.ok0 (k := 7) sc_are_unlike_names (fun vs H Q E h => ?_) (fun A outer s H vs Q E g hr h => ?_)
  · obtain ⟨x, rfl, _⟩ := h
    rfl
  obtain ⟨x, rfl, t1, tT, h⟩ := h
  refine ⟨_,
      (pss_cons (ps_if (PW.pt (pw_or (pt_cmpR (op_notTyB) (pe_callTy call_type1 rfl B.n_type (by decide +kernel) (pa_cons (pv 0) pa_nil)) (pe_bltn (v := .ty "list") rfl B.n_list (by decide +kernel) rfl) (nomark _)) (pw_or1 (pt_not (pt_val (pe_allG (own := [("name", 1)]) hr (gx_ok (N := N_are_unlike_names) (dsc := defScope st_are_unlike_names) x_are_unlike_names sc_are_unlike_names.nd (by decide +kernel) (by decide +kernel)) rfl B.n_all (by decide +kernel) (pi_list (pv 0)) (fun _ _ _ _ _ => (pg_name (i := 1) sc_are_unlike_names.nd rfl (.inl rfl))) (fun _ _ _ _ _ => pe_to (pe_g c_is_name g ((room_gx hr).mono (by decide)) pass0 (pa_cons (pv 1) pa_nil))))))))) (
        (pss_one (ps_ret pe_bl))) pss_nil)
      (pss_one (ps_ret (pe_cmpR (op_eq) (pe_lenSetS rfl B.n_len rfl B.n_set hr.hd (pv 0)) (pe_callB call_len_seq rfl B.n_len PySem.boot_len (pa_cons (pv 0) pa_nil)) (nomark _))))), ?_⟩
  rcases h with ⟨l, xs, rfl, hl, hk, hz, q⟩ | ⟨U, hU, ty, q⟩
  · refine ⟨.ref l, rfl, _, "list", rfl, .lst hl, "list", "list", rfl, rfl, _, rfl, iteNS rfl ⟨.ref l, rfl, l, rfl, ⟨xs, hl⟩, tT, ?_⟩⟩
    refine truth_list (xs := xs) (fun i H' => Grow [] H H' ∧ (xs.take i).all nameV = true) (fun H2 t => ⟨grow_tab tT t, rfl⟩) (fun i H' hp => hp.1.seq0 hl) (fun i x H' hx hp => ?_) fun H' hp => ?_
    · refine ⟨rfl, x, rfl, x, rfl, hp.1.tabs _ t1, ?_⟩
      have key : ∀ b, b = nameV x → ∀ H2, Grow [] H' H2 → (b = false → Q (.bl false) H2) ∧ (b = true → Grow [] H H2 ∧ (xs.take (i + 1)).all nameV = true) := fun b e H2 gr => by
        refine ⟨fun hb => ?_, fun hb => ⟨hp.1.trans gr, ?_⟩⟩
        · have eb : bookV xs = false := by
            unfold bookV
            rw [(List.all_eq_false.mpr ⟨x, List.mem_of_getElem? hx, by rw [← e, hb]; exact Bool.false_ne_true⟩ : xs.all nameV = false), Bool.false_and]
          rw [← eb]
          exact q H2 (hp.1.trans gr)
        · rw [List.take_add_one, hx, List.all_append, hp.2]
          show (true && (nameV x && true)) = true
          rw [← e, hb]
          rfl
      rcases (hk x (List.mem_of_getElem? hx)).grow hp.1 with ⟨z, rfl, hz'⟩ | ⟨U, nU, tU⟩
      · refine .inl ⟨z, rfl, hz', fun H2 gr => ?_⟩
        obtain ⟨k1, k2⟩ := key (isNm z) rfl H2 gr
        refine ⟨isNm z, rfl, ?_⟩
        cases hb : isNm z with
        | false =>
          rw [if_pos rfl]
          exact ⟨false, rfl, iteT (k1 hb)⟩
        | true =>
          rw [if_neg (fun z => Bool.noConfusion z)]
          exact k2 hb
      · refine .inr ⟨U, nU, tU, ?_⟩
        have e : nameV x = false := by
          cases hb : nameV x with
          | false => rfl
          | true =>
            obtain ⟨z, rfl⟩ := nameV_str x hb
            cases tU
            exact absurd rfl nU
        refine ⟨false, rfl, ?_⟩
        rw [if_pos rfl]
        exact ⟨false, rfl, iteT ((key false e.symm H' (Grow.refl _ _)).1 rfl)⟩
    · have hall : xs.all nameV = true := by
        have := hp.2
        rwa [List.take_length] at this
      have ex := strs_of nameV_str hall
      refine ⟨true, rfl, iteF ?_⟩
      refine ⟨.ref l, rfl, l, xs.map theStr, rfl, by rw [← ex]; exact hp.1.seq0 hl, by rw [List.length_map]; exact hz, ?_⟩
      refine ⟨.ref l, rfl, l, xs, rfl, .inl (hp.1.seq0 hl), ?_⟩
      have e : decide (V.int ((uq [] (xs.map theStr)).length : Nat) = V.int (xs.length : Nat)) = bookV xs := by
        unfold bookV
        rw [hall, Bool.true_and]
        have e1 : decide (V.int ((uq [] (xs.map theStr)).length : Nat) = V.int (xs.length : Nat)) = decide (((uq [] (xs.map theStr)).length : Int) = ((xs.map theStr).length : Int)) :=
          decide_eq_decide.mpr ⟨fun h => by rw [List.length_map]; exact V.int.inj h, fun h => by rw [List.length_map] at h; rw [h]⟩
        rw [e1, uq_same]
        exact decide_eq_decide.mpr (Iff.trans nodup_str.symm (by rw [← ex]))
      show rEq _ _ _ _
      refine ⟨rfl, ?_⟩
      rw [e]
      exact q H' hp.1
  · refine ⟨x, rfl, _, U, rfl, ty, U, "list", rfl, rfl, _, rfl, ?_⟩
    rw [decide_eq_false hU]
    exact iteT (iteT q)
end

section
variable {K : PySem.W.Frag}
/-! ### books -/
/-- a book -/
structure Bk (zs : List Str) : Prop where
  nm : zs.all isNm = true
  nd : zs.Nodup
  len : zs.length ≤ 200
theorem Bk.perm {zs ws : List Str} (b : Bk zs) (p : zs.Perm ws) : Bk ws :=
  ⟨by rw [List.all_eq_true] at *; exact fun x h => List.all_eq_true.mp b.nm x (p.mem_iff.mpr h), p.nodup_iff.mp b.nd, by rw [← p.length_eq]; exact b.len⟩
theorem Bk.v {zs : List Str} (b : Bk zs) : bookV (zs.map V.str) = true := by
  unfold bookV
  rw [decide_eq_true (nodup_str.mpr b.nd), Bool.and_true, List.all_map]
  exact b.nm
theorem Bk.short {zs : List Str} (b : Bk zs) {z : Str} (h : z ∈ zs) : z.length ≤ 8 := by
  have := List.all_eq_true.mp b.nm z h
  unfold isNm at this
  rw [Bool.and_eq_true, Bool.and_eq_true, decide_eq_true_iff, decide_eq_true_iff] at this
  exact this.1.2
theorem Bk.known {zs : List Str} (b : Bk zs) {H : Hp} : ∀ x ∈ zs.map V.str, Known K H x := fun x h => by
  obtain ⟨z, hz, rfl⟩ := List.mem_map.mp h
  exact .inl ⟨z, rfl, Nat.le_trans (b.short hz) (by decide)⟩
theorem nm_lt {z : Str} (h : isNm z = true) : ∀ c ∈ z.cps.toList, c < 0x110000 := fun c hc => by
  unfold isNm at h
  rw [Bool.and_eq_true] at h
  have := List.all_eq_true.mp h.2 c hc
  unfold nameC at this
  rw [Bool.and_eq_true, decide_eq_true_iff, decide_eq_true_iff] at this
  omega
theorem Bk.fine {zs : List Str} (b : Bk zs) {z : Str} (h : z ∈ zs) : Fine (.str z) 0 8 := .str (nm_lt (List.all_eq_true.mp b.nm z h)) (b.short h)
theorem fine_name {z : Str} (h1 : isNm z = true) : Fine (.str z) 0 8 := by
  refine .str (nm_lt h1) ?_
  unfold isNm at h1
  rw [Bool.and_eq_true, Bool.and_eq_true, decide_eq_true_iff, decide_eq_true_iff] at h1
  exact h1.1.2
theorem fine_names {zs : List Str} (hn : zs.all isNm = true) (hz : zs.length ≤ 200) : Fine (.list (zs.map PyData.str)) 1 1800 := Fine.list (n := 0) (m := 8) (fun d hd => by
  obtain ⟨z, h, rfl⟩ := List.mem_map.mp hd
  have h1 := List.all_eq_true.mp hn z h
  refine .str (nm_lt h1) ?_
  unfold isNm at h1
  rw [Bool.and_eq_true, Bool.and_eq_true, decide_eq_true_iff, decide_eq_true_iff] at h1
  exact h1.1.2) (by rw [List.length_map]; omega)
theorem all_perm {zs ws : List Str} (h : zs.all isNm = true) (p : ws.Perm zs) : ws.all isNm = true := List.all_eq_true.mpr fun x hx => List.all_eq_true.mp h x (p.mem_iff.mp hx)
theorem seqIndex_nat {v : Int} {n : Nat} (h0 : 0 ≤ v) (h : v < n) : seqIndex? v n = some v.toNat := by
  have e : seqIndex? v n = if (decide (0 ≤ (if v < 0 then v + n else v)) && decide ((if v < 0 then v + n else v) < n)) = true then some (if v < 0 then v + n else v).toNat else none := rfl
  rw [e, if_neg (by omega : ¬ v < 0), decide_eq_true h0, decide_eq_true h]
  rfl
end

/-! ### webs -/
/-- two that a road lies between -/
def Adj (roads : List (Str × Str)) (a b : Str) : Prop := (a, b) ∈ roads ∨ (b, a) ∈ roads
theorem Adj.symm {roads : List (Str × Str)} {a b : Str} (h : Adj roads a b) : Adj roads b a := h.elim .inr .inl
/-- the neighbours of a hand, in the roads' order -/
def nbrs (roads : List (Str × Str)) (h : Str) : List Str := roads.flatMap fun r => (if r.1 = h then [r.2] else []) ++ (if r.2 = h then [r.1] else [])
theorem mem_nbrs {roads : List (Str × Str)} {h x : Str} : x ∈ nbrs roads h ↔ Adj roads h x := by
  unfold nbrs Adj
  rw [List.mem_flatMap]
  constructor
  · rintro ⟨⟨a, b⟩, hr, hx⟩
    rcases List.mem_append.mp hx with hx | hx
    · by_cases e : a = h
      · rw [if_pos e] at hx
        rw [List.mem_singleton.mp hx, ← e]
        exact .inl hr
      · rw [if_neg e] at hx
        cases hx
    · by_cases e : b = h
      · rw [if_pos e] at hx
        rw [List.mem_singleton.mp hx, ← e]
        exact .inr hr
      · rw [if_neg e] at hx
        cases hx
  · rintro (hr | hr)
    · exact ⟨_, hr, List.mem_append_left _ (by rw [if_pos rfl]; exact List.mem_singleton.mpr rfl)⟩
    · exact ⟨_, hr, List.mem_append_right _ (by rw [if_pos rfl]; exact List.mem_singleton.mpr rfl)⟩
theorem nbrs_len (roads : List (Str × Str)) (h : Str) : (nbrs roads h).length ≤ 2 * roads.length := by
  induction roads with
  | nil => exact Nat.zero_le _
  | cons r rs ih =>
    have e : nbrs (r :: rs) h = ((if r.1 = h then [r.2] else []) ++ (if r.2 = h then [r.1] else [])) ++ nbrs rs h := List.flatMap_cons ..
    rw [e, List.length_append, List.length_append, List.length_cons]
    have h1 : (if r.1 = h then [r.2] else []).length ≤ 1 := by split <;> simp
    have h2 : (if r.2 = h then [r.1] else []).length ≤ 1 := by split <;> simp
    omega
/-- d tells how many roads lie between each hand and r -/
structure Rooted (hands : List Str) (roads : List (Str × Str)) (r : Str) (d : Str → Nat) : Prop where
  root : r ∈ hands
  zero : d r = 0
  near : ∀ a b, Adj roads a b → d a + 1 = d b ∨ d b + 1 = d a
  up : ∀ h, h ∈ hands → h ≠ r → ∃ p, Adj roads h p ∧ d p + 1 = d h
  one : ∀ h p q, Adj roads h p → Adj roads h q → d p < d h → d q < d h → p = q
theorem Rooted.only {hands : List Str} {roads : List (Str × Str)} {r : Str} {d : Str → Nat} (R : Rooted hands roads r d) {h : Str} (hh : h ∈ hands) (h0 : d h = 0) : h = r := by
  by_cases e : h = r
  · exact e
  · obtain ⟨p, _, hp⟩ := R.up h hh e
    omega
/-- a web -/
structure WebOk (hands : List Str) (roads : List (Str × Str)) : Prop where
  nm : hands.all isNm = true
  nd : hands.Nodup
  len : hands.length ≤ 200
  ne : hands ≠ []
  many : roads.length + 1 = hands.length
  ends : ∀ r ∈ roads, r.1 ∈ hands ∧ r.2 ∈ hands ∧ r.1.cps.toList < r.2.cps.toList
  tree : ∀ r ∈ hands, ∃ d, Rooted hands roads r d
theorem WebOk.adj {hands : List Str} {roads : List (Str × Str)} (w : WebOk hands roads) {a b : Str} (h : Adj roads a b) : a ∈ hands ∧ b ∈ hands := by
  rcases h with h | h
  · exact ⟨(w.ends _ h).1, (w.ends _ h).2.1⟩
  · exact ⟨(w.ends _ h).2.1, (w.ends _ h).1⟩
/-- what hands_ahead tells: each hand with the one ahead of it -/
structure AheadOk (hands : List Str) (roads : List (Str × Str)) (start : Str) (barred : Option Str) (ks : List (Str × Option Str)) : Prop where
  nd : (ks.map Prod.fst).Nodup
  first : ks[0]? = some (start, none)
  each : ∀ j h v, ks[j]? = some (h, v) → h ∈ hands ∧ (j = 0 ∨ (some h ≠ barred ∧ ∃ p i w, v = some p ∧ Adj roads p h ∧ i < j ∧ ks[i]? = some (p, w)))
/-- what is told of a tree: by how many roads, too -/
theorem AheadOk.down {hands : List Str} {roads : List (Str × Str)} {start : Str} {barred : Option Str} {ks : List (Str × Option Str)} {d : Str → Nat} (K : AheadOk hands roads start barred ks) (R : Rooted hands roads start d) :
    ∀ (n j : Nat), j < n → ∀ h p, ks[j]? = some (h, some p) → Adj roads h p ∧ d p + 1 = d h
  | n + 1, j, hj, h, p, e => by
    obtain ⟨hh, hv⟩ := K.each j h _ e
    rcases hv with rfl | ⟨_, p', i, w, ev, ap, hij, ei⟩
    · rw [K.first] at e
      cases e
    · cases ev
      refine ⟨ap.symm, ?_⟩
      rcases R.near _ _ ap with q | q
      · exact q
      · exfalso
        have pz : p ≠ start := fun z => by
          rw [z, R.zero] at q
          omega
        cases w with
        | none =>
          obtain ⟨_, hv2⟩ := K.each i p _ ei
          rcases hv2 with rfl | ⟨_, _, _, _, ev, _⟩
          · rw [K.first] at ei
            cases ei
            exact pz rfl
          · cases ev
        | some g =>
          obtain ⟨a1, a2⟩ := AheadOk.down K R n i (by omega) p g ei
          have eg : g = h := R.one p g h a1 ap (by omega) (by omega)
          obtain ⟨_, hv2⟩ := K.each i p _ ei
          rcases hv2 with rfl | ⟨_, p2, i2, w2, ev, _, hi2, ei2⟩
          · rw [K.first] at ei
            cases ei
          · cases ev
            rw [eg] at ei2
            have c1 : (ks.map Prod.fst)[i2]? = some h := by rw [List.getElem?_map, ei2]; rfl
            have c2 : (ks.map Prod.fst)[j]? = some h := by rw [List.getElem?_map, e]; rfl
            have := (List.getElem?_inj (List.getElem?_eq_some_iff.mp c1).1 K.nd).mp (c1.trans c2.symm)
            omega

section
variable {P : Program} {w : World} {K : PySem.W.Frag} {mg : Str → Option Value} {base : Heap}
/-! ### is_book -/
theorem ok_is_book {f c T1 T : Addr} {fd : FuncData} (D : DefIs K "is_book" "is_book" st_is_book f fd (.ref c))
    (c_are_unlike_names : Callee P w K mg base CX0 8 "are_unlike_names" ["thing"] (spUnlike K T1 T)) : FnG P w K mg base CX0 9 f fd ["thing"] (spUnlike K T1 T) := by
  refine D.ok0 (k := 8) sc_is_book (fun vs H Q E h => ?_) (fun A outer s H vs Q E g hr h => ?_)
  · obtain ⟨x, rfl, _⟩ := h
    rfl
  obtain ⟨x, rfl, t1, tT, h⟩ := h
  refine ⟨_,
      (pss_one (ps_ret (pe_g c_are_unlike_names g (hr.mono (by decide)) pass0 (pa_cons (pv 0) pa_nil)))), ?_⟩
  exact ⟨x, rfl, x, rfl, t1, tT, h⟩
end

end Lw

namespace Lw
open PySem PySem.Spec PyProof.Rows L2 GxR Gx
section
variable {P : Program} {w : World} {K : PySem.W.Frag} {mg : Str → Option Value} {base : Heap}
/-! ### the drawing: _law_pot, _law_dip -/
/-- what is drawn from: a number used up first, then a mixed one; no more than c turns of it -/
def Pot (H : Hp) (p : Addr) (c : Int) : Prop := ∃ a b k : Int, H p = some (.lst [.int a, .int b, .int k]) ∧ 0 ≤ b ∧ b < 2 ^ 160 ∧ 0 ≤ k ∧ k ≤ c
theorem Pot.mono {H : Hp} {p : Addr} {c c' : Int} (h : Pot H p c) (l : c ≤ c') : Pot H p c' := by
  obtain ⟨a, b, k, e, b1, b2, b3, b4⟩ := h
  exact ⟨a, b, k, e, b1, b2, b3, by omega⟩
theorem Pot.new {H : Hp} {p q : Addr} {o : HO} {c : Int} (h : Pot H p c) (n : H q = none) : Pot (upd H q o) p c := by
  obtain ⟨a, b, k, e, r⟩ := h
  exact ⟨a, b, k, by rw [upd_ne (ne_of_none e n)]; exact e, r⟩
theorem Pot.at {H : Hp} {p q : Addr} {o : HO} {c : Int} (h : Pot H p c) (n : p ≠ q) : Pot (upd H q o) p c := by
  obtain ⟨a, b, k, e, r⟩ := h
  exact ⟨a, b, k, by rw [upd_ne n]; exact e, r⟩
theorem Fresh.back {H H2 : Hp} {D p : Addr} {c : Int} (fr : Fresh H2 D) (g : Grow [p] H H2) (h : Pot H2 p c) : Fresh H D := by
  obtain ⟨a, b, k, e, _⟩ := h
  have n := fr.ne e (fun ps z => by cases z)
  exact g.fresh (by simpa using n.symm) fr
def spPot (K : PySem.W.Frag) : Sp := fun vs H Q _ => ∃ (s : Addr) (ns : List Int) (k : Nat), vs = [.ref s, .int k] ∧ SqL K H s (ns.map V.int) ∧ k ≤ 12 ∧ ∀ p H', Fresh H p → Grow [] H H' → Pot H' p 0 → Q (.ref p) H'
theorem ok_law_pot {f c : Addr} {fd : FuncData} (B : Nb mg) (D : DefIs K "_law_pot" "_law_pot" st_law_pot f fd (.ref c)) : FnG P w K mg base CX0 3 f fd ["script", "k"] (spPot K) := by
  refine D.ok0 (k := 2) sc_law_pot (fun vs H Q E h => ?_) (fun A outer s H vs Q E g hr h => ?_)
  · obtain ⟨s, ns, k, rfl, _⟩ := h
    rfl
  obtain ⟨l, ns, k, rfl, hl, hk, q⟩ := h
  refine ⟨_,
      (pss_cons (ps_set (i := 2) sc_law_pot.nd rfl (.inl rfl) pe_int)
      (pss_cons (ps_if (pt_cmpR (op_lt) (pv 1) (pe_callB call_len_seq rfl B.n_len PySem.boot_len (pa_cons (pv 0) pa_nil)) (nomark _)) (
        (pss_one (ps_set (i := 2) sc_law_pot.nd rfl (.inl rfl) (pe_ix ix_list (pv 0) (pv 1) (fun _ _ => rfl))))) pss_nil)
      (pss_one (ps_ret (pe_lst (pa_cons (pe_callB (call_max2 rfl) rfl B.n_max (by decide +kernel) (pa_cons pe_int (pa_cons (pe_op op_sub (pv 2) (pe_op op_powX pe_int pe_int)) pa_nil))) (pa_cons (pe_op op_add (pe_op op_add (pe_op op_mulX (pe_op op_mod (pv 2) (pe_op op_add (pe_op op_powX pe_int pe_int) pe_int)) pe_int) (pv 1)) pe_int) (pa_cons pe_int pa_nil)))))))), ?_⟩
  have M0 : (0 : Int) < 10 ^ (44 : Int).toNat + 57 := by decide
  have M1 : (10 : Int) ^ (44 : Int).toNat + 57 < 2 ^ 147 := by decide
  have xb : ∀ cell : Int, 0 ≤ cell % (10 ^ (44 : Int).toNat + 57) ∧ cell % (10 ^ (44 : Int).toNat + 57) < 2 ^ 147 := fun cell =>
    ⟨Int.emod_nonneg cell (Int.ne_of_gt M0), Int.lt_trans (Int.emod_lt_of_pos cell M0) M1⟩
  have fq : ∀ (cell : Int) p, H p = none → Q (.ref p) (upd H p (.lst [.int (if cell - 10 ^ (18 : Int).toNat > 0 then cell - 10 ^ (18 : Int).toNat else 0), .int (cell % (10 ^ (44 : Int).toNat + 57) * 256 + (k : Int) + 1), .int 0])) := fun cell p np => by
    obtain ⟨h1, h2⟩ := xb cell
    obtain ⟨x, hx⟩ : ∃ x, cell % (10 ^ (44 : Int).toNat + 57) = x := ⟨_, rfl⟩
    rw [hx] at h1 h2 ⊢
    exact q p _ (fresh_none np) (grow_new np) ⟨_, _, _, upd_same, by omega, by omega, Int.le_refl _, Int.le_refl _⟩
  have cp : CPowX 10 18 := ⟨by decide, by decide⟩
  have cp2 : CPowX 10 44 := ⟨by decide, by decide⟩
  have cm : ∀ cell : Int, CMulX (cell % (10 ^ (44 : Int).toNat + 57)) 256 := fun cell => by
    obtain ⟨h1, h2⟩ := xb cell
    obtain ⟨x, hx⟩ : ∃ x, cell % (10 ^ (44 : Int).toNat + 57) = x := ⟨_, rfl⟩
    rw [hx] at h1 h2 ⊢
    have h3 : Builtin.Int.intBits x ≤ 147 := bits_le (by decide) (by omega)
    have h4 : Builtin.Int.intBits 256 ≤ 9 := bits_le (by decide) (by decide)
    unfold CMulX
    omega
  refine ⟨.int k, rfl, .ref l, rfl, l, _, rfl, .inl hl, _, _, rfl, rfl, _, rfl, ite2 (fun hlt => ?_) fun _ => ?_⟩
  · have hi : k < ns.length := by have := of_decide_eq_true hlt; rw [List.length_map] at this; omega
    refine ⟨.ref l, rfl, .int k, rfl, l, _, _, .int (ns[k]), rfl, rfl, hl, ?_, ?_⟩
    · exact atI_nat (by rw [List.getElem?_map, List.getElem?_eq_getElem hi]; rfl)
    · exact ⟨.int (ns[k]), rfl, 10, 18, rfl, rfl, cp, _, _, rfl, rfl, _, _, rfl, .int (ns[k]), rfl, 10, 44, rfl, rfl, cp2, _, _, rfl, rfl, _, _, rfl, rfl, M0, _, _, rfl, rfl, cm _, .int k, rfl, _, _, rfl, rfl, _, _, rfl, rfl, by show 3 ≤ sizeLine; decide, fq _⟩
  · exact ⟨.int 0, rfl, 10, 18, rfl, rfl, cp, _, _, rfl, rfl, _, _, rfl, .int 0, rfl, 10, 44, rfl, rfl, cp2, _, _, rfl, rfl, _, _, rfl, rfl, M0, _, _, rfl, rfl, cm _, .int k, rfl, _, _, rfl, rfl, _, _, rfl, rfl, by show 3 ≤ sizeLine; decide, fq _⟩
def spDip (K : PySem.W.Frag) : Sp := fun vs H Q _ => ∃ (p : Addr) (m c : Int), vs = [.ref p, .int m] ∧ 1 ≤ m ∧ m < 2 ^ 30 ∧ c ≤ 2 ^ 30 ∧ Pot H p c ∧ ∀ v H', 0 ≤ v → v < m → Grow [p] H H' → Pot H' p (c + 1) → Q (.int v) H'
theorem ok_law_dip {f c : Addr} {fd : FuncData} (B : Nb mg) (D : DefIs K "_law_dip" "_law_dip" st_law_dip f fd (.ref c)) : FnG P w K mg base CX0 3 f fd ["pot", "many"] (spDip K) := by
  refine D.ok0 (k := 2) sc_law_dip (fun vs H Q E h => ?_) (fun A outer s H vs Q E g hr h => ?_)
  · obtain ⟨p, m, c, rfl, _⟩ := h
    rfl
  obtain ⟨p, m, c, rfl, m1, m2, c1, ⟨a, b, k, e, b1, b2, k1, k2⟩, q⟩ := h
  refine ⟨_,
      (pss_cons (ps_if (pt_cmpR (op_gt) (pe_ix ix_list (pv 0) pe_int (fun _ _ => rfl)) pe_int (nomark _)) (
        (pss_cons (ps_set (i := 2) sc_law_dip.nd rfl (.inl rfl) (pe_op op_mod (pe_ix ix_list (pv 0) pe_int (fun _ _ => rfl)) (pv 1)))
        (pss_cons (ps_asg (pe_op op_fdiv (pe_ix ix_list (pv 0) pe_int (fun _ _ => rfl)) (pv 1)) (pg_sub (pv 0) pe_int set_list))
        (pss_one (ps_ret (pv 2)))))) pss_nil)
      (pss_cons (ps_asg (pe_op op_add (pe_ix ix_list (pv 0) pe_int (fun _ _ => rfl)) pe_int) (pg_sub (pv 0) pe_int set_list))
      (pss_cons (ps_set (i := 3) sc_law_dip.nd rfl (.inl rfl) (pe_op op_mod (pe_op op_powX (pe_op op_add (pe_ix ix_list (pv 0) pe_int (fun _ _ => rfl)) (pe_op op_mulX pe_int (pe_ix ix_list (pv 0) pe_int (fun _ _ => rfl)))) pe_int) (pe_op op_add (pe_op op_powX pe_int pe_int) pe_int)))
      (pss_cons (ps_set (i := 3) sc_law_dip.nd rfl (.inl rfl) (pe_op op_mod (pe_op op_powX (pe_op op_add (pv 3) (pe_op op_mulX pe_int (pe_ix ix_list (pv 0) pe_int (fun _ _ => rfl)))) pe_int) (pe_op op_add (pe_op op_powX pe_int pe_int) pe_int)))
      (pss_one (ps_ret (pe_op op_mod (pe_op op_fdiv (pv 3) pe_int) (pv 1)))))))), ?_⟩
  have sq : ∀ {H' : Hp} {x y z : Int}, H' p = some (.lst [.int x, .int y, .int z]) → SqL K H' p [.int x, .int y, .int z] := fun h => .inl (.inl h)
  refine ⟨.ref p, rfl, p, _, 0, .int a, rfl, rfl, sq e, rfl, _, _, rfl, rfl, _, rfl, ite2 (fun ha => ?_) fun _ => ?_⟩
  · refine ⟨.ref p, rfl, p, _, 0, .int a, rfl, rfl, sq e, rfl, .int m, rfl, _, _, rfl, rfl, m1, .ref p, rfl, p, _, 0, .int a, rfl, rfl, sq e, rfl, .int m, rfl, _, _, rfl, rfl, ⟨m1, m2⟩, .ref p, rfl, p, _, 0, 0, rfl, rfl, e, rfl, .int (a % m), rfl, ?_⟩
    exact q _ _ (Int.emod_nonneg _ (by omega)) (Int.emod_lt_of_pos _ m1) (grow_at e (fun ps z => by cases z) (by simp)) ⟨_, _, _, upd_same, b1, b2, k1, by omega⟩
  · refine ⟨.ref p, rfl, p, _, 2, .int k, rfl, rfl, sq e, rfl, _, _, rfl, rfl, .ref p, rfl, p, _, 2, 2, rfl, rfl, e, rfl, ?_⟩
    have e2 : upd H p (.lst [.int a, .int b, .int (k + 1)]) p = some (.lst [.int a, .int b, .int (k + 1)]) := upd_same
    have fin : ∀ x : Int, Q (.int (x / 131071 % m)) (upd H p (.lst [.int a, .int b, .int (k + 1)])) := fun x =>
      q _ _ (Int.emod_nonneg _ (by omega)) (Int.emod_lt_of_pos _ m1) (grow_at e (fun ps z => by cases z) (by simp)) ⟨_, _, _, e2, b1, b2, by omega, by omega⟩
    have bk : Builtin.Int.intBits (k + 1) ≤ 31 := bits_le (by decide) (by omega)
    have cm1 : CMulX 613651349 (k + 1) := by
      have : Builtin.Int.intBits 613651349 ≤ 30 := bits_le (by decide) (by decide)
      unfold CMulX
      omega
    have cm2 : CMulX 776531401 (k + 1) := by
      have : Builtin.Int.intBits 776531401 ≤ 30 := bits_le (by decide) (by decide)
      unfold CMulX
      omega
    have cp1 : CPowX (b + 613651349 * (k + 1)) 3 := by
      have : Builtin.Int.intBits (b + 613651349 * (k + 1)) ≤ 161 := bits_le (by decide) (by omega)
      exact ⟨by decide, by omega⟩
    have M0 : (0 : Int) < 10 ^ (41 : Int).toNat + 37 := by decide
    have M1 : (10 : Int) ^ (41 : Int).toNat + 37 < 2 ^ 140 := by decide
    have N0 : (0 : Int) < 10 ^ (42 : Int).toNat + 63 := by decide
    have cp2 : ∀ y : Int, CPowX (y % (10 ^ (41 : Int).toNat + 37) + 776531401 * (k + 1)) 5 := fun y => by
      have h1 := Int.emod_nonneg y (Int.ne_of_gt M0)
      have h2 := Int.lt_trans (Int.emod_lt_of_pos y M0) M1
      obtain ⟨x, hx⟩ : ∃ x, y % (10 ^ (41 : Int).toNat + 37) = x := ⟨_, rfl⟩
      rw [hx] at h1 h2 ⊢
      have : Builtin.Int.intBits (x + 776531401 * (k + 1)) ≤ 141 := bits_le (by decide) (by omega)
      exact ⟨by decide, by omega⟩
    have p41 : CPowX 10 41 := ⟨by decide, by decide⟩
    have p42 : CPowX 10 42 := ⟨by decide, by decide⟩
    refine ⟨.ref p, rfl, p, _, 1, .int b, rfl, rfl, sq e2, rfl, .ref p, rfl, p, _, 2, .int (k + 1), rfl, rfl, sq e2, rfl, _, _, rfl, rfl, cm1, _, _, rfl, rfl, _, _, rfl, rfl, cp1, 10, 41, rfl, rfl, p41, _, _, rfl, rfl, _, _, rfl, rfl, M0, ?_⟩
    exact ⟨.int _, rfl, .ref p, rfl, p, _, 2, .int (k + 1), rfl, rfl, sq e2, rfl, _, _, rfl, rfl, cm2, _, _, rfl, rfl, _, _, rfl, rfl, cp2 _, 10, 42, rfl, rfl, p42, _, _, rfl, rfl, _, _, rfl, rfl, N0, .int _, rfl, _, _, rfl, rfl, (⟨by decide, by decide⟩ : CDiv _ 131071), .int m, rfl, _, _, rfl, rfl, m1, fin _⟩
end

/-! ### is_pair -/
section
variable {P : Program} {w : World} {K : PySem.W.Frag} {mg : Str → Option Value} {base : Heap}
def spIsPair (K : PySem.W.Frag) : Sp := fun vs H Q _ => ∃ x, vs = [x] ∧ ((∃ (a : Addr) (xs : List V), x = .ref a ∧ SqT K H a xs ∧ Q (.bl (decide (xs.length = 2))) H) ∨ ∃ U, U ≠ "tuple" ∧ TyB K H x U ∧ Q (.bl false) H)
theorem ok_is_pair {f c : Addr} {fd : FuncData} (B : Nb mg) (D : DefIs K "is_pair" "is_pair" st_is_pair f fd (.ref c)) : FnG P w K mg base CX0 2 f fd ["thing"] (spIsPair K) := by
  refine D.ok0 (k := 1) sc_is_pair (fun vs H Q E h => ?_) (fun A outer s H vs Q E g hr h => ?_)
  · obtain ⟨x, rfl, _⟩ := h
    rfl
  obtain ⟨x, rfl, h⟩ := h
  refine ⟨_,
      (pss_one (ps_ret (pe_and (pe_cmpR (op_isTyB) (pe_callTy call_type1 rfl B.n_type (by decide +kernel) (pa_cons (pv 0) pa_nil)) (pe_bltn (v := .ty "tuple") rfl B.n_tuple (by decide +kernel) rfl) (nomark _)) (pe_one (pe_cmpR (op_eq) (pe_callB call_len_seq rfl B.n_len PySem.boot_len (pa_cons (pv 0) pa_nil)) pe_int (nomark _)))))), ?_⟩
  rcases h with ⟨a, xs, rfl, ha, q⟩ | ⟨U, hU, ty, q⟩
  · refine ⟨.ref a, rfl, _, "tuple", rfl, .tup ha, "tuple", "tuple", rfl, rfl, _, rfl, iteT ⟨.ref a, rfl, a, _, rfl, .inr ha, rfl, ?_⟩⟩
    rw [show decide (V.int ((xs.length : Nat) : Int) = V.int 2) = decide (xs.length = 2) from decide_eq_decide.mpr ⟨fun h => by have := V.int.inj h; omega, fun h => by rw [h]; rfl⟩]
    exact q
  · refine ⟨x, rfl, _, U, rfl, ty, U, "tuple", rfl, rfl, _, rfl, ?_⟩
    rw [decide_eq_false hU]
    exact iteF q
end

/-! ### is_road -/
def roadB (kvs : List (Key × V)) : V → V → Bool
  | .str a, .str b => (valV kvs (.inr a)).isSome && ((valV kvs (.inr b)).isSome && decide (a.cps.toList < b.cps.toList))
  | _, _ => false
section
variable {P : Program} {w : World} {K : PySem.W.Frag} {mg : Str → Option Value} {base : Heap}
def spIsRoad (K : PySem.W.Frag) : Sp := fun vs H Q _ => ∃ (x : V) (D : Addr) (kvs : List (Key × V)), vs = [x, .ref D] ∧ H D = some (.dK kvs) ∧
  ((∃ (a : Addr) (u v : V), x = .ref a ∧ SqT K H a [u, v] ∧ Known K H u ∧ Known K H v ∧ Q (.bl (roadB kvs u v)) H) ∨ (∃ (a : Addr) (xs : List V), x = .ref a ∧ SqT K H a xs ∧ xs.length ≠ 2 ∧ Q (.bl false) H) ∨ ∃ U, U ≠ "tuple" ∧ TyB K H x U ∧ Q (.bl false) H)
theorem ok_is_road {f c : Addr} {fd : FuncData} (B : Nb mg) (D : DefIs K "is_road" "is_road" st_is_road f fd (.ref c)) (c_is_pair : Callee P w K mg base CX0 2 "is_pair" ["thing"] (spIsPair K)) : FnG P w K mg base CX0 3 f fd ["thing", "hands"] (spIsRoad K) := by
  refine D.ok0 (k := 2) sc_is_road (fun vs H Q E h => ?_) (fun A outer s H vs Q E g hr h => ?_)
  · obtain ⟨x, D, kvs, rfl, _⟩ := h
    rfl
  obtain ⟨x, D, kvs, rfl, eD, h⟩ := h
  refine ⟨_,
      (pss_cons (ps_if (pt_not (pt_val (pe_g c_is_pair g (hr.mono (by decide)) pass0 (pa_cons (pv 0) pa_nil)))) (
        (pss_one (ps_ret pe_bl))) pss_nil)
      (pss_cons (ps_asg (pv 0) (pg_tup rfl (pgs_cons (pg_name (i := 2) sc_is_road.nd rfl (.inl rfl)) (pgs_cons (pg_name (i := 3) sc_is_road.nd rfl (.inl rfl)) pgs_nil))))
      (pss_cons (ps_if (PW.pt (pw_or (pt_cmpR (op_notTyB) (pe_callTy call_type1 rfl B.n_type (by decide +kernel) (pa_cons (pv 2) pa_nil)) (pe_bltn (v := .ty "str") rfl B.n_str (by decide +kernel) rfl) (nomark _)) (pw_or1 (pt_cmpR (op_notTyB) (pe_callTy call_type1 rfl B.n_type (by decide +kernel) (pa_cons (pv 3) pa_nil)) (pe_bltn (v := .ty "str") rfl B.n_str (by decide +kernel) rfl) (nomark _))))) (
        (pss_one (ps_ret pe_bl))) pss_nil)
      (pss_one (ps_ret (pe_and (pe_cmp (pc_din (hu_of hr) (pv 2) (pv 1))) (pe_and (pe_cmp (pc_din (hu_of hr) (pv 3) (pv 1))) (pe_one (pe_cmpR (op_lt_str) (pv 2) (pv 3) (nomark _)))))))))), ?_⟩
  rcases h with ⟨a, u, v, rfl, ha, ku, kv, q⟩ | ⟨a, xs, rfl, ha, h2, q⟩ | ⟨U, hU, ty, q⟩
  · refine ⟨.ref a, rfl, .ref a, rfl, .inl ⟨a, _, rfl, ha, true, rfl, iteF ?_⟩⟩
    refine ⟨.ref a, rfl, a, _, rfl, ha, rfl, _, _, rfl, _, _, rfl, rfl, ?_⟩
    rcases ku with ⟨y, rfl, _⟩ | ⟨U, nU, tU⟩
    · refine ⟨.str y, rfl, _, "str", rfl, .str y, "str", "str", rfl, rfl, _, rfl, iteNS rfl ?_⟩
      rcases kv with ⟨z, rfl, _⟩ | ⟨U, nU, tU⟩
      · refine ⟨.str z, rfl, _, "str", rfl, .str z, "str", "str", rfl, rfl, _, rfl, iteNS rfl ?_⟩
        refine ⟨.str y, rfl, .ref D, rfl, D, _, rfl, DGet.k (k := .inr y) eD, _, rfl, ?_⟩
        replace q : Q (.bl ((valV kvs (.inr y)).isSome && ((valV kvs (.inr z)).isSome && decide (y.cps.toList < z.cps.toList)))) H := q
        cases h1 : (valV kvs (.inr y)).isSome with
        | false =>
          rw [h1] at q
          exact iteF q
        | true =>
          rw [h1] at q
          refine iteT ⟨.str z, rfl, .ref D, rfl, D, _, rfl, DGet.k (k := .inr z) eD, _, rfl, ?_⟩
          cases h2 : (valV kvs (.inr z)).isSome with
          | false =>
            rw [h2] at q
            exact iteF q
          | true =>
            rw [h2] at q
            exact iteT ⟨.str y, rfl, .str z, rfl, _, _, rfl, rfl, q⟩
      · have e : roadB kvs (.str y) v = false := by
          cases tU with
          | str x => exact absurd rfl nU
          | _ => rfl
        rw [e] at q
        refine ⟨v, rfl, _, U, rfl, tU, U, "str", rfl, rfl, _, rfl, ?_⟩
        rw [decide_eq_false nU]
        exact iteT q
    · have e : roadB kvs u v = false := by
        cases tU with
        | str x => exact absurd rfl nU
        | _ => rfl
      rw [e] at q
      refine ⟨u, rfl, _, U, rfl, tU, U, "str", rfl, rfl, _, rfl, ?_⟩
      rw [decide_eq_false nU]
      exact iteT (iteT q)
  · refine ⟨.ref a, rfl, .ref a, rfl, .inl ⟨a, _, rfl, ha, ?_⟩⟩
    rw [decide_eq_false h2]
    exact ⟨false, rfl, iteT q⟩
  · exact ⟨x, rfl, x, rfl, .inr ⟨U, hU, ty, false, rfl, iteT q⟩⟩
end

/-! ### a web in the heap -/
/-- a pair of texts, its object without names of its own -/
def Pr (H : Hp) (a : Addr) (r : Str × Str) : Prop := ∃ o, H a = some (.frz o (.tup [.str r.1, .str r.2])) ∧ o.dict = none
theorem Pr.seq {K : PySem.W.Frag} {H : Hp} {a : Addr} {r : Str × Str} (h : Pr H a r) : SqT K H a [.str r.1, .str r.2] := by
  obtain ⟨o, e, _⟩ := h
  exact .inl (.inr ⟨o, e⟩)
theorem Pr.grow {ex : List Addr} {H H' : Hp} {a : Addr} {r : Str × Str} (h : Pr H a r) (g : Grow ex H H') (n : a ∉ ex) : Pr H' a r := by
  obtain ⟨o, e, d⟩ := h
  exact ⟨o, g.keep a _ n e (fun ps z => by cases z), d⟩
/-- where none such stands -/
def NoFrz (ex : List Addr) (H : Hp) : Prop := ∀ b ∈ ex, ∀ o xs, H b ≠ some (.frz o (.tup xs))
theorem noFrz_nil {H : Hp} : NoFrz [] H := fun b h => by cases h
theorem noFrz_lst {H : Hp} {a : Addr} {xs : List V} (h : H a = some (.lst xs)) : NoFrz [a] H := fun b hb o ys e => by
  rw [List.mem_singleton.mp hb, h] at e
  cases e
inductive Prs (H : Hp) : List V → List (Str × Str) → Prop
  | nil : Prs H [] []
  | cons {a : Addr} {r : Str × Str} {xs : List V} {rs : List (Str × Str)} : Pr H a r → Prs H xs rs → Prs H (.ref a :: xs) (r :: rs)
theorem Prs.grow {ex : List Addr} {H H' : Hp} (g : Grow ex H H') (l : NoFrz ex H) : ∀ {xs : List V} {rs : List (Str × Str)}, Prs H xs rs → Prs H' xs rs
  | _, _, .nil => .nil
  | _, _, .cons h t => .cons (h.grow g fun z => by
      obtain ⟨o, e, _⟩ := h
      exact l _ z o _ e) (t.grow g l)
theorem Prs.length {H : Hp} : ∀ {xs : List V} {rs : List (Str × Str)}, Prs H xs rs → xs.length = rs.length
  | _, _, .nil => rfl
  | _, _, .cons _ t => congrArg (· + 1) t.length
theorem Prs.get {H : Hp} : ∀ {xs : List V} {rs : List (Str × Str)} {i : Nat} {x : V}, Prs H xs rs → xs[i]? = some x → ∃ a r, x = .ref a ∧ rs[i]? = some r ∧ Pr H a r
  | _, _, 0, _, .cons h _, e => by
    cases e
    exact ⟨_, _, rfl, rfl, h⟩
  | _, _, i + 1, _, .cons _ t, e => t.get (i := i) e
theorem Prs.app {H : Hp} : ∀ {xs ys : List V} {rs ss : List (Str × Str)}, Prs H xs rs → Prs H ys ss → Prs H (xs ++ ys) (rs ++ ss)
  | _, _, _, _, .nil, q => q
  | _, _, _, _, .cons h t, q => .cons h (t.app q)
theorem Prs.rev {H : Hp} : ∀ {xs : List V} {rs : List (Str × Str)}, Prs H xs rs → Prs H xs.reverse rs.reverse
  | _, _, .nil => .nil
  | _, _, .cons h t => by
    rw [List.reverse_cons, List.reverse_cons]
    exact t.rev.app (.cons h .nil)
theorem Prs.ins {H : Hp} {a : Addr} {r : Str × Str} (q : Pr H a r) : ∀ {xs : List V} {rs : List (Str × Str)} (i : Nat), Prs H xs rs → Prs H (xs.take i ++ [.ref a] ++ xs.drop i) (rs.take i ++ [r] ++ rs.drop i)
  | _, _, 0, h => by
    rw [List.take_zero, List.take_zero, List.drop_zero, List.drop_zero]
    exact .cons q h
  | [], [], i + 1, .nil => .cons q .nil
  | _ :: _, _ :: _, i + 1, .cons h t => .cons h (Prs.ins q i t)
theorem Prs.dp {K : PySem.W.Frag} {H : Hp} : ∀ {xs : List V} {rs : List (Str × Str)}, Prs H xs rs → DpAll K H xs (rs.map encP)
  | _, _, .nil => .nil
  | _, _, .cons h t => .cons (.tup h.seq (.cons (.str _) (.cons (.str _) .nil))) (Prs.dp t)
/-- a list of such pairs -/
def RdT (H : Hp) (a : Addr) (roads : List (Str × Str)) : Prop := ∃ xs, H a = some (.lst xs) ∧ Prs H xs roads
theorem RdT.grow {ex : List Addr} {H H' : Hp} {a : Addr} {roads : List (Str × Str)} (h : RdT H a roads) (g : Grow ex H H') (l : NoFrz ex H) (n : a ∉ ex) : RdT H' a roads := by
  obtain ⟨xs, e, t⟩ := h
  exact ⟨xs, g.lst n e, t.grow g l⟩
theorem RdT.dp {K : PySem.W.Frag} {H : Hp} {a : Addr} {roads : List (Str × Str)} (h : RdT H a roads) : Dp K H (.ref a) (.list (roads.map encP)) := by
  obtain ⟨xs, e, t⟩ := h
  exact .lst (.inl (.inl e)) t.dp
/-- the web stands at W -/
def WebAt (H : Hp) (W : Addr) (hands : List Str) (roads : List (Str × Str)) : Prop := ∃ hs rs, H W = some (.tup [.ref hs, .ref rs]) ∧ H hs = some (.lst (hands.map V.str)) ∧ RdT H rs roads
theorem WebAt.grow {H H' : Hp} {W : Addr} {hands : List Str} {roads : List (Str × Str)} (h : WebAt H W hands roads) (g : Grow [] H H') : WebAt H' W hands roads := by
  obtain ⟨hs, rs, h1, h2, h3⟩ := h
  exact ⟨hs, rs, g.tup (by simp) h1, g.lst (by simp) h2, h3.grow g noFrz_nil (by simp)⟩

/-! ### lists of lists -/
/-- lists that stand at as -/
structure LL (H : Hp) (as : List Addr) (rs : List (List V)) : Prop where
  len : as.length = rs.length
  at_ : ∀ (i : Nat) (a : Addr) (r : List V), as[i]? = some a → rs[i]? = some r → H a = some (.lst r)
theorem LL.grow {ex : List Addr} {H H' : Hp} {as : List Addr} {rs : List (List V)} (h : LL H as rs) (g : Grow ex H H') (n : ∀ a ∈ as, a ∉ ex) : LL H' as rs :=
  ⟨h.len, fun i a r e q => g.lst (n a (List.mem_of_getElem? e)) (h.at_ i a r e q)⟩
theorem LL.grow0 {H H' : Hp} {as : List Addr} {rs : List (List V)} (h : LL H as rs) (g : Grow [] H H') : LL H' as rs := h.grow g fun _ _ => by simp
theorem LL.set {H : Hp} {as : List Addr} {rs : List (List V)} {j : Nat} {a : Addr} {r : List V} (h : LL H as rs) (nd : as.Nodup) (e : as[j]? = some a) : LL (upd H a (.lst r)) as (rs.set j r) := by
  refine ⟨by rw [List.length_set]; exact h.len, fun i b q e1 e2 => ?_⟩
  rw [List.getElem?_set] at e2
  by_cases hij : j = i
  · subst hij
    rw [e] at e1
    cases e1
    rw [if_pos rfl] at e2
    split at e2
    · cases e2
      exact upd_same
    · cases e2
  · rw [if_neg hij] at e2
    have ne : b ≠ a := fun z => hij ((List.getElem?_inj (List.getElem?_eq_some_iff.mp e).1 nd).mp (by rw [e, e1, z]))
    rw [upd_ne ne]
    exact h.at_ i b q e1 e2
theorem LL.push {H : Hp} {as : List Addr} {rs : List (List V)} {a : Addr} {r : List V} (h : LL H as rs) (e : H a = some (.lst r)) : LL H (as ++ [a]) (rs ++ [r]) := by
  refine ⟨by rw [List.length_append, List.length_append, h.len]; rfl, fun i b q e1 e2 => ?_⟩
  by_cases hi : i < as.length
  · rw [List.getElem?_append_left hi] at e1
    rw [List.getElem?_append_left (by rw [← h.len]; exact hi)] at e2
    exact h.at_ i b q e1 e2
  · rw [List.getElem?_append_right (by omega)] at e1
    rw [List.getElem?_append_right (by rw [← h.len]; omega), ← h.len] at e2
    have hz : i - as.length = 0 := by
      have := (List.getElem?_eq_some_iff.mp e1).1
      rw [List.length_singleton] at this
      omega
    rw [hz] at e1 e2
    cases e1
    cases e2
    exact e
theorem LL.dp {K : PySem.W.Frag} {H : Hp} : ∀ {as : List Addr} {rs : List (List Str)}, LL H as (rs.map fun r => r.map V.str) → DpAll K H (as.map V.ref) (rs.map fun r => PyData.list (r.map PyData.str))
  | [], [], _ => .nil
  | [], _ :: _, h => by have := h.len; simp at this
  | _ :: _, [], h => by have := h.len; simp at this
  | a :: as, r :: rs, h => .cons (dp_book (.inl (.inl (h.at_ 0 a _ rfl rfl)))) (LL.dp ⟨Nat.succ.inj h.len, fun i b q e1 e2 => h.at_ (i + 1) b q e1 e2⟩)

end Lw

namespace Lw
open PySem PySem.Spec PyProof.Rows L2 GxR Gx
/-! ### dicts of lists -/
theorem set_map {α : Type} {hs : List Str} (nd : hs.Nodup) {k : Nat} {a : Str} (hk : hs[k]? = some a) {f g : Str → α} (hg : ∀ h ∈ hs, h ≠ a → g h = f h) : (hs.map f).set k (g a) = hs.map g := by
  refine List.ext_getElem? fun j => ?_
  have kl := (List.getElem?_eq_some_iff.mp hk).1
  rw [List.getElem?_set, List.length_map, List.getElem?_map, List.getElem?_map]
  by_cases e : k = j
  · subst e
    rw [if_pos rfl, if_pos kl, hk]
    rfl
  · rw [if_neg e]
    cases hj : hs[j]? with
    | none => rfl
    | some h =>
      have ne : h ≠ a := fun z => e ((List.getElem?_inj kl nd).mp (by rw [hk, hj, z]))
      exact congrArg some (hg h (List.mem_of_getElem? hj) ne).symm
/-- each hand, with where its list stands -/
def kvL (hands : List Str) (as : List Addr) : List (Key × V) := (hands.zip as).map fun p => (Sum.inr p.1, V.ref p.2)
theorem kvL_keys {hands : List Str} {as : List Addr} (h : as.length = hands.length) : (kvL hands as).map Prod.fst = hands.map Sum.inr := by
  unfold kvL
  have e : (hands.zip as).map Prod.fst = hands := List.map_fst_zip (by omega)
  conv => rhs; rw [← e]
  rw [List.map_map, List.map_map]
  rfl
theorem kvL_nd {hands : List Str} {as : List Addr} (h : as.length = hands.length) (nd : hands.Nodup) : ((kvL hands as).map Prod.fst).Nodup := by
  rw [kvL_keys h]
  exact List.pairwise_map.mpr (nd.imp fun q e => q (Sum.inr.inj e))
theorem kvL_get {hands : List Str} {as : List Addr} (h : as.length = hands.length) (nd : hands.Nodup) {k : Nat} {x : Str} {a : Addr} (e1 : hands[k]? = some x) (e2 : as[k]? = some a) : valV (kvL hands as) (.inr x) = some (.ref a) :=
  valV_some (j := k) (kvL_nd h nd) (by
    unfold kvL
    rw [List.getElem?_map, (List.getElem?_zip_eq_some (z := (x, a))).mpr ⟨e1, e2⟩]
    rfl)
theorem kvL_none {hands : List Str} {as : List Addr} (h : as.length = hands.length) {x : Str} (n : x ∉ hands) : valV (kvL hands as) (.inr x) = none := valV_none (by
  rw [kvL_keys h]
  intro z
  obtain ⟨y, hy, e⟩ := List.mem_map.mp z
  cases e
  exact n hy)
theorem kvL_push {hands : List Str} {as : List Addr} (h : as.length = hands.length) (x : Str) (a : Addr) : kvL (hands ++ [x]) (as ++ [a]) = kvL hands as ++ [(Sum.inr x, V.ref a)] := by
  unfold kvL
  rw [List.zip_append (by omega), List.map_append]
  rfl
theorem nbrs_next (roads : List (Str × Str)) (r : Str × Str) (h : Str) : nbrs (roads ++ [r]) h = nbrs roads h ++ ((if r.1 = h then [r.2] else []) ++ (if r.2 = h then [r.1] else [])) := by
  unfold nbrs
  rw [List.flatMap_append]
  simp

/-! ### neighbours_in -/
section
variable {P : Program} {w : World} {K : PySem.W.Frag} {mg : Str → Option Value} {base : Heap}
def spNear (K : PySem.W.Frag) : Sp := fun vs H Q _ => ∃ (W : Addr) (hands : List Str) (roads : List (Str × Str)), vs = [.ref W] ∧ WebAt H W hands roads ∧ hands.Nodup ∧ hands.length ≤ 4000 ∧ roads.length ≤ 4000 ∧ (∀ r ∈ roads, r.1 ∈ hands ∧ r.2 ∈ hands) ∧
  ∀ (D : Addr) (H' : Hp) (as : List Addr), Fresh H D → Grow [] H H' → H' D = some (.dK (kvL hands as)) → as.Nodup → (∀ a ∈ as, Fresh H a ∧ a ≠ D) → LL H' as (hands.map fun h => (nbrs roads h).map V.str) → Q (.ref D) H'
theorem ok_neighbours_in {f c : Addr} {fd : FuncData} (B : Nb mg) (D : DefIs K "neighbours_in" "neighbours_in" st_neighbours_in f fd (.ref c)) : FnG P w K mg base CX0 2 f fd ["web"] (spNear K) := by
  refine D.ok0 (k := 1) sc_neighbours_in (fun vs H Q E h => ?_) (fun A outer s H vs Q E g hr h => ?_)
  · obtain ⟨W, hands, roads, rfl, _⟩ := h
    rfl
  obtain ⟨W, hands, roads, rfl, hW, nd, hl, rl, ends, q⟩ := h
  obtain ⟨hs, rs, eW, eh, er⟩ := id hW
  refine ⟨_,
      (pss_cons (ps_asg (pv 0) (pg_tup rfl (pgs_cons (pg_name (i := 1) sc_neighbours_in.nd rfl (.inl rfl)) (pgs_cons (pg_name (i := 2) sc_neighbours_in.nd rfl (.inl rfl)) pgs_nil))))
      (pss_cons (ps_setDc (n := 3) (own := [("hand", 4)]) (g := (gName 4)) (tt := tYes) rfl sc_neighbours_in.nd rfl rfl (swD_true rfl rfl rfl (by decide +kernel)) (pi_list (pv 1)) (blkOk_by (N := N_neighbours_in) (sc := defScope st_neighbours_in) (by decide +kernel)) (fun _ _ _ _ _ => (pg_name (i := 4) sc_neighbours_in.nd rfl (.inl rfl))) (fun _ _ _ _ _ => pts_nil) (fun _ _ _ _ _ => pe_to (pv 4)) (fun _ _ _ _ _ => pe_to (pe_lst pa_nil)))
      (pss_cons (ps_for PassesOwn.never rfl (pi_list (pv 2)) (pg_tup rfl (pgs_cons (pg_name (i := 5) sc_neighbours_in.nd rfl (.inl rfl)) (pgs_cons (pg_name (i := 6) sc_neighbours_in.nd rfl (.inl rfl)) pgs_nil))) (
        (pss_cons (ps_expr (pe_bm PySem.F.plainAttrs_list PySem.F.slot_list_append PySem.F.type_list_append mt_append (pe_dget (hu_of hr) (pv 3) (pv 5) (fun _ _ => rfl)) (pa_cons (pv 6) pa_nil)))
        (pss_one (ps_expr (pe_bm PySem.F.plainAttrs_list PySem.F.slot_list_append PySem.F.type_list_append mt_append (pe_dget (hu_of hr) (pv 3) (pv 6) (fun _ _ => rfl)) (pa_cons (pv 5) pa_nil)))))))
      (pss_one (ps_ret (pv 3)))))), ?_⟩
  refine ⟨.ref W, rfl, W, _, rfl, .inl (.inl eW), rfl, _, _, rfl, _, _, rfl, rfl, ?_⟩
  refine ⟨.ref hs, rfl, hs, rfl, ⟨_, .inl (.inl eh)⟩, fun D1 n1 => ?_⟩
  have fD : Fresh H D1 := fresh_none n1
  refine dc_it (walk_list (xs := hands.map V.str)) (fun j H' => Grow [] H H' ∧ ∃ as : List Addr, as.length = (hands.take j).length ∧ H' D1 = some (.dK (kvL (hands.take j) as)) ∧ as.Nodup ∧ ∀ a ∈ as, Fresh H a ∧ a ≠ D1 ∧ H' a = some (.lst [])) ⟨grow_new n1, [], rfl, upd_same, List.nodup_nil, fun a h => by cases h⟩
    (fun j H' _ h => .inl (.inl (h.1.lst (by simp) eh))) (fun j x H2 H3 hj hp hy => ?_) (fun H2 hp => ?_)
  · obtain ⟨gj, as, la, eD, nda, ha⟩ := hp
    obtain ⟨rfl, ex⟩ := hy
    rw [List.length_map] at hj
    rw [List.getElem?_map, List.getElem?_eq_getElem hj] at ex
    cases ex
    have tk : hands.take (j + 1) = hands.take j ++ [hands[j]] := by rw [List.take_add_one, List.getElem?_eq_getElem hj]; rfl
    refine ⟨rfl, yes_if ⟨.str _, rfl, by show 0 ≤ sizeLine; decide, fun p np => ?_⟩⟩
    have eD2 : upd H3 p (.lst []) D1 = some (.dK (kvL (hands.take j) as)) := by rw [upd_ne (ne_of_none eD np)]; exact eD
    have pD : p ≠ D1 := (ne_of_none eD np).symm
    have pa : p ∉ as := fun h => by
      have e := (ha p h).2.2
      rw [np] at e
      cases e
    have new : hands[j] ∉ hands.take j := fun h => by
      obtain ⟨i, hi⟩ := List.mem_iff_getElem?.mp h
      rw [List.getElem?_take] at hi
      by_cases hij : i < j
      · rw [if_pos hij] at hi
        have := (List.getElem?_inj (List.getElem?_eq_some_iff.mp hi).1 nd).mp (hi.trans (List.getElem?_eq_getElem hj).symm)
        omega
      · rw [if_neg hij] at hi
        cases hi
    refine ⟨_, .inr hands[j], rfl, eD2, ?_, (gj.new np).put fD eD2 (fun ps z => by cases z), as ++ [p], ?_, ?_, ?_, fun a h => ?_⟩
    · unfold kvL
      rw [List.length_map, List.length_zip, List.length_take]
      unfold sizeLine
      omega
    · rw [tk, List.length_append, List.length_append, la]
      rfl
    · rw [upd_same, putK_new _ (kvL_none la new), tk, kvL_push la]
    · rw [List.nodup_append]
      refine ⟨nda, by simp, fun a h b hb e => ?_⟩
      rw [List.mem_singleton.mp hb] at e
      exact pa (e ▸ h)
    · rcases List.mem_append.mp h with h | h
      · obtain ⟨h1, h2, h3⟩ := ha a h
        exact ⟨h1, h2, by rw [upd_ne h2, upd_ne (ne_of_none h3 np)]; exact h3⟩
      · rw [List.mem_singleton.mp h]
        exact ⟨gj.fresh0 np, pD, by rw [upd_ne pD]; exact upd_same⟩
  obtain ⟨g2, as, la, eD, nda, ha⟩ := hp
  rw [List.length_map, List.take_length] at la eD
  have hL : LL H2 as (hands.map fun h => (nbrs (roads.take 0) h).map V.str) := by
    refine ⟨by rw [la, List.length_map], fun i a r e1 e2 => ?_⟩
    rw [(ha a (List.mem_of_getElem? e1)).2.2]
    obtain ⟨h, _, rfl⟩ := List.mem_map.mp (List.mem_of_getElem? e2)
    rfl
  obtain ⟨xs, ex0, tx⟩ := id er
  have lx : xs.length = roads.length := tx.length
  refine ⟨.ref rs, rfl, rs, rfl, ⟨_, .inl (.inl (g2.lst (by simp) ex0))⟩, ?_⟩
  refine for_it (walk_list (xs := xs)) (fun i σ H' => ∃ a b c : Option V, σ = [some (.ref W), some (.ref hs), some (.ref rs), some (.ref D1), none, b, c] ∧ Grow [] H H' ∧ H' D1 = some (.dK (kvL hands as)) ∧ LL H' as (hands.map fun h => (nbrs (roads.take i) h).map V.str))
    ⟨none, _, _, rfl, g2, eD, hL⟩ (fun i σ H' _ h => by
      obtain ⟨_, _, _, _, g, _⟩ := h
      exact .inl (.inl (g.lst (by simp) ex0))) (fun i x σ H3 H4 hi hp hy => ?_) (fun σ H3 hp => ?_)
  · obtain ⟨a0, b0, c0, rfl, gr, eD3, hL3⟩ := hp
    obtain ⟨rfl, ex⟩ := hy
    obtain ⟨p, r, rfl, ep, hp0⟩ := tx.get ex
    have hp := hp0.grow gr (by simp)
    obtain ⟨m1, m2⟩ := ends r (List.mem_of_getElem? ep)
    obtain ⟨k1, hk1⟩ := List.mem_iff_getElem?.mp m1
    obtain ⟨k2, hk2⟩ := List.mem_iff_getElem?.mp m2
    have l1 := (List.getElem?_eq_some_iff.mp hk1).1
    have l2 := (List.getElem?_eq_some_iff.mp hk2).1
    have ea1 : as[k1]? = some (as[k1]'(by omega)) := List.getElem?_eq_getElem (by omega)
    have ea2 : as[k2]? = some (as[k2]'(by omega)) := List.getElem?_eq_getElem (by omega)
    obtain ⟨a1, ha1⟩ : ∃ a, as[k1]'(by omega) = a := ⟨_, rfl⟩
    obtain ⟨a2, ha2⟩ : ∃ a, as[k2]'(by omega) = a := ⟨_, rfl⟩
    rw [ha1] at ea1
    rw [ha2] at ea2
    have fa1 := ha a1 (List.mem_of_getElem? ea1)
    have fa2 := ha a2 (List.mem_of_getElem? ea2)
    have tk : roads.take (i + 1) = roads.take i ++ [r] := by rw [List.take_add_one, ep]; rfl
    have nl : ∀ h, (nbrs (roads.take i) h).length ≤ 8000 := fun h => by
      have h1 := nbrs_len (roads.take i) h
      rw [List.length_take] at h1
      omega
    have eA1 := hL3.at_ k1 a1 _ ea1 (by rw [List.getElem?_map, hk1]; rfl)
    refine ⟨p, _, rfl, hp.seq, rfl, _, _, rfl, _, _, rfl, rfl, ?_⟩
    refine ⟨.ref D1, rfl, .str r.1, rfl, D1, _, rfl, by rw [← kvL_get la nd hk1 ea1]; exact DGet.k (k := .inr r.1) eD3, tyl eA1, .str r.2, rfl, a1, _, _, rfl, rfl, eA1, by rw [List.length_map]; have := nl r.1; unfold sizeLine; omega, ?_⟩
    have g5 := gr.put (o := .lst ((nbrs (roads.take i) r.1).map V.str ++ [.str r.2])) fa1.1 eA1 (fun ps z => by cases z)
    have eD5 : upd H4 a1 (.lst ((nbrs (roads.take i) r.1).map V.str ++ [.str r.2])) D1 = some (.dK (kvL hands as)) := by rw [upd_ne fa1.2.1.symm]; exact eD3
    have hL5 : LL (upd H4 a1 (.lst ((nbrs (roads.take i) r.1).map V.str ++ [.str r.2]))) as (hands.map fun h => (nbrs (roads.take i) h ++ (if r.1 = h then [r.2] else [])).map V.str) := by
      have e := set_map nd hk1 (f := fun h => (nbrs (roads.take i) h).map V.str) (g := fun h => (nbrs (roads.take i) h ++ (if r.1 = h then [r.2] else [])).map V.str) fun h _ ne => by
        show (nbrs (roads.take i) h ++ (if r.1 = h then [r.2] else [])).map V.str = _
        rw [if_neg fun z => ne z.symm, List.append_nil]
      rw [← e]
      have := hL3.set (r := (nbrs (roads.take i) r.1 ++ (if r.1 = r.1 then [r.2] else [])).map V.str) nda ea1
      rw [if_pos rfl, List.map_append] at this
      rw [if_pos rfl, List.map_append]
      exact this
    have eA2 := hL5.at_ k2 a2 _ ea2 (by rw [List.getElem?_map, hk2]; rfl)
    refine ⟨.ref D1, rfl, .str r.2, rfl, D1, _, rfl, by rw [← kvL_get la nd hk2 ea2]; exact DGet.k (k := .inr r.2) eD5, tyl eA2, .str r.1, rfl, a2, _, _, rfl, rfl, eA2, ?_, ?_⟩
    · rw [List.length_map, List.length_append]
      have h1 : (if r.1 = r.2 then [r.2] else []).length ≤ 1 := by split <;> simp
      have := nl r.2
      unfold sizeLine
      omega
    · refine ⟨none, _, _, rfl, g5.put fa2.1 eA2 (fun ps z => by cases z), by rw [upd_ne fa2.2.1.symm]; exact eD5, ?_⟩
      have e := set_map nd hk2 (f := fun h => (nbrs (roads.take i) h ++ (if r.1 = h then [r.2] else [])).map V.str) (g := fun h => (nbrs (roads.take (i + 1)) h).map V.str) fun h _ ne => by
        show (nbrs (roads.take (i + 1)) h).map V.str = _
        rw [tk, nbrs_next, if_neg (t := [r.1]) fun z => ne z.symm, List.append_nil]
      rw [← e]
      have := hL5.set (r := (nbrs (roads.take (i + 1)) r.2).map V.str) nda ea2
      rw [tk, nbrs_next, ← List.append_assoc, if_pos (t := [r.1]) rfl, List.map_append] at this
      rw [tk, nbrs_next, ← List.append_assoc, if_pos (t := [r.1]) rfl, List.map_append]
      exact this
  · obtain ⟨a0, b0, c0, rfl, gr, eD3, hL3⟩ := hp
    rw [lx, List.take_length] at hL3
    exact ⟨.ref D1, rfl, q D1 H3 as fD gr eD3 nda (fun a h => ⟨(ha a h).1, (ha a h).2.1⟩) hL3⟩
end

end Lw

namespace Lw
open PySem PySem.Spec PyProof.Rows L2 GxR Gx
/-! ### hands with those ahead of them -/
def optV : Option Str → V
  | none => .non
  | some z => .str z
def kvO (ks : List (Str × Option Str)) : List (Key × V) := ks.map fun p => (Sum.inr p.1, optV p.2)
theorem kvO_keys (ks : List (Str × Option Str)) : (kvO ks).map Prod.fst = (ks.map Prod.fst).map Sum.inr := by
  unfold kvO
  rw [List.map_map, List.map_map]
  rfl
theorem kvO_none {ks : List (Str × Option Str)} {x : Str} (n : x ∉ ks.map Prod.fst) : valV (kvO ks) (.inr x) = none := valV_none (by
  rw [kvO_keys]
  intro z
  obtain ⟨y, hy, e⟩ := List.mem_map.mp z
  cases e
  exact n hy)
theorem kvO_some {ks : List (Str × Option Str)} (nd : (ks.map Prod.fst).Nodup) {j : Nat} {x : Str} {v : Option Str} (e : ks[j]? = some (x, v)) : valV (kvO ks) (.inr x) = some (optV v) :=
  valV_some (j := j) (by rw [kvO_keys]; exact List.pairwise_map.mpr (nd.imp fun q e => q (Sum.inr.inj e))) (by unfold kvO; rw [List.getElem?_map, e]; rfl)
theorem kvO_is {ks : List (Str × Option Str)} (nd : (ks.map Prod.fst).Nodup) (x : Str) : (valV (kvO ks) (.inr x)).isSome = decide (x ∈ ks.map Prod.fst) := by
  by_cases h : x ∈ ks.map Prod.fst
  · obtain ⟨⟨y, v⟩, hy, rfl⟩ := List.mem_map.mp h
    obtain ⟨j, hj⟩ := List.mem_iff_getElem?.mp hy
    rw [kvO_some nd hj, decide_eq_true h]
    rfl
  · rw [kvO_none h, decide_eq_false h]
    rfl
theorem AheadOk.start_ {hands : List Str} {roads : List (Str × Str)} {start : Str} {barred : Option Str} (h : start ∈ hands) : AheadOk hands roads start barred [(start, none)] := by
  refine ⟨by simp, rfl, fun j x v e => ?_⟩
  cases j with
  | zero =>
    cases e
    exact ⟨h, .inl rfl⟩
  | succ j => cases e
theorem AheadOk.push {hands : List Str} {roads : List (Str × Str)} {start : Str} {barred : Option Str} {ks : List (Str × Option Str)} {x p : Str} (K : AheadOk hands roads start barred ks) (n : x ∉ ks.map Prod.fst) (hx : x ∈ hands) (nb : some x ≠ barred)
    (hp : p ∈ ks.map Prod.fst) (ad : Adj roads p x) : AheadOk hands roads start barred (ks ++ [(x, some p)]) := by
  have hl : 0 < ks.length := (List.getElem?_eq_some_iff.mp K.first).1
  refine ⟨?_, by rw [List.getElem?_append_left hl]; exact K.first, fun j h v e => ?_⟩
  · rw [List.map_append, List.nodup_append]
    refine ⟨K.nd, by simp, fun a ha b hb e => ?_⟩
    have hb' : b = x := by simpa using hb
    rw [← hb', ← e] at n
    exact n ha
  · by_cases hj : j < ks.length
    · rw [List.getElem?_append_left hj] at e
      obtain ⟨h1, h2⟩ := K.each j h v e
      refine ⟨h1, ?_⟩
      rcases h2 with h2 | ⟨h2, p', i, w, h3, h4, h5, h6⟩
      · exact .inl h2
      · exact .inr ⟨h2, p', i, w, h3, h4, h5, by rw [List.getElem?_append_left (by omega)]; exact h6⟩
    · have ej : j = ks.length := by
        have := (List.getElem?_eq_some_iff.mp e).1
        rw [List.length_append, List.length_singleton] at this
        omega
      subst ej
      rw [List.getElem?_append_right (Nat.le_refl _), Nat.sub_self] at e
      cases e
      obtain ⟨⟨y, w⟩, hy, rfl⟩ := List.mem_map.mp hp
      obtain ⟨i, hi⟩ := List.mem_iff_getElem?.mp hy
      have il := (List.getElem?_eq_some_iff.mp hi).1
      exact ⟨hx, .inr ⟨nb, y, i, w, rfl, ad, il, by rw [List.getElem?_append_left il]; exact hi⟩⟩
theorem AheadOk.len {hands : List Str} {roads : List (Str × Str)} {start : Str} {barred : Option Str} {ks : List (Str × Option Str)} (K : AheadOk hands roads start barred ks) : ks.length ≤ hands.length := by
  have h : (ks.map Prod.fst).length ≤ hands.length := K.nd.length_le_of_subset fun x hx => by
    obtain ⟨⟨y, v⟩, hy, rfl⟩ := List.mem_map.mp hx
    obtain ⟨j, hj⟩ := List.mem_iff_getElem?.mp hy
    exact (K.each j y v hj).1
  rwa [List.length_map] at h
theorem AheadOk.all {hands : List Str} {roads : List (Str × Str)} {start : Str} {ks : List (Str × Option Str)} {d : Str → Nat} (K : AheadOk hands roads start none ks) (cl : ∀ k ∈ ks.map Prod.fst, ∀ q, Adj roads k q → some q ≠ none → q ∈ ks.map Prod.fst) (R : Rooted hands roads start d)
    (ends : ∀ a b, Adj roads a b → a ∈ hands ∧ b ∈ hands) : ∀ (n : Nat) (h : Str), h ∈ hands → d h ≤ n → h ∈ ks.map Prod.fst
  | n, h, hh, hd => by
    by_cases e : h = start
    · rw [e]
      exact List.mem_map.mpr ⟨_, List.mem_of_getElem? K.first, rfl⟩
    · obtain ⟨p, hp, dp⟩ := R.up h hh e
      cases n with
      | zero => omega
      | succ n => exact cl p (AheadOk.all K cl R ends n p (ends h p hp).2 (by omega)) h hp.symm (fun z => by cases z)
theorem AheadOk.whole {hands : List Str} {roads : List (Str × Str)} {start : Str} {ks : List (Str × Option Str)} (w : WebOk hands roads) (hs : start ∈ hands) (K : AheadOk hands roads start none ks)
    (cl : ∀ k ∈ ks.map Prod.fst, ∀ q, Adj roads k q → some q ≠ none → q ∈ ks.map Prod.fst) : ks.length = hands.length := by
  obtain ⟨d, R⟩ := w.tree start hs
  have h1 : hands.length ≤ (ks.map Prod.fst).length := w.nd.length_le_of_subset fun h hh => K.all cl R (fun a b => w.adj) _ h hh (Nat.le_refl _)
  have h2 := K.len
  rw [List.length_map] at h1
  omega

/-! ### hands_ahead -/
section
variable {P : Program} {w : World} {K : PySem.W.Frag} {mg : Str → Option Value} {base : Heap}
def spAhead (K : PySem.W.Frag) : Sp := fun vs H Q _ => ∃ (W : Addr) (hands : List Str) (roads : List (Str × Str)) (start : Str) (barred : Option Str), vs = [.ref W, .str start, optV barred] ∧ WebAt H W hands roads ∧ hands.Nodup ∧ hands.length ≤ 4000 ∧ roads.length ≤ 4000 ∧ (∀ r ∈ roads, r.1 ∈ hands ∧ r.2 ∈ hands) ∧ start ∈ hands ∧
  ∀ (D : Addr) (H' : Hp) (ks : List (Str × Option Str)), Fresh H D → Grow [] H H' → H' D = some (.dK (kvO ks)) → AheadOk hands roads start barred ks → (∀ k ∈ ks.map Prod.fst, ∀ q, Adj roads k q → some q ≠ barred → q ∈ ks.map Prod.fst) → Q (.ref D) H'
theorem ok_hands_ahead {f c : Addr} {fd : FuncData} (B : Nb mg) (D : DefIs K "hands_ahead" "hands_ahead" st_hands_ahead f fd (.ref c))
    (c_neighbours_in : Callee P w K mg base CX0 2 "neighbours_in" ["web"] (spNear K)) : FnG P w K mg base CX0 3 f fd ["web", "start", "barred"] (spAhead K) := by
  refine D.ok0 (k := 2) sc_hands_ahead (fun vs H Q E h => ?_) (fun A outer s H vs Q E g hr h => ?_)
  · obtain ⟨W, hands, roads, start, barred, rfl, _⟩ := h
    rfl
  obtain ⟨W, hands, roads, start, barred, rfl, hW, nd, hl, rl, ends, hst, q⟩ := h
  refine ⟨_,
      (pss_cons (ps_set (i := 3) sc_hands_ahead.nd rfl (.inl rfl) (pe_g c_neighbours_in g (hr.mono (by decide)) pass0 (pa_cons (pv 0) pa_nil)))
      (pss_cons (ps_set (i := 4) sc_hands_ahead.nd rfl (.inl rfl) (pe_disp (pps_cons (pv 1) pe_non pps_nil) rfl rfl (List.cons_ne_nil _ _) (by decide)))
      (pss_cons (ps_set (i := 5) sc_hands_ahead.nd rfl (.inl rfl) (pe_lst (pa_cons (pv 1) pa_nil)))
      (pss_cons (ps_while PassesOwn.never (pt_truth (pv 5) (fun _ => rfl)) (
        (pss_cons (ps_set (i := 6) sc_hands_ahead.nd rfl (.inl rfl) (pe_bm0 PySem.F.plainAttrs_list PySem.F.slot_list_pop PySem.F.type_list_pop mt_pop (pv 5)))
        (pss_one (ps_for PassesOwn.never rfl (pi_list (pe_dget (hu_of hr) (pv 3) (pv 6) (fun _ _ => rfl))) (pg_name (i := 7) sc_hands_ahead.nd rfl (.inl rfl)) (
          (pss_one (ps_if (PW.pt (pw_and (pt_cmp (pc_dnotin (hu_of hr) (pv 7) (pv 4))) (pw_and1 (pt_cmpR (op_ne) (pv 7) (pv 2) (nomark _))))) (
            (pss_cons (ps_asg (pv 6) (pg_sub (pv 4) (pv 7) (set_dict (hu_of hr))))
            (pss_one (ps_expr (pe_bm PySem.F.plainAttrs_list PySem.F.slot_list_append PySem.F.type_list_append mt_append (pv 5) (pa_cons (pv 7) pa_nil)))))) pss_nil))))))))
      (pss_one (ps_ret (pv 4))))))), ?_⟩
  refine ⟨.ref W, rfl, W, hands, roads, rfl, hW, nd, hl, rl, ends, fun Nr H1 as fN g1 eN nda ha hL => ?_⟩
  refine fun A0 nA => ⟨.str start, rfl, upd_same, [(.inr start, .non)], rfl, by simp, ⟨.str start, rfl, by show 1 ≤ sizeLine; decide, fun W0 nW => ?_⟩⟩
  have eM : mergeK [] [((Sum.inr start : Key), V.non)] = kvO [(start, none)] := rfl
  rw [eM] at nW ⊢
  have fA : Fresh H1 A0 := fresh_none nA
  have gA : Grow [] H1 (upd (upd H1 A0 (.dK [])) A0 (.dK (kvO [(start, none)]))) := (grow_new nA).put fA upd_same (fun ps z => by cases z)
  have fW : Fresh H1 W0 := gA.fresh0 nW
  have WA : W0 ≠ A0 := fun z => by
    rw [z, upd_same] at nW
    cases nW
  have gW := gA.new (o := .lst [.str start]) nW
  have eA : upd (upd (upd H1 A0 (.dK [])) A0 (.dK (kvO [(start, none)]))) W0 (.lst [.str start]) A0 = some (.dK (kvO [(start, none)])) := by rw [upd_ne WA.symm]; exact upd_same
  have la : as.length = hands.length := by rw [hL.len, List.length_map]
  refine ⟨fun n σ H' => ∃ (ks : List (Str × Option Str)) (wl : List Str) (a b : Option V), n = 2 * (hands.length - ks.length) + wl.length ∧ σ = [some (.ref W), some (.str start), some (optV barred), some (.ref Nr), some (.ref A0), some (.ref W0), a, b] ∧ Grow [] H1 H' ∧ H' A0 = some (.dK (kvO ks)) ∧ H' W0 = some (.lst (wl.map V.str)) ∧
      AheadOk hands roads start barred ks ∧ wl.length ≤ ks.length ∧ (∀ x ∈ wl, x ∈ ks.map Prod.fst) ∧ (∀ k ∈ ks.map Prod.fst, k ∉ wl → ∀ y, Adj roads k y → some y ≠ barred → y ∈ ks.map Prod.fst),
    ⟨_, [(start, none)], [start], none, none, rfl, rfl, gW, eA, upd_same, AheadOk.start_ hst, Nat.le_refl _, fun x hx => by simpa using hx, fun k hk hn => absurd (by simpa using hk) (by simpa using hn)⟩, fun n σ H' hw => ?_⟩
  obtain ⟨ks, wl, a0, b0, rfl, rfl, gr, eA, eW, ok, wk, sub, cl⟩ := hw
  refine ⟨.ref W0, rfl, !wl.isEmpty, .inl ⟨_, .inl (.inl eW), by cases wl <;> rfl⟩, ?_⟩
  cases hwl : wl with
  | nil =>
    subst hwl
    exact iteF ⟨.ref A0, rfl, q A0 H' ks (g1.fresh (by simp) fA) (g1.trans gr) eA ok fun k hk => cl k hk (by simp)⟩
  | cons w0 ws0 =>
    have hne : wl ≠ [] := by rw [hwl]; simp
    rw [← hwl]
    obtain ⟨wp, hand, hwp⟩ : ∃ wp hand, wl = wp ++ [hand] := ⟨_, _, (List.dropLast_concat_getLast hne).symm⟩
    clear hwl w0 ws0
    subst hwp
    have hk : hand ∈ ks.map Prod.fst := sub hand (by simp)
    have hh : hand ∈ hands := by
      obtain ⟨⟨y, v⟩, hy, rfl⟩ := List.mem_map.mp hk
      obtain ⟨j, hj⟩ := List.mem_iff_getElem?.mp hy
      exact (ok.each j y v hj).1
    have kl := ok.len
    have et : (!(wp ++ [hand]).isEmpty) = true := by cases wp <;> rfl
    rw [et]
    refine iteT ⟨fun σ' H2 => ∃ (ks2 : List (Str × Option Str)) (wl2 : List Str) (a b : Option V), 2 * (hands.length - ks2.length) + wl2.length < 2 * (hands.length - ks.length) + (wp ++ [hand]).length ∧ σ' = [some (.ref W), some (.str start), some (optV barred), some (.ref Nr), some (.ref A0), some (.ref W0), a, b] ∧ Grow [] H1 H2 ∧ H2 A0 = some (.dK (kvO ks2)) ∧ H2 W0 = some (.lst (wl2.map V.str)) ∧
        AheadOk hands roads start barred ks2 ∧ wl2.length ≤ ks2.length ∧ (∀ x ∈ wl2, x ∈ ks2.map Prod.fst) ∧ (∀ k ∈ ks2.map Prod.fst, k ∉ wl2 → ∀ y, Adj roads k y → some y ≠ barred → y ∈ ks2.map Prod.fst),
      fun σ' H2 h2 => ?_, ?_⟩
    · obtain ⟨ks2, wl2, a, b, l1, r2⟩ := h2
      exact ⟨_, l1, ks2, wl2, a, b, rfl, r2⟩
    have edl : ((wp ++ [hand]).map V.str).dropLast = wp.map V.str := by rw [List.map_append]; exact List.dropLast_concat
    refine ⟨.ref W0, rfl, tyl eW, W0, _, .str hand, rfl, rfl, eW, by simp, ?_⟩
    rw [edl]
    have g2 := gr.put (o := .lst (wp.map V.str)) fW eW (fun ps z => by cases z)
    have eA2 : upd H' W0 (.lst (wp.map V.str)) A0 = some (.dK (kvO ks)) := by rw [upd_ne WA.symm]; exact eA
    have eN2 : upd H' W0 (.lst (wp.map V.str)) Nr = some (.dK (kvL hands as)) := g2.keep Nr _ (by simp) eN fun ps z => by cases z
    obtain ⟨k1, hk1⟩ := List.mem_iff_getElem?.mp hh
    have l1 := (List.getElem?_eq_some_iff.mp hk1).1
    have ea1 : as[k1]? = some (as[k1]'(by omega)) := List.getElem?_eq_getElem (by omega)
    obtain ⟨a1, ha1⟩ : ∃ a, as[k1]'(by omega) = a := ⟨_, rfl⟩
    rw [ha1] at ea1
    have eA1 : H1 a1 = some (.lst ((nbrs roads hand).map V.str)) := hL.at_ k1 a1 _ ea1 (by rw [List.getElem?_map, hk1]; rfl)
    refine ⟨.ref Nr, rfl, .str hand, rfl, Nr, _, rfl, by rw [← kvL_get la nd hk1 ea1]; exact DGet.k (k := .inr hand) eN2, a1, rfl, ⟨_, .inl (.inl (g2.lst (by simp) eA1))⟩, ?_⟩
    refine for_it (walk_list (xs := (nbrs roads hand).map V.str)) (fun j σ H2 => ∃ (ks2 : List (Str × Option Str)) (wl2 : List Str) (b : Option V), 2 * (hands.length - ks2.length) + wl2.length < 2 * (hands.length - ks.length) + (wp ++ [hand]).length ∧ σ = [some (.ref W), some (.str start), some (optV barred), some (.ref Nr), some (.ref A0), some (.ref W0), some (.str hand), b] ∧ Grow [] H1 H2 ∧ H2 A0 = some (.dK (kvO ks2)) ∧ H2 W0 = some (.lst (wl2.map V.str)) ∧
        AheadOk hands roads start barred ks2 ∧ wl2.length ≤ ks2.length ∧ hand ∈ ks2.map Prod.fst ∧ (∀ x ∈ wl2, x ∈ ks2.map Prod.fst) ∧ (∀ k ∈ ks2.map Prod.fst, k ∉ wl2 → k ≠ hand → ∀ y, Adj roads k y → some y ≠ barred → y ∈ ks2.map Prod.fst) ∧ ∀ y ∈ (nbrs roads hand).take j, some y ≠ barred → y ∈ ks2.map Prod.fst)
      ⟨ks, wp, _, by rw [List.length_append]; show _ < _ + (wp.length + 1); omega, rfl, g2, eA2, upd_same, ok, by rw [List.length_append, List.length_singleton] at wk; omega, hk, fun x hx => sub x (List.mem_append_left _ hx), fun k hk hn ne => cl k hk (by simp [hn, ne]), fun y hy => by rw [List.take_zero] at hy; cases hy⟩
      (fun j σ H2 _ h => by
        obtain ⟨_, _, _, _, _, g, _⟩ := h
        exact .inl (.inl (g.lst (by simp) eA1))) (fun j x σ H2 H3 hj hp hy => ?_) (fun σ H2 hp => ?_)
    · obtain ⟨ks2, wl2, b1, lt, rfl, gr2, eA3, eW3, ok2, wk2, hk2, sub2, cl2, did⟩ := hp
      obtain ⟨rfl, ex⟩ := hy
      rw [List.length_map] at hj
      rw [List.getElem?_map, List.getElem?_eq_getElem hj] at ex
      cases ex
      obtain ⟨y, hy⟩ : ∃ y, (nbrs roads hand)[j] = y := ⟨_, rfl⟩
      have ey : (nbrs roads hand)[j]? = some y := by rw [List.getElem?_eq_getElem hj, hy]
      rw [hy]
      have ad : Adj roads hand y := mem_nbrs.mp (List.mem_of_getElem? ey)
      have yh : y ∈ hands := by
        rcases ad with h | h
        · exact (ends _ h).2
        · exact (ends _ h).1
      have tk : (nbrs roads hand).take (j + 1) = (nbrs roads hand).take j ++ [y] := by rw [List.take_add_one, ey]; rfl
      have skip : (some y ≠ barred → y ∈ ks2.map Prod.fst) → ∀ z ∈ (nbrs roads hand).take (j + 1), some z ≠ barred → z ∈ ks2.map Prod.fst := fun h z hz nb => by
        rw [tk] at hz
        rcases List.mem_append.mp hz with hz | hz
        · exact did z hz nb
        · rw [List.mem_singleton.mp hz] at nb ⊢
          exact h nb
      have esc : scal (V.str y) (optV barred) = true := by cases barred <;> rfl
      refine ⟨.str y, rfl, .ref A0, rfl, A0, _, rfl, DGet.k (k := .inr y) eA3, _, rfl, ?_⟩
      rw [kvO_is ok2.nd]
      by_cases hin : y ∈ ks2.map Prod.fst
      · rw [decide_eq_true hin]
        exact iteF (iteF ⟨ks2, wl2, _, lt, rfl, gr2, eA3, eW3, ok2, wk2, hk2, sub2, cl2, skip fun _ => hin⟩)
      · rw [decide_eq_false hin]
        refine iteT ⟨.str y, rfl, optV barred, rfl, esc, _, rfl, ite2 (fun hb => ?_) fun hb => ?_⟩
        · have nb : some y ≠ barred := fun z => by
            rw [← z] at hb
            have : decide (V.str y = optV (some y)) = true := decide_eq_true rfl
            rw [this] at hb
            cases hb
          refine ⟨.str hand, rfl, .ref A0, rfl, .str y, rfl, A0, _, rfl, .inl ⟨_, .inr y, eA3, rfl, ?_, rfl⟩, ?_⟩
          · unfold kvO
            rw [List.length_map]
            have := ok2.len
            unfold sizeLine
            omega
          have eP : putK (kvO ks2) (.inr y) (V.str hand) = kvO (ks2 ++ [(y, some hand)]) := by
            rw [putK_new _ (kvO_none hin)]
            unfold kvO
            rw [List.map_append]
            rfl
          rw [eP]
          have g4 := gr2.put (o := .dK (kvO (ks2 ++ [(y, some hand)]))) fA eA3 (fun ps z => by cases z)
          have eW4 : upd H3 A0 (.dK (kvO (ks2 ++ [(y, some hand)]))) W0 = some (.lst (wl2.map V.str)) := by rw [upd_ne WA]; exact eW3
          have ok3 := ok2.push hin yh nb hk2 ad
          have kl3 := ok3.len
          rw [List.length_append, List.length_singleton] at kl3
          have mono : ∀ z, z ∈ ks2.map Prod.fst → z ∈ (ks2 ++ [(y, some hand)]).map Prod.fst := fun z hz => by rw [List.map_append]; exact List.mem_append_left _ hz
          have ynew : y ∈ (ks2 ++ [(y, some hand)]).map Prod.fst := by rw [List.map_append]; simp
          have wl3 : wl2.length ≤ 4000 := by
            have := ok2.len
            omega
          refine ⟨.ref W0, rfl, tyl eW4, .str y, rfl, W0, _, _, rfl, rfl, eW4, by rw [List.length_map]; unfold sizeLine; omega, ks2 ++ [(y, some hand)], wl2 ++ [y], _, ?_, rfl, g4.put fW eW4 (fun ps z => by cases z), ?_, ?_, ok3, by rw [List.length_append, List.length_append, List.length_singleton, List.length_singleton]; omega, mono _ hk2, ?_, ?_, ?_⟩
          · rw [List.length_append, List.length_append, List.length_singleton, List.length_singleton]
            omega
          · rw [upd_ne WA.symm]
            exact upd_same
          · rw [upd_same, List.map_append]
            rfl
          · intro x hx
            rcases List.mem_append.mp hx with hx | hx
            · exact mono x (sub2 x hx)
            · rw [List.mem_singleton.mp hx]
              exact ynew
          · intro k hk hn ne z az nbz
            rw [List.map_append] at hk
            rcases List.mem_append.mp hk with hk | hk
            · exact mono z (cl2 k hk (fun h => hn (List.mem_append_left _ h)) ne z az nbz)
            · have ek : k = y := by simpa using hk
              exact absurd (by rw [ek]; simp) hn
          · intro z hz nbz
            rw [tk] at hz
            rcases List.mem_append.mp hz with hz | hz
            · exact mono z (did z hz nbz)
            · rw [List.mem_singleton.mp hz]
              exact ynew
        · have eb : some y = barred := by
            cases barred with
            | none =>
              have : decide (V.str y = optV none) = false := decide_eq_false fun z => by cases z
              rw [this] at hb
              exact absurd rfl hb
            | some b =>
              by_cases e : y = b
              · rw [e]
              · have : decide (V.str y = optV (some b)) = false := decide_eq_false fun z => e (V.str.inj z)
                rw [this] at hb
                exact absurd rfl hb
          exact ⟨ks2, wl2, _, lt, rfl, gr2, eA3, eW3, ok2, wk2, hk2, sub2, cl2, skip fun n => absurd eb n⟩
    · obtain ⟨ks2, wl2, b1, lt, rfl, gr2, eA3, eW3, ok2, wk2, hk2, sub2, cl2, did⟩ := hp
      rw [List.length_map, List.take_length] at did
      refine ⟨ks2, wl2, _, _, lt, rfl, gr2, eA3, eW3, ok2, wk2, sub2, fun k hk hn y ay nb => ?_⟩
      by_cases e : k = hand
      · rw [e] at ay
        exact did y (mem_nbrs.mpr ay) nb
      · exact cl2 k hk hn e y ay nb
end

end Lw

namespace Lw
open PySem PySem.Spec PyProof.Rows L2 GxR Gx
/-! ### is_web -/
def kvT (hands : List Str) : List (Key × V) := hands.map fun h => (Sum.inr h, V.bl true)
theorem kvT_keys (hands : List Str) : (kvT hands).map Prod.fst = hands.map Sum.inr := by
  unfold kvT
  rw [List.map_map]
  rfl
theorem kvT_some {hands : List Str} (nd : hands.Nodup) {h : Str} (m : h ∈ hands) : (valV (kvT hands) (.inr h)).isSome = true := by
  obtain ⟨j, hj⟩ := List.mem_iff_getElem?.mp m
  rw [valV_some (kvs := kvT hands) (j := j) (v := .bl true) (by rw [kvT_keys]; exact List.pairwise_map.mpr (nd.imp fun q e => q (Sum.inr.inj e))) (by unfold kvT; rw [List.getElem?_map, hj]; rfl)]
  rfl
section
variable {P : Program} {w : World} {K : PySem.W.Frag} {mg : Str → Option Value} {base : Heap}
def spIsWeb (K : PySem.W.Frag) (T1 T2 T3 : Addr) : Sp := fun vs H Q _ => ∃ (W : Addr) (hands : List Str) (roads : List (Str × Str)), vs = [.ref W] ∧ TabG H T1 ∧ TabG H T2 ∧ TabG H T3 ∧ WebAt H W hands roads ∧ WebOk hands roads ∧ ∀ H', Grow [] H H' → Q (.bl true) H'
theorem ok_is_web {f c T1 T2 T3 : Addr} {fd : FuncData} (B : Nb mg) (D : DefIs K "is_web" "is_web" st_is_web f fd (.ref c)) (x_is_web : TabB base mg c T3)
    (c_is_pair : Callee P w K mg base CX0 2 "is_pair" ["thing"] (spIsPair K)) (c_are_unlike_names : Callee P w K mg base CX0 8 "are_unlike_names" ["thing"] (spUnlike K T1 T2))
    (c_is_road : Callee P w K mg base CX0 3 "is_road" ["thing", "hands"] (spIsRoad K)) (c_hands_ahead : Callee P w K mg base CX0 3 "hands_ahead" ["web", "start", "barred"] (spAhead K)) :
    FnG P w K mg base CX0 9 f fd ["thing"] (spIsWeb K T1 T2 T3) := by
  refine D.ok0 (k := 8) sc_is_web (fun vs H Q E h => ?_) (fun A outer s H vs Q E g hr h => ?_)
  · obtain ⟨W, hands, roads, rfl, _⟩ := h
    rfl
  obtain ⟨W, hands, roads, rfl, t1, t2, t3, hW, wo, q⟩ := h
  obtain ⟨hs, rs, eW, eh, er⟩ := id hW
  refine ⟨_,
      (pss_cons (ps_if (pt_not (pt_val (pe_g c_is_pair g (hr.mono (by decide)) pass0 (pa_cons (pv 0) pa_nil)))) (
        (pss_one (ps_ret pe_bl))) pss_nil)
      (pss_cons (ps_asg (pv 0) (pg_tup rfl (pgs_cons (pg_name (i := 1) sc_is_web.nd rfl (.inl rfl)) (pgs_cons (pg_name (i := 2) sc_is_web.nd rfl (.inl rfl)) pgs_nil))))
      (pss_cons (ps_if (PW.pt (pw_or (pt_not (pt_val (pe_g c_are_unlike_names g (hr.mono (by decide)) pass0 (pa_cons (pv 1) pa_nil)))) (pw_or1 (pt_cmpR (op_eqD hr.units) (pv 1) (pe_lst pa_nil) (nomark _))))) (
        (pss_one (ps_ret pe_bl))) pss_nil)
      (pss_cons (ps_if (PW.pt (pw_or (pt_cmpR (op_notTyB) (pe_callTy call_type1 rfl B.n_type (by decide +kernel) (pa_cons (pv 2) pa_nil)) (pe_bltn (v := .ty "list") rfl B.n_list (by decide +kernel) rfl) (nomark _)) (pw_or1 (pt_cmpR (op_ne) (pe_callB call_len_seq rfl B.n_len PySem.boot_len (pa_cons (pv 2) pa_nil)) (pe_op op_sub (pe_callB call_len_seq rfl B.n_len PySem.boot_len (pa_cons (pv 1) pa_nil)) pe_int) (nomark _))))) (
        (pss_one (ps_ret pe_bl))) pss_nil)
      (pss_cons (ps_set (i := 3) sc_is_web.nd rfl (.inr rfl) (pe_dc (own := [("hand", 4)]) (g := (gName 4)) (tt := tYes) rfl sc_is_web.nd (pi_list (pv 1)) (blkOk_by (N := N_is_web) (sc := defScope st_is_web) (by decide +kernel)) (fun _ _ _ _ _ => (pg_name (i := 4) sc_is_web.nd rfl (.inl rfl))) (fun _ _ _ _ _ => pts_nil) (fun _ _ _ _ _ => pe_to (pv 4)) (fun _ _ _ _ _ => pe_to pe_bl)))
      (pss_cons (ps_if (pt_not (pt_val (pe_allG (own := [("road", 5)]) hr (gx_ok (N := N_is_web) (dsc := defScope st_is_web) x_is_web sc_is_web.nd (by decide +kernel) (by decide +kernel)) rfl B.n_all (by decide +kernel) (pi_list (pv 2)) (fun _ _ _ _ _ => (pg_name (i := 5) sc_is_web.nd rfl (.inl rfl))) (fun _ _ _ _ _ => pe_to (pe_g c_is_road g ((room_gx hr).mono (by decide)) pass0 (pa_cons (pv 5) (pa_cons (pv 3) pa_nil))))))) (
        (pss_one (ps_ret pe_bl))) pss_nil)
      (pss_one (ps_ret (pe_cmpR (op_eq) (pe_callB call_lenD rfl B.n_len PySem.boot_len (pa_cons (pe_g c_hands_ahead g (hr.mono (by decide)) pass0 (pa_cons (pv 0) (pa_cons (pe_ix ix_list (pv 1) pe_int (fun _ _ => rfl)) (pa_cons pe_non pa_nil)))) pa_nil)) (pe_callB call_len_seq rfl B.n_len PySem.boot_len (pa_cons (pv 1) pa_nil)) (nomark _)))))))))), ?_⟩
  refine ⟨.ref W, rfl, .ref W, rfl, .inl ⟨W, _, rfl, .inl (.inl eW), true, rfl, iteF ?_⟩⟩
  refine ⟨.ref W, rfl, W, _, rfl, .inl (.inl eW), rfl, _, _, rfl, _, _, rfl, rfl, ?_⟩
  have bk : Bk hands := ⟨wo.nm, wo.nd, wo.len⟩
  refine ⟨.ref hs, rfl, .ref hs, rfl, t1, t2, .inl ⟨hs, _, rfl, .inl (.inl eh), bk.known, by rw [List.length_map]; have := wo.len; omega, fun H1 g1 => ?_⟩⟩
  rw [bk.v]
  refine ⟨true, rfl, iteF ?_⟩
  obtain ⟨xs, ex, tx⟩ := id er
  have lx : xs.length = roads.length := tx.length
  have many := wo.many
  have hlen := wo.len
  have W1 := hW.grow g1
  refine ⟨.ref hs, rfl, by show 0 ≤ sizeLine; decide, fun Z nZ => ?_⟩
  have g2 := g1.new (o := .lst []) nZ
  have fH := fine_names wo.nm wo.len
  refine ⟨_, _, dp_book (.inl (.inl (g2.lst (by simp) eh))), dp_book (xs := []) (.inl (.inl upd_same)), fH.shaped (by decide), rfl, ?_⟩
  have ene : PyData.eqv (.list (hands.map PyData.str)) (.list (([] : List Str).map PyData.str)) = false := by
    cases hr2 : hands with
    | nil => exact absurd hr2 wo.ne
    | cons _ _ => rfl
  rw [ene]
  refine ⟨false, rfl, iteF ?_⟩
  generalize upd H1 Z (.lst []) = H2 at g2 ⊢
  have ex2 := g2.lst (by simp) ex
  have eh2 := g2.lst (by simp) eh
  refine ⟨.ref rs, rfl, _, "list", rfl, .lst (.inl (.inl ex2)), "list", "list", rfl, rfl, _, rfl, iteNS rfl ?_⟩
  refine ⟨.ref rs, rfl, rs, _, rfl, .inl (.inl (.inl ex2)), .ref hs, rfl, hs, _, rfl, .inl (.inl (.inl eh2)), _, _, rfl, rfl, rfl, ?_⟩
  rw [show decide (V.int ((xs.length : Nat) : Int) = V.int (((hands.map V.str).length : Nat) - 1)) = true from decide_eq_true (by rw [List.length_map, lx]; congr 1; omega)]
  refine ⟨false, rfl, iteF ?_⟩
  refine ⟨.ref hs, rfl, hs, rfl, ⟨_, .inl (.inl eh2)⟩, fun D1 n1 => ?_⟩
  refine dc_it (walk_list (xs := hands.map V.str)) (fun j H' => Grow [] H2 H' ∧ H' D1 = some (.dK (kvT (hands.take j)))) ⟨grow_new n1, upd_same⟩
    (fun j H' _ h => .inl (.inl (h.1.lst (by simp) eh2))) (fun j x H3 H4 hj hp hy => ?_) (fun H3 hp => ?_)
  · obtain ⟨gj, eD⟩ := hp
    obtain ⟨rfl, e⟩ := hy
    rw [List.length_map] at hj
    rw [List.getElem?_map, List.getElem?_eq_getElem hj] at e
    cases e
    have tk : hands.take (j + 1) = hands.take j ++ [hands[j]] := by rw [List.take_add_one, List.getElem?_eq_getElem hj]; rfl
    have new : hands[j] ∉ hands.take j := fun h => by
      obtain ⟨i, hi⟩ := List.mem_iff_getElem?.mp h
      rw [List.getElem?_take] at hi
      by_cases hij : i < j
      · rw [if_pos hij] at hi
        have := (List.getElem?_inj (List.getElem?_eq_some_iff.mp hi).1 wo.nd).mp (hi.trans (List.getElem?_eq_getElem hj).symm)
        omega
      · rw [if_neg hij] at hi
        cases hi
    refine ⟨rfl, yes_if ⟨.str _, rfl, _, .inr hands[j], rfl, eD, ?_, gj.put (fresh_none n1) eD (fun ps z => by cases z), ?_⟩⟩
    · unfold kvT
      rw [List.length_map, List.length_take]
      unfold sizeLine
      omega
    · rw [upd_same, putK_new _ (valV_none (by
        rw [kvT_keys]
        intro z
        obtain ⟨y, hy, e⟩ := List.mem_map.mp z
        cases e
        exact new hy)), tk]
      unfold kvT
      rw [List.map_append]
      rfl
  obtain ⟨g3, eD⟩ := hp
  rw [List.length_map, List.take_length] at eD
  have g13 := g2.trans g3
  have ex3 := g13.lst (by simp) ex
  refine ⟨.ref rs, rfl, rs, rfl, ⟨_, .inl (.inl ex3)⟩, g13.tabs _ t3, ?_⟩
  refine truth_list (xs := xs) (fun i H' => Grow [] H3 H') (fun H' tb => grow_tab (g13.tabs _ t3) tb) (fun i H' hp => .inl (.inl (hp.lst (by simp) ex3))) (fun i x H' hx hp => ?_) fun H4 g4 => ?_
  · obtain ⟨p, r, rfl, ep, hp0⟩ := tx.get hx
    have hp2 := hp0.grow (g13.trans hp) (by simp)
    obtain ⟨m1, m2, lt⟩ := wo.ends r (List.mem_of_getElem? ep)
    have kn : ∀ {z : Str}, z ∈ hands → Known K H' (.str z) := fun {z} hz => bk.known _ (List.mem_map.mpr ⟨z, hz, rfl⟩)
    refine ⟨rfl, .ref p, rfl, .ref D1, rfl, .ref p, D1, _, rfl, hp.keep D1 _ (by simp) eD (fun ps z => by cases z), .inl ⟨p, _, _, rfl, hp2.seq, kn m1, kn m2, true, ?_, ?_⟩⟩
    · show V.bl ((valV (kvT hands) (.inr r.1)).isSome && ((valV (kvT hands) (.inr r.2)).isSome && decide (r.1.cps.toList < r.2.cps.toList))) = V.bl true
      rw [kvT_some wo.nd m1, kvT_some wo.nd m2, decide_eq_true lt]
      rfl
    · rw [if_neg (fun z => Bool.noConfusion z)]
      exact hp
  have g14 := g13.trans g4
  refine ⟨true, rfl, iteF ?_⟩
  have h0 : 0 < hands.length := List.length_pos_iff.mpr wo.ne
  have m0 : hands[0] ∈ hands := List.getElem_mem h0
  refine ⟨.ref W, rfl, .ref hs, rfl, hs, _, 0, .str hands[0], rfl, rfl, .inl (.inl (g14.lst (by simp) eh)), atI_nat (j := 0) (by rw [List.getElem?_map, List.getElem?_eq_getElem h0]; rfl), W, hands, roads, hands[0], none, rfl, hW.grow g14, wo.nd, by omega, by omega, fun r hr => ⟨(wo.ends r hr).1, (wo.ends r hr).2.1⟩, m0, fun D2 H5 ks f2 g5 e2 ok cl => ?_⟩
  refine ⟨D2, _, rfl, e2, .ref hs, rfl, hs, _, rfl, .inl (.inl (.inl ((g14.trans g5).lst (by simp) eh))), rfl, ?_⟩
  rw [show decide (V.int (((kvO ks).length : Nat) : Int) = V.int (((hands.map V.str).length : Nat) : Int)) = true from decide_eq_true (by unfold kvO; rw [List.length_map, List.length_map, ok.whole wo m0 cl])]
  exact q _ (g14.trans g5)
end

end Lw

namespace Lw
open PySem PySem.Spec PyProof.Rows L2 GxR Gx
/-! ### _law_names -/
def poolA : List Str := ["net", "book", "hear", "open", "none", "a", "ab", "abcdefgh", "abcdefgi", "step", "shout", "lie", "zz"]
def poolB (a : Nat) : List Str := ("lmnopqrstu" : Str).cps.toList.map fun b => (⟨#[a]⟩ : Str) ++ ⟨#[b]⟩
def poolTo (i : Nat) : List Str := poolA ++ (("bcdefghijk" : Str).cps.toList.take i).flatMap poolB
theorem pool_nd : (poolTo 10).Nodup := by decide +kernel
theorem pool_nm : (poolTo 10).all isNm = true := by decide +kernel
theorem pool_len : (poolTo 10).length = 113 := by decide +kernel
section
variable {P : Program} {w : World} {K : PySem.W.Frag} {mg : Str → Option Value} {base : Heap}
def spNames (K : PySem.W.Frag) : Sp := fun vs H Q _ => ∃ (p : Addr) (m : Nat) (c : Int), vs = [.ref p, .int m] ∧ m ≤ 100 ∧ Pot H p c ∧ c ≤ 2 ^ 20 ∧
  ∀ (D : Addr) (H' : Hp) (ys : List Str), Fresh H D → Grow [p] H H' → H' D = some (.lst (ys.map V.str)) → ys.Nodup → ys.all isNm = true → ys.length = m → Pot H' p (c + 200) → Q (.ref D) H'
theorem ok_law_names {f c : Addr} {fd : FuncData} (B : Nb mg) (D : DefIs K "_law_names" "_law_names" st_law_names f fd (.ref c))
    (c_law_dip : Callee P w K mg base CX0 3 "_law_dip" ["pot", "many"] (spDip K)) : FnG P w K mg base CX0 4 f fd ["pot", "many"] (spNames K) := by
  refine D.ok0 (k := 3) sc_law_names (fun vs H Q E h => ?_) (fun A outer s H vs Q E g hr h => ?_)
  · obtain ⟨p, m, c, rfl, _⟩ := h
    rfl
  obtain ⟨p, m, c, rfl, hm, hp, hc, q⟩ := h
  refine ⟨_,
      (pss_cons (ps_set (i := 2) sc_law_names.nd rfl (.inr rfl) (pe_lst (pa_cons pe_str (pa_cons pe_str (pa_cons pe_str (pa_cons pe_str (pa_cons pe_str (pa_cons pe_str (pa_cons pe_str (pa_cons pe_str (pa_cons pe_str (pa_cons pe_str (pa_cons pe_str (pa_cons pe_str (pa_cons pe_str pa_nil)))))))))))))))
      (pss_cons (ps_for PassesOwn.never rfl (pi_str pe_str) (pg_name (i := 3) sc_law_names.nd rfl (.inr rfl)) (
        (pss_one (ps_expr (pe_bm PySem.F.plainAttrs_list PySem.F.slot_list_extend PySem.F.type_list_extend mt_extend (pv 2) (pa_cons (pe_lc (own := [("other", 4)]) (tt := tYes) (g := (gName 4)) rfl sc_law_names.nd (pi_str pe_str) (blkOk_by (N := N_law_names) (sc := defScope st_law_names) (by decide +kernel)) (fun _ _ _ _ _ => (pg_name (i := 4) sc_law_names.nd rfl (.inl rfl))) (fun _ _ _ _ _ => pts_nil) (fun _ _ _ _ _ => pe_to (pe_op op_add_str (pv 3) (pv 4)))) pa_nil))))))
      (pss_cons (ps_set (i := 2) sc_law_names.nd rfl (.inr rfl) (pe_slice sl_list (pv 2) po_none (po_some (pe_ix ix_list (pe_lst (pa_cons pe_int (pa_cons pe_int pa_nil))) (pe_callTy call_int1 rfl B.n_int (by decide +kernel) (pa_cons (pe_cmpR (op_gt) (pv 1) pe_int (nomark _)) pa_nil)) (fun _ _ => rfl)))))
      (pss_one (ps_ret (pe_lc (own := [("k", 5)]) (tt := tYes) (g := (gName 5)) rfl sc_law_names.nd (pi_range1 rfl B.n_range (pa_cons (pv 1) pa_nil)) (blkOk_by (N := N_law_names) (sc := defScope st_law_names) (by decide +kernel)) (fun _ _ _ _ _ => (pg_name (i := 5) sc_law_names.nd rfl (.inl rfl))) (fun _ _ _ _ _ => pts_nil) (fun _ _ _ _ _ => pe_to (pe_bm PySem.F.plainAttrs_list PySem.F.slot_list_pop PySem.F.type_list_pop mt_popAt (pv 2) (pa_cons (pe_g c_law_dip g (hr.mono (by decide)) pass0 (pa_cons (pv 0) (pa_cons (pe_callB call_len_seq rfl B.n_len PySem.boot_len (pa_cons (pv 2) pa_nil)) pa_nil))) pa_nil))))))))), ?_⟩
  refine ⟨by show 13 ≤ sizeLine; decide, fun P0 n0 => ?_⟩
  obtain ⟨pa, pb, pk, ep, pr⟩ := id hp
  have f0 : Fresh H P0 := fresh_none n0
  have g0 : Grow [] H (upd H P0 (.lst ((poolTo 0).map V.str))) := grow_new n0
  refine ⟨_, rfl, ?_⟩
  refine for_it walk_str (fun i σ H' => ∃ a : Option V, σ = [some (.ref p), some (.int m), some (.ref P0), a, none, none] ∧ Grow [] H H' ∧ H' P0 = some (.lst ((poolTo i).map V.str))) ⟨none, rfl, g0, upd_same⟩ (fun _ _ _ _ _ => trivial) (fun i x σ H2 H3 hi hw hy => ?_) (fun σ H2 hw => ?_)
  · obtain ⟨a0, rfl, gr, eP⟩ := hw
    obtain ⟨rfl, a, ea, rfl⟩ := hy
    refine ⟨.ref P0, rfl, tyl eP, _, rfl, fun D1 n1 => ?_⟩
    have fD : Fresh H3 D1 := fresh_none n1
    refine lc_it walk_str (fun j H' => Grow [] H3 H' ∧ H' D1 = some (.lst (((("lmnopqrstu" : Str).cps.toList.take j).map fun b => (⟨#[a]⟩ : Str) ++ ⟨#[b]⟩).map V.str))) ⟨grow_new n1, upd_same⟩ (fun _ _ _ _ => trivial) (fun j x H4 H5 hj hw hy => ?_) (fun H4 hw => ?_)
    · obtain ⟨gj, eD⟩ := hw
      obtain ⟨rfl, b, eb, rfl⟩ := hy
      have tk : ("lmnopqrstu" : Str).cps.toList.take (j + 1) = ("lmnopqrstu" : Str).cps.toList.take j ++ [b] := by
        rw [List.take_add_one, Array.getElem?_toList, eb]
        rfl
      refine ⟨rfl, yes_if ⟨.str _, rfl, .str _, rfl, _, _, rfl, rfl, by show 1 + 1 ≤ sizeLine; decide, _, eD, ?_, gj.put fD eD (fun ps z => by cases z), ?_⟩⟩
      · have h10 : ("lmnopqrstu" : Str).cps.size = 10 := by decide +kernel
        rw [List.length_map, List.length_map, List.length_take]
        unfold sizeLine
        omega
      · rw [upd_same, tk, List.map_append, List.map_append]
        rfl
    · obtain ⟨gj, eD⟩ := hw
      have eP4 := gj.lst (by simp) eP
      have et : ("lmnopqrstu" : Str).cps.toList.take ("lmnopqrstu" : Str).cps.size = ("lmnopqrstu" : Str).cps.toList := List.take_of_length_le (by rw [Array.length_toList]; exact Nat.le_refl _)
      rw [et] at eD
      have tk : ("bcdefghijk" : Str).cps.toList.take (i + 1) = ("bcdefghijk" : Str).cps.toList.take i ++ [a] := by
        rw [List.take_add_one, Array.getElem?_toList, ea]
        rfl
      have nx : poolTo (i + 1) = poolTo i ++ poolB a := by
        unfold poolTo
        rw [tk, List.flatMap_append, List.append_assoc]
        simp
      have ln : ∀ k, (poolTo k).length ≤ 13 + 10 * k := fun k => by
        unfold poolTo
        rw [List.length_append]
        have h1 : poolA.length = 13 := rfl
        have h2 : ∀ l : List Nat, (l.flatMap poolB).length = 10 * l.length := fun l => by
          induction l with
          | nil => rfl
          | cons x r ih =>
            rw [List.flatMap_cons, List.length_append, ih, List.length_cons]
            have : (poolB x).length = 10 := by unfold poolB; rw [List.length_map]; decide +kernel
            omega
        rw [h1, h2, List.length_take]
        omega
      have h10 : ("bcdefghijk" : Str).cps.size = 10 := by decide +kernel
      have l1 := ln (i + 1)
      rw [nx, List.length_append] at l1
      refine ⟨P0, D1, _, _, rfl, rfl, eP4, eD, ?_, _, rfl, (gr.trans gj).put f0 eP4 (fun ps z => by cases z), ?_⟩
      · rw [List.length_map, List.length_map]
        show _ + (poolB a).length ≤ _
        unfold sizeLine
        omega
      · rw [upd_same, nx, List.map_append]
        rfl
  · obtain ⟨a0, rfl, gr, eP⟩ := hw
    have h10 : ("bcdefghijk" : Str).cps.size = 10 := by decide +kernel
    rw [h10] at eP
    refine ⟨.ref P0, rfl, by show 2 ≤ sizeLine; decide, fun L nL => ⟨.int m, rfl, _, _, rfl, rfl, .inr ⟨_, rfl, ?_⟩⟩⟩
    obtain ⟨cut, hcut, hc1, hc2⟩ : ∃ cut : Nat, atI [V.int 13, V.int 113] (if (decide ((13 : Int) < (m : Int))) = true then 1 else 0) = some (.int (cut : Int)) ∧ m ≤ cut ∧ cut ≤ 113 := by
      by_cases h : (13 : Int) < (m : Int)
      · rw [decide_eq_true h]
        exact ⟨113, rfl, by omega, Nat.le_refl _⟩
      · rw [decide_eq_false h]
        exact ⟨13, rfl, by omega, by decide⟩
    have gL := gr.new (o := .lst [.int 13, .int 113]) nL
    have ePL : upd H2 L (.lst [.int 13, .int 113]) P0 = some (.lst ((poolTo 10).map V.str)) := by rw [upd_ne (ne_of_none eP nL)]; exact eP
    refine ⟨L, _, _, .int cut, rfl, rfl, .inl (.inl upd_same), hcut, cut, rfl, P0, _, rfl, .inl (.inl ePL), fun P1 n1 => ?_⟩
    rw [cut_hi, ← List.map_take]
    obtain ⟨pl, hpl⟩ : ∃ pl, (poolTo 10).take cut = pl := ⟨_, rfl⟩
    rw [hpl]
    have pnd : pl.Nodup := by rw [← hpl]; exact pool_nd.sublist (List.take_sublist _ _)
    have pnm : pl.all isNm = true := by
      rw [← hpl]
      exact List.all_eq_true.mpr fun x hx => List.all_eq_true.mp pool_nm x (List.mem_of_mem_take hx)
    have pln : pl.length = cut := by rw [← hpl, List.length_take, pool_len]; omega
    have f1 : Fresh H P1 := gL.fresh0 n1
    have g1 := gL.new (o := .lst (pl.map V.str)) n1
    have p1 : P1 ≠ p := (f1.ne ep (fun ps z => by cases z)).symm
    refine ⟨.int m, rfl, m, rfl, by omega, by omega, fun D1 nD => ?_⟩
    have fD : Fresh H D1 := g1.fresh0 nD
    have pD : D1 ≠ p := (fD.ne ep (fun ps z => by cases z)).symm
    have P1D : P1 ≠ D1 := ne_of_none (upd_same (H := upd H2 L (.lst [.int 13, .int 113])) (o := .lst (pl.map V.str))) nD
    have g2 := g1.new (o := .lst []) nD
    have pot2 : Pot (upd (upd (upd H2 L (.lst [.int 13, .int 113])) P1 (.lst (pl.map V.str))) D1 (.lst [])) p c := ⟨pa, pb, pk, g2.lst (by simp) ep, pr⟩
    refine lc_it walk_range (fun k H' => ∃ fs ls : List Str, fs.length = k ∧ (fs ++ ls).Perm pl ∧ H' P1 = some (.lst (ls.map V.str)) ∧ H' D1 = some (.lst (fs.map V.str)) ∧ Pot H' p (c + k) ∧ Grow [p] H H') ⟨[], pl, rfl, .refl _, by rw [upd_ne P1D]; exact upd_same, upd_same, pot2.mono (by omega), g2.any⟩
      (fun _ _ _ _ => trivial) (fun k x H4 H5 hk hw hy => ?_) (fun H4 hw => ?_)
    · obtain ⟨fs, ls, lf, pm, eP1, eD1, pot, gr4⟩ := hw
      obtain ⟨rfl, rfl⟩ := hy
      have ll : fs.length + ls.length = pl.length := by have := pm.length_eq; rwa [List.length_append] at this
      have hk' : k < m := by omega
      refine ⟨rfl, yes_if ⟨.ref P1, rfl, tyl eP1, .ref p, rfl, .ref P1, rfl, P1, _, rfl, .inl (.inl (.inl eP1)), p, _, _, rfl, by rw [List.length_map]; omega, by rw [List.length_map]; omega, by omega, pot, fun v H6 v0 v1 g6 pot6 => ?_⟩⟩
      rw [List.length_map] at v1
      have eP6 := g6.lst (by simpa using p1) eP1
      have eD6 := g6.lst (by simpa using pD) eD1
      have hv : v.toNat < ls.length := by omega
      refine ⟨P1, _, v, v.toNat, .str ls[v.toNat], rfl, rfl, eP6, by omega, by omega, seqIndex_nat v0 (by rw [List.length_map]; exact v1), by rw [List.getElem?_map, List.getElem?_eq_getElem hv]; rfl, ?_⟩
      have g7 := (gr4.trans g6).put (o := .lst ((ls.map V.str).eraseIdx v.toNat)) f1 eP6 (fun ps z => by cases z)
      have eD7 : upd H6 P1 (.lst ((ls.map V.str).eraseIdx v.toNat)) D1 = some (.lst (fs.map V.str)) := by rw [upd_ne P1D.symm]; exact eD6
      refine ⟨_, eD7, by rw [List.length_map]; unfold sizeLine; omega, fs ++ [ls[v.toNat]], ls.eraseIdx v.toNat, by rw [List.length_append, lf]; rfl, ?_, ?_, by rw [upd_same, List.map_append]; rfl, ?_, g7.put fD eD7 (fun ps z => by cases z)⟩
      · rw [List.append_assoc]
        exact (List.Perm.append_left fs (erase_perm ls v.toNat hv)).trans pm
      · rw [upd_ne P1D, upd_same, erase_map]
      · have := ((pot6.at (o := .lst ((ls.map V.str).eraseIdx v.toNat)) p1.symm).at (o := .lst (fs.map V.str ++ [.str ls[v.toNat]])) pD.symm)
        exact this.mono (by omega)
    · obtain ⟨fs, ls, lf, pm, eP1, eD1, pot, gr4⟩ := hw
      refine q D1 H4 fs fD gr4 eD1 ?_ ?_ (by omega) (pot.mono (by omega))
      · exact (List.nodup_append.mp (pm.nodup_iff.mpr pnd)).1
      · exact List.all_eq_true.mpr fun x hx => List.all_eq_true.mp pnm x (pm.mem_iff.mp (List.mem_append_left _ hx))
end

/-! ### trees that grow -/
structure TreeOk (hs : List Str) (roads : List (Str × Str)) : Prop where
  ends : ∀ a b, Adj roads a b → a ∈ hs ∧ b ∈ hs
  tree : ∀ r ∈ hs, ∃ d, Rooted hs roads r d
theorem TreeOk.one (h : Str) : TreeOk [h] [] := by
  have no : ∀ a b, ¬ Adj [] a b := fun a b z => by rcases z with z | z <;> cases z
  refine ⟨fun a b z => (no a b z).elim, fun r hr => ⟨fun _ => 0, hr, rfl, fun a b z => (no a b z).elim, fun x hx ne => ?_, fun x p q z => (no _ _ z).elim⟩⟩
  rw [List.mem_singleton.mp hx, List.mem_singleton.mp hr] at ne
  exact absurd rfl ne
theorem TreeOk.grow {hs : List Str} {roads roads' : List (Str × Str)} {u v : Str} (T : TreeOk hs roads) (hv : v ∉ hs) (hu : u ∈ hs) (adj : ∀ a b, Adj roads' a b ↔ Adj roads a b ∨ (a = u ∧ b = v) ∨ (a = v ∧ b = u)) : TreeOk (hs ++ [v]) roads' := by
  have mo : ∀ {x}, x ∈ hs → x ∈ hs ++ [v] := fun h => List.mem_append_left _ h
  have mv : v ∈ hs ++ [v] := by simp
  have nv : ∀ {x}, x ∈ hs → x ≠ v := fun h z => hv (z ▸ h)
  have uv : u ≠ v := nv hu
  refine ⟨fun a b h => ?_, fun r hr => ?_⟩
  · rcases (adj a b).mp h with h | ⟨rfl, rfl⟩ | ⟨rfl, rfl⟩
    · exact ⟨mo (T.ends a b h).1, mo (T.ends a b h).2⟩
    · exact ⟨mo hu, mv⟩
    · exact ⟨mv, mo hu⟩
  · rcases List.mem_append.mp hr with hr | hr
    · obtain ⟨d, R⟩ := T.tree r hr
      have dv : (if v = v then d u + 1 else d v) = d u + 1 := if_pos rfl
      have dx : ∀ {x}, x ≠ v → (if x = v then d u + 1 else d x) = d x := fun h => if_neg h
      refine ⟨fun x => if x = v then d u + 1 else d x, mo hr, (dx (nv hr)).trans R.zero, fun a b h => ?_, fun h hh ne => ?_, fun h p q hp hq lp lq => ?_⟩
      · show (if a = v then d u + 1 else d a) + 1 = (if b = v then d u + 1 else d b) ∨ (if b = v then d u + 1 else d b) + 1 = (if a = v then d u + 1 else d a)
        rcases (adj a b).mp h with h | ⟨rfl, rfl⟩ | ⟨rfl, rfl⟩
        · rw [dx (nv (T.ends a b h).1), dx (nv (T.ends a b h).2)]
          exact R.near a b h
        · rw [dv, dx uv]
          exact .inl rfl
        · rw [dv, dx uv]
          exact .inr rfl
      · show ∃ p, Adj roads' h p ∧ (if p = v then d u + 1 else d p) + 1 = (if h = v then d u + 1 else d h)
        rcases List.mem_append.mp hh with hh | hh
        · obtain ⟨p, ap, dp⟩ := R.up h hh ne
          exact ⟨p, (adj h p).mpr (.inl ap), by rw [dx (nv hh), dx (nv (T.ends h p ap).2)]; exact dp⟩
        · rw [List.mem_singleton.mp hh]
          exact ⟨u, (adj v u).mpr (.inr (.inr ⟨rfl, rfl⟩)), by rw [dv, dx uv]⟩
      · replace lp : (if p = v then d u + 1 else d p) < (if h = v then d u + 1 else d h) := lp
        replace lq : (if q = v then d u + 1 else d q) < (if h = v then d u + 1 else d h) := lq
        by_cases e : h = v
        · subst e
          have one : ∀ {x}, Adj roads' h x → x = u := fun {x} hx => by
            rcases (adj h x).mp hx with hx | ⟨e1, _⟩ | ⟨_, e2⟩
            · exact absurd (T.ends h x hx).1 hv
            · exact absurd e1.symm uv
            · exact e2
          rw [one hp, one hq]
        · have old : ∀ {x}, Adj roads' h x → (if x = v then d u + 1 else d x) < (if h = v then d u + 1 else d h) → Adj roads h x ∧ d x < d h := fun {x} hx lx => by
            rcases (adj h x).mp hx with hx | ⟨e1, e2⟩ | ⟨e1, _⟩
            · rw [dx e, dx (nv (T.ends h x hx).2)] at lx
              exact ⟨hx, lx⟩
            · rw [e1, e2, dv, dx uv] at lx
              omega
            · exact absurd e1 e
          exact R.one h p q (old hp lp).1 (old hq lq).1 (old hp lp).2 (old hq lq).2
    · have er : r = v := List.mem_singleton.mp hr
      subst er
      obtain ⟨d, R⟩ := T.tree u hu
      have dv : (if r = r then 0 else d r + 1) = 0 := if_pos rfl
      have dx : ∀ {x}, x ≠ r → (if x = r then 0 else d x + 1) = d x + 1 := fun h => if_neg h
      have d0 := R.zero
      refine ⟨fun x => if x = r then 0 else d x + 1, mv, dv, fun a b h => ?_, fun h hh ne => ?_, fun h p q hp hq lp lq => ?_⟩
      · show (if a = r then 0 else d a + 1) + 1 = (if b = r then 0 else d b + 1) ∨ (if b = r then 0 else d b + 1) + 1 = (if a = r then 0 else d a + 1)
        rcases (adj a b).mp h with h | ⟨rfl, rfl⟩ | ⟨rfl, rfl⟩
        · rw [dx (nv (T.ends a b h).1), dx (nv (T.ends a b h).2)]
          have := R.near a b h
          omega
        · rw [dv, dx uv]
          omega
        · rw [dv, dx uv]
          omega
      · show ∃ p, Adj roads' h p ∧ (if p = r then 0 else d p + 1) + 1 = (if h = r then 0 else d h + 1)
        rcases List.mem_append.mp hh with hh | hh
        · by_cases e : h = u
          · subst e
            exact ⟨r, (adj h r).mpr (.inr (.inl ⟨rfl, rfl⟩)), by rw [dv, dx uv]; omega⟩
          · obtain ⟨p, ap, dp⟩ := R.up h hh e
            exact ⟨p, (adj h p).mpr (.inl ap), by rw [dx (nv hh), dx (nv (T.ends h p ap).2)]; omega⟩
        · exact absurd (List.mem_singleton.mp hh) ne
      · replace lp : (if p = r then 0 else d p + 1) < (if h = r then 0 else d h + 1) := lp
        replace lq : (if q = r then 0 else d q + 1) < (if h = r then 0 else d h + 1) := lq
        by_cases e : h = r
        · rw [e, dv] at lp
          omega
        · have old : ∀ {x}, Adj roads' h x → (if x = r then 0 else d x + 1) < (if h = r then 0 else d h + 1) → (Adj roads h x ∧ d x < d h) ∨ (h = u ∧ x = r) := fun {x} hx lx => by
            rcases (adj h x).mp hx with hx | ⟨e1, e2⟩ | ⟨e1, _⟩
            · rw [dx e, dx (nv (T.ends h x hx).2)] at lx
              exact .inl ⟨hx, by omega⟩
            · exact .inr ⟨e1, e2⟩
            · exact absurd e1 e
          rcases old hp lp with ⟨p1, p2⟩ | ⟨p1, p2⟩
          · rcases old hq lq with ⟨q1, q2⟩ | ⟨q1, q2⟩
            · exact R.one h p q p1 q1 p2 q2
            · rw [q1] at p2
              omega
          · rcases old hq lq with ⟨q1, q2⟩ | ⟨q1, q2⟩
            · rw [p1] at q2
              omega
            · rw [p2, q2]
/-- which hands there are is all that matters -/
theorem Rooted.perm {hs hs' : List Str} {roads : List (Str × Str)} {r : Str} {d : Str → Nat} (R : Rooted hs roads r d) (m : ∀ x, x ∈ hs' ↔ x ∈ hs) : Rooted hs' roads r d :=
  ⟨(m r).mpr R.root, R.zero, R.near, fun h hh ne => R.up h ((m h).mp hh) ne, R.one⟩
theorem Rooted.roads {hs : List Str} {roads roads' : List (Str × Str)} {r : Str} {d : Str → Nat} (R : Rooted hs roads r d) (m : ∀ x, x ∈ roads' ↔ x ∈ roads) : Rooted hs roads' r d := by
  have a : ∀ x y, Adj roads' x y ↔ Adj roads x y := fun x y => by unfold Adj; rw [m, m]
  exact ⟨R.root, R.zero, fun x y h => R.near x y ((a x y).mp h), fun h hh ne => by
    obtain ⟨p, h1, h2⟩ := R.up h hh ne
    exact ⟨p, (a h p).mpr h1, h2⟩, fun h p q h1 h2 => R.one h p q ((a h p).mp h1) ((a h q).mp h2)⟩
/-- two unlike texts, sorted -/
theorem sort_two {a b : Str} (ne : a ≠ b) : ∃ x y, [a, b].mergeSort (PySem.W.dataLe false PyData.str) = [x, y] ∧ x.cps.toList < y.cps.toList ∧ ((x = a ∧ y = b) ∨ (x = b ∧ y = a)) := by
  have p := List.mergeSort_perm [a, b] (PySem.W.dataLe false PyData.str)
  have tot := PySem.W.sortLe_total (listOrd itemOrd) false fun b : Str => PySem.W.keyToks (.str b)
  have pw := PySem.W.sort_pairwise tot [a, b]
  have pw' : ([a, b].mergeSort (PySem.W.dataLe false PyData.str)).Pairwise fun x y => PySem.W.dataLe false PyData.str x y = true := pw
  have ln := p.length_eq
  obtain ⟨x, y, e⟩ : ∃ x y, [a, b].mergeSort (PySem.W.dataLe false PyData.str) = [x, y] := by
    match h : [a, b].mergeSort (PySem.W.dataLe false PyData.str), ln with
    | [x, y], _ => exact ⟨x, y, rfl⟩
  rw [e] at p pw'
  have xy : (x = a ∧ y = b) ∨ (x = b ∧ y = a) := by
    have mx : x = a ∨ x = b := by simpa using p.mem_iff.mp (List.mem_cons_self (a := x) (l := [y]))
    have nd : [x, y].Nodup := p.nodup_iff.mpr (by simpa using ne)
    have nxy : x ≠ y := by simpa using nd
    have my : y = a ∨ y = b := by simpa using p.mem_iff.mp (show y ∈ [x, y] by simp)
    rcases mx with h1 | h1 <;> rcases my with h2 | h2
    · exact absurd (h1.trans h2.symm) nxy
    · exact .inl ⟨h1, h2⟩
    · exact .inr ⟨h1, h2⟩
    · exact absurd (h1.trans h2.symm) nxy
  refine ⟨x, y, e, ?_, xy⟩
  have nxy : x ≠ y := by
    rcases xy with ⟨h1, h2⟩ | ⟨h1, h2⟩
    · rw [h1, h2]
      exact ne
    · rw [h1, h2]
      exact ne.symm
  have le := (List.pairwise_cons.mp pw').1 y List.mem_cons_self
  have le2 : (listOrd itemOrd).blt (PySem.W.keyToks (.str y)) (PySem.W.keyToks (.str x)) = false := by
    simpa [PySem.W.dataLe, PySem.W.sortLe] using le
  have c1 : (listOrd itemOrd).blt (PySem.W.keyToks (.str x)) (PySem.W.keyToks (.str y)) = true := by
    cases h : (listOrd itemOrd).blt (PySem.W.keyToks (.str x)) (PySem.W.keyToks (.str y)) with
    | true => rfl
    | false => exact absurd (toks_str ((listOrd itemOrd).total _ _ h le2)) nxy
  simp only [PySem.W.keyToks] at c1
  rcases lex_true.mp c1 with h | ⟨_, h⟩
  · exact of_decide_eq_true (p := x.cps.toList < y.cps.toList) h
  · cases h

end Lw

namespace Lw
open PySem PySem.Spec PyProof.Rows L2 GxR Gx
/-! ### a web beside what is drawn from -/
theorem WebAt.growP {H H' : Hp} {W p : Addr} {c : Int} {hands : List Str} {roads : List (Str × Str)} (h : WebAt H W hands roads) (ne : hands ≠ []) (pot : Pot H p c) (g : Grow [p] H H') : WebAt H' W hands roads := by
  obtain ⟨hs, rs, h1, h2, h3⟩ := h
  obtain ⟨a, b, k, ep, _⟩ := pot
  obtain ⟨xs, e3, t3⟩ := id h3
  have n1 : W ≠ p := fun z => by rw [z, ep] at h1; cases h1
  have n2 : hs ≠ p := fun z => by
    rw [z, ep] at h2
    cases hands with
    | nil => exact ne rfl
    | cons x r => cases h2
  have n3 : rs ≠ p := fun z => by
    rw [z, ep] at e3
    cases e3
    cases roads with
    | nil => cases t3
    | cons r rs => cases t3
  exact ⟨hs, rs, g.tup (by simpa using n1) h1, g.lst (by simpa using n2) h2, h3.grow g (noFrz_lst ep) (by simpa using n3)⟩

/-! ### _law_web -/
section
variable {P : Program} {w : World} {K : PySem.W.Frag} {mg : Str → Option Value} {base : Heap}
def spWeb (K : PySem.W.Frag) : Sp := fun vs H Q _ => ∃ (p : Addr) (m : Nat) (c : Int), vs = [.ref p, .int m] ∧ 1 ≤ m ∧ m ≤ 100 ∧ Pot H p c ∧ c ≤ 2 ^ 19 ∧
  ∀ (W : Addr) (H' : Hp) (hands : List Str) (roads : List (Str × Str)), Fresh H W → Grow [p] H H' → WebAt H' W hands roads → WebOk hands roads → hands.length = m → Pot H' p (c + 1000) → Q (.ref W) H'
theorem ok_law_web {f c : Addr} {fd : FuncData} (B : Nb mg) (D : DefIs K "_law_web" "_law_web" st_law_web f fd (.ref c))
    (c_law_dip : Callee P w K mg base CX0 3 "_law_dip" ["pot", "many"] (spDip K)) (c_law_names : Callee P w K mg base CX0 4 "_law_names" ["pot", "many"] (spNames K)) : FnG P w K mg base CX0 5 f fd ["pot", "many"] (spWeb K) := by
  refine D.ok0 (k := 4) sc_law_web (fun vs H Q E h => ?_) (fun A outer s H vs Q E g hr h => ?_)
  · obtain ⟨p, m, c, rfl, _⟩ := h
    rfl
  obtain ⟨p, m, c, rfl, m1, m2, hp, hc, q⟩ := h
  refine ⟨_,
      (pss_cons (ps_set (i := 2) sc_law_web.nd rfl (.inl rfl) (pe_g c_law_names g (hr.mono (by decide)) pass0 (pa_cons (pv 0) (pa_cons (pv 1) pa_nil))))
      (pss_cons (ps_set (i := 3) sc_law_web.nd rfl (.inl rfl) (pe_g c_law_dip g (hr.mono (by decide)) pass0 (pa_cons (pv 0) (pa_cons pe_int pa_nil))))
      (pss_cons (ps_set (i := 4) sc_law_web.nd rfl (.inl rfl) (pe_lst pa_nil))
      (pss_cons (ps_for PassesOwn.never rfl (pi_range2 rfl B.n_range (pa_cons pe_int (pa_cons (pv 1) pa_nil))) (pg_name (i := 5) sc_law_web.nd rfl (.inl rfl)) (
        (pss_cons (ps_set (i := 6) sc_law_web.nd rfl (.inl rfl) (pe_ix ix_list (pe_lst (pa_cons (pe_op op_sub (pv 5) pe_int) (pa_cons pe_int (pa_cons (pe_g c_law_dip g (hr.mono (by decide)) pass0 (pa_cons (pv 0) (pa_cons (pv 5) pa_nil))) (pa_cons (pe_callB (call_max2 rfl) rfl B.n_max (by decide +kernel) (pa_cons pe_int (pa_cons (pe_op op_sub (pe_op op_sub (pv 5) pe_int) (pe_g c_law_dip g (hr.mono (by decide)) pass0 (pa_cons (pv 0) (pa_cons pe_int pa_nil)))) pa_nil))) pa_nil))))) (pv 3) (fun _ _ => rfl)))
        (pss_one (ps_expr (pe_bm PySem.F.plainAttrs_list PySem.F.slot_list_insert PySem.F.type_list_insert mt_insert (pv 4) (pa_cons (pe_g c_law_dip g (hr.mono (by decide)) pass0 (pa_cons (pv 0) (pa_cons (pv 5) pa_nil))) (pa_cons (pe_callTy call_tupleF rfl B.n_tuple (by decide +kernel) (pa_cons (pe_callB (cr_sortG (val := V.str) (enc := PyData.str) hr.units) rfl B.n_sorted (by decide +kernel) (pa_cons (pe_lst (pa_cons (pe_ix ix_list (pv 2) (pv 5) (fun _ _ => rfl)) (pa_cons (pe_ix ix_list (pv 2) (pv 6) (fun _ _ => rfl)) pa_nil))) pa_nil)) pa_nil)) pa_nil))))))))
      (pss_one (ps_ret (pe_tup (pa_cons (pe_ifExp (pt_cmpR (op_eq) (pe_g c_law_dip g (hr.mono (by decide)) pass0 (pa_cons (pv 0) (pa_cons pe_int pa_nil))) pe_int (nomark _)) (pe_revL (pv 2)) (pe_callB (cr_sortG (val := V.str) (enc := PyData.str) hr.units) rfl B.n_sorted (by decide +kernel) (pa_cons (pv 2) pa_nil))) (pa_cons (pv 4) pa_nil))))))))), ?_⟩
  obtain ⟨pa, pb, pk, ep, pr⟩ := id hp
  refine ⟨.ref p, rfl, .int m, rfl, p, m, c, rfl, m2, hp, by omega, fun Y H1 ys fY g1 eY nd nm ly pot1 => ?_⟩
  have Yp : Y ≠ p := (fY.ne ep (fun ps z => by cases z)).symm
  refine ⟨.ref p, rfl, p, 4, _, rfl, by decide, by decide, by omega, pot1, fun way H2 w0 w1 g2 pot2 => ⟨by show 0 ≤ sizeLine; decide, fun R nR => ?_⟩⟩
  have g02 := (g1.trans g2)
  have fR : Fresh H R := Fresh.back (fresh_none nR) g02 pot2
  have Rp : R ≠ p := (fR.ne ep (fun ps z => by cases z)).symm
  have eY2 : upd H2 R (.lst []) Y = some (.lst (ys.map V.str)) := by
    have e := g2.lst (p := Y) (by simpa using Yp) eY
    rw [upd_ne (ne_of_none e nR)]
    exact e
  have RY : R ≠ Y := fun z => by
    have e := g2.lst (p := Y) (by simpa using Yp) eY
    rw [← z, nR] at e
    cases e
  have y0 : 0 < ys.length := by omega
  have ynd : ∀ {i : Nat} (hi : i < ys.length), ys[i] ∉ ys.take i := fun {i} hi h => by
    obtain ⟨j, hj⟩ := List.mem_iff_getElem?.mp h
    rw [List.getElem?_take] at hj
    by_cases hji : j < i
    · rw [if_pos hji] at hj
      have := (List.getElem?_inj (List.getElem?_eq_some_iff.mp hj).1 nd).mp (hj.trans (List.getElem?_eq_getElem hi).symm)
      omega
    · rw [if_neg hji] at hj
      cases hj
  have tk : ∀ {i : Nat} (hi : i < ys.length), ys.take (i + 1) = ys.take i ++ [ys[i]] := fun {i} hi => by rw [List.take_add_one, List.getElem?_eq_getElem hi]; rfl
  have T0 : TreeOk (ys.take (0 + 1)) [] := by
    rw [tk y0, List.take_zero]
    exact TreeOk.one _
  refine ⟨.int m, rfl, 1, m, rfl, ⟨by decide, by decide, by omega, by omega⟩, ?_⟩
  refine for_it walk_range (fun i σ H' => ∃ (roads : List (Str × Str)) (a b : Option V), σ = [some (.ref p), some (.int m), some (.ref Y), some (.int way), some (.ref R), a, b] ∧ Grow [p] H H' ∧ H' Y = some (.lst (ys.map V.str)) ∧ RdT H' R roads ∧ TreeOk (ys.take (i + 1)) roads ∧ roads.length = i ∧ (∀ r ∈ roads, r.1.cps.toList < r.2.cps.toList) ∧ Pot H' p (c + 201 + 3 * i))
    ⟨[], none, none, rfl, g02.new nR, eY2, ⟨[], upd_same, .nil⟩, T0, rfl, fun r hr => (by cases hr), (pot2.new nR).mono (by omega)⟩ (fun _ _ _ _ _ => trivial) (fun i x σ H3 H4 hi hw hy => ?_) (fun σ H3 hw => ?_)
  · obtain ⟨roads, a0, b0, rfl, gr, eY3, hR, tree, lr, lt, pot⟩ := hw
    obtain ⟨rfl, ex⟩ := hy
    have im : i + 1 < ys.length := by omega
    have ek : (1 : Int) + (i : Nat) = ((i + 1 : Nat) : Int) := by omega
    replace ex : x = V.int ((i + 1 : Nat) : Int) := Eq.trans ex (congrArg V.int ek)
    subst ex
    refine ⟨.int _, rfl, _, _, rfl, rfl, .ref p, rfl, .int _, rfl, p, _, _, rfl, by omega, by omega, by omega, pot, fun v1 H5 a0 a1 g5 pot5 => ?_⟩
    refine ⟨.int _, rfl, _, _, rfl, rfl, .ref p, rfl, p, 3, _, rfl, by decide, by decide, by omega, pot5, fun v2 H6 b0 b1 g6 pot6 => ⟨_, _, rfl, rfl, _, _, rfl, by show 4 ≤ sizeLine; decide, fun L nL => ?_⟩⟩
    obtain ⟨at_, hat, ati⟩ : ∃ at_ : Nat, atI [V.int (((i + 1 : Nat) : Int) - 1), V.int 0, V.int v1, V.int (if ((i + 1 : Nat) : Int) - 1 - v2 > 0 then ((i + 1 : Nat) : Int) - 1 - v2 else 0)] way = some (.int at_) ∧ at_ ≤ i := by
      have : way = 0 ∨ way = 1 ∨ way = 2 ∨ way = 3 := by omega
      rcases this with rfl | rfl | rfl | rfl
      · exact ⟨i, by show some (V.int (((i + 1 : Nat) : Int) - 1)) = _; congr 2; omega, Nat.le_refl _⟩
      · exact ⟨0, rfl, Nat.zero_le _⟩
      · exact ⟨v1.toNat, by show some (V.int v1) = _; congr 2; omega, by omega⟩
      · refine ⟨(if ((i + 1 : Nat) : Int) - 1 - v2 > 0 then ((i + 1 : Nat) : Int) - 1 - v2 else 0).toNat, ?_, ?_⟩
        · show some (V.int _) = some (V.int _)
          congr 2
          split <;> omega
        · split <;> omega
    have g46 := g5.trans g6
    have eY6 : H6 Y = some (.lst (ys.map V.str)) := g46.lst (by simpa using Yp) eY3
    obtain ⟨_, _, _, eqp, _⟩ := id pot
    have hR6 := hR.grow g46 (noFrz_lst eqp) (by simpa using Rp)
    refine ⟨.int way, rfl, L, _, way, .int at_, rfl, rfl, .inl (.inl upd_same), hat, ?_⟩
    have gr6 := gr.trans g46
    have gL := gr6.new (o := .lst [V.int (((i + 1 : Nat) : Int) - 1), V.int 0, V.int v1, V.int (if ((i + 1 : Nat) : Int) - 1 - v2 > 0 then ((i + 1 : Nat) : Int) - 1 - v2 else 0)]) nL
    have gnL : Grow [] H6 (upd H6 L (.lst [V.int (((i + 1 : Nat) : Int) - 1), V.int 0, V.int v1, V.int (if ((i + 1 : Nat) : Int) - 1 - v2 > 0 then ((i + 1 : Nat) : Int) - 1 - v2 else 0)])) := grow_new nL
    have potL := pot6.new (o := .lst [V.int (((i + 1 : Nat) : Int) - 1), V.int 0, V.int v1, V.int (if ((i + 1 : Nat) : Int) - 1 - v2 > 0 then ((i + 1 : Nat) : Int) - 1 - v2 else 0)]) nL
    have eYL := gnL.lst (by simp) eY6
    have hRL := hR6.grow gnL noFrz_nil (by simp)
    generalize upd H6 L (.lst [V.int (((i + 1 : Nat) : Int) - 1), V.int 0, V.int v1, V.int (if ((i + 1 : Nat) : Int) - 1 - v2 > 0 then ((i + 1 : Nat) : Int) - 1 - v2 else 0)]) = H7 at gL potL eYL hRL ⊢
    obtain ⟨xsL, eRL, _⟩ := id hRL
    refine ⟨.ref R, rfl, tyl eRL, .ref p, rfl, .int _, rfl, p, _, _, rfl, by omega, by omega, by omega, potL, fun v3 H8 c0 c1 g8 pot8 => ?_⟩
    have eY8 : H8 Y = some (.lst (ys.map V.str)) := g8.lst (by simpa using Yp) eYL
    obtain ⟨_, _, _, eqL, _⟩ := id potL
    have hR8 := hRL.grow g8 (noFrz_lst eqL) (by simpa using Rp)
    have gr8 := gL.trans g8
    refine ⟨.ref Y, rfl, .int _, rfl, Y, _, _, .str ys[i + 1], rfl, rfl, .inl (.inl eY8), atI_nat (by rw [List.getElem?_map, List.getElem?_eq_getElem im]; rfl), .ref Y, rfl, .int at_, rfl, Y, _, _, .str (ys[at_]'(by omega)), rfl, rfl, .inl (.inl eY8), atI_nat (by rw [List.getElem?_map, List.getElem?_eq_getElem (by omega)]; rfl), by show 2 ≤ sizeLine; decide, fun L2 n2 => ?_⟩
    have nab : ys[i + 1] ≠ ys[at_]'(by omega) := fun z => by
      have := (List.getElem?_inj (j := at_) im nd).mp (by rw [List.getElem?_eq_getElem im, List.getElem?_eq_getElem (show at_ < ys.length by omega), z])
      omega
    obtain ⟨x, y, es, xy, xab⟩ := sort_two nab
    refine ⟨L2, [ys[i + 1], ys[at_]'(by omega)], rfl, .inl (.inl upd_same), fun z hz => ⟨.str z, by show 0 ≤ 60; decide⟩, alike_strs _, sortable_strs _, by show 2 ≤ sizeLine; decide, fun S nS => ?_⟩
    rw [es]
    refine ⟨S, _, rfl, .inl (.inl upd_same), fun T To nT dT0 => ?_⟩
    have gT : Grow [] H8 (upd (upd (upd H8 L2 (.lst [.str ys[i + 1], .str (ys[at_]'(by omega))])) S (.lst ([x, y].map V.str))) T (.frz To (.tup ([x, y].map V.str)))) := ((grow_new n2).new nS).new nT
    have hRT := hR8.grow gT noFrz_nil (by simp)
    have eT : upd (upd (upd H8 L2 (.lst [.str ys[i + 1], .str (ys[at_]'(by omega))])) S (.lst ([x, y].map V.str))) T (.frz To (.tup ([x, y].map V.str))) T = some (.frz To (.tup [.str x, .str y])) := upd_same
    obtain ⟨xs, eRT, tx⟩ := id hRT
    have lxs : xs.length = i := by rw [tx.length, lr]
    have dT := (⟨To, eT, dT0⟩ : Pr _ T (x, y))
    refine ⟨R, xs, v3, .ref T, rfl, rfl, eRT, by rw [lxs]; unfold sizeLine; omega, c0, by omega, ?_⟩
    have grT := gr8.trans gT.any
    have gP := grow_at (ex := [R]) (o := .lst (xs.take v3.toNat ++ [.ref T] ++ xs.drop v3.toNat)) eRT (fun ps z => by cases z) (by simp)
    have mem : ∀ z, z ∈ roads.take v3.toNat ++ [(x, y)] ++ roads.drop v3.toNat ↔ z = (x, y) ∨ z ∈ roads := fun z => by
      have e : roads = roads.take v3.toNat ++ roads.drop v3.toNat := (List.take_append_drop _ _).symm
      constructor
      · intro h
        rcases List.mem_append.mp h with h | h
        · rcases List.mem_append.mp h with h | h
          · exact .inr (List.mem_of_mem_take h)
          · exact .inl (List.mem_singleton.mp h)
        · exact .inr (List.mem_of_mem_drop h)
      · rintro (h | h)
        · rw [h]
          simp
        · rw [e] at h
          rcases List.mem_append.mp h with h | h
          · exact List.mem_append_left _ (List.mem_append_left _ h)
          · exact List.mem_append_right _ h
    refine ⟨roads.take v3.toNat ++ [(x, y)] ++ roads.drop v3.toNat, _, _, rfl, grT.put fR eRT (fun ps z => by cases z), ?_, ?_, ?_, ?_, ?_, ?_⟩
    · rw [upd_ne RY.symm]
      exact gT.lst (by simp) eY8
    · refine ⟨_, upd_same, ?_⟩
      exact (Prs.ins dT v3.toNat tx).grow gP (noFrz_lst eRT)
    · rw [tk im]
      refine tree.grow (u := ys[at_]'(by omega)) (v := ys[i + 1]) (ynd im) ?_ fun a b => ?_
      · exact List.mem_iff_getElem?.mpr ⟨at_, by rw [List.getElem?_take, if_pos (by omega), List.getElem?_eq_getElem]⟩
      · unfold Adj
        rw [mem, mem, Prod.mk.injEq, Prod.mk.injEq]
        rcases xab with ⟨rfl, rfl⟩ | ⟨rfl, rfl⟩
        · constructor
          · rintro ((h | h) | (h | h))
            · exact .inr (.inr h)
            · exact .inl (.inl h)
            · exact .inr (.inl ⟨h.2, h.1⟩)
            · exact .inl (.inr h)
          · rintro ((h | h) | h | h)
            · exact .inl (.inr h)
            · exact .inr (.inr h)
            · exact .inr (.inl ⟨h.2, h.1⟩)
            · exact .inl (.inl h)
        · constructor
          · rintro ((h | h) | (h | h))
            · exact .inr (.inl h)
            · exact .inl (.inl h)
            · exact .inr (.inr ⟨h.2, h.1⟩)
            · exact .inl (.inr h)
          · rintro ((h | h) | h | h)
            · exact .inl (.inr h)
            · exact .inr (.inr h)
            · exact .inl (.inl h)
            · exact .inr (.inl ⟨h.2, h.1⟩)
    · rw [List.length_append, List.length_append, List.length_take, List.length_drop, List.length_singleton]
      omega
    · intro r hr
      rcases (mem r).mp hr with h | h
      · rw [h]
        exact xy
      · exact lt r h
    · exact ((((pot8.new n2).new nS).new nT).at Rp.symm).mono (by omega)
  · obtain ⟨roads, a0, b0, rfl, gr, eY3, hR, tree, lr, lt, pot⟩ := hw
    have e1 : ((m : Int) - 1).toNat + 1 = ys.length := by omega
    rw [e1, List.take_length] at tree
    obtain ⟨qa, qb, qk, eq3, _⟩ := id pot
    refine ⟨.ref p, rfl, p, 2, _, rfl, by decide, by decide, by omega, pot, fun v H4 v0 v1 g4 pot4 => ⟨rfl, _, rfl, ?_⟩⟩
    have gr4 := gr.trans g4
    have eY4 : H4 Y = some (.lst (ys.map V.str)) := g4.lst (by simpa using Yp) eY3
    have hR4 := hR.grow g4 (noFrz_lst eq3) (by simpa using Rp)
    obtain ⟨xs4, eR4, _⟩ := id hR4
    have fin : ∀ (Z : Addr) (zs : List Str), H4 Z = none → zs.Perm ys → ∀ W, upd H4 Z (.lst (zs.map V.str)) W = none → Q (.ref W) (upd (upd H4 Z (.lst (zs.map V.str))) W (.tup [.ref Z, .ref R])) := fun Z zs nZ pm W nW => by
      have gZ : Grow [] H4 (upd (upd H4 Z (.lst (zs.map V.str))) W (.tup [.ref Z, .ref R])) := (grow_new nZ).new nW
      refine q W _ zs roads (Fresh.back (fresh_none (by rwa [upd_ne (show W ≠ Z from fun z => by rw [z, upd_same] at nW; cases nW)] at nW)) gr4 pot4) (gr4.trans gZ.any) ⟨Z, R, upd_same, ?_, hR4.grow gZ noFrz_nil (by simp)⟩ ?_ (by rw [pm.length_eq, ly]) (((pot4.new nZ).new nW).mono (by omega))
      · rw [upd_ne (ne_of_none upd_same nW)]
        exact upd_same
      · have mm : ∀ x, x ∈ zs ↔ x ∈ ys := fun x => pm.mem_iff
        refine ⟨List.all_eq_true.mpr fun x hx => List.all_eq_true.mp nm x ((mm x).mp hx), pm.nodup_iff.mpr nd, by rw [pm.length_eq]; omega, fun z => ?_, by rw [pm.length_eq]; omega, fun r hr => ?_, fun r hr => ?_⟩
        · have := pm.length_eq
          rw [z] at this
          rw [← this] at y0
          exact absurd y0 (by simp)
        · have := tree.ends r.1 r.2 (.inl hr)
          exact ⟨(mm _).mpr this.1, (mm _).mpr this.2, lt r hr⟩
        · obtain ⟨d, R2⟩ := tree.tree r ((mm r).mp hr)
          exact ⟨d, R2.perm mm⟩
    refine ite2 (fun _ => ?_) fun _ => ?_
    · refine ⟨.ref Y, rfl, Y, _, rfl, .inl (.inl eY4), fun Z nZ => ⟨.ref R, rfl, by show 2 ≤ sizeLine; decide, fun W nW => ?_⟩⟩
      rw [← List.map_reverse] at nW ⊢
      exact fin Z ys.reverse nZ (List.reverse_perm ys) W nW
    · refine ⟨.ref Y, rfl, Y, ys, rfl, .inl (.inl eY4), fun z hz => ⟨.str z, by show 0 ≤ 60; decide⟩, alike_strs _, sortable_strs _, by unfold sizeLine; omega, fun Z nZ => ⟨.ref R, rfl, by show 2 ≤ sizeLine; decide, fun W nW => ?_⟩⟩
      exact fin Z _ nZ (List.mergeSort_perm ys _) W nW
end

end Lw

namespace Lw
open PySem PySem.Spec PyProof.Rows L2 GxR Gx
/-! ### names by their signs -/
theorem nm_iff {w : Str} : isNm w = true ↔ 1 ≤ w.length ∧ w.length ≤ 8 ∧ ∀ c ∈ w.cps.toList, 97 ≤ c ∧ c ≤ 122 := by
  unfold isNm nameC
  simp only [Bool.and_eq_true, decide_eq_true_eq, List.all_eq_true]
  constructor
  · rintro ⟨⟨h1, h2⟩, h3⟩
    exact ⟨h1, h2, h3⟩
  · rintro ⟨h1, h2, h3⟩
    exact ⟨⟨h1, h2⟩, h3⟩

/-! ### texts -/
def spS : Str := " "
def nlS : Str := "\n"
def daS : Str := "-"
theorem app_assoc (a b c : Str) : a ++ b ++ c = a ++ (b ++ c) := str_cps (by show ((a.cps ++ b.cps) ++ c.cps).toList = (a.cps ++ (b.cps ++ c.cps)).toList; rw [Array.append_assoc])
theorem app_empty (a : Str) : a ++ Str.empty = a := str_cps (by show (a.cps ++ #[]).toList = a.cps.toList; simp)
theorem empty_app (a : Str) : Str.empty ++ a = a := str_cps (by show (#[] ++ a.cps).toList = a.cps.toList; simp)
theorem app_len (a b : Str) : (a ++ b).length = a.length + b.length := Array.size_append
theorem join_snoc (y : Str) : ∀ {ws : List Str} (w : Str), ws ≠ [] → Str.join y (ws ++ [w]) = Str.join y ws ++ y ++ w
  | [], w, h => absurd rfl h
  | [x], w, _ => rfl
  | x :: z :: r, w, _ => by
    show x ++ y ++ Str.join y ((z :: r) ++ [w]) = x ++ y ++ Str.join y (z :: r) ++ y ++ w
    rw [join_snoc y (ws := z :: r) w (by simp), ← app_assoc, ← app_assoc]
theorem join_len (y : Str) (m : Nat) : ∀ {ws : List Str}, (∀ w ∈ ws, w.length ≤ m) → (Str.join y ws).length ≤ ws.length * (m + y.length)
  | [], _ => Nat.zero_le _
  | [x], h => by
    have := h x List.mem_cons_self
    show x.length ≤ 1 * _
    omega
  | x :: z :: r, h => by
    have h1 := h x List.mem_cons_self
    have h2 := join_len y m (ws := z :: r) fun w hw => h w (List.mem_cons_of_mem _ hw)
    show (x ++ y ++ Str.join y (z :: r)).length ≤ _
    rw [app_len, app_len, List.length_cons, Nat.succ_mul]
    omega
theorem tl_cps (x : Str) : TL.tl x = x.cps.toList := rfl
/-- a text without a sign -/
def Lacks (c : Nat) (x : Str) : Prop := c ∉ x.cps.toList
theorem lacks_app {c : Nat} {x y : Str} (h : Lacks c x) (k : Lacks c y) : Lacks c (x ++ y) := by
  unfold Lacks at *
  show c ∉ (x.cps ++ y.cps).toList
  rw [Array.toList_append, List.mem_append]
  exact fun z => z.elim h k
theorem nm_lacks {x : Str} (h : isNm x = true) {c : Nat} (hc : c < 97 ∨ 122 < c) : Lacks c x := fun z => by
  have := (nm_iff.mp h).2.2 c z
  omega
theorem nm_ne {x : Str} (h : isNm x = true) : x ≠ Str.empty := fun e => by
  have := (nm_iff.mp h).1
  rw [e] at this
  exact absurd this (by decide)
theorem split_sp {parts : List Str} (hne : parts ≠ []) (h : ∀ p ∈ parts, Lacks 32 p) : Txt.split (Str.join spS parts) spS = parts := by
  rw [← TL.join_eq]
  exact TL.split_join (s := 32) (S := []) rfl (by decide +kernel) hne h
theorem split_nl {parts : List Str} (hne : parts ≠ []) (h : ∀ p ∈ parts, Lacks 10 p) : Txt.split (Str.join nlS parts) nlS = parts := by
  rw [← TL.join_eq]
  exact TL.split_join (s := 10) (S := []) rfl (by decide +kernel) hne h
theorem split_da {parts : List Str} (hne : parts ≠ []) (h : ∀ p ∈ parts, Lacks 45 p) : Txt.split (Str.join daS parts) daS = parts := by
  rw [← TL.join_eq]
  exact TL.split_join (s := 45) (S := []) rfl (by decide +kernel) hne h
theorem lacks_join {c : Nat} {y : Str} (hy : Lacks c y) : ∀ {ws : List Str}, (∀ w ∈ ws, Lacks c w) → Lacks c (Str.join y ws)
  | [], _ => fun z => by cases z
  | [x], h => h x List.mem_cons_self
  | x :: z :: r, h => by
    show Lacks c (x ++ y ++ Str.join y (z :: r))
    exact lacks_app (lacks_app (h x List.mem_cons_self) hy) (lacks_join hy (ws := z :: r) fun w hw => h w (List.mem_cons_of_mem _ hw))
theorem join_ne {y : Str} {ws : List Str} (hne : ws ≠ []) (h : ∀ w ∈ ws, w ≠ Str.empty) : Str.join y ws ≠ Str.empty := by
  have l0 : ∀ x : Str, x ≠ Str.empty → 0 < x.length := fun x hx => Nat.pos_of_ne_zero fun z => hx (str_cps (by
    have : x.cps = #[] := Array.size_eq_zero_iff.mp z
    rw [this]
    rfl))
  match ws, hne, h with
  | [x], _, h => exact h x List.mem_cons_self
  | x :: z :: r, _, h =>
    intro e
    have h1 := l0 x (h x List.mem_cons_self)
    have h2 := congrArg Str.length e
    rw [show Str.join y (x :: z :: r) = x ++ y ++ Str.join y (z :: r) from rfl, app_len, app_len] at h2
    have : Str.empty.length = 0 := rfl
    omega
/-! ### webs in order -/
def sortS (l : List Str) : List Str := l.mergeSort (PySem.W.dataLe false PyData.str)
def sortP (l : List (Str × Str)) : List (Str × Str) := l.mergeSort (PySem.W.dataLe false encP)
theorem sortS_perm (l : List Str) : (sortS l).Perm l := List.mergeSort_perm _ _
theorem sortP_perm (l : List (Str × Str)) : (sortP l).Perm l := List.mergeSort_perm _ _
theorem sortS_eq {l m : List Str} (p : l.Perm m) : sortS l = sortS m := sort_same p fun a b => toks_str
theorem sortP_eq {l m : List (Str × Str)} (p : l.Perm m) : sortP l = sortP m := sort_same p fun a b => toks_pair
theorem sortS_twice (l : List Str) : sortS (sortS l) = sortS l := sortS_eq (sortS_perm l)
theorem sortP_twice (l : List (Str × Str)) : sortP (sortP l) = sortP l := sortP_eq (sortP_perm l)
theorem Adj.perm {rs rs' : List (Str × Str)} (p : rs.Perm rs') {a b : Str} : Adj rs a b ↔ Adj rs' a b := by
  unfold Adj
  rw [p.mem_iff, p.mem_iff]
theorem WebOk.perm {hands hands' : List Str} {roads roads' : List (Str × Str)} (w : WebOk hands roads) (p : hands.Perm hands') (r : roads.Perm roads') : WebOk hands' roads' := by
  refine ⟨List.all_eq_true.mpr fun x hx => List.all_eq_true.mp w.nm x (p.mem_iff.mpr hx), p.nodup_iff.mp w.nd, by rw [← p.length_eq]; exact w.len, fun z => ?_, by rw [← r.length_eq, ← p.length_eq]; exact w.many, fun x hx => ?_, fun x hx => ?_⟩
  · have := p.length_eq
    rw [z] at this
    exact w.ne (List.eq_nil_of_length_eq_zero this)
  · have := w.ends x (r.mem_iff.mpr hx)
    exact ⟨p.mem_iff.mp this.1, p.mem_iff.mp this.2.1, this.2.2⟩
  · obtain ⟨d, R⟩ := w.tree x (p.mem_iff.mpr hx)
    refine ⟨d, p.mem_iff.mp R.root, R.zero, fun a b h => R.near a b ((Adj.perm r).mpr h), fun h hh hne => ?_, fun h q s h1 h2 => R.one h q s ((Adj.perm r).mpr h1) ((Adj.perm r).mpr h2)⟩
    obtain ⟨q, q1, q2⟩ := R.up h (p.mem_iff.mpr hh) hne
    exact ⟨q, (Adj.perm r).mp q1, q2⟩
def rdS (r : Str × Str) : Str := r.1 ++ daS ++ r.2
def webRows (hands : List Str) (roads : List (Str × Str)) : List Str := Str.join spS (sortS hands) :: (sortP roads).map rdS
def webText (hands : List Str) (roads : List (Str × Str)) : Str := Str.join nlS (webRows hands roads)
section
variable {hands : List Str} {roads : List (Str × Str)}
theorem WebOk.hand (w : WebOk hands roads) {x : Str} (h : x ∈ hands) : isNm x = true := List.all_eq_true.mp w.nm x h
theorem WebOk.road (w : WebOk hands roads) {r : Str × Str} (h : r ∈ roads) : isNm r.1 = true ∧ isNm r.2 = true := ⟨w.hand (w.ends r h).1, w.hand (w.ends r h).2.1⟩
theorem rdS_len {r : Str × Str} (h : isNm r.1 = true ∧ isNm r.2 = true) : (rdS r).length ≤ 17 := by
  have h1 := (nm_iff.mp h.1).2.1
  have h2 := (nm_iff.mp h.2).2.1
  unfold rdS
  rw [app_len, app_len]
  have : daS.length = 1 := by decide
  omega
theorem webRows_lacks (w : WebOk hands roads) : ∀ x ∈ webRows hands roads, Lacks 10 x ∧ x ≠ Str.empty ∧ x.length ≤ 1800 := by
  intro x hx
  have ls : Lacks 10 spS := by unfold Lacks; decide +kernel
  have ld : Lacks 10 daS := by unfold Lacks; decide +kernel
  rcases List.mem_cons.mp hx with rfl | hx
  · have hs : ∀ y ∈ sortS hands, isNm y = true := fun y hy => w.hand ((sortS_perm hands).mem_iff.mp hy)
    refine ⟨lacks_join ls fun y hy => nm_lacks (hs y hy) (.inl (by decide)), join_ne (fun z => ?_) fun y hy => nm_ne (hs y hy), ?_⟩
    · have := (sortS_perm hands).length_eq
      rw [z] at this
      exact w.ne (List.eq_nil_of_length_eq_zero this.symm)
    · have := join_len spS 8 (ws := sortS hands) fun y hy => (nm_iff.mp (hs y hy)).2.1
      have l1 : spS.length = 1 := by decide
      have l2 := w.len
      rw [(sortS_perm hands).length_eq, l1] at this
      omega
  · obtain ⟨r, hr, rfl⟩ := List.mem_map.mp hx
    have nm := w.road ((sortP_perm roads).mem_iff.mp hr)
    refine ⟨lacks_app (lacks_app (nm_lacks nm.1 (.inl (by decide))) ld) (nm_lacks nm.2 (.inl (by decide))), fun e => ?_, by have := rdS_len nm; omega⟩
    have h1 := (nm_iff.mp nm.1).1
    have h2 := congrArg Str.length e
    unfold rdS at h2
    rw [app_len, app_len] at h2
    have : Str.empty.length = 0 := rfl
    omega
theorem rdS_split {r : Str × Str} (h : isNm r.1 = true ∧ isNm r.2 = true) : Txt.split (rdS r) daS = [r.1, r.2] := by
  have := split_da (parts := [r.1, r.2]) (by simp) fun p hp => by
    rcases List.mem_cons.mp hp with rfl | hp
    · exact nm_lacks h.1 (.inl (by decide))
    · rw [List.mem_singleton.mp hp]
      exact nm_lacks h.2 (.inl (by decide))
  exact this
theorem hands_split (w : WebOk hands roads) : Txt.split (Str.join spS (sortS hands)) spS = sortS hands := by
  refine split_sp (fun z => ?_) fun y hy => nm_lacks (w.hand ((sortS_perm hands).mem_iff.mp hy)) (.inl (by decide))
  have := (sortS_perm hands).length_eq
  rw [z] at this
  exact w.ne (List.eq_nil_of_length_eq_zero this.symm)
theorem web_split (w : WebOk hands roads) : Txt.split (webText hands roads) nlS = webRows hands roads := split_nl (by unfold webRows; simp) fun x hx => (webRows_lacks w x hx).1
theorem webText_len (w : WebOk hands roads) : (webText hands roads).length ≤ 500000 := by
  have := join_len nlS 1800 (ws := webRows hands roads) fun x hx => (webRows_lacks w x hx).2.2
  have l1 : nlS.length = 1 := by decide
  have l2 := w.len
  have l3 := w.many
  have l4 : (webRows hands roads).length = roads.length + 1 := by unfold webRows; rw [List.length_cons, List.length_map, (sortP_perm roads).length_eq]
  rw [l4, l1] at this
  unfold webText
  omega
theorem app_code {a b : Str} (ha : ∀ c ∈ a.cps.toList, c < 0x110000) (hb : ∀ c ∈ b.cps.toList, c < 0x110000) : ∀ c ∈ (a ++ b).cps.toList, c < 0x110000 := fun c hc => by
  have hc : c ∈ (a.cps ++ b.cps).toList := hc
  rw [Array.toList_append, List.mem_append] at hc
  exact hc.elim (ha c) (hb c)
theorem join_code {y : Str} (hy : ∀ c ∈ y.cps.toList, c < 0x110000) : ∀ {ws : List Str}, (∀ w ∈ ws, ∀ c ∈ w.cps.toList, c < 0x110000) → ∀ c ∈ (Str.join y ws).cps.toList, c < 0x110000
  | [], _ => fun c z => by cases z
  | [x], h => h x List.mem_cons_self
  | x :: z :: r, h => by
    show ∀ c ∈ (x ++ y ++ Str.join y (z :: r)).cps.toList, c < 0x110000
    exact app_code (app_code (h x List.mem_cons_self) hy) (join_code hy (ws := z :: r) fun w hw => h w (List.mem_cons_of_mem _ hw))
theorem row_code (w : WebOk hands roads) {x : Str} (hx : x ∈ webRows hands roads) {c : Nat} (hc : c ∈ x.cps.toList) : c < 0x110000 := by
  rcases List.mem_cons.mp hx with rfl | hx
  · exact join_code (y := spS) (by decide +kernel) (fun y hy => nm_lt (w.hand ((sortS_perm hands).mem_iff.mp hy))) c hc
  · obtain ⟨r, hr, rfl⟩ := List.mem_map.mp hx
    have nm := w.road ((sortP_perm roads).mem_iff.mp hr)
    exact app_code (app_code (nm_lt nm.1) (by decide +kernel)) (nm_lt nm.2) c hc
/-- two webs with one text are one, but for the order -/
theorem webText_inj {hands' : List Str} {roads' : List (Str × Str)} (w : WebOk hands roads) (w' : WebOk hands' roads') (e : webText hands roads = webText hands' roads') : sortS hands = sortS hands' ∧ sortP roads = sortP roads' := by
  have h := web_split w
  rw [e, web_split w'] at h
  unfold webRows at h
  obtain ⟨h1, h2⟩ := List.cons.inj h
  refine ⟨?_, ?_⟩
  · rw [← hands_split w, ← h1, hands_split w']
  · have back : ∀ {l : List (Str × Str)}, (∀ r ∈ l, isNm r.1 = true ∧ isNm r.2 = true) → (l.map rdS).map (fun t => Txt.split t daS) = l.map fun r => [r.1, r.2] := fun {l} hl => by
      rw [List.map_map]
      exact List.map_congr_left fun r hr => rdS_split (hl r hr)
    have e1 := back (l := sortP roads) fun r hr => w.road ((sortP_perm roads).mem_iff.mp hr)
    have e2 := back (l := sortP roads') fun r hr => w'.road ((sortP_perm roads').mem_iff.mp hr)
    rw [← h2, e2] at e1
    have inj : ∀ {l m : List (Str × Str)}, (l.map fun r => [r.1, r.2]) = (m.map fun r => [r.1, r.2]) → l = m := by
      intro l
      induction l with
      | nil => intro m h; cases m with
        | nil => rfl
        | cons _ _ => cases h
      | cons x l ih =>
        intro m h
        cases m with
        | nil => cases h
        | cons y m =>
          rw [List.map_cons, List.map_cons] at h
          obtain ⟨a, b⟩ := List.cons.inj h
          have a1 := (List.cons.inj a).1
          have a2 := (List.cons.inj (List.cons.inj a).2).1
          rw [ih b, Prod.ext a1 a2]
    exact (inj e1).symm
end

end Lw

namespace Lw
open PySem PySem.Spec PyProof.Rows L2 GxR Gx
/-! ### rows_of_web -/
theorem Prs.zip {H : Hp} : ∀ {xs : List V} {rs : List (Str × Str)}, Prs H xs rs → ∀ b ∈ xs.zip rs, ∃ a, b.1 = .ref a ∧ Pr H a b.2
  | _, _, .nil, b, hb => by cases hb
  | _, _, .cons h t, b, hb => by
    rcases List.mem_cons.mp hb with rfl | hb
    · exact ⟨_, rfl, h⟩
    · exact t.zip b hb
theorem prs_of {H : Hp} : ∀ {bs : List (V × (Str × Str))}, (∀ b ∈ bs, ∃ a, b.1 = .ref a ∧ Pr H a b.2) → Prs H (bs.map Prod.fst) (bs.map Prod.snd)
  | [], _ => .nil
  | b :: r, h => by
    obtain ⟨a, ea, pa⟩ := h b List.mem_cons_self
    rw [List.map_cons, List.map_cons, ea]
    exact .cons pa (prs_of fun c hc => h c (List.mem_cons_of_mem _ hc))
/-- sorted of the roads: what is asked of them, what comes of it -/
theorem road_parts {K : PySem.W.Frag} {H : Hp} {D : Addr} {rs : List (Str × Str)} (h : RdT H D rs) (hl : rs.length ≤ 1000) : ∃ bs : List (V × (Str × Str)), SqL K H D (bs.map Prod.fst) ∧ (∀ b ∈ bs, Dp K H b.1 (encP b.2) ∧ (encP b.2).depth ≤ 60) ∧
    PySem.W.AllAlike (bs.map fun b => encP b.2) ∧ PySem.W.Sortable (bs.map fun b => encP b.2) ∧ bs.length ≤ sizeLine ∧ ∀ p, H p = none → RdT (upd H p (.lst ((bs.mergeSort (PySem.W.dataLe false fun b : V × (Str × Str) => encP b.2)).map Prod.fst))) p (sortP rs) := by
  obtain ⟨xs, e, t⟩ := h
  have hlen := t.length
  have m1 : (xs.zip rs).map Prod.fst = xs := List.map_fst_zip (Nat.le_of_eq hlen)
  have m2 : (xs.zip rs).map Prod.snd = rs := List.map_snd_zip (Nat.le_of_eq hlen.symm)
  have m3 : (xs.zip rs).map (fun b : V × (Str × Str) => encP b.2) = rs.map encP := by
    have : (fun b : V × (Str × Str) => encP b.2) = encP ∘ Prod.snd := rfl
    rw [this, ← List.map_map, m2]
  refine ⟨xs.zip rs, .inl (.inl (by rw [m1]; exact e)), fun b hb => ⟨?_, ?_⟩, by rw [m3]; exact alike_pairs rs, by rw [m3]; exact sortable_pairs rs, ?_, fun p np => ⟨_, upd_same, ?_⟩⟩
  · obtain ⟨a, ea, pa⟩ := t.zip b hb
    rw [ea]
    exact .tup pa.seq (.cons (.str _) (.cons (.str _) .nil))
  · simp [encP, PyData.depth, PyData.depthAll]
  · rw [List.length_zip, hlen, Nat.min_self]
    unfold sizeLine
    omega
  · have k : ((xs.zip rs).mergeSort (PySem.W.dataLe false fun b : V × (Str × Str) => encP b.2)).map Prod.snd = sortP rs := by
      rw [List.map_mergeSort (f := Prod.snd) (r := PySem.W.dataLe false fun b : V × (Str × Str) => encP b.2) (s := PySem.W.dataLe false encP) fun a _ b _ => rfl, m2]
      rfl
    rw [← k]
    exact (prs_of fun b hb => t.zip b ((List.mergeSort_perm _ _).mem_iff.mp hb)).grow (grow_new (ex := []) np) noFrz_nil
theorem sum_le {m : Nat} : ∀ {ws : List Str}, (∀ w ∈ ws, w.length ≤ m) → (ws.map fun w => w.length).sum ≤ ws.length * m
  | [], _ => Nat.zero_le _
  | x :: r, h => by
    have h1 := h x List.mem_cons_self
    have h2 := sum_le (ws := r) fun w hw => h w (List.mem_cons_of_mem _ hw)
    rw [List.map_cons, List.sum_cons, List.length_cons, Nat.succ_mul]
    omega
section
variable {P : Program} {w : World} {K : PySem.W.Frag} {mg : Str → Option Value} {base : Heap}
def spRowsW (K : PySem.W.Frag) : Sp := fun vs H Q _ => ∃ (W : Addr) (hands : List Str) (roads : List (Str × Str)), vs = [.ref W] ∧ WebAt H W hands roads ∧ WebOk hands roads ∧
  ∀ D H', Fresh H D → Grow [] H H' → H' D = some (.lst ((webRows hands roads).map V.str)) → Q (.ref D) H'
theorem ok_rows_of_web {f c : Addr} {fd : FuncData} (B : Nb mg) (D : DefIs K "rows_of_web" "rows_of_web" st_rows_of_web f fd (.ref c)) : FnG P w K mg base CX0 1 f fd ["web"] (spRowsW K) := by
  refine D.ok0 (k := 0) sc_rows_of_web (fun vs H Q E h => ?_) (fun A outer s H vs Q E g hr h => ?_)
  · obtain ⟨W, hands, roads, rfl, _⟩ := h
    rfl
  obtain ⟨W, hands, roads, rfl, hW, wo, q⟩ := h
  refine ⟨_,
      (pss_cons (ps_asg (pv 0) (pg_tup rfl (pgs_cons (pg_name (i := 1) sc_rows_of_web.nd rfl (.inl rfl)) (pgs_cons (pg_name (i := 2) sc_rows_of_web.nd rfl (.inl rfl)) pgs_nil))))
      (pss_one (ps_ret (pe_op op_cat (pe_lst (pa_cons (pe_bm PySem.F.plainAttrs_str PySem.F.slot_str_join PySem.F.type_str_join mt_join pe_str (pa_cons (pe_callB (cr_sortG (val := V.str) (enc := PyData.str) hr.units) rfl B.n_sorted (by decide +kernel) (pa_cons (pv 1) pa_nil)) pa_nil)) pa_nil)) (pe_lc (own := [("one", 3), ("other", 4)]) (tt := tYes) (g := (gTup _ 2 (gCons (gName 3) (gCons (gName 4) gNil)))) rfl sc_rows_of_web.nd (pi_list (pe_callB (cr_sortG (val := Prod.fst) (enc := fun b : V × (Str × Str) => encP b.2) hr.units) rfl B.n_sorted (by decide +kernel) (pa_cons (pv 2) pa_nil))) (blkOk_by (N := N_rows_of_web) (sc := defScope st_rows_of_web) (by decide +kernel)) (fun _ _ _ _ _ => (pg_tup rfl (pgs_cons (pg_name (i := 3) sc_rows_of_web.nd rfl (.inl rfl)) (pgs_cons (pg_name (i := 4) sc_rows_of_web.nd rfl (.inl rfl)) pgs_nil)))) (fun _ _ _ _ _ => pts_nil) (fun _ _ _ _ _ => pe_to (pe_joinF (PJ.cons (pe_fmt (pv 3)) (PJ.cons pe_str (PJ.cons (pe_fmt (pv 4)) PJ.nil)))))))))), ?_⟩
  obtain ⟨hs, rs, eW, eh, er⟩ := id hW
  have hl := wo.len
  have many := wo.many
  refine ⟨.ref W, rfl, W, _, rfl, .inl (.inl eW), rfl, _, _, rfl, _, _, rfl, rfl, ?_⟩
  refine ⟨rfl, .ref hs, rfl, hs, hands, rfl, .inl (.inl eh), fun z hz => ⟨.str z, by show 0 ≤ 60; decide⟩, alike_strs hands, sortable_strs hands, by unfold sizeLine; omega, fun S nS => ?_⟩
  rw [show hands.mergeSort (PySem.W.dataLe false PyData.str) = sortS hands from rfl]
  have gS : Grow [] H (upd H S (.lst ((sortS hands).map V.str))) := grow_new nS
  have ln : ∀ w ∈ sortS hands, w.length ≤ 8 := fun w hw => (nm_iff.mp (wo.hand ((sortS_perm hands).mem_iff.mp hw))).2.1
  refine ⟨" ", S, sortS hands, rfl, rfl, .inl (.inl (.inl upd_same)), ?_, by show 1 ≤ sizeLine; decide, fun A1 nA1 => ?_⟩
  · have h1 := sum_le ln
    have h2 := (sortS_perm hands).length_eq
    have l1 : Str.length " " = 1 := by decide
    rw [l1]
    omega
  rw [TL.join_eq]
  have gA := gS.new (o := .lst [.str (Str.join " " (sortS hands))]) nA1
  have eA : upd (upd H S (.lst ((sortS hands).map V.str))) A1 (.lst [.str (Str.join " " (sortS hands))]) A1 = some (.lst [.str (Str.join " " (sortS hands))]) := upd_same
  generalize upd (upd H S (HO.lst ((sortS hands).map V.str))) A1 (HO.lst [V.str (Str.join " " (sortS hands))]) = H1 at gA eA ⊢
  obtain ⟨bs, b1, b2, b3, b4, b5, b6⟩ := road_parts (K := K) (er.grow gA noFrz_nil (by simp)) (by omega)
  refine ⟨.ref rs, rfl, rs, bs, rfl, b1, b2, b3, b4, b5, fun S2 nS2 => ?_⟩
  have hS2 := b6 S2 nS2
  have gB := gA.new (o := .lst ((bs.mergeSort (PySem.W.dataLe false fun b : V × (Str × Str) => encP b.2)).map Prod.fst)) nS2
  have eA2 := (grow_new (ex := []) (o := .lst ((bs.mergeSort (PySem.W.dataLe false fun b : V × (Str × Str) => encP b.2)).map Prod.fst)) nS2).lst (by simp) eA
  generalize upd H1 S2 (HO.lst ((bs.mergeSort (PySem.W.dataLe false fun b : V × (Str × Str) => encP b.2)).map Prod.fst)) = H2 at gB eA2 hS2 ⊢
  obtain ⟨xs, eS2, tS⟩ := id hS2
  have lx : xs.length = (sortP roads).length := tS.length
  have lr := (sortP_perm roads).length_eq
  refine ⟨S2, rfl, ⟨xs, .inl (.inl eS2)⟩, fun D1 n1 => ?_⟩
  refine lc_it (walk_list (xs := xs)) (fun j H' => Grow [] H2 H' ∧ H' D1 = some (.lst ((((sortP roads).take j).map rdS).map V.str))) ⟨grow_new n1, upd_same⟩
    (fun j H' _ h => .inl (.inl (h.1.lst (by simp) eS2))) (fun j x H3 H4 hj hp hy => ?_) (fun H3 hp => ?_)
  · obtain ⟨gj, eD⟩ := hp
    obtain ⟨rfl, ex⟩ := hy
    obtain ⟨a, r, rfl, er', pr⟩ := tS.get ex
    have pr4 := pr.grow gj (by simp)
    have nm := wo.road ((sortP_perm roads).mem_iff.mp (List.mem_of_getElem? er'))
    have n1' := (nm_iff.mp nm.1).2.1
    have n2' := (nm_iff.mp nm.2).2.1
    have l1 : Str.length "-" = 1 := by decide
    refine ⟨a, _, rfl, pr4.seq, rfl, _, _, rfl, _, _, rfl, rfl, rfl, yes_if ?_⟩
    refine ⟨.str r.1, rfl, .inl ⟨r.1, rfl, by unfold sizeLine; omega, r.1, rfl, by rw [empty_app]; unfold sizeLine; omega, "-", rfl, by rw [empty_app, app_len, l1]; unfold sizeLine; omega, .str r.2, rfl, .inl ⟨r.2, rfl, by unfold sizeLine; omega, r.2, rfl, by rw [empty_app, app_len, app_len, l1]; unfold sizeLine; omega, _, eD, ?_, gj.put (fresh_none n1) eD (fun ps z => by cases z), ?_⟩⟩⟩
    · rw [List.length_map, List.length_map, List.length_take]
      unfold sizeLine
      omega
    · rw [upd_same, empty_app, List.take_add_one, er', Option.toList_some, List.map_append, List.map_append]
      rfl
  · obtain ⟨gj, eD⟩ := hp
    rw [lx, List.take_length] at eD
    refine ⟨A1, D1, _, _, rfl, rfl, gj.lst (by simp) eA2, eD, by rw [List.length_map, List.length_map]; show 1 + _ ≤ sizeLine; unfold sizeLine; omega, fun Z nZ => ?_⟩
    exact q Z _ ((gB.trans gj).fresh (by simp) (fresh_none nZ)) ((gB.trans gj).new nZ) upd_same
end

end Lw

namespace Lw
open PySem PySem.Spec PyProof.Rows L2 GxR Gx
/-! ### webs written, read -/
section
variable {P : Program} {w : World} {K : PySem.W.Frag} {mg : Str → Option Value} {base : Heap}
def spRowsIn (K : PySem.W.Frag) : Sp := fun vs H Q _ => ∃ (t : Str), vs = [.str t] ∧ t.length ≤ 10000000 ∧ ∀ D, H D = none → Q (.ref D) (upd H D (.lst ((Txt.split t nlS).map V.str)))
theorem ok_rows_in {f c : Addr} {fd : FuncData} (B : Nb mg) (D : DefIs K "rows_in" "rows_in" st_rows_in f fd (.ref c)) : FnG P w K mg base CX0 1 f fd ["text"] (spRowsIn K) := by
  refine D.ok0 (k := 0) sc_rows_in (fun vs H Q E h => ?_) (fun A outer s H vs Q E g hr h => ?_)
  · obtain ⟨t, rfl, _⟩ := h
    rfl
  obtain ⟨t, rfl, ht, q⟩ := h
  refine ⟨_,
      (pss_cons (ps_if (pt_cmpR (op_notTyB) (pe_callTy call_type1 rfl B.n_type (by decide +kernel) (pa_cons (pv 0) pa_nil)) (pe_bltn (v := .ty "str") rfl B.n_str (by decide +kernel) rfl) (nomark _)) (
        (pss_one ps_dead)) pss_nil)
      (pss_one (ps_ret (pe_bm PySem.F.plainAttrs_str PySem.F.slot_str_split PySem.F.type_str_split mt_split (pv 0) (pa_cons pe_str pa_nil))))), ?_⟩
  exact ⟨.str t, rfl, _, "str", rfl, .str t, "str", "str", rfl, rfl, _, rfl, iteF ⟨.str t, rfl, rfl, t, nlS, rfl, rfl, by decide, by unfold sizeLine; omega, fun p np => q p np⟩⟩
/-- a web that is new, with its two lists -/
def WebNew (H H' : Hp) (W : Addr) (hands : List Str) (roads : List (Str × Str)) : Prop := ∃ hs rs, Fresh H hs ∧ Fresh H rs ∧ H' W = some (.tup [.ref hs, .ref rs]) ∧ H' hs = some (.lst (hands.map V.str)) ∧ RdT H' rs roads
theorem WebNew.at_ {H H' : Hp} {W : Addr} {hands : List Str} {roads : List (Str × Str)} (h : WebNew H H' W hands roads) : WebAt H' W hands roads := by
  obtain ⟨hs, rs, _, _, h1, h2, h3⟩ := h
  exact ⟨hs, rs, h1, h2, h3⟩
theorem WebNew.grow {H0 H H1 H' : Hp} {W : Addr} {hands : List Str} {roads : List (Str × Str)} (h : WebNew H H1 W hands roads) (g0 : Grow [] H0 H) (g : Grow [] H1 H') : WebNew H0 H' W hands roads := by
  obtain ⟨hs, rs, f1, f2, h1, h2, h3⟩ := h
  exact ⟨hs, rs, g0.fresh (by simp) f1, g0.fresh (by simp) f2, g.tup (by simp) h1, g.lst (by simp) h2, h3.grow g noFrz_nil (by simp)⟩
def spWebIn (K : PySem.W.Frag) : Sp := fun vs H Q _ => ∃ (R : Addr) (hands : List Str) (roads : List (Str × Str)), vs = [.ref R] ∧ H R = some (.lst ((webRows hands roads).map V.str)) ∧ WebOk hands roads ∧
  ∀ W H', Fresh H W → Grow [] H H' → WebNew H H' W (sortS hands) (sortP roads) → Q (.ref W) H'
theorem ok_web_in {f c : Addr} {fd : FuncData} (B : Nb mg) (D : DefIs K "web_in" "web_in" st_web_in f fd (.ref c)) : FnG P w K mg base CX0 1 f fd ["rows"] (spWebIn K) := by
  refine D.ok0 (k := 0) sc_web_in (fun vs H Q E h => ?_) (fun A outer s H vs Q E g hr h => ?_)
  · obtain ⟨R, hands, roads, rfl, _⟩ := h
    rfl
  obtain ⟨R, hands, roads, rfl, eR, wo, q⟩ := h
  refine ⟨_,
      (pss_one (ps_ret (pe_tup (pa_cons (pe_bm PySem.F.plainAttrs_str PySem.F.slot_str_split PySem.F.type_str_split mt_split (pe_ix ix_list (pv 0) pe_int (fun _ _ => rfl)) (pa_cons pe_str pa_nil)) (pa_cons (pe_lc (own := [("row", 1)]) (tt := tYes) (g := (gName 1)) rfl sc_web_in.nd (pi_list (pe_slice sl_list (pv 0) (po_some pe_int) po_none)) (blkOk_by (N := N_web_in) (sc := defScope st_web_in) (by decide +kernel)) (fun _ _ _ _ _ => (pg_name (i := 1) sc_web_in.nd rfl (.inl rfl))) (fun _ _ _ _ _ => pts_nil) (fun _ _ _ _ _ => pe_to (pe_callTy call_tupleF rfl B.n_tuple (by decide +kernel) (pa_cons (pe_bm PySem.F.plainAttrs_str PySem.F.slot_str_split PySem.F.type_str_split mt_split (pv 1) (pa_cons pe_str pa_nil)) pa_nil)))) pa_nil))))), ?_⟩
  have hl := wo.len
  have many := wo.many
  have lr := (sortP_perm roads).length_eq
  have l0 := (webRows_lacks wo _ (show Str.join spS (sortS hands) ∈ webRows hands roads from List.mem_cons_self)).2.2
  refine ⟨.ref R, rfl, R, _, 0, .str (Str.join spS (sortS hands)), rfl, rfl, .inl (.inl eR), atI_nat (j := 0) rfl, rfl, Str.join spS (sortS hands), spS, rfl, rfl, by decide, by unfold sizeLine; omega, fun S nS => ?_⟩
  rw [hands_split wo]
  have gS : Grow [] H (upd H S (.lst ((sortS hands).map V.str))) := grow_new nS
  have eS : upd H S (.lst ((sortS hands).map V.str)) S = some (.lst ((sortS hands).map V.str)) := upd_same
  generalize upd H S (HO.lst ((sortS hands).map V.str)) = H1 at gS eS ⊢
  refine ⟨.ref R, rfl, 1, rfl, R, _, rfl, .inl (.inl (gS.lst (by simp) eR)), fun L nL => ?_⟩
  have c1 : cutV ((webRows hands roads).map V.str) (some 1) none = ((sortP roads).map rdS).map V.str := by
    rw [show (1 : Int) = ((1 : Nat) : Int) from rfl, cut_lo, ← List.map_drop]
    rfl
  rw [c1]
  have gL := gS.new (o := .lst (((sortP roads).map rdS).map V.str)) nL
  have eL : upd H1 L (.lst (((sortP roads).map rdS).map V.str)) L = some (.lst (((sortP roads).map rdS).map V.str)) := upd_same
  have eS2 := (grow_new (ex := []) (o := .lst (((sortP roads).map rdS).map V.str)) nL).lst (by simp) eS
  generalize upd H1 L (HO.lst (((sortP roads).map rdS).map V.str)) = H2 at gL eL eS2 ⊢
  refine ⟨L, rfl, ⟨_, .inl (.inl eL)⟩, fun D1 n1 => ?_⟩
  refine lc_it (walk_list (xs := ((sortP roads).map rdS).map V.str)) (fun j H' => Grow [] H2 H' ∧ RdT H' D1 ((sortP roads).take j)) ⟨grow_new n1, [], upd_same, .nil⟩
    (fun j H' _ h => .inl (.inl (h.1.lst (by simp) eL))) (fun j x H3 H4 hj hp hy => ?_) (fun H3 hp => ?_)
  · obtain ⟨gj, hD⟩ := hp
    obtain ⟨rfl, ex⟩ := hy
    rw [List.length_map, List.length_map] at hj
    rw [List.getElem?_map, List.getElem?_map] at ex
    cases er : (sortP roads)[j]? with
    | none => rw [er] at ex; cases ex
    | some r =>
      rw [er] at ex
      cases ex
      have nm := wo.road ((sortP_perm roads).mem_iff.mp (List.mem_of_getElem? er))
      have l17 := rdS_len nm
      refine ⟨rfl, yes_if ⟨.str (rdS r), rfl, rfl, rdS r, daS, rfl, rfl, by decide, by unfold sizeLine; omega, fun Z nZ => ?_⟩⟩
      rw [rdS_split nm]
      refine ⟨Z, _, rfl, .inl (.inl upd_same), fun T To nT dT => ?_⟩
      have gk : Grow [] H4 (upd (upd H4 Z (.lst ([r.1, r.2].map V.str))) T (.frz To (.tup ([r.1, r.2].map V.str)))) := (grow_new nZ).new nT
      have pT : Pr (upd (upd H4 Z (.lst ([r.1, r.2].map V.str))) T (.frz To (.tup ([r.1, r.2].map V.str)))) T r := ⟨To, upd_same, dT⟩
      obtain ⟨xs, eD, tD⟩ := hD.grow gk noFrz_nil (by simp)
      have lx : xs.length ≤ 200 := by rw [tD.length, List.length_take]; omega
      have gP := grow_at (ex := [D1]) (o := .lst (xs ++ [.ref T])) eD (fun ps z => by cases z) (by simp)
      refine ⟨xs, eD, by unfold sizeLine; omega, (gj.trans gk).put (fresh_none n1) eD (fun ps z => by cases z), _, upd_same, ?_⟩
      rw [List.take_add_one, er, Option.toList_some]
      exact (tD.app (.cons pT .nil)).grow gP (noFrz_lst eD)
  · obtain ⟨gj, hD⟩ := hp
    rw [List.length_map, List.length_map, List.take_length] at hD
    refine ⟨by show 2 ≤ sizeLine; decide, fun W nW => ?_⟩
    have gW : Grow [] H3 (upd H3 W (.tup [.ref S, .ref D1])) := grow_new nW
    exact q W _ ((gL.trans gj).fresh (by simp) (fresh_none nW)) ((gL.trans gj).trans gW) ⟨S, D1, fresh_none nS, (gL).fresh (by simp) (fresh_none n1), upd_same, (gj.trans gW).lst (by simp) eS2, hD.grow gW noFrz_nil (by simp)⟩
def spShowWeb (K : PySem.W.Frag) (T1 T2 T3 : Addr) : Sp := fun vs H Q _ => ∃ (W : Addr) (hands : List Str) (roads : List (Str × Str)), vs = [.ref W] ∧ TabG H T1 ∧ TabG H T2 ∧ TabG H T3 ∧ WebAt H W hands roads ∧ WebOk hands roads ∧
  ∀ H', Grow [] H H' → Q (.str (webText hands roads)) H'
theorem ok_show_web {f c T1 T2 T3 : Addr} {fd : FuncData} (D : DefIs K "show_web" "show_web" st_show_web f fd (.ref c))
    (c_is_web : Callee P w K mg base CX0 9 "is_web" ["thing"] (spIsWeb K T1 T2 T3)) (c_rows_of_web : Callee P w K mg base CX0 1 "rows_of_web" ["web"] (spRowsW K)) : FnG P w K mg base CX0 10 f fd ["web"] (spShowWeb K T1 T2 T3) := by
  refine D.ok0 (k := 9) sc_show_web (fun vs H Q E h => ?_) (fun A outer s H vs Q E g hr h => ?_)
  · obtain ⟨W, hands, roads, rfl, _⟩ := h
    rfl
  obtain ⟨W, hands, roads, rfl, t1, t2, t3, hW, wo, q⟩ := h
  refine ⟨_,
      (pss_cons (ps_if (pt_not (pt_val (pe_g c_is_web g (hr.mono (by decide)) pass0 (pa_cons (pv 0) pa_nil)))) (
        (pss_one ps_dead)) pss_nil)
      (pss_one (ps_ret (pe_bm PySem.F.plainAttrs_str PySem.F.slot_str_join PySem.F.type_str_join mt_join pe_str (pa_cons (pe_g c_rows_of_web g (hr.mono (by decide)) pass0 (pa_cons (pv 0) pa_nil)) pa_nil))))), ?_⟩
  refine ⟨.ref W, rfl, W, hands, roads, rfl, t1, t2, t3, hW, wo, fun H1 g1 => ⟨true, rfl, iteF ?_⟩⟩
  refine ⟨rfl, .ref W, rfl, W, hands, roads, rfl, hW.grow g1, wo, fun R H2 fR g2 eR => ?_⟩
  refine ⟨nlS, R, webRows hands roads, rfl, rfl, .inl (.inl (.inl eR)), ?_, ?_⟩
  · have h1 := sum_le (m := 1800) (ws := webRows hands roads) fun x hx => (webRows_lacks wo x hx).2.2
    have l1 : nlS.length = 1 := by decide
    have l2 := wo.len
    have l3 := wo.many
    have l4 : (webRows hands roads).length = roads.length + 1 := by unfold webRows; rw [List.length_cons, List.length_map, (sortP_perm roads).length_eq]
    rw [l4] at h1
    rw [l1, l4]
    omega
  · rw [TL.join_eq]
    exact q H2 (g1.trans g2)
def spReadWeb (K : PySem.W.Frag) (T1 T2 T3 : Addr) : Sp := fun vs H Q _ => ∃ (hands : List Str) (roads : List (Str × Str)), vs = [.str (webText hands roads)] ∧ TabG H T1 ∧ TabG H T2 ∧ TabG H T3 ∧ WebOk hands roads ∧
  ∀ W H', Fresh H W → Grow [] H H' → WebNew H H' W (sortS hands) (sortP roads) → Q (.ref W) H'
theorem ok_read_web {f c T1 T2 T3 : Addr} {fd : FuncData} (D : DefIs K "read_web" "read_web" st_read_web f fd (.ref c))
    (c_is_web : Callee P w K mg base CX0 9 "is_web" ["thing"] (spIsWeb K T1 T2 T3)) (c_rows_of_web : Callee P w K mg base CX0 1 "rows_of_web" ["web"] (spRowsW K))
    (c_rows_in : Callee P w K mg base CX0 1 "rows_in" ["text"] (spRowsIn K)) (c_web_in : Callee P w K mg base CX0 1 "web_in" ["rows"] (spWebIn K)) : FnG P w K mg base CX0 10 f fd ["text"] (spReadWeb K T1 T2 T3) := by
  refine D.ok0 (k := 9) sc_read_web (fun vs H Q E h => ?_) (fun A outer s H vs Q E g hr h => ?_)
  · obtain ⟨hands, roads, rfl, _⟩ := h
    rfl
  obtain ⟨hands, roads, rfl, t1, t2, t3, wo, q⟩ := h
  refine ⟨_,
      (pss_cons (ps_set (i := 1) sc_read_web.nd rfl (.inl rfl) (pe_g c_rows_in g (hr.mono (by decide)) pass0 (pa_cons (pv 0) pa_nil)))
      (pss_cons (ps_set (i := 2) sc_read_web.nd rfl (.inl rfl) (pe_g c_web_in g (hr.mono (by decide)) pass0 (pa_cons (pv 1) pa_nil)))
      (pss_cons (ps_if (PW.pt (pw_or (pt_not (pt_val (pe_g c_is_web g (hr.mono (by decide)) pass0 (pa_cons (pv 2) pa_nil)))) (pw_or1 (pt_cmpR (op_neD hr.units) (pe_g c_rows_of_web g (hr.mono (by decide)) pass0 (pa_cons (pv 2) pa_nil)) (pv 1) (nomark _))))) (
        (pss_one ps_dead)) pss_nil)
      (pss_one (ps_ret (pv 2)))))), ?_⟩
  have tl := webText_len wo
  have wo2 := wo.perm (sortS_perm hands).symm (sortP_perm roads).symm
  have rows2 : webRows (sortS hands) (sortP roads) = webRows hands roads := by unfold webRows; rw [sortS_twice, sortP_twice]
  refine ⟨.str (webText hands roads), rfl, webText hands roads, rfl, by omega, fun R nR => ?_⟩
  rw [web_split wo]
  have gR : Grow [] H (upd H R (.lst ((webRows hands roads).map V.str))) := grow_new nR
  have eR : upd H R (.lst ((webRows hands roads).map V.str)) R = some (.lst ((webRows hands roads).map V.str)) := upd_same
  generalize upd H R (HO.lst ((webRows hands roads).map V.str)) = H1 at gR eR ⊢
  refine ⟨.ref R, rfl, R, hands, roads, rfl, eR, wo, fun W H2 fW g2 nW => ?_⟩
  have hW := nW.at_
  have g02 := gR.trans g2
  refine ⟨.ref W, rfl, W, _, _, rfl, g02.tabs _ t1, g02.tabs _ t2, g02.tabs _ t3, hW, wo2, fun H3 g3 => ⟨true, rfl, iteF ?_⟩⟩
  refine ⟨.ref W, rfl, W, _, _, rfl, hW.grow g3, wo2, fun R2 H4 fR2 g4 eR2 => ?_⟩
  rw [rows2] at eR2
  have eR4 := ((g2.trans g3).trans g4).lst (by simp) eR
  have f : Fine (.list ((webRows hands roads).map PyData.str)) 1 10000000 := Fine.list (n := 0) (m := 1800) (fun d hd => by
    obtain ⟨x, hx, rfl⟩ := List.mem_map.mp hd
    refine .str (fun c hc => ?_) (webRows_lacks wo x hx).2.2
    exact row_code wo hx hc) (by
    have l2 := wo.len
    have l3 := wo.many
    have l4 : (webRows hands roads).length = roads.length + 1 := by unfold webRows; rw [List.length_cons, List.length_map, (sortP_perm roads).length_eq]
    rw [List.length_map, l4]
    omega)
  refine ⟨.ref R, rfl, _, _, dp_book (.inl (.inl eR2)), dp_book (.inl (.inl eR4)), f.shaped (by decide), f.shaped (by decide), ?_⟩
  rw [f.eqv]
  refine ⟨false, rfl, iteF ⟨.ref W, rfl, ?_⟩⟩
  exact q W H4 (gR.fresh (by simp) fW) ((g02.trans g3).trans g4) (nW.grow gR (g3.trans g4))
end

end Lw

namespace Lw
open PySem PySem.Spec PyProof.Rows L2 GxR Gx
/-! ### books written, read -/
def bookText (zs : List Str) : Str := if zs = [] then daS else Str.join spS zs
theorem bookText_len {zs : List Str} (b : Bk zs) : (bookText zs).length ≤ 10000 := by
  unfold bookText
  split
  · decide
  · have this_ := join_len spS 8 (ws := zs) fun x hx => (nm_iff.mp (List.all_eq_true.mp b.nm x hx)).2.1
    have l1 : spS.length = 1 := by decide
    have := b.len
    rw [l1] at this_
    omega
theorem book_split {zs : List Str} (b : Bk zs) (h : zs ≠ []) : Txt.split (Str.join spS zs) spS = zs := split_sp h fun x hx => nm_lacks (List.all_eq_true.mp b.nm x hx) (.inl (by decide))
theorem join_not_da {zs : List Str} (b : Bk zs) (h : zs ≠ []) : Str.join spS zs ≠ daS := fun e => by
  have h1 := book_split b h
  rw [e, show Txt.split daS spS = [daS] from (split_sp (parts := [daS]) (by simp) fun p hp => by rw [List.mem_singleton.mp hp]; unfold Lacks; decide +kernel)] at h1
  have : isNm daS = true := List.all_eq_true.mp b.nm daS (by rw [← h1]; exact List.mem_cons_self)
  exact absurd this (by decide +kernel)
theorem bookText_inj {zs ws : List Str} (b : Bk zs) (b' : Bk ws) (e : bookText zs = bookText ws) : zs = ws := by
  unfold bookText at e
  by_cases h : zs = []
  · by_cases k : ws = []
    · rw [h, k]
    · rw [if_pos h, if_neg k] at e
      exact absurd e.symm (join_not_da b' k)
  · by_cases k : ws = []
    · rw [if_neg h, if_pos k] at e
      exact absurd e (join_not_da b h)
    · rw [if_neg h, if_neg k] at e
      rw [← book_split b h, e, book_split b' k]
section
variable {P : Program} {w : World} {K : PySem.W.Frag} {mg : Str → Option Value} {base : Heap}
def spRowB (K : PySem.W.Frag) : Sp := fun vs H Q _ => ∃ (l : Addr) (zs : List Str), vs = [.ref l] ∧ H l = some (.lst (zs.map V.str)) ∧ Bk zs ∧ Q (.str (bookText zs)) H
theorem ok_row_of_book {f c : Addr} {fd : FuncData} (B : Nb mg) (D : DefIs K "row_of_book" "row_of_book" st_row_of_book f fd (.ref c)) : FnG P w K mg base CX0 1 f fd ["book"] (spRowB K) := by
  refine D.ok0 (k := 0) sc_row_of_book (fun vs H Q E h => ?_) (fun A outer s H vs Q E g hr h => ?_)
  · obtain ⟨l, zs, rfl, _⟩ := h
    rfl
  obtain ⟨l, zs, rfl, el, bz, q⟩ := h
  refine ⟨_,
      (pss_one (ps_ret (pe_ifExp (pt_truth (pv 0) (fun _ => rfl)) (pe_bm PySem.F.plainAttrs_str PySem.F.slot_str_join PySem.F.type_str_join mt_join pe_str (pa_cons (pv 0) pa_nil)) pe_str))), ?_⟩
  have hl := bz.len
  unfold bookText at q
  cases zs with
  | nil => exact ⟨.ref l, rfl, false, .inl ⟨_, .inl (.inl el), rfl⟩, iteF q⟩
  | cons z zs =>
    rw [if_neg (by simp)] at q
    refine ⟨.ref l, rfl, true, .inl ⟨_, .inl (.inl el), rfl⟩, iteT ⟨rfl, .ref l, rfl, spS, l, z :: zs, rfl, rfl, .inl (.inl (.inl el)), ?_, ?_⟩⟩
    · have h1 := sum_le (m := 8) (ws := z :: zs) fun x hx => (nm_iff.mp (List.all_eq_true.mp bz.nm x hx)).2.1
      have l1 : spS.length = 1 := by decide
      rw [l1]
      omega
    · rw [TL.join_eq]
      exact q
def spBookIn (K : PySem.W.Frag) : Sp := fun vs H Q _ => ∃ (zs : List Str), vs = [.str (bookText zs)] ∧ Bk zs ∧ ∀ D, H D = none → Q (.ref D) (upd H D (.lst (zs.map V.str)))
theorem ok_book_in {f c : Addr} {fd : FuncData} (B : Nb mg) (D : DefIs K "book_in" "book_in" st_book_in f fd (.ref c)) : FnG P w K mg base CX0 1 f fd ["row"] (spBookIn K) := by
  refine D.ok0 (k := 0) sc_book_in (fun vs H Q E h => ?_) (fun A outer s H vs Q E g hr h => ?_)
  · obtain ⟨zs, rfl, _⟩ := h
    rfl
  obtain ⟨zs, rfl, bz, q⟩ := h
  refine ⟨_,
      (pss_one (ps_ret (pe_ifExp (pt_cmpR (op_eq) (pv 0) pe_str (nomark _)) (pe_lst pa_nil) (pe_bm PySem.F.plainAttrs_str PySem.F.slot_str_split PySem.F.type_str_split mt_split (pv 0) (pa_cons pe_str pa_nil))))), ?_⟩
  have tl := bookText_len bz
  refine ⟨.str (bookText zs), rfl, rfl, _, rfl, ?_⟩
  by_cases h : zs = []
  · subst h
    refine iteT ⟨by show 0 ≤ sizeLine; decide, fun p np => q p np⟩
  · have e : bookText zs = Str.join spS zs := if_neg h
    rw [show decide (V.str (bookText zs) = V.str "-") = false from decide_eq_false fun z => join_not_da bz h (by rw [← e]; exact V.str.inj z)]
    refine iteF ⟨.str (bookText zs), rfl, rfl, bookText zs, spS, rfl, rfl, by decide, by unfold sizeLine; omega, fun p np => ?_⟩
    rw [e, book_split bz h]
    exact q p np
def spShowB (K : PySem.W.Frag) (T1 T2 : Addr) : Sp := fun vs H Q _ => ∃ (l : Addr) (zs : List Str), vs = [.ref l] ∧ TabG H T1 ∧ TabG H T2 ∧ H l = some (.lst (zs.map V.str)) ∧ Bk zs ∧ ∀ H', Grow [] H H' → Q (.str (bookText zs)) H'
theorem ok_show_book {f c T1 T2 : Addr} {fd : FuncData} (D : DefIs K "show_book" "show_book" st_show_book f fd (.ref c))
    (c_is_book : Callee P w K mg base CX0 9 "is_book" ["thing"] (spUnlike K T1 T2)) (c_row_of_book : Callee P w K mg base CX0 1 "row_of_book" ["book"] (spRowB K)) : FnG P w K mg base CX0 10 f fd ["book"] (spShowB K T1 T2) := by
  refine D.ok0 (k := 9) sc_show_book (fun vs H Q E h => ?_) (fun A outer s H vs Q E g hr h => ?_)
  · obtain ⟨l, zs, rfl, _⟩ := h
    rfl
  obtain ⟨l, zs, rfl, t1, t2, el, bz, q⟩ := h
  refine ⟨_,
      (pss_cons (ps_if (pt_not (pt_val (pe_g c_is_book g (hr.mono (by decide)) pass0 (pa_cons (pv 0) pa_nil)))) (
        (pss_one ps_dead)) pss_nil)
      (pss_one (ps_ret (pe_g c_row_of_book g (hr.mono (by decide)) pass0 (pa_cons (pv 0) pa_nil))))), ?_⟩
  refine ⟨.ref l, rfl, .ref l, rfl, t1, t2, .inl ⟨l, _, rfl, .inl (.inl el), bz.known, by rw [List.length_map]; have := bz.len; omega, fun H1 g1 => ?_⟩⟩
  rw [bz.v]
  exact ⟨true, rfl, iteF ⟨.ref l, rfl, l, zs, rfl, g1.lst (by simp) el, bz, q H1 g1⟩⟩
def spReadB (K : PySem.W.Frag) (T1 T2 : Addr) : Sp := fun vs H Q _ => ∃ (zs : List Str), vs = [.str (bookText zs)] ∧ TabG H T1 ∧ TabG H T2 ∧ Bk zs ∧ ∀ D H', Fresh H D → Grow [] H H' → H' D = some (.lst (zs.map V.str)) → Q (.ref D) H'
theorem ok_read_book {f c T1 T2 : Addr} {fd : FuncData} (B : Nb mg) (D : DefIs K "read_book" "read_book" st_read_book f fd (.ref c))
    (c_is_book : Callee P w K mg base CX0 9 "is_book" ["thing"] (spUnlike K T1 T2)) (c_book_in : Callee P w K mg base CX0 1 "book_in" ["row"] (spBookIn K)) : FnG P w K mg base CX0 10 f fd ["text"] (spReadB K T1 T2) := by
  refine D.ok0 (k := 9) sc_read_book (fun vs H Q E h => ?_) (fun A outer s H vs Q E g hr h => ?_)
  · obtain ⟨zs, rfl, _⟩ := h
    rfl
  obtain ⟨zs, rfl, t1, t2, bz, q⟩ := h
  refine ⟨_,
      (pss_cons (ps_if (pt_cmpR (op_notTyB) (pe_callTy call_type1 rfl B.n_type (by decide +kernel) (pa_cons (pv 0) pa_nil)) (pe_bltn (v := .ty "str") rfl B.n_str (by decide +kernel) rfl) (nomark _)) (
        (pss_one ps_dead)) pss_nil)
      (pss_cons (ps_set (i := 1) sc_read_book.nd rfl (.inl rfl) (pe_g c_book_in g (hr.mono (by decide)) pass0 (pa_cons (pv 0) pa_nil)))
      (pss_cons (ps_if (pt_not (pt_val (pe_g c_is_book g (hr.mono (by decide)) pass0 (pa_cons (pv 1) pa_nil)))) (
        (pss_one ps_dead)) pss_nil)
      (pss_one (ps_ret (pv 1)))))), ?_⟩
  refine ⟨.str (bookText zs), rfl, _, "str", rfl, .str _, "str", "str", rfl, rfl, _, rfl, iteF ⟨.str (bookText zs), rfl, zs, rfl, bz, fun D1 n1 => ?_⟩⟩
  have g1 : Grow [] H (upd H D1 (.lst (zs.map V.str))) := grow_new n1
  have e1 : upd H D1 (.lst (zs.map V.str)) D1 = some (.lst (zs.map V.str)) := upd_same
  generalize upd H D1 (HO.lst (zs.map V.str)) = H1 at g1 e1 ⊢
  refine ⟨.ref D1, rfl, .ref D1, rfl, g1.tabs _ t1, g1.tabs _ t2, .inl ⟨D1, _, rfl, .inl (.inl e1), bz.known, by rw [List.length_map]; have := bz.len; omega, fun H2 g2 => ?_⟩⟩
  rw [bz.v]
  exact ⟨true, rfl, iteF ⟨.ref D1, rfl, q D1 H2 (fresh_none n1) (g1.trans g2) (g2.lst (by simp) e1)⟩⟩
end

end Lw

namespace Lw
open PySem PySem.Spec PyProof.Rows L2 GxR Gx
/-! ### histories written, read -/
def shoutS : Str := "shout"
def hearS : Str := "hear"
/-- a deed: its kind, its names -/
def DeedOk (d : List Str) : Prop := (∃ a b, d = [shoutS, a, b] ∧ isNm a = true ∧ isNm b = true) ∨ ∃ a b c, d = [hearS, a, b, c] ∧ isNm a = true ∧ isNm b = true ∧ isNm c = true
def deedRow (d : List Str) : Str := Str.join spS d
def histText (ds : List (List Str)) : Str := Str.join nlS (ds.map deedRow)
theorem DeedOk.all {d : List Str} (h : DeedOk d) : d ≠ [] ∧ (∀ x ∈ d, isNm x = true) ∧ d.length ≤ 4 := by
  rcases h with ⟨a, b, rfl, h1, h2⟩ | ⟨a, b, c, rfl, h1, h2, h3⟩
  · refine ⟨by simp, fun x hx => ?_, by simp⟩
    rcases List.mem_cons.mp hx with rfl | hx
    · decide +kernel
    · rcases List.mem_cons.mp hx with rfl | hx
      · exact h1
      · rw [List.mem_singleton.mp hx]
        exact h2
  · refine ⟨by simp, fun x hx => ?_, by simp⟩
    rcases List.mem_cons.mp hx with rfl | hx
    · decide +kernel
    · rcases List.mem_cons.mp hx with rfl | hx
      · exact h1
      · rcases List.mem_cons.mp hx with rfl | hx
        · exact h2
        · rw [List.mem_singleton.mp hx]
          exact h3
theorem deed_split {d : List Str} (h : DeedOk d) : Txt.split (deedRow d) spS = d := split_sp h.all.1 fun x hx => nm_lacks (h.all.2.1 x hx) (.inl (by decide))
theorem deedRow_ok {d : List Str} (h : DeedOk d) : Lacks 10 (deedRow d) ∧ deedRow d ≠ Str.empty ∧ (deedRow d).length ≤ 36 := by
  obtain ⟨h1, h2, h3⟩ := h.all
  refine ⟨lacks_join (by unfold Lacks; decide +kernel) fun x hx => nm_lacks (h2 x hx) (.inl (by decide)), join_ne h1 fun x hx => nm_ne (h2 x hx), ?_⟩
  have this_ := join_len spS 8 (ws := d) fun x hx => (nm_iff.mp (h2 x hx)).2.1
  have l1 : spS.length = 1 := by decide
  rw [l1] at this_
  unfold deedRow
  omega
theorem hist_split {ds : List (List Str)} (h : ∀ d ∈ ds, DeedOk d) (ne : ds ≠ []) : Txt.split (histText ds) nlS = ds.map deedRow := split_nl (by simpa using ne) fun x hx => by
  obtain ⟨d, hd, rfl⟩ := List.mem_map.mp hx
  exact (deedRow_ok (h d hd)).1
theorem histText_len {ds : List (List Str)} (h : ∀ d ∈ ds, DeedOk d) (l : ds.length ≤ 100) : (histText ds).length ≤ 10000 := by
  have this_ := join_len nlS 36 (ws := ds.map deedRow) fun x hx => by
    obtain ⟨d, hd, rfl⟩ := List.mem_map.mp hx
    exact (deedRow_ok (h d hd)).2.2
  have l1 : nlS.length = 1 := by decide
  rw [l1, List.length_map] at this_
  unfold histText
  omega
theorem histText_ne {ds : List (List Str)} (h : ∀ d ∈ ds, DeedOk d) (ne : ds ≠ []) : histText ds ≠ Str.empty := join_ne (by simpa using ne) fun x hx => by
  obtain ⟨d, hd, rfl⟩ := List.mem_map.mp hx
  exact (deedRow_ok (h d hd)).2.1
theorem histText_inj {ds es : List (List Str)} (h : ∀ d ∈ ds, DeedOk d) (k : ∀ d ∈ es, DeedOk d) (e : histText ds = histText es) : ds = es := by
  by_cases n1 : ds = []
  · by_cases n2 : es = []
    · rw [n1, n2]
    · rw [n1] at e
      exact absurd e.symm (histText_ne k n2)
  · by_cases n2 : es = []
    · rw [n2] at e
      exact absurd e (histText_ne h n1)
    · have h1 := hist_split h n1
      rw [e, hist_split k n2] at h1
      have back : ∀ {l : List (List Str)}, (∀ d ∈ l, DeedOk d) → (l.map deedRow).map (fun t => Txt.split t spS) = l := fun {l} hl => by
        rw [List.map_map]
        conv => rhs; rw [← List.map_id l]
        exact List.map_congr_left fun d hd => deed_split (hl d hd)
      rw [← back h, ← h1, back k]
/-- a list of tuples of texts -/
inductive Tups (H : Hp) : List V → List (List Str) → Prop
  | nil : Tups H [] []
  | cons {a : Addr} {d : List Str} {xs : List V} {ds : List (List Str)} : H a = some (.tup (d.map V.str)) → Tups H xs ds → Tups H (.ref a :: xs) (d :: ds)
theorem Tups.grow {ex : List Addr} {H H' : Hp} (g : Grow ex H H') (l : Lists ex H) : ∀ {xs : List V} {ds : List (List Str)}, Tups H xs ds → Tups H' xs ds
  | _, _, .nil => .nil
  | _, _, .cons h t => .cons (g.tup (fun z => l _ z _ h) h) (t.grow g l)
theorem Tups.length {H : Hp} : ∀ {xs : List V} {ds : List (List Str)}, Tups H xs ds → xs.length = ds.length
  | _, _, .nil => rfl
  | _, _, .cons _ t => congrArg (· + 1) t.length
theorem Tups.get {H : Hp} : ∀ {xs : List V} {ds : List (List Str)} {i : Nat} {x : V}, Tups H xs ds → xs[i]? = some x → ∃ a d, x = .ref a ∧ ds[i]? = some d ∧ H a = some (.tup (d.map V.str))
  | _, _, 0, _, .cons h _, e => by
    cases e
    exact ⟨_, _, rfl, rfl, h⟩
  | _, _, i + 1, _, .cons _ t, e => t.get (i := i) e
theorem Tups.snoc {H : Hp} {a : Addr} {d : List Str} (q : H a = some (.tup (d.map V.str))) : ∀ {xs : List V} {ds : List (List Str)}, Tups H xs ds → Tups H (xs ++ [.ref a]) (ds ++ [d])
  | _, _, .nil => .cons q .nil
  | _, _, .cons h t => .cons h (t.snoc q)
theorem Tups.dp {K : PySem.W.Frag} {H : Hp} : ∀ {xs : List V} {ds : List (List Str)}, Tups H xs ds → DpAll K H xs (ds.map fun d => PyData.tuple (d.map PyData.str))
  | _, _, .nil => .nil
  | _, _, .cons h t => .cons (.tup (.inl (.inl h)) (dp_strs _)) (Tups.dp t)
def HistAt (H : Hp) (L : Addr) (ds : List (List Str)) : Prop := ∃ xs, H L = some (.lst xs) ∧ Tups H xs ds
theorem HistAt.grow {ex : List Addr} {H H' : Hp} {L : Addr} {ds : List (List Str)} (h : HistAt H L ds) (g : Grow ex H H') (l : Lists ex H) (n : L ∉ ex) : HistAt H' L ds := by
  obtain ⟨xs, e, t⟩ := h
  exact ⟨xs, g.lst n e, t.grow g l⟩
theorem HistAt.dp {K : PySem.W.Frag} {H : Hp} {L : Addr} {ds : List (List Str)} (h : HistAt H L ds) : Dp K H (.ref L) (.list (ds.map fun d => PyData.tuple (d.map PyData.str))) := by
  obtain ⟨xs, e, t⟩ := h
  exact .lst (.inl (.inl e)) t.dp
/-- the kinds of deeds, with how many names -/
def Kinds (K : PySem.W.Frag) (w : World) (d : Addr) : Prop := (∃ es n, KDict K w d es n) ∧ (∃ u, PySem.W.nsIn K d shoutS = some (some u) ∧ RelV (.int 2) u) ∧ ∃ u, PySem.W.nsIn K d hearS = some (some u) ∧ RelV (.int 3) u
section
variable {P : Program} {w : World} {K : PySem.W.Frag} {mg : Str → Option Value} {base : Heap}
def spDeed (K : PySem.W.Frag) (T1 T2 : Addr) : Sp := fun vs H Q _ => ∃ (a : Addr) (d : List Str), vs = [.ref a] ∧ TabG H T1 ∧ TabG H T2 ∧ H a = some (.tup (d.map V.str)) ∧ DeedOk d ∧ ∀ H', Grow [] H H' → Q (.bl true) H'
theorem ok_is_deed {f c T1 T2 dd : Addr} {fd : FuncData} (B : Nb mg) (D : DefIs K "is_deed" "is_deed" st_is_deed f fd (.ref c)) (x_is_deed : TabB base mg c T2) (k_DEEDS : mg "DEEDS" = some (.ref dd)) (hk : Kinds K w dd)
    (c_is_name : Callee P w K mg base CX0 4 "is_name" ["thing"] (spIsName K T1)) : FnG P w K mg base CX0 8 f fd ["thing"] (spDeed K T1 T2) := by
  refine D.ok0 (k := 7) sc_is_deed (fun vs H Q E h => ?_) (fun A outer s H vs Q E g hr h => ?_)
  · obtain ⟨a, d, rfl, _⟩ := h
    rfl
  obtain ⟨⟨es, n, kd_DEEDS⟩, ⟨u1, us1, ru1⟩, u2, us2, ru2⟩ := hk
  obtain ⟨a, d, rfl, t1, t2, ea, ok, q⟩ := h
  have hall := ok.all
  have kd : ∃ u, PySem.W.nsIn K dd (d.headD Str.empty) = some (some u) ∧ RelV (.int (((d.map V.str).length : Nat) - 1)) u := by
    rcases ok with ⟨x, y, rfl, _⟩ | ⟨x, y, z, rfl, _⟩
    · exact ⟨u1, us1, ru1⟩
    · exact ⟨u2, us2, ru2⟩
  refine ⟨_,
      (pss_cons (ps_if (PW.pt (pw_or (pt_cmpR (op_notTyB) (pe_callTy call_type1 rfl B.n_type (by decide +kernel) (pa_cons (pv 0) pa_nil)) (pe_bltn (v := .ty "tuple") rfl B.n_tuple (by decide +kernel) rfl) (nomark _)) (pw_or (pt_cmpR (op_eqD hr.units) (pv 0) (pe_tup pa_nil) (nomark _)) (pw_or1 (pt_cmpR (op_notTyB) (pe_callTy call_type1 rfl B.n_type (by decide +kernel) (pa_cons (pe_ix ix_tup (pv 0) pe_int (fun _ _ => rfl)) pa_nil)) (pe_bltn (v := .ty "str") rfl B.n_str (by decide +kernel) rfl) (nomark _)))))) (
        (pss_one (ps_ret pe_bl))) pss_nil)
      (pss_one (ps_ret (pe_and (pe_cmpR (op_eq) (pe_kget1 kd_DEEDS (pe_glob (v := .ref _) rfl k_DEEDS rfl) (pe_ix ix_tup (pv 0) pe_int (fun _ _ => rfl)) ⟨rfl, rfl, rfl, rfl⟩) (pe_op op_sub (pe_callB call_len_seq rfl B.n_len PySem.boot_len (pa_cons (pv 0) pa_nil)) pe_int) (nomark _)) (pe_one (pe_allG (own := [("name", 1)]) hr (gx_ok (N := N_is_deed) (dsc := defScope st_is_deed) x_is_deed sc_is_deed.nd (by decide +kernel) (by decide +kernel)) rfl B.n_all (by decide +kernel) (pi_tup (pe_slice sl_tupA (pv 0) (po_some pe_int) po_none)) (fun _ _ _ _ _ => (pg_name (i := 1) sc_is_deed.nd rfl (.inl rfl))) (fun _ _ _ _ _ => pe_to (pe_g c_is_name g ((room_gx hr).mono (by decide)) pass0 (pa_cons (pv 1) pa_nil))))))))), ?_⟩
  cases d with
  | nil => exact absurd rfl hall.1
  | cons k r =>
  have sq : ∀ {H1 : Hp}, Grow [] H H1 → SqT K H1 a ((k :: r).map V.str) := fun g1 => .inl (.inl (g1.tup (fun z => by cases z) ea))
  obtain ⟨u, us, ru⟩ := kd
  refine ⟨.ref a, rfl, _, "tuple", rfl, .tup (sq (Grow.refl [] H)), "tuple", "tuple", rfl, rfl, _, rfl, iteF ?_⟩
  refine ⟨.ref a, rfl, by show 0 ≤ sizeLine; decide, fun p np => ?_⟩
  have g1 : Grow [] H (upd H p (.tup [])) := grow_new np
  have ep : upd H p (.tup []) p = some (.tup []) := upd_same
  generalize upd H p (HO.tup []) = H1 at g1 ep ⊢
  have f : Fine (.tuple ((k :: r).map PyData.str)) 1 100 := Fine.tuple (n := 0) (m := 8) (fun x hx => by
    obtain ⟨z, hz, rfl⟩ := List.mem_map.mp hx
    exact .str (fun c hc => nm_lt (hall.2.1 z hz) c hc) (nm_iff.mp (hall.2.1 z hz)).2.1) (by rw [List.length_map]; have := hall.2.2; omega)
  refine ⟨_, _, .tup (sq g1) (dp_strs _), .tup (.inl (.inl ep)) (dp_strs []), f.shaped (by decide), by decide, ?_⟩
  refine ⟨_, rfl, ?_⟩
  rw [show PyData.eqv (.tuple ((k :: r).map PyData.str)) (.tuple ([].map PyData.str)) = false from by simp [PyData.eqv, PyData.eqvAll]]
  refine iteF ⟨.ref a, rfl, a, _, 0, _, rfl, rfl, sq g1, at_of (j := 0) rfl rfl, _, "str", rfl, .str _, "str", "str", rfl, rfl, _, rfl, iteF ?_⟩
  refine ⟨.ref a, rfl, a, _, 0, _, rfl, rfl, sq g1, at_of (j := 0) rfl rfl, k, u, _, rfl, us, ru, .ref a, rfl, a, _, rfl, .inr (sq g1), _, _, rfl, rfl, ?_⟩
  refine ⟨rfl, true, ?_, ?_⟩
  · rw [decide_eq_true rfl]
  rw [if_pos rfl]
  refine ⟨.ref a, rfl, 1, rfl, a, _, rfl, sq g1, fun z => ?_, fun _ S nS => ?_⟩
  · rw [show HT.sIx ((k :: r).map V.str).length 0 (some 1) = 1 from by rw [show (1 : Int) = ((1 : Nat) : Int) from rfl, HT.sIx_nat, List.length_map, List.length_cons]; omega] at z
    exact absurd z.1 (by decide)
  have c1 : cutV ((k :: r).map V.str) (some 1) none = r.map V.str := by
    rw [show (1 : Int) = ((1 : Nat) : Int) from rfl, cut_lo]
    rfl
  rw [c1]
  have gS := g1.new (o := .tup (r.map V.str)) nS
  have eS : upd H1 S (.tup (r.map V.str)) S = some (.tup (r.map V.str)) := upd_same
  generalize upd H1 S (HO.tup (r.map V.str)) = H2 at gS eS ⊢
  refine ⟨S, rfl, ⟨_, .inl (.inl eS)⟩, gS.tabs _ t2, ?_⟩
  refine truth_by (items := r.map V.str) (fun i H' => Grow [] H2 H') (fun H' t => grow_tab (gS.tabs _ t2) t) (fun i H' x H3 hp hy => ⟨hy.1, hy.2 _ (.inl (.inl (hp.tup (by simp) eS)))⟩)
    (fun i H' hi hp => ⟨_, _, .inl (.inl (hp.tup (by simp) eS)), List.getElem?_eq_getElem hi⟩) (fun H' hp => ⟨_, .inl (.inl (hp.tup (by simp) eS)), Nat.le_refl _⟩) (fun i x H' hx hp => ?_) fun H' hp => ?_
  · rw [List.getElem?_map] at hx
    cases er : r[i]? with
    | none => rw [er] at hx; cases hx
    | some z =>
      rw [er] at hx
      cases hx
      have nz := hall.2.1 z (List.mem_cons_of_mem _ (List.mem_of_getElem? er))
      have lz := (nm_iff.mp nz).2.1
      refine ⟨rfl, _, rfl, _, rfl, (gS.trans hp).tabs _ t1, .inl ⟨z, rfl, by unfold sizeLine; omega, fun H3 g3 => ⟨_, rfl, ?_⟩⟩⟩
      rw [nz, if_neg (fun z => Bool.noConfusion z)]
      exact hp.trans g3
  · exact q H' (gS.trans hp)
end

end Lw

namespace Lw
open PySem PySem.Spec PyProof.Rows L2 GxR Gx
section
variable {P : Program} {w : World} {K : PySem.W.Frag} {mg : Str → Option Value} {base : Heap}
def spShowH (K : PySem.W.Frag) (T1 T2 T3 : Addr) : Sp := fun vs H Q _ => ∃ (L : Addr) (ds : List (List Str)), vs = [.ref L] ∧ TabG H T1 ∧ TabG H T2 ∧ TabG H T3 ∧ HistAt H L ds ∧ (∀ d ∈ ds, DeedOk d) ∧ ds.length ≤ 100 ∧
  ∀ H', Grow [] H H' → Q (.str (histText ds)) H'
theorem ok_show_history {f c T1 T2 T3 : Addr} {fd : FuncData} (B : Nb mg) (D : DefIs K "show_history" "show_history" st_show_history f fd (.ref c)) (x_show_history : TabB base mg c T3)
    (c_is_deed : Callee P w K mg base CX0 8 "is_deed" ["thing"] (spDeed K T1 T2)) : FnG P w K mg base CX0 12 f fd ["history"] (spShowH K T1 T2 T3) := by
  refine D.ok0 (k := 11) sc_show_history (fun vs H Q E h => ?_) (fun A outer s H vs Q E g hr h => ?_)
  · obtain ⟨L, ds, rfl, _⟩ := h
    rfl
  obtain ⟨L, ds, rfl, t1, t2, t3, ⟨xs, eL, tL⟩, ok, len, q⟩ := h
  refine ⟨_,
      (pss_cons (ps_if (PW.pt (pw_or (pt_cmpR (op_notTyB) (pe_callTy call_type1 rfl B.n_type (by decide +kernel) (pa_cons (pv 0) pa_nil)) (pe_bltn (v := .ty "list") rfl B.n_list (by decide +kernel) rfl) (nomark _)) (pw_or1 (pt_not (pt_val (pe_allG (own := [("deed", 1)]) hr (gx_ok (N := N_show_history) (dsc := defScope st_show_history) x_show_history sc_show_history.nd (by decide +kernel) (by decide +kernel)) rfl B.n_all (by decide +kernel) (pi_list (pv 0)) (fun _ _ _ _ _ => (pg_name (i := 1) sc_show_history.nd rfl (.inl rfl))) (fun _ _ _ _ _ => pe_to (pe_g c_is_deed g ((room_gx hr).mono (by decide)) pass0 (pa_cons (pv 1) pa_nil))))))))) (
        (pss_one ps_dead)) pss_nil)
      (pss_one (ps_ret (pe_bm PySem.F.plainAttrs_str PySem.F.slot_str_join PySem.F.type_str_join mt_join pe_str (pa_cons (pe_lc (own := [("deed", 1)]) (tt := tYes) (g := (gName 1)) rfl sc_show_history.nd (pi_list (pv 0)) (blkOk_by (N := N_show_history) (sc := defScope st_show_history) (by decide +kernel)) (fun _ _ _ _ _ => (pg_name (i := 1) sc_show_history.nd rfl (.inl rfl))) (fun _ _ _ _ _ => pts_nil) (fun _ _ _ _ _ => pe_to (pe_bm PySem.F.plainAttrs_str PySem.F.slot_str_join PySem.F.type_str_join mt_join pe_str (pa_cons (pv 1) pa_nil)))) pa_nil))))), ?_⟩
  refine ⟨.ref L, rfl, _, "list", rfl, .lst (.inl (.inl eL)), "list", "list", rfl, rfl, _, rfl, iteF ⟨.ref L, rfl, L, rfl, ⟨xs, .inl (.inl eL)⟩, t3, ?_⟩⟩
  have deep : ∀ {H1 : Hp}, Grow [] H H1 → H1 L = some (.lst xs) ∧ Tups H1 xs ds := fun g1 => ⟨g1.lst (by simp) eL, tL.grow g1 (lists_none _)⟩
  refine truth_list (xs := xs) (fun i H' => Grow [] H H') (fun H' t => grow_tab t3 t) (fun i H' hp => .inl (.inl (deep hp).1)) (fun i x H' hx hp => ?_) fun H1 g1 => ?_
  · obtain ⟨a, d, rfl, ed, ea⟩ := (deep hp).2.get hx
    refine ⟨rfl, _, rfl, a, d, rfl, hp.tabs _ t1, hp.tabs _ t2, ea, ok d (List.mem_of_getElem? ed), fun H3 g3 => ⟨_, rfl, ?_⟩⟩
    rw [if_neg (fun z => Bool.noConfusion z)]
    exact hp.trans g3
  · refine ⟨true, rfl, iteF ⟨rfl, .ref L, rfl, L, rfl, ⟨xs, .inl (.inl (deep g1).1)⟩, fun D1 n1 => ?_⟩⟩
    refine lc_it (walk_list (xs := xs)) (fun j H' => Grow [] H1 H' ∧ H' D1 = some (.lst ((((ds.map deedRow).take j)).map V.str))) ⟨grow_new n1, upd_same⟩
      (fun j H' _ h => .inl (.inl (deep (g1.trans h.1)).1)) (fun j x H3 H4 hj hp hy => ?_) (fun H3 hp => ?_)
    · obtain ⟨gj, eD⟩ := hp
      obtain ⟨rfl, ex⟩ := hy
      obtain ⟨a, d, rfl, ed, ea⟩ := (deep (g1.trans gj)).2.get ex
      have od := ok d (List.mem_of_getElem? ed)
      refine ⟨rfl, yes_if ⟨rfl, .ref a, rfl, spS, a, d, rfl, rfl, .inr (.inl (.inl ea)), ?_, ?_⟩⟩
      · have h1 := sum_le (m := 8) (ws := d) fun x hx => (nm_iff.mp (od.all.2.1 x hx)).2.1
        have l1 : spS.length = 1 := by decide
        have := od.all.2.2
        rw [l1]
        omega
      · rw [TL.join_eq]
        have lx : (((ds.map deedRow).take j).map V.str).length ≤ 200 := by rw [List.length_map, List.length_take, List.length_map]; omega
        refine ⟨_, eD, by unfold sizeLine; omega, gj.put (fresh_none n1) eD (fun ps z => by cases z), ?_⟩
        rw [List.take_add_one, List.getElem?_map, ed, List.map_append]
        exact upd_same
    · obtain ⟨gj, eD⟩ := hp
      have lx : xs.length = (ds.map deedRow).length := by rw [tL.length, List.length_map]
      rw [lx, List.take_length] at eD
      refine ⟨nlS, D1, ds.map deedRow, rfl, rfl, .inl (.inl (.inl eD)), ?_, ?_⟩
      · have h1 := sum_le (m := 36) (ws := ds.map deedRow) fun x hx => by
          obtain ⟨d, hd, rfl⟩ := List.mem_map.mp hx
          exact (deedRow_ok (ok d hd)).2.2
        have l1 : nlS.length = 1 := by decide
        rw [List.length_map] at h1
        rw [l1, List.length_map]
        omega
      · rw [TL.join_eq]
        exact q H3 (g1.trans gj)
def spReadH (K : PySem.W.Frag) (T1 T2 T3 : Addr) : Sp := fun vs H Q _ => ∃ (ds : List (List Str)), vs = [.str (histText ds)] ∧ TabG H T1 ∧ TabG H T2 ∧ TabG H T3 ∧ (∀ d ∈ ds, DeedOk d) ∧ ds.length ≤ 100 ∧
  ∀ L H', Fresh H L → Grow [] H H' → HistAt H' L ds → Q (.ref L) H'
theorem ok_read_history {f c T1 T2 T3 : Addr} {fd : FuncData} (B : Nb mg) (D : DefIs K "read_history" "read_history" st_read_history f fd (.ref c)) (x_read_history : TabB base mg c T3)
    (c_is_deed : Callee P w K mg base CX0 8 "is_deed" ["thing"] (spDeed K T1 T2)) (c_rows_in : Callee P w K mg base CX0 1 "rows_in" ["text"] (spRowsIn K)) : FnG P w K mg base CX0 12 f fd ["text"] (spReadH K T1 T2 T3) := by
  refine D.ok0 (k := 11) sc_read_history (fun vs H Q E h => ?_) (fun A outer s H vs Q E g hr h => ?_)
  · obtain ⟨ds, rfl, _⟩ := h
    rfl
  obtain ⟨ds, rfl, t1, t2, t3, ok, len, q⟩ := h
  refine ⟨_,
      (pss_cons (ps_if (PW.pt (pw_and (pt_cmpR (op_isTyB) (pe_callTy call_type1 rfl B.n_type (by decide +kernel) (pa_cons (pv 0) pa_nil)) (pe_bltn (v := .ty "str") rfl B.n_str (by decide +kernel) rfl) (nomark _)) (pw_and1 (pt_cmpR (op_eq) (pv 0) pe_str (nomark _))))) (
        (pss_one (ps_ret (pe_lst pa_nil)))) pss_nil)
      (pss_cons (ps_setLc (i := 1) (own := [("row", 2)]) (tt := tYes) (g := (gName 2)) rfl sc_read_history.nd rfl rfl (sw_true rfl rfl rfl (by decide +kernel)) (pi_list (pe_g c_rows_in g (hr.mono (by decide)) pass0 (pa_cons (pv 0) pa_nil))) (blkOk_by (N := N_read_history) (sc := defScope st_read_history) (by decide +kernel)) (fun _ _ _ _ _ => (pg_name (i := 2) sc_read_history.nd rfl (.inl rfl))) (fun _ _ _ _ _ => pts_nil) (fun _ _ _ _ _ => pe_to (pe_callTy call_tuple_of rfl B.n_tuple (by decide +kernel) (pa_cons (pe_bm PySem.F.plainAttrs_str PySem.F.slot_str_split PySem.F.type_str_split mt_split (pv 2) (pa_cons pe_str pa_nil)) pa_nil))))
      (pss_cons (ps_if (pt_not (pt_val (pe_allG (own := [("deed", 3)]) hr (gx_ok (N := N_read_history) (dsc := defScope st_read_history) x_read_history sc_read_history.nd (by decide +kernel) (by decide +kernel)) rfl B.n_all (by decide +kernel) (pi_list (pv 1)) (fun _ _ _ _ _ => (pg_name (i := 3) sc_read_history.nd rfl (.inl rfl))) (fun _ _ _ _ _ => pe_to (pe_g c_is_deed g ((room_gx hr).mono (by decide)) pass0 (pa_cons (pv 3) pa_nil)))))) (
        (pss_one ps_dead)) pss_nil)
      (pss_one (ps_ret (pv 1)))))), ?_⟩
  have tl := histText_len ok len
  refine ⟨.str (histText ds), rfl, _, "str", rfl, .str _, "str", "str", rfl, rfl, _, rfl, iteT ⟨.str (histText ds), rfl, rfl, _, rfl, ?_⟩⟩
  by_cases hd : ds = []
  · subst hd
    refine iteT ⟨by show 0 ≤ sizeLine; decide, fun p np => q p _ (fresh_none np) (grow_new np) ⟨[], upd_same, .nil⟩⟩
  rw [show decide (V.str (histText ds) = V.str "") = false from decide_eq_false fun z => histText_ne ok hd (V.str.inj z)]
  refine iteF ⟨.str (histText ds), rfl, histText ds, rfl, by omega, fun R nR => ?_⟩
  rw [hist_split ok hd]
  have gR : Grow [] H (upd H R (.lst ((ds.map deedRow).map V.str))) := grow_new nR
  have eR : upd H R (.lst ((ds.map deedRow).map V.str)) R = some (.lst ((ds.map deedRow).map V.str)) := upd_same
  generalize upd H R (HO.lst ((ds.map deedRow).map V.str)) = H1 at gR eR ⊢
  refine ⟨R, rfl, ⟨_, .inl (.inl eR)⟩, fun D1 n1 => ?_⟩
  refine lc_it (walk_list (xs := (ds.map deedRow).map V.str)) (fun j H' => Grow [] H1 H' ∧ HistAt H' D1 (ds.take j)) ⟨grow_new n1, [], upd_same, .nil⟩
    (fun j H' _ h => .inl (.inl (h.1.lst (by simp) eR))) (fun j x H3 H4 hj hp hy => ?_) (fun H3 hp => ?_)
  · obtain ⟨gj, hD⟩ := hp
    obtain ⟨rfl, ex⟩ := hy
    rw [List.length_map, List.length_map] at hj
    rw [List.getElem?_map, List.getElem?_map] at ex
    cases er : ds[j]? with
    | none => rw [er] at ex; cases ex
    | some d =>
      rw [er] at ex
      cases ex
      have od := ok d (List.mem_of_getElem? er)
      have l36 := (deedRow_ok od).2.2
      refine ⟨rfl, yes_if ⟨.str (deedRow d), rfl, rfl, deedRow d, spS, rfl, rfl, by decide, by unfold sizeLine; omega, fun Z nZ => ?_⟩⟩
      rw [deed_split od]
      refine ⟨Z, _, rfl, .inl ⟨.inl (.inl upd_same), fun T nT => ?_⟩⟩
      have gk : Grow [] H4 (upd (upd H4 Z (.lst (d.map V.str))) T (.tup (d.map V.str))) := (grow_new nZ).new nT
      have eT : upd (upd H4 Z (.lst (d.map V.str))) T (.tup (d.map V.str)) T = some (.tup (d.map V.str)) := upd_same
      generalize upd (upd H4 Z (HO.lst (d.map V.str))) T (HO.tup (d.map V.str)) = H5 at gk eT ⊢
      obtain ⟨xs, eD, tD⟩ := hD.grow gk (lists_none _) (by simp)
      have lx : xs.length ≤ 200 := by rw [tD.length, List.length_take]; omega
      have gP := grow_at (ex := [D1]) (o := .lst (xs ++ [.ref T])) eD (fun ps z => by cases z) (by simp)
      refine ⟨xs, eD, by unfold sizeLine; omega, (gj.trans gk).put (fresh_none n1) eD (fun ps z => by cases z), _, upd_same, ?_⟩
      rw [List.take_add_one, er, Option.toList_some]
      exact (tD.snoc eT).grow gP (lists_one eD)
  · obtain ⟨gj, hD⟩ := hp
    rw [List.length_map, List.length_map, List.take_length] at hD
    obtain ⟨xs, eD, tD⟩ := hD
    have gH := gR.trans gj
    refine ⟨.ref D1, rfl, D1, rfl, ⟨xs, .inl (.inl eD)⟩, gH.tabs _ t3, ?_⟩
    have deep : ∀ {H4 : Hp}, Grow [] H3 H4 → H4 D1 = some (.lst xs) ∧ Tups H4 xs ds := fun g1 => ⟨g1.lst (by simp) eD, tD.grow g1 (lists_none _)⟩
    refine truth_list (xs := xs) (fun i H' => Grow [] H3 H') (fun H' t => grow_tab (gH.tabs _ t3) t) (fun i H' hp => .inl (.inl (deep hp).1)) (fun i x H' hx hp => ?_) fun H4 g4 => ?_
    · obtain ⟨a, d, rfl, ed, ea⟩ := (deep hp).2.get hx
      refine ⟨rfl, _, rfl, a, d, rfl, (gH.trans hp).tabs _ t1, (gH.trans hp).tabs _ t2, ea, ok d (List.mem_of_getElem? ed), fun H5 g5 => ⟨_, rfl, ?_⟩⟩
      rw [if_neg (fun z => Bool.noConfusion z)]
      exact hp.trans g5
    · exact ⟨true, rfl, iteF ⟨.ref D1, rfl, q D1 H4 (gR.fresh (by simp) (fresh_none n1)) (gH.trans g4) ⟨xs, deep g4⟩⟩⟩
end

end Lw

namespace Lw
open PySem PySem.Spec PyProof.Rows L2 GxR Gx
section
variable {P : Program} {w : World} {K : PySem.W.Frag} {mg : Str → Option Value} {base : Heap}
/-! ### _law_history, _law_line, _law_book_text -/
theorem Pot.other {H : Hp} {p D : Addr} {c : Int} (h : Pot H p c) (f : Fresh H D) : D ≠ p := by
  obtain ⟨a, b, k, e, _⟩ := h
  exact (f.ne e (fun ps z => by cases z)).symm
theorem Pot.lists {H : Hp} {p : Addr} {c : Int} (h : Pot H p c) : Lists [p] H := by
  obtain ⟨a, b, k, e, _⟩ := h
  exact lists_one e
def spHist (K : PySem.W.Frag) : Sp := fun vs H Q _ => ∃ (p : Addr) (c : Int), vs = [.ref p] ∧ Pot H p c ∧ c ≤ 2 ^ 18 ∧
  ∀ (D : Addr) (H' : Hp) (ds : List (List Str)), Fresh H D → Grow [p] H H' → HistAt H' D ds → (∀ d ∈ ds, DeedOk d) → ds.length ≤ 100 → Pot H' p (c + 20000) → Q (.ref D) H'
theorem ok_law_history {f c : Addr} {fd : FuncData} (B : Nb mg) (D : DefIs K "_law_history" "_law_history" st_law_history f fd (.ref c))
    (c_law_dip : Callee P w K mg base CX0 3 "_law_dip" ["pot", "many"] (spDip K)) (c_law_names : Callee P w K mg base CX0 4 "_law_names" ["pot", "many"] (spNames K)) : FnG P w K mg base CX0 5 f fd ["pot"] (spHist K) := by
  refine D.ok0 (k := 4) sc_law_history (fun vs H Q E h => ?_) (fun A outer s H vs Q E g hr h => ?_)
  · obtain ⟨p, c, rfl, _⟩ := h
    rfl
  obtain ⟨p, c, rfl, pt, hc, q⟩ := h
  refine ⟨_,
      (pss_cons (ps_set (i := 1) sc_law_history.nd rfl (.inl rfl) (pe_lst pa_nil))
      (pss_cons (ps_for PassesOwn.never rfl (pi_range1 rfl B.n_range (pa_cons (pe_ix ix_list (pe_lst (pa_cons (pe_g c_law_dip g (hr.mono (by decide)) pass0 (pa_cons (pv 0) (pa_cons pe_int pa_nil))) (pa_cons (pe_g c_law_dip g (hr.mono (by decide)) pass0 (pa_cons (pv 0) (pa_cons pe_int pa_nil))) pa_nil))) (pe_g c_law_dip g (hr.mono (by decide)) pass0 (pa_cons (pv 0) (pa_cons pe_int pa_nil))) (fun _ _ => rfl)) pa_nil)) (pg_name (i := 2) sc_law_history.nd rfl (.inl rfl)) (
        (pss_cons (ps_set (i := 3) sc_law_history.nd rfl (.inl rfl) (pe_g c_law_names g (hr.mono (by decide)) pass0 (pa_cons (pv 0) (pa_cons pe_int pa_nil))))
        (pss_one (ps_expr (pe_bm PySem.F.plainAttrs_list PySem.F.slot_list_append PySem.F.type_list_append mt_append (pv 1) (pa_cons (pe_ix ix_list (pe_lst (pa_cons (pe_tup (pa_cons pe_str (pa_cons (pe_ix ix_list (pv 3) pe_int (fun _ _ => rfl)) (pa_cons (pe_ix ix_list (pv 3) pe_int (fun _ _ => rfl)) pa_nil)))) (pa_cons (pe_tup (pa_cons pe_str (pa_cons (pe_ix ix_list (pv 3) pe_int (fun _ _ => rfl)) (pa_cons (pe_ix ix_list (pv 3) pe_int (fun _ _ => rfl)) (pa_cons (pe_ix ix_list (pv 3) pe_int (fun _ _ => rfl)) pa_nil))))) pa_nil))) (pe_g c_law_dip g (hr.mono (by decide)) pass0 (pa_cons (pv 0) (pa_cons pe_int pa_nil))) (fun _ _ => rfl)) pa_nil)))))))
      (pss_one (ps_ret (pv 1))))), ?_⟩
  refine ⟨by show 0 ≤ sizeLine; decide, fun D1 n1 => ?_⟩
  have f1 : Fresh H D1 := fresh_none n1
  have Dp : D1 ≠ p := pt.other f1
  have g1 : Grow [p] H (upd H D1 (.lst [])) := grow_new n1
  have pt1 := pt.new (o := .lst []) n1
  have e1 : HistAt (upd H D1 (.lst [])) D1 [] := ⟨[], upd_same, .nil⟩
  generalize upd H D1 (HO.lst []) = H1 at g1 pt1 e1 ⊢
  refine ⟨.ref p, rfl, p, 6, c, rfl, by decide, by decide, by omega, pt1, fun v1 H2 a0 a1 g2 pt2 => ⟨.ref p, rfl, p, 60, _, rfl, by decide, by decide, by omega, pt2, fun v2 H3 b0 b1 g3 pt3 => ⟨by show 2 ≤ sizeLine; decide, fun L nL => ?_⟩⟩⟩
  have g4 := ((g1.trans g2).trans g3).new (o := .lst [V.int v1, V.int v2]) nL
  have pt4 := pt3.new (o := .lst [V.int v1, V.int v2]) nL
  have eL : upd H3 L (.lst [V.int v1, V.int v2]) L = some (.lst [V.int v1, V.int v2]) := upd_same
  have Lp : L ≠ p := pt3.other (fresh_none nL)
  have e4 : HistAt (upd H3 L (.lst [V.int v1, V.int v2])) D1 [] := ((e1.grow g2 pt1.lists (by simpa using Dp)).grow g3 pt2.lists (by simpa using Dp)).grow (grow_new (ex := []) nL) (lists_none _) (by simp)
  generalize upd H3 L (HO.lst [V.int v1, V.int v2]) = H4 at g4 pt4 eL e4 ⊢
  refine ⟨.ref p, rfl, p, 2, _, rfl, by decide, by decide, by omega, pt4, fun v3 H5 c0 c1 g5 pt5 => ?_⟩
  obtain ⟨n, hn, n0, n60⟩ : ∃ n : Int, atI [V.int v1, V.int v2] v3 = some (.int n) ∧ 0 ≤ n ∧ n < 60 := by
    have : v3 = 0 ∨ v3 = 1 := by omega
    rcases this with rfl | rfl
    · exact ⟨v1, rfl, a0, by omega⟩
    · exact ⟨v2, rfl, b0, by omega⟩
  refine ⟨L, _, v3, _, rfl, rfl, .inl (.inl (g5.lst (by simpa using Lp) eL)), hn, n, rfl, by omega, by omega, ?_⟩
  refine for_it walk_range (fun i σ H' => ∃ (ds : List (List Str)) (a b : Option V), σ = [some (.ref p), some (.ref D1), a, b] ∧ Grow [p] H H' ∧ HistAt H' D1 ds ∧ (∀ d ∈ ds, DeedOk d) ∧ ds.length = i ∧ Pot H' p (c + 3 + 201 * i))
    ⟨[], none, none, rfl, g4.trans g5, e4.grow g5 pt4.lists (by simpa using Dp), fun d hd => (by cases hd), rfl, pt5.mono (by omega)⟩ (fun _ _ _ _ _ => trivial) (fun i x σ H6 H7 hi hp hy => ?_) (fun σ H6 hp => ?_)
  · obtain ⟨ds, x1, x2, rfl, g6, e6, ok, len, pt6⟩ := hp
    obtain ⟨rfl, ex⟩ := hy
    refine ⟨.ref p, rfl, p, 3, _, rfl, by decide, pt6, by omega, fun N H8 ys fN g8 eN nd nm l3 pt8 => ?_⟩
    have Np : N ≠ p := pt6.other fN
    obtain ⟨y0, y1, y2, rfl⟩ : ∃ y0 y1 y2, ys = [y0, y1, y2] := by
      match ys, l3 with
      | [y0, y1, y2], _ => exact ⟨y0, y1, y2, rfl⟩
    have m0 : isNm y0 = true := List.all_eq_true.mp nm y0 (by simp)
    have m1 : isNm y1 = true := List.all_eq_true.mp nm y1 (by simp)
    have m2 : isNm y2 = true := List.all_eq_true.mp nm y2 (by simp)
    have e8 := e6.grow g8 pt6.lists (by simpa using Dp)
    obtain ⟨zs8, q8, tq8⟩ := e8
    refine ⟨.ref D1, rfl, .inl ⟨rfl, _, .inl (.inl q8)⟩, .ref N, rfl, N, _, 0, .str y0, rfl, rfl, .inl (.inl eN), rfl, .ref N, rfl, N, _, 1, .str y1, rfl, rfl, .inl (.inl eN), rfl, by show 3 ≤ sizeLine; decide, fun T1 nT1 => ?_⟩
    have g9 := (g6.trans g8).new (o := .tup [V.str "shout", V.str y0, V.str y1]) nT1
    have pt9 := pt8.new (o := .tup [V.str "shout", V.str y0, V.str y1]) nT1
    have eN9 : upd H8 T1 (.tup [V.str "shout", V.str y0, V.str y1]) N = some (.lst [V.str y0, V.str y1, V.str y2]) := by rw [upd_ne (ne_of_none eN nT1)]; exact eN
    have e9 : HistAt (upd H8 T1 (.tup [V.str "shout", V.str y0, V.str y1])) D1 ds := (show HistAt H8 D1 ds from ⟨zs8, q8, tq8⟩).grow (grow_new (ex := []) nT1) (lists_none _) (by simp)
    have eT1 : upd H8 T1 (.tup [V.str "shout", V.str y0, V.str y1]) T1 = some (.tup [V.str "shout", V.str y0, V.str y1]) := upd_same
    have T1p : T1 ≠ p := pt8.other (fresh_none nT1)
    generalize upd H8 T1 (HO.tup [V.str "shout", V.str y0, V.str y1]) = H9 at g9 pt9 eN9 e9 eT1 ⊢
    refine ⟨.ref N, rfl, N, _, 0, .str y0, rfl, rfl, .inl (.inl eN9), rfl, .ref N, rfl, N, _, 1, .str y1, rfl, rfl, .inl (.inl eN9), rfl, .ref N, rfl, N, _, 2, .str y2, rfl, rfl, .inl (.inl eN9), rfl, by show 4 ≤ sizeLine; decide, fun T2 nT2 => ?_⟩
    have g10 := g9.new (o := .tup [V.str "hear", V.str y0, V.str y1, V.str y2]) nT2
    have pt10 := pt9.new (o := .tup [V.str "hear", V.str y0, V.str y1, V.str y2]) nT2
    have e10 : HistAt (upd H9 T2 (.tup [V.str "hear", V.str y0, V.str y1, V.str y2])) D1 ds := e9.grow (grow_new (ex := []) nT2) (lists_none _) (by simp)
    have eT1' : upd H9 T2 (.tup [V.str "hear", V.str y0, V.str y1, V.str y2]) T1 = some (.tup [V.str "shout", V.str y0, V.str y1]) := by rw [upd_ne (ne_of_none eT1 nT2)]; exact eT1
    have eT2 : upd H9 T2 (.tup [V.str "hear", V.str y0, V.str y1, V.str y2]) T2 = some (.tup [V.str "hear", V.str y0, V.str y1, V.str y2]) := upd_same
    have T2p : T2 ≠ p := pt9.other (fresh_none nT2)
    generalize upd H9 T2 (HO.tup [V.str "hear", V.str y0, V.str y1, V.str y2]) = H10 at g10 pt10 e10 eT1' eT2 ⊢
    refine ⟨by show 2 ≤ sizeLine; decide, fun M nM => ?_⟩
    have g11 := g10.new (o := .lst [V.ref T1, V.ref T2]) nM
    have pt11 := pt10.new (o := .lst [V.ref T1, V.ref T2]) nM
    have gM : Grow [] H10 (upd H10 M (.lst [V.ref T1, V.ref T2])) := grow_new nM
    have e11 : HistAt (upd H10 M (.lst [V.ref T1, V.ref T2])) D1 ds := e10.grow gM (lists_none _) (by simp)
    have eT1'' := gM.tup (by simp) eT1'
    have eT2'' := gM.tup (by simp) eT2
    have eM : upd H10 M (.lst [V.ref T1, V.ref T2]) M = some (.lst [V.ref T1, V.ref T2]) := upd_same
    have Mp : M ≠ p := pt10.other (fresh_none nM)
    generalize upd H10 M (HO.lst [V.ref T1, V.ref T2]) = H11 at g11 pt11 gM e11 eT1'' eT2'' eM ⊢
    refine ⟨.ref p, rfl, p, 2, _, rfl, by decide, by decide, by omega, pt11, fun v H12 d0 d1 g12 pt12 => ?_⟩
    have e12 := e11.grow g12 pt11.lists (by simpa using Dp)
    obtain ⟨T, d, hT, ed, od⟩ : ∃ (T : Addr) (d : List Str), atI [V.ref T1, V.ref T2] v = some (.ref T) ∧ H12 T = some (.tup (d.map V.str)) ∧ DeedOk d := by
      have : v = 0 ∨ v = 1 := by omega
      rcases this with rfl | rfl
      · exact ⟨T1, [shoutS, y0, y1], rfl, g12.tup (by simpa using T1p) eT1'', .inl ⟨y0, y1, rfl, m0, m1⟩⟩
      · exact ⟨T2, [hearS, y0, y1, y2], rfl, g12.tup (by simpa using T2p) eT2'', .inr ⟨y0, y1, y2, rfl, m0, m1, m2⟩⟩
    refine ⟨M, _, v, _, rfl, rfl, .inl (.inl (g12.lst (by simpa using Mp) eM)), hT, ?_⟩
    obtain ⟨zs, qz, tz⟩ := e12
    have lz : zs.length ≤ 60 := by rw [tz.length]; omega
    have gP : Grow [D1] H12 (upd H12 D1 (.lst (zs ++ [.ref T]))) := grow_at qz (fun ps z => by cases z) (by simp)
    refine ⟨D1, zs, .ref T, rfl, rfl, qz, by unfold sizeLine; omega, ds ++ [d], _, _, rfl, (g11.trans g12).put f1 qz (fun ps z => by cases z), ⟨_, upd_same, (tz.snoc ed).grow gP (lists_one qz)⟩, fun d' hd => ?_, by rw [List.length_append, len]; rfl, (pt12.at (Ne.symm Dp)).mono (by omega)⟩
    rcases List.mem_append.mp hd with hd | hd
    · exact ok d' hd
    · rw [List.mem_singleton.mp hd]
      exact od
  · obtain ⟨ds, x1, x2, rfl, g6, e6, ok, len, pt6⟩ := hp
    exact ⟨_, rfl, q D1 H6 ds f1 g6 e6 ok (by omega) (pt6.mono (by omega))⟩
theorem line_at {ws : List Str} {b w : Str} {i : Nat} (nw : ∀ x ∈ ws, x ≠ Str.empty) (e : ws[i]? = some w) :
    ∃ z : Str, atI [V.str b, V.str ""] (if decide (V.str (Str.join b (ws.take i)) = V.str "") = true then 1 else 0) = some (.str z) ∧ z.length ≤ b.length ∧ (Str.join b (ws.take i) ++ z) ++ w = Str.join b (ws.take (i + 1)) := by
  cases i with
  | zero =>
    refine ⟨Str.empty, rfl, Nat.zero_le _, ?_⟩
    rw [List.take_add_one, e]
    show (Str.empty ++ Str.empty) ++ w = w
    rw [app_empty, empty_app]
  | succ i =>
    have hi := (List.getElem?_eq_some_iff.mp e).1
    have ne : ws.take (i + 1) ≠ [] := fun z => by
      have := congrArg List.length z
      rw [List.length_take, List.length_nil] at this
      omega
    have nj : Str.join b (ws.take (i + 1)) ≠ Str.empty := join_ne ne fun x hx => nw x (List.mem_of_mem_take hx)
    refine ⟨b, ?_, Nat.le_refl _, ?_⟩
    · have e0 : decide (V.str (Str.join b (ws.take (i + 1))) = V.str "") = false := decide_eq_false fun z => nj (V.str.inj z)
      rw [e0]
      rfl
    · rw [List.take_add_one (i := i + 1), e, Option.toList_some, join_snoc b w ne]
def spLine (K : PySem.W.Frag) : Sp := fun vs H Q _ => ∃ (a : Addr) (ws : List Str) (b : Str), vs = [.ref a, .str b] ∧ (SqL K H a (ws.map V.str) ∨ SqT K H a (ws.map V.str)) ∧ ws.length ≤ 200 ∧ (∀ x ∈ ws, x ≠ Str.empty ∧ x.length ≤ 10000) ∧ b.length ≤ 10 ∧ ∀ H', Grow [] H H' → Q (.str (Str.join b ws)) H'
theorem ok_law_line {f c : Addr} {fd : FuncData} (B : Nb mg) (D : DefIs K "_law_line" "_law_line" st_law_line f fd (.ref c)) : FnG P w K mg base CX0 1 f fd ["words", "between"] (spLine K) := by
  refine D.ok0 (k := 0) sc_law_line (fun vs H Q E h => ?_) (fun A outer s H vs Q E g hr h => ?_)
  · obtain ⟨a, ws, b, rfl, _⟩ := h
    rfl
  obtain ⟨a, ws, b, rfl, sq, lw, nw, lb, q⟩ := h
  rcases sq with sq | sq
  · refine ⟨_,
      (pss_cons (ps_set (i := 2) sc_law_line.nd rfl (.inl rfl) pe_str)
      (pss_cons (ps_for PassesOwn.never rfl (pi_list (pv 0)) (pg_name (i := 3) sc_law_line.nd rfl (.inl rfl)) (
        (pss_one (ps_set (i := 2) sc_law_line.nd rfl (.inl rfl) (pe_op op_add_str (pe_op op_add_str (pv 2) (pe_ix ix_list (pe_lst (pa_cons (pv 1) (pa_cons pe_str pa_nil))) (pe_callTy call_int1 rfl B.n_int (by decide +kernel) (pa_cons (pe_cmpR (op_eq) (pv 2) pe_str (nomark _)) pa_nil)) (fun _ _ => rfl))) (pv 3))))))
      (pss_one (ps_ret (pv 2))))), ?_⟩
    refine ⟨.ref a, rfl, a, rfl, ⟨_, sq⟩, ?_⟩
    refine for_it (walk_list (xs := ws.map V.str)) (fun i σ H' => ∃ x : Option V, σ = [some (.ref a), some (.str b), some (.str (Str.join b (ws.take i))), x] ∧ Grow [] H H') ⟨none, rfl, Grow.refl _ _⟩ (fun i σ H' _ h => by obtain ⟨_, _, g2⟩ := h; exact g2.seq0 sq) (fun i x σ H2 H3 hi hp hy => ?_) (fun σ H2 hp => ?_)
    · obtain ⟨x0, rfl, g2⟩ := hp
      obtain ⟨rfl, ex⟩ := hy
      rw [List.getElem?_map] at ex
      cases er : ws[i]? with
      | none => rw [er] at ex; cases ex
      | some w =>
        rw [er] at ex
        cases ex
        obtain ⟨z, ez, lz, ej⟩ := line_at (b := b) (fun x hx => (nw x hx).1) er
        have lj := join_len b 10000 (ws := ws.take i) fun x hx => (nw x (List.mem_of_mem_take hx)).2
        have lt : (ws.take i).length ≤ 200 := by rw [List.length_take]; omega
        have lj2 : (Str.join b (ws.take i)).length ≤ 3000000 := by
          have := Nat.mul_le_mul lt (show 10000 + b.length ≤ 10010 by omega)
          omega
        have lw1 := (nw w (List.mem_of_getElem? er)).2
        refine ⟨.str (Str.join b (ws.take i)), rfl, .str b, rfl, by show 2 ≤ sizeLine; decide, fun L nL => ?_⟩
        refine ⟨.str (Str.join b (ws.take i)), rfl, rfl, .inr ⟨_, rfl, L, _, _, _, rfl, rfl, .inl (.inl upd_same), ez, _, _, rfl, rfl, by unfold sizeLine; omega, .str w, rfl, _, _, rfl, rfl, by rw [app_len]; unfold sizeLine; omega, ?_⟩⟩
        rw [ej]
        exact ⟨_, rfl, g2.new nL⟩
    · obtain ⟨x0, rfl, g2⟩ := hp
      rw [List.length_map, List.take_length]
      exact ⟨_, rfl, q H2 g2⟩
  · refine ⟨_,
      (pss_cons (ps_set (i := 2) sc_law_line.nd rfl (.inl rfl) pe_str)
      (pss_cons (ps_for PassesOwn.never rfl (pi_tup (pv 0)) (pg_name (i := 3) sc_law_line.nd rfl (.inl rfl)) (
        (pss_one (ps_set (i := 2) sc_law_line.nd rfl (.inl rfl) (pe_op op_add_str (pe_op op_add_str (pv 2) (pe_ix ix_list (pe_lst (pa_cons (pv 1) (pa_cons pe_str pa_nil))) (pe_callTy call_int1 rfl B.n_int (by decide +kernel) (pa_cons (pe_cmpR (op_eq) (pv 2) pe_str (nomark _)) pa_nil)) (fun _ _ => rfl))) (pv 3))))))
      (pss_one (ps_ret (pv 2))))), ?_⟩
    have sqT : ∀ {H2 : Hp}, Grow [] H H2 → SqT K H2 a (ws.map V.str) := fun g2 => by
      rcases sq with e | o
      · exact .inl (e.elim (fun e => .inl (g2.tup (by simp) e)) fun ⟨o, e⟩ => .inr ⟨o, g2.keep _ _ (by simp) e fun ps z => by cases z⟩)
      · exact .inr o
    refine ⟨.ref a, rfl, a, rfl, ⟨_, sq⟩, ?_⟩
    refine for_it (walk_tup (xs := ws.map V.str)) (fun i σ H' => ∃ x : Option V, σ = [some (.ref a), some (.str b), some (.str (Str.join b (ws.take i))), x] ∧ Grow [] H H') ⟨none, rfl, Grow.refl _ _⟩ (fun i σ H' _ h => by obtain ⟨_, _, g2⟩ := h; exact sqT g2) (fun i x σ H2 H3 hi hp hy => ?_) (fun σ H2 hp => ?_)
    · obtain ⟨x0, rfl, g2⟩ := hp
      obtain ⟨rfl, ex⟩ := hy
      rw [List.getElem?_map] at ex
      cases er : ws[i]? with
      | none => rw [er] at ex; cases ex
      | some w =>
        rw [er] at ex
        cases ex
        obtain ⟨z, ez, lz, ej⟩ := line_at (b := b) (fun x hx => (nw x hx).1) er
        have lj := join_len b 10000 (ws := ws.take i) fun x hx => (nw x (List.mem_of_mem_take hx)).2
        have lt : (ws.take i).length ≤ 200 := by rw [List.length_take]; omega
        have lj2 : (Str.join b (ws.take i)).length ≤ 3000000 := by
          have := Nat.mul_le_mul lt (show 10000 + b.length ≤ 10010 by omega)
          omega
        have lw1 := (nw w (List.mem_of_getElem? er)).2
        refine ⟨.str (Str.join b (ws.take i)), rfl, .str b, rfl, by show 2 ≤ sizeLine; decide, fun L nL => ?_⟩
        refine ⟨.str (Str.join b (ws.take i)), rfl, rfl, .inr ⟨_, rfl, L, _, _, _, rfl, rfl, .inl (.inl upd_same), ez, _, _, rfl, rfl, by unfold sizeLine; omega, .str w, rfl, _, _, rfl, rfl, by rw [app_len]; unfold sizeLine; omega, ?_⟩⟩
        rw [ej]
        exact ⟨_, rfl, g2.new nL⟩
    · obtain ⟨x0, rfl, g2⟩ := hp
      rw [List.length_map, List.take_length]
      exact ⟨_, rfl, q H2 g2⟩
def spBookT (K : PySem.W.Frag) : Sp := fun vs H Q _ => ∃ (l : Addr) (zs : List Str), vs = [.ref l] ∧ H l = some (.lst (zs.map V.str)) ∧ Bk zs ∧ ∀ H', Grow [] H H' → Q (.str (bookText zs)) H'
theorem ok_law_book_text {f c : Addr} {fd : FuncData} (D : DefIs K "_law_book_text" "_law_book_text" st_law_book_text f fd (.ref c))
    (c_law_line : Callee P w K mg base CX0 1 "_law_line" ["words", "between"] (spLine K)) : FnG P w K mg base CX0 2 f fd ["book"] (spBookT K) := by
  refine D.ok0 (k := 1) sc_law_book_text (fun vs H Q E h => ?_) (fun A outer s H vs Q E g hr h => ?_)
  · obtain ⟨l, zs, rfl, _⟩ := h
    rfl
  obtain ⟨l, zs, rfl, el, bz, q⟩ := h
  refine ⟨_,
      (pss_one (ps_ret (pe_ifExp (pt_cmpR (op_eqD hr.units) (pv 0) (pe_lst pa_nil) (nomark _)) pe_str (pe_g c_law_line g (hr.mono (by decide)) pass0 (pa_cons (pv 0) (pa_cons pe_str pa_nil)))))), ?_⟩
  refine ⟨.ref l, rfl, by show 0 ≤ sizeLine; decide, fun p np => ?_⟩
  have g1 : Grow [] H (upd H p (.lst [])) := grow_new np
  have ep : upd H p (.lst []) p = some (.lst []) := upd_same
  generalize upd H p (HO.lst []) = H1 at g1 ep ⊢
  have f : Fine (.list (zs.map PyData.str)) 1 2000 := Fine.list (n := 0) (m := 8) (fun x hx => by
    obtain ⟨z, hz, rfl⟩ := List.mem_map.mp hx
    exact bz.fine hz) (by rw [List.length_map]; have := bz.len; omega)
  refine ⟨_, _, dp_book (.inl (.inl (g1.lst (by simp) el))), dp_book (xs := []) (.inl (.inl ep)), f.shaped (by decide), by decide, _, rfl, ?_⟩
  cases zs with
  | nil =>
    rw [show PyData.eqv (.list (([] : List Str).map PyData.str)) (.list (([] : List Str).map PyData.str)) = true from by simp [PyData.eqv, PyData.eqvAll]]
    exact iteT (q H1 g1)
  | cons z zs =>
    rw [show PyData.eqv (.list ((z :: zs).map PyData.str)) (.list (([] : List Str).map PyData.str)) = false from by simp [PyData.eqv, PyData.eqvAll]]
    refine iteF ⟨.ref l, rfl, l, z :: zs, spS, rfl, .inl (.inl (.inl (g1.lst (by simp) el))), bz.len, fun x hx => ?_, by decide, fun H2 g2 => ?_⟩
    · have nx := List.all_eq_true.mp bz.nm x hx
      exact ⟨nm_ne nx, by have := (nm_iff.mp nx).2.1; omega⟩
    · have q2 := q H2 (g1.trans g2)
      unfold bookText at q2
      rw [if_neg (by simp)] at q2
      exact q2
end

end Lw

namespace Lw
open PySem PySem.Spec PyProof.Rows L2 GxR Gx
/-! ### what is drawn: a web, a book, a history -/
theorem fine_mono {d : PyData} {n m n' m' : Nat} (f : Fine d n m) (h1 : n ≤ n') (h2 : m ≤ m') : Fine d n' m' := ⟨f.lay, f.show_, f.nod, f.leaves, Nat.le_trans f.deep h1, Nat.le_trans f.bulk h2⟩
theorem fine_roads {hs : List Str} {roads : List (Str × Str)} (w : WebOk hs roads) : Fine (.list (roads.map encP)) 2 3800 := Fine.list (n := 1) (m := 18) (fun d hd => by
  obtain ⟨r, hr, rfl⟩ := List.mem_map.mp hd
  obtain ⟨h1, h2, _⟩ := w.ends r hr
  refine Fine.tuple (n := 0) (m := 8) (fun d hd => ?_) (Nat.le_refl _)
  rcases List.mem_cons.mp hd with rfl | hd
  · exact fine_name (List.all_eq_true.mp w.nm _ h1)
  · rw [List.mem_singleton.mp hd]
    exact fine_name (List.all_eq_true.mp w.nm _ h2)) (by
  rw [List.length_map]
  have := w.many
  have := w.len
  omega)
def webD (hs : List Str) (roads : List (Str × Str)) : PyData := .tuple [.list (hs.map PyData.str), .list (roads.map encP)]
theorem fine_web {hs : List Str} {roads : List (Str × Str)} (w : WebOk hs roads) : Fine (webD hs roads) 3 8000 := Fine.tuple (n := 2) (m := 3800) (fun d hd => by
  rcases List.mem_cons.mp hd with rfl | hd
  · exact fine_mono (fine_names w.nm w.len) (by decide) (by decide)
  · rw [List.mem_singleton.mp hd]
    exact fine_roads w) (by show 2 * 3801 ≤ 8000; decide)
theorem WebAt.dp {K : PySem.W.Frag} {H : Hp} {W : Addr} {hs : List Str} {roads : List (Str × Str)} (h : WebAt H W hs roads) : Dp K H (.ref W) (webD hs roads) := by
  obtain ⟨a, b, h1, h2, h3⟩ := h
  exact .tup (.inl (.inl h1)) (.cons (dp_book (.inl (.inl h2))) (.cons h3.dp .nil))
def deedD (d : List Str) : PyData := .tuple (d.map PyData.str)
def histD (ds : List (List Str)) : PyData := .list (ds.map deedD)
theorem fine_hist {ds : List (List Str)} (h : ∀ d ∈ ds, DeedOk d) (l : ds.length ≤ 100) : Fine (histD ds) 2 5000 := Fine.list (n := 1) (m := 36) (fun d hd => by
  obtain ⟨r, hr, rfl⟩ := List.mem_map.mp hd
  refine Fine.tuple (n := 0) (m := 8) (fun d hd => ?_) (by rw [List.length_map]; have := (h r hr).all.2.2; omega)
  obtain ⟨z, hz, rfl⟩ := List.mem_map.mp hd
  exact fine_name ((h r hr).all.2.1 z hz)) (by rw [List.length_map]; omega)
/-- what the law draws -/
structure Got where
  hands : List Str
  roads : List (Str × Str)
  book : List Str
  deeds : List (List Str)
structure Got.Ok (g : Got) : Prop where
  web : WebOk g.hands g.roads
  bk : Bk g.book
  dd : ∀ d ∈ g.deeds, DeedOk d
  len : g.deeds.length ≤ 100
def Got.D (g : Got) : PyData := .list [webD g.hands g.roads, .list (g.book.map PyData.str), histD g.deeds]
/-- the same, in order -/
def Got.ord (g : Got) : Got := ⟨sortS g.hands, sortP g.roads, g.book, g.deeds⟩
theorem Got.Ok.ord {g : Got} (h : g.Ok) : g.ord.Ok := ⟨h.web.perm (sortS_perm _).symm (sortP_perm _).symm, h.bk, h.dd, h.len⟩
theorem Got.Ok.fine {g : Got} (h : g.Ok) : Fine g.D 4 30000 := Fine.list (n := 3) (m := 8000) (fun d hd => by
  rcases List.mem_cons.mp hd with rfl | hd
  · exact fine_web h.web
  · rcases List.mem_cons.mp hd with rfl | hd
    · exact fine_mono (fine_names h.bk.nm h.bk.len) (by decide) (by decide)
    · rw [List.mem_singleton.mp hd]
      exact fine_mono (fine_hist h.dd h.len) (by decide) (by decide)) (by show 3 * 8001 ≤ 30000; decide)
def Got.text (g : Got) : List Str := [webText g.hands g.roads, bookText g.book, histText g.deeds]
theorem Got.Ok.short {g : Got} (h : g.Ok) : ∀ x ∈ g.text, x.length ≤ 500000 ∧ ∀ c ∈ x.cps.toList, c < 0x110000 := fun x hx => by
  rcases List.mem_cons.mp hx with rfl | hx
  · exact ⟨webText_len h.web, join_code (by decide +kernel) fun y hy c hc => row_code h.web hy hc⟩
  · rcases List.mem_cons.mp hx with rfl | hx
    · refine ⟨Nat.le_trans (bookText_len h.bk) (by decide), ?_⟩
      unfold bookText
      split
      · decide +kernel
      · exact join_code (by decide +kernel) fun y hy => nm_lt (List.all_eq_true.mp h.bk.nm y hy)
    · rw [List.mem_singleton.mp hx]
      refine ⟨Nat.le_trans (histText_len h.dd h.len) (by decide), join_code (by decide +kernel) fun y hy => ?_⟩
      obtain ⟨d, hd, rfl⟩ := List.mem_map.mp hy
      exact join_code (by decide +kernel) fun z hz => nm_lt ((h.dd d hd).all.2.1 z hz)
theorem Got.Ok.fineT {g : Got} (h : g.Ok) : Fine (.list (g.text.map PyData.str)) 1 1600000 := Fine.list (n := 0) (m := 500000) (fun d hd => by
  obtain ⟨x, hx, rfl⟩ := List.mem_map.mp hd
  exact .str (h.short x hx).2 (h.short x hx).1) (by show 3 * 500001 ≤ 1600000; decide)
/-! ### equal data -/
theorem eqvAll_map {α : Type} [DecidableEq α] {e : α → PyData} (h : ∀ a b, PyData.eqv (e a) (e b) = decide (a = b)) : ∀ xs ys : List α, PyData.eqvAll (xs.map e) (ys.map e) = decide (xs = ys)
  | [], [] => rfl
  | [], _ :: _ => rfl
  | _ :: _, [] => rfl
  | x :: xs, y :: ys => by
    show (PyData.eqv (e x) (e y) && PyData.eqvAll (xs.map e) (ys.map e)) = _
    rw [h, eqvAll_map h xs ys, ← Bool.decide_and]
    exact decide_eq_decide.mpr ⟨fun z => by rw [z.1, z.2], fun z => by cases z; exact ⟨rfl, rfl⟩⟩
theorem eqv_str (a b : Str) : PyData.eqv (.str a) (.str b) = decide (a = b) := by
  show (a == b) = decide (a = b)
  by_cases h : a = b
  · rw [h, decide_eq_true rfl]
    exact beq_self_eq_true b
  · rw [decide_eq_false h]
    exact beq_eq_false_iff_ne.mpr h
theorem eqv_pair (a b : Str × Str) : PyData.eqv (encP a) (encP b) = decide (a = b) := by
  show (PyData.eqv (.str a.1) (.str b.1) && (PyData.eqv (.str a.2) (.str b.2) && true)) = _
  rw [eqv_str, eqv_str, Bool.and_true, ← Bool.decide_and]
  exact decide_eq_decide.mpr ⟨fun z => Prod.ext z.1 z.2, fun z => by rw [z]; exact ⟨rfl, rfl⟩⟩
theorem eqv_web (a c : List Str) (b d : List (Str × Str)) : PyData.eqv (webD a b) (webD c d) = decide (a = c ∧ b = d) := by
  show (PyData.eqvAll (a.map PyData.str) (c.map PyData.str) && (PyData.eqvAll (b.map encP) (d.map encP) && true)) = _
  rw [eqvAll_map eqv_str, eqvAll_map eqv_pair, Bool.and_true, ← Bool.decide_and]
theorem eqv_deed (a b : List Str) : PyData.eqv (deedD a) (deedD b) = decide (a = b) := eqvAll_map eqv_str a b
theorem eqv_hist (a b : List (List Str)) : PyData.eqv (histD a) (histD b) = decide (a = b) := eqvAll_map eqv_deed a b
theorem same_web {g m : Got} (h : g.Ok) (k : m.Ok) : PyData.eqv (webD g.ord.hands g.ord.roads) (webD m.ord.hands m.ord.roads) = PyData.eqv (.str (webText g.hands g.roads)) (.str (webText m.hands m.roads)) := by
  rw [eqv_web, eqv_str]
  refine decide_eq_decide.mpr ⟨fun z => ?_, fun z => webText_inj h.web k.web z⟩
  unfold webText webRows
  rw [show sortS g.hands = sortS m.hands from z.1, show sortP g.roads = sortP m.roads from z.2]
theorem same_book {g m : Got} (h : g.Ok) (k : m.Ok) : PyData.eqv (.list (g.book.map PyData.str)) (.list (m.book.map PyData.str)) = PyData.eqv (.str (bookText g.book)) (.str (bookText m.book)) := by
  rw [eqv_str]
  show PyData.eqvAll _ _ = _
  rw [eqvAll_map eqv_str]
  exact decide_eq_decide.mpr ⟨fun z => by rw [z], fun z => bookText_inj h.bk k.bk z⟩
theorem same_hist {g m : Got} (h : g.Ok) (k : m.Ok) : PyData.eqv (histD g.deeds) (histD m.deeds) = PyData.eqv (.str (histText g.deeds)) (.str (histText m.deeds)) := by
  rw [eqv_hist, eqv_str]
  exact decide_eq_decide.mpr ⟨fun z => by rw [z], fun z => histText_inj h.dd k.dd z⟩
def GotAt (H : Hp) (S : Addr) (g : Got) : Prop := ∃ W B L, H S = some (.lst [.ref W, .ref B, .ref L]) ∧ WebAt H W g.hands g.roads ∧ H B = some (.lst (g.book.map V.str)) ∧ HistAt H L g.deeds
theorem GotAt.grow {H H' : Hp} {S : Addr} {g : Got} (h : GotAt H S g) (gr : Grow [] H H') : GotAt H' S g := by
  obtain ⟨W, B, L, h1, h2, h3, h4⟩ := h
  exact ⟨W, B, L, gr.lst (by simp) h1, h2.grow gr, gr.lst (by simp) h3, h4.grow gr (lists_none _) (by simp)⟩
theorem GotAt.dp {K : PySem.W.Frag} {H : Hp} {S : Addr} {g : Got} (h : GotAt H S g) : Dp K H (.ref S) g.D := by
  obtain ⟨W, B, L, h1, h2, h3, h4⟩ := h
  exact .lst (.inl (.inl h1)) (.cons h2.dp (.cons (dp_book (.inl (.inl h3))) (.cons h4.dp .nil)))
theorem fine_bool (b : Bool) : Fine (.bool b) 0 5 := by cases b <;> exact ⟨by decide, by decide, by decide, by decide, by decide, by decide⟩
theorem dp_bools {K : PySem.W.Frag} {H : Hp} : ∀ bs : List Bool, DpAll K H (bs.map V.bl) (bs.map PyData.bool)
  | [] => .nil
  | b :: r => .cons (.bl b) (dp_bools r)
theorem dpall_get {K : PySem.W.Frag} {H : Hp} : ∀ {xs : List V} {ds : List PyData} {i : Nat} {x : V}, DpAll K H xs ds → xs[i]? = some x → ∃ d, ds[i]? = some d ∧ Dp K H x d
  | _, _, _, _, .nil, e => by cases e
  | _, _, 0, _, .cons h _, e => by
    cases e
    exact ⟨_, rfl, h⟩
  | _, _, i + 1, _, .cons _ t, e => dpall_get (i := i) t e
/-- the three parts, each -/
def Got.Ds (g : Got) : List PyData := [webD g.hands g.roads, .list (g.book.map PyData.str), histD g.deeds]
theorem Got.Ok.part {g : Got} (h : g.Ok) : ∀ d ∈ g.Ds, Fine d 3 8000 := fun d hd => by
  rcases List.mem_cons.mp hd with rfl | hd
  · exact fine_web h.web
  · rcases List.mem_cons.mp hd with rfl | hd
    · exact fine_mono (fine_names h.bk.nm h.bk.len) (by decide) (by decide)
    · rw [List.mem_singleton.mp hd]
      exact fine_mono (fine_hist h.dd h.len) (by decide) (by decide)
theorem GotAt.parts {H : Hp} {S : Addr} {g : Got} (h : GotAt H S g) : ∃ xs, H S = some (.lst xs) ∧ xs.length = 3 ∧ ∀ (K : PySem.W.Frag) (H' : Hp), Grow [] H H' → H' S = some (.lst xs) ∧ DpAll K H' xs g.Ds := by
  obtain ⟨W, B, L, h1, h2, h3, h4⟩ := h
  exact ⟨_, h1, rfl, fun K H' gr => ⟨gr.lst (by simp) h1, .cons (h2.grow gr).dp (.cons (dp_book (.inl (.inl (gr.lst (by simp) h3)))) (.cons (h4.grow gr (lists_none _) (by simp)).dp .nil))⟩⟩
def sameB (ds es : List PyData) : List Bool := List.zipWith PyData.eqv ds es
theorem same_all {g m : Got} (h : g.Ok) (k : m.Ok) : sameB g.ord.Ds m.ord.Ds = sameB (g.text.map PyData.str) (m.text.map PyData.str) := by
  have h1 := same_web h k
  have h2 := same_book h k
  have h3 := same_hist h k
  show [_, _, _] = [_, _, _]
  rw [h1]
  show [_, PyData.eqv (.list (g.book.map PyData.str)) (.list (m.book.map PyData.str)), PyData.eqv (histD g.deeds) (histD m.deeds)] = [_, _, _]
  rw [h2, h3]
theorem sameB_at {ds es : List PyData} {i : Nat} {d e : PyData} (h : ds[i]? = some d) (k : es[i]? = some e) : (sameB ds es).take (i + 1) = (sameB ds es).take i ++ [PyData.eqv d e] := by
  have : (sameB ds es)[i]? = some (PyData.eqv d e) := by
    unfold sameB
    rw [List.getElem?_zipWith, h, k]
  rw [List.take_add_one, this]
  rfl

end Lw

namespace Lw
open PySem PySem.Spec PyProof.Rows L2 GxR Gx
section
variable {P : Program} {w : World} {K : PySem.W.Frag} {mg : Str → Option Value} {base : Heap}
def spRowsL (K : PySem.W.Frag) : Sp := fun vs H Q _ => ∃ (W : Addr) (hands : List Str) (roads : List (Str × Str)), vs = [.ref W] ∧ WebAt H W hands roads ∧ WebOk hands roads ∧
  ∀ D H', Fresh H D → Grow [] H H' → H' D = some (.lst ((webRows hands roads).map V.str)) → Q (.ref D) H'
theorem ok_law_web_rows {f c : Addr} {fd : FuncData} (B : Nb mg) (D : DefIs K "_law_web_rows" "_law_web_rows" st_law_web_rows f fd (.ref c))
    (c_law_line : Callee P w K mg base CX0 1 "_law_line" ["words", "between"] (spLine K)) : FnG P w K mg base CX0 2 f fd ["web"] (spRowsL K) := by
  refine D.ok0 (k := 1) sc_law_web_rows (fun vs H Q E h => ?_) (fun A outer s H vs Q E g hr h => ?_)
  · obtain ⟨W, hands, roads, rfl, _⟩ := h
    rfl
  obtain ⟨W, hands, roads, rfl, hW, wo, q⟩ := h
  refine ⟨_,
      (pss_one (ps_ret (pe_op op_cat (pe_lst (pa_cons (pe_g c_law_line g (hr.mono (by decide)) pass0 (pa_cons (pe_callB (cr_sortG (val := V.str) (enc := PyData.str) hr.units) rfl B.n_sorted (by decide +kernel) (pa_cons (pe_ix ix_tup (pv 0) pe_int (fun _ _ => rfl)) pa_nil)) (pa_cons pe_str pa_nil))) pa_nil)) (pe_lc (own := [("one", 1), ("other", 2)]) (tt := tYes) (g := (gTup _ 2 (gCons (gName 1) (gCons (gName 2) gNil)))) rfl sc_law_web_rows.nd (pi_list (pe_callB (cr_sortG (val := Prod.fst) (enc := fun b : V × (Str × Str) => encP b.2) hr.units) rfl B.n_sorted (by decide +kernel) (pa_cons (pe_ix ix_tup (pv 0) pe_int (fun _ _ => rfl)) pa_nil))) (blkOk_by (N := N_law_web_rows) (sc := defScope st_law_web_rows) (by decide +kernel)) (fun _ _ _ _ _ => (pg_tup rfl (pgs_cons (pg_name (i := 1) sc_law_web_rows.nd rfl (.inl rfl)) (pgs_cons (pg_name (i := 2) sc_law_web_rows.nd rfl (.inl rfl)) pgs_nil)))) (fun _ _ _ _ _ => pts_nil) (fun _ _ _ _ _ => pe_to (pe_op op_add_str (pe_op op_add_str (pv 1) pe_str) (pv 2))))))), ?_⟩
  obtain ⟨hs, rs, eW, eh, er⟩ := id hW
  have hl := wo.len
  have many := wo.many
  refine ⟨.ref W, rfl, W, _, 0, .ref hs, rfl, rfl, .inl (.inl eW), rfl, ?_⟩
  refine ⟨hs, hands, rfl, .inl (.inl eh), fun z hz => ⟨.str z, by show 0 ≤ 60; decide⟩, alike_strs hands, sortable_strs hands, by unfold sizeLine; omega, fun S nS => ?_⟩
  rw [show hands.mergeSort (PySem.W.dataLe false PyData.str) = sortS hands from rfl]
  have gS : Grow [] H (upd H S (.lst ((sortS hands).map V.str))) := grow_new nS
  have eS : upd H S (.lst ((sortS hands).map V.str)) S = some (.lst ((sortS hands).map V.str)) := upd_same
  generalize upd H S (HO.lst ((sortS hands).map V.str)) = H1 at gS eS ⊢
  have ln : ∀ w ∈ sortS hands, w ≠ Str.empty ∧ w.length ≤ 10000 := fun w hw => by
    have nm := wo.hand ((sortS_perm hands).mem_iff.mp hw)
    exact ⟨nm_ne nm, by have := (nm_iff.mp nm).2.1; omega⟩
  refine ⟨S, sortS hands, spS, rfl, .inl (.inl (.inl eS)), by rw [(sortS_perm hands).length_eq]; exact hl, ln, by decide, fun H2 g2 => ?_⟩
  refine ⟨by show 1 ≤ sizeLine; decide, fun A1 nA1 => ?_⟩
  have gA := (gS.trans g2).new (o := .lst [.str (Str.join spS (sortS hands))]) nA1
  have eA : upd H2 A1 (.lst [.str (Str.join spS (sortS hands))]) A1 = some (.lst [.str (Str.join spS (sortS hands))]) := upd_same
  generalize upd H2 A1 (HO.lst [V.str (Str.join spS (sortS hands))]) = H3 at gA eA ⊢
  obtain ⟨bs, b1, b2, b3, b4, b5, b6⟩ := road_parts (K := K) (er.grow gA noFrz_nil (by simp)) (by omega)
  refine ⟨.ref W, rfl, W, _, 1, .ref rs, rfl, rfl, .inl (.inl (gA.tup (by simp) eW)), rfl, rs, bs, rfl, b1, b2, b3, b4, b5, fun S2 nS2 => ?_⟩
  have hS2 := b6 S2 nS2
  have gB := gA.new (o := .lst ((bs.mergeSort (PySem.W.dataLe false fun b : V × (Str × Str) => encP b.2)).map Prod.fst)) nS2
  have eA2 := (grow_new (ex := []) (o := .lst ((bs.mergeSort (PySem.W.dataLe false fun b : V × (Str × Str) => encP b.2)).map Prod.fst)) nS2).lst (by simp) eA
  generalize upd H3 S2 (HO.lst ((bs.mergeSort (PySem.W.dataLe false fun b : V × (Str × Str) => encP b.2)).map Prod.fst)) = H4 at gB eA2 hS2 ⊢
  obtain ⟨xs, eS2, tS⟩ := id hS2
  have lx : xs.length = (sortP roads).length := tS.length
  have lr := (sortP_perm roads).length_eq
  refine ⟨S2, rfl, ⟨xs, .inl (.inl eS2)⟩, fun D1 n1 => ?_⟩
  refine lc_it (walk_list (xs := xs)) (fun j H' => Grow [] H4 H' ∧ H' D1 = some (.lst ((((sortP roads).take j).map rdS).map V.str))) ⟨grow_new n1, upd_same⟩
    (fun j H' _ h => .inl (.inl (h.1.lst (by simp) eS2))) (fun j x H5 H6 hj hp hy => ?_) (fun H5 hp => ?_)
  · obtain ⟨gj, eD⟩ := hp
    obtain ⟨rfl, ex⟩ := hy
    obtain ⟨a, r, rfl, er', pr⟩ := tS.get ex
    have pr4 := pr.grow gj (by simp)
    have nm := wo.road ((sortP_perm roads).mem_iff.mp (List.mem_of_getElem? er'))
    have n1' := (nm_iff.mp nm.1).2.1
    have n2' := (nm_iff.mp nm.2).2.1
    have l1 : Str.length "-" = 1 := by decide
    refine ⟨a, _, rfl, pr4.seq, rfl, _, _, rfl, _, _, rfl, rfl, rfl, yes_if ?_⟩
    refine ⟨.str r.1, rfl, r.1, "-", rfl, rfl, by rw [l1]; unfold sizeLine; omega, .str r.2, rfl, _, r.2, rfl, rfl, by rw [app_len, l1]; unfold sizeLine; omega, _, eD, ?_, gj.put (fresh_none n1) eD (fun ps z => by cases z), ?_⟩
    · rw [List.length_map, List.length_map, List.length_take]
      unfold sizeLine
      omega
    · rw [upd_same, List.take_add_one, er', Option.toList_some, List.map_append, List.map_append]
      rfl
  · obtain ⟨gj, eD⟩ := hp
    rw [lx, List.take_length] at eD
    refine ⟨A1, D1, _, _, rfl, rfl, gj.lst (by simp) eA2, eD, by rw [List.length_map, List.length_map]; show 1 + _ ≤ sizeLine; unfold sizeLine; omega, fun Z nZ => ?_⟩
    exact q Z _ ((gB.trans gj).fresh (by simp) (fresh_none nZ)) ((gB.trans gj).new nZ) upd_same
theorem GotAt.growP {H H' : Hp} {S p : Addr} {c : Int} {g : Got} (h : GotAt H S g) (ok : g.Ok) (pot : Pot H p c) (gr : Grow [p] H H') : GotAt H' S g := by
  obtain ⟨W, B, L, h1, h2, h3, h4⟩ := h
  have h2' := h2.growP ok.web.ne pot gr
  obtain ⟨a, b, k, ep, _⟩ := pot
  have n1 : S ≠ p := fun z => by rw [z, ep] at h1; cases h1
  have n3 : B ≠ p := fun z => by
    rw [z, ep] at h3
    cases hb : g.book with
    | nil => rw [hb] at h3; cases h3
    | cons x r => rw [hb] at h3; cases h3
  obtain ⟨xs, e4, t4⟩ := id h4
  have n4 : L ≠ p := fun z => by
    rw [z, ep] at e4
    cases e4
    cases hd : g.deeds with
    | nil => rw [hd] at t4; cases t4
    | cons x r => rw [hd] at t4; cases t4
  exact ⟨W, B, L, gr.lst (by simpa using n1) h1, h2', gr.lst (by simpa using n3) h3, h4.grow gr (lists_one ep) (by simpa using n4)⟩
def spSomeW (K : PySem.W.Frag) : Sp := fun vs H Q _ => ∃ (p : Addr) (c : Int), vs = [.ref p] ∧ Pot H p c ∧ c ≤ 2 ^ 17 ∧
  ∀ (D : Addr) (H' : Hp) (g : Got), Fresh H D → Grow [p] H H' → GotAt H' D g → g.Ok → Pot H' p (c + 22000) → Q (.ref D) H'
theorem ok_law_some {f c : Addr} {fd : FuncData} (D : DefIs K "_law_some" "_law_some" st_law_some f fd (.ref c))
    (c_law_dip : Callee P w K mg base CX0 3 "_law_dip" ["pot", "many"] (spDip K)) (c_law_names : Callee P w K mg base CX0 4 "_law_names" ["pot", "many"] (spNames K))
    (c_law_web : Callee P w K mg base CX0 5 "_law_web" ["pot", "many"] (spWeb K)) (c_law_history : Callee P w K mg base CX0 5 "_law_history" ["pot"] (spHist K)) : FnG P w K mg base CX0 6 f fd ["pot"] (spSomeW K) := by
  refine D.ok0 (k := 5) sc_law_some (fun vs H Q E h => ?_) (fun A outer s H vs Q E g hr h => ?_)
  · obtain ⟨p, c, rfl, _⟩ := h
    rfl
  obtain ⟨p, c, rfl, pt, hc, q⟩ := h
  refine ⟨_,
      (pss_cons (ps_set (i := 1) sc_law_some.nd rfl (.inl rfl) (pe_g c_law_web g (hr.mono (by decide)) pass0 (pa_cons (pv 0) (pa_cons (pe_ix ix_list (pe_lst (pa_cons (pe_op op_add pe_int (pe_g c_law_dip g (hr.mono (by decide)) pass0 (pa_cons (pv 0) (pa_cons pe_int pa_nil)))) (pa_cons (pe_op op_add pe_int (pe_g c_law_dip g (hr.mono (by decide)) pass0 (pa_cons (pv 0) (pa_cons pe_int pa_nil)))) (pa_cons pe_int pa_nil)))) (pe_op op_fdiv (pe_g c_law_dip g (hr.mono (by decide)) pass0 (pa_cons (pv 0) (pa_cons pe_int pa_nil))) pe_int) (fun _ _ => rfl)) pa_nil))))
      (pss_cons (ps_set (i := 2) sc_law_some.nd rfl (.inl rfl) (pe_g c_law_names g (hr.mono (by decide)) pass0 (pa_cons (pv 0) (pa_cons (pe_ix ix_list (pe_lst (pa_cons (pe_g c_law_dip g (hr.mono (by decide)) pass0 (pa_cons (pv 0) (pa_cons pe_int pa_nil))) (pa_cons (pe_g c_law_dip g (hr.mono (by decide)) pass0 (pa_cons (pv 0) (pa_cons pe_int pa_nil))) (pa_cons pe_int pa_nil)))) (pe_op op_fdiv (pe_g c_law_dip g (hr.mono (by decide)) pass0 (pa_cons (pv 0) (pa_cons pe_int pa_nil))) pe_int) (fun _ _ => rfl)) pa_nil))))
      (pss_one (ps_ret (pe_lst (pa_cons (pv 1) (pa_cons (pv 2) (pa_cons (pe_g c_law_history g (hr.mono (by decide)) pass0 (pa_cons (pv 0) pa_nil)) pa_nil)))))))), ?_⟩
  refine ⟨.ref p, rfl, .ref p, rfl, p, 13, c, rfl, by decide, by decide, by omega, pt, fun v1 H1 a0 a1 g1 pt1 => ⟨_, _, rfl, rfl, ?_⟩⟩
  refine ⟨.ref p, rfl, p, 3, _, rfl, by decide, by decide, by omega, pt1, fun v2 H2 b0 b1 g2 pt2 => ⟨_, _, rfl, rfl, ?_⟩⟩
  refine ⟨by show 3 ≤ sizeLine; decide, fun A1 nA1 => ?_⟩
  have g3 := (g1.trans g2).new (o := .lst [V.int (1 + v1), V.int (1 + v2), V.int 60]) nA1
  have pt3 := pt2.new (o := .lst [V.int (1 + v1), V.int (1 + v2), V.int 60]) nA1
  have e3 : upd H2 A1 (.lst [V.int (1 + v1), V.int (1 + v2), V.int 60]) A1 = some (.lst [V.int (1 + v1), V.int (1 + v2), V.int 60]) := upd_same
  have A1p : A1 ≠ p := pt2.other (fresh_none nA1)
  generalize upd H2 A1 (HO.lst [V.int (1 + v1), V.int (1 + v2), V.int 60]) = H3 at g3 pt3 e3 ⊢
  refine ⟨.ref p, rfl, p, 9, _, rfl, by decide, by decide, by omega, pt3, fun v3 H4 c0 c1 g4 pt4 => ?_⟩
  obtain ⟨m, hm, m1, m100⟩ : ∃ m : Nat, atI [V.int (1 + v1), V.int (1 + v2), V.int 60] (v3 / 4) = some (.int m) ∧ 1 ≤ m ∧ m ≤ 100 := by
    have : v3 / 4 = 0 ∨ v3 / 4 = 1 ∨ v3 / 4 = 2 := by omega
    rcases this with e | e | e
    · rw [e]
      exact ⟨(1 + v1).toNat, by rw [Int.toNat_of_nonneg (by omega)]; rfl, by omega, by omega⟩
    · rw [e]
      exact ⟨(1 + v2).toNat, by rw [Int.toNat_of_nonneg (by omega)]; rfl, by omega, by omega⟩
    · rw [e]
      exact ⟨60, rfl, by decide, by decide⟩
  refine ⟨_, _, rfl, rfl, (⟨by decide, by decide⟩ : CDiv _ 4), A1, _, _, _, rfl, rfl, .inl (.inl (g4.lst (by simpa using A1p) e3)), hm, ?_⟩
  refine ⟨p, m, _, rfl, m1, m100, pt4, by omega, fun W H5 hands roads fW g5 hW wo lh pt5 => ?_⟩
  have g05 := (g3.trans g4).trans g5
  refine ⟨.ref p, rfl, .ref p, rfl, p, 14, _, rfl, by decide, by decide, by omega, pt5, fun v4 H6 d0 d1 g6 pt6 => ⟨.ref p, rfl, p, 3, _, rfl, by decide, by decide, by omega, pt6, fun v5 H7 f0 f1 g7 pt7 => ⟨by show 3 ≤ sizeLine; decide, fun A2 nA2 => ?_⟩⟩⟩
  have g8 := (g6.trans g7).new (o := .lst [V.int v4, V.int v5, V.int 80]) nA2
  have pt8 := pt7.new (o := .lst [V.int v4, V.int v5, V.int 80]) nA2
  have e8 : upd H7 A2 (.lst [V.int v4, V.int v5, V.int 80]) A2 = some (.lst [V.int v4, V.int v5, V.int 80]) := upd_same
  have A2p : A2 ≠ p := pt7.other (fresh_none nA2)
  generalize upd H7 A2 (HO.lst [V.int v4, V.int v5, V.int 80]) = H8 at g8 pt8 e8 ⊢
  refine ⟨.ref p, rfl, p, 9, _, rfl, by decide, by decide, by omega, pt8, fun v6 H9 x0 x1 g9 pt9 => ?_⟩
  obtain ⟨n, hn, n100⟩ : ∃ n : Nat, atI [V.int v4, V.int v5, V.int 80] (v6 / 4) = some (.int n) ∧ n ≤ 100 := by
    have : v6 / 4 = 0 ∨ v6 / 4 = 1 ∨ v6 / 4 = 2 := by omega
    rcases this with e | e | e
    · rw [e]
      exact ⟨v4.toNat, by rw [Int.toNat_of_nonneg (by omega)]; rfl, by omega⟩
    · rw [e]
      exact ⟨v5.toNat, by rw [Int.toNat_of_nonneg (by omega)]; rfl, by omega⟩
    · rw [e]
      exact ⟨80, rfl, by decide⟩
  refine ⟨_, _, rfl, rfl, (⟨by decide, by decide⟩ : CDiv _ 4), A2, _, _, _, rfl, rfl, .inl (.inl (g9.lst (by simpa using A2p) e8)), hn, ?_⟩
  refine ⟨p, n, _, rfl, n100, pt9, by omega, fun Bk_ H10 ys fB g10 eB nd nm lb pt10 => ?_⟩
  have g59 := (g8.trans g9).trans g10
  refine ⟨.ref W, rfl, .ref Bk_, rfl, .ref p, rfl, p, _, rfl, pt10, by omega, fun L H11 ds fL g11 hL od ld pt11 => ?_⟩
  refine ⟨by show 3 ≤ sizeLine; decide, fun S nS => ?_⟩
  have gS : Grow [] H11 (upd H11 S (.lst [.ref W, .ref Bk_, .ref L])) := grow_new nS
  have hW11 := (hW.growP wo.ne pt5 (g59.trans g11)).grow gS
  have Bp : Bk_ ≠ p := pt9.other fB
  have eB11 := gS.lst (by simp) (g11.lst (p := Bk_) (by simpa using Bp) eB)
  have hL11 := hL.grow gS (lists_none _) (by simp)
  have bk : Bk ys := ⟨nm, nd, by omega⟩
  have gAll := (g05.trans g59).trans g11
  exact q S _ ⟨hands, roads, ys, ds⟩ (Fresh.back (fresh_none nS) gAll pt11) (gAll.new nS) ⟨W, Bk_, L, upd_same, hW11, eB11, hL11⟩ ⟨wo, bk, od, ld⟩ ((pt11.new nS).mono (by omega))
end

end Lw

namespace Lw
open PySem PySem.Spec PyProof.Rows L2 GxR Gx
section
variable {P : Program} {w : World} {K : PySem.W.Frag} {mg : Str → Option Value} {base : Heap}
def spShown (K : PySem.W.Frag) (T1 T2 T3 T4 T5 : Addr) : Sp := fun vs H Q _ => ∃ (S : Addr) (g : Got), vs = [.ref S] ∧ TabG H T1 ∧ TabG H T2 ∧ TabG H T3 ∧ TabG H T4 ∧ TabG H T5 ∧ GotAt H S g ∧ g.Ok ∧
  ∀ D H', Fresh H D → Grow [] H H' → H' D = some (.lst (g.text.map V.str)) → Q (.ref D) H'
theorem ok_law_shown {f c T1 T2 T3 T4 T5 : Addr} {fd : FuncData} (D : DefIs K "_law_shown" "_law_shown" st_law_shown f fd (.ref c))
    (c_show_web : Callee P w K mg base CX0 10 "show_web" ["web"] (spShowWeb K T1 T2 T3)) (c_show_book : Callee P w K mg base CX0 10 "show_book" ["book"] (spShowB K T1 T2))
    (c_show_history : Callee P w K mg base CX0 12 "show_history" ["history"] (spShowH K T1 T4 T5)) : FnG P w K mg base CX0 13 f fd ["some"] (spShown K T1 T2 T3 T4 T5) := by
  refine D.ok0 (k := 12) sc_law_shown (fun vs H Q E h => ?_) (fun A outer s H vs Q E g hr h => ?_)
  · obtain ⟨S, g, rfl, _⟩ := h
    rfl
  obtain ⟨S, got, rfl, t1, t2, t3, t4, t5, hS, ok, q⟩ := h
  refine ⟨_,
      (pss_one (ps_ret (pe_lst (pa_cons (pe_g c_show_web g (hr.mono (by decide)) pass0 (pa_cons (pe_ix ix_list (pv 0) pe_int (fun _ _ => rfl)) pa_nil)) (pa_cons (pe_g c_show_book g (hr.mono (by decide)) pass0 (pa_cons (pe_ix ix_list (pv 0) pe_int (fun _ _ => rfl)) pa_nil)) (pa_cons (pe_g c_show_history g (hr.mono (by decide)) pass0 (pa_cons (pe_ix ix_list (pv 0) pe_int (fun _ _ => rfl)) pa_nil)) pa_nil)))))), ?_⟩
  obtain ⟨W, Bk_, L, eS, hW, eB, hL⟩ := hS
  refine ⟨.ref S, rfl, S, _, 0, .ref W, rfl, rfl, .inl (.inl eS), rfl, W, got.hands, got.roads, rfl, t1, t2, t3, hW, ok.web, fun H1 g1 => ?_⟩
  refine ⟨.ref S, rfl, S, _, 1, .ref Bk_, rfl, rfl, .inl (.inl (g1.lst (by simp) eS)), rfl, Bk_, got.book, rfl, g1.tabs _ t1, g1.tabs _ t2, g1.lst (by simp) eB, ok.bk, fun H2 g2 => ?_⟩
  have g02 := g1.trans g2
  refine ⟨.ref S, rfl, S, _, 2, .ref L, rfl, rfl, .inl (.inl (g02.lst (by simp) eS)), rfl, L, got.deeds, rfl, g02.tabs _ t1, g02.tabs _ t4, g02.tabs _ t5, hL.grow g02 (lists_none _) (by simp), ok.dd, ok.len, fun H3 g3 => ?_⟩
  have g03 := g02.trans g3
  exact ⟨by show 3 ≤ sizeLine; decide, fun p np => q p _ (g03.fresh (by simp) (fresh_none np)) (g03.new np) upd_same⟩
def spTexts (K : PySem.W.Frag) : Sp := fun vs H Q _ => ∃ (S : Addr) (g : Got), vs = [.ref S] ∧ GotAt H S g ∧ g.Ok ∧
  ∀ D H', Fresh H D → Grow [] H H' → H' D = some (.lst (g.text.map V.str)) → Q (.ref D) H'
theorem ok_law_texts {f c : Addr} {fd : FuncData} (B : Nb mg) (D : DefIs K "_law_texts" "_law_texts" st_law_texts f fd (.ref c))
    (c_law_line : Callee P w K mg base CX0 1 "_law_line" ["words", "between"] (spLine K)) (c_law_book_text : Callee P w K mg base CX0 2 "_law_book_text" ["book"] (spBookT K))
    (c_law_web_rows : Callee P w K mg base CX0 2 "_law_web_rows" ["web"] (spRowsL K)) : FnG P w K mg base CX0 4 f fd ["some"] (spTexts K) := by
  refine D.ok0 (k := 3) sc_law_texts (fun vs H Q E h => ?_) (fun A outer s H vs Q E g hr h => ?_)
  · obtain ⟨S, g, rfl, _⟩ := h
    rfl
  obtain ⟨S, got, rfl, hS, ok, q⟩ := h
  refine ⟨_,
      (pss_cons (ps_setLc (i := 1) (own := [("deed", 2)]) (tt := tYes) (g := (gName 2)) rfl sc_law_texts.nd rfl rfl (sw_true rfl rfl rfl (by decide +kernel)) (pi_list (pe_ix ix_list (pv 0) pe_int (fun _ _ => rfl))) (blkOk_by (N := N_law_texts) (sc := defScope st_law_texts) (by decide +kernel)) (fun _ _ _ _ _ => (pg_name (i := 2) sc_law_texts.nd rfl (.inl rfl))) (fun _ _ _ _ _ => pts_nil) (fun _ _ _ _ _ => pe_to (pe_g c_law_line g (hr.mono (by decide)) pass0 (pa_cons (pv 2) (pa_cons pe_str pa_nil)))))
      (pss_one (ps_ret (pe_lst (pa_cons (pe_g c_law_line g (hr.mono (by decide)) pass0 (pa_cons (pe_g c_law_web_rows g (hr.mono (by decide)) pass0 (pa_cons (pe_ix ix_list (pv 0) pe_int (fun _ _ => rfl)) pa_nil)) (pa_cons pe_str pa_nil))) (pa_cons (pe_g c_law_book_text g (hr.mono (by decide)) pass0 (pa_cons (pe_ix ix_list (pv 0) pe_int (fun _ _ => rfl)) pa_nil)) (pa_cons (pe_g c_law_line g (hr.mono (by decide)) pass0 (pa_cons (pv 1) (pa_cons pe_str pa_nil))) pa_nil))))))), ?_⟩
  obtain ⟨W, Bk_, L, eS, hW, eB, hL⟩ := hS
  refine ⟨.ref S, rfl, S, _, 2, .ref L, rfl, rfl, .inl (.inl eS), rfl, L, rfl, ?_⟩
  obtain ⟨xs, eL, tL⟩ := id hL
  have lL : xs.length = got.deeds.length := tL.length
  have len := ok.len
  refine ⟨⟨xs, .inl (.inl eL)⟩, fun D1 n1 => ?_⟩
  refine lc_it (walk_list (xs := xs)) (fun j H' => Grow [] H H' ∧ H' D1 = some (.lst (((got.deeds.map deedRow).take j).map V.str))) ⟨grow_new n1, upd_same⟩
    (fun j H' _ h => .inl (.inl (h.1.lst (by simp) eL))) (fun j x H3 H4 hj hp hy => ?_) (fun H3 hp => ?_)
  · obtain ⟨gj, eD⟩ := hp
    obtain ⟨rfl, ex⟩ := hy
    obtain ⟨a, d, rfl, ed, ea⟩ := (tL.grow gj (lists_none _)).get ex
    have od := (ok.dd d (List.mem_of_getElem? ed)).all
    have l4 := od.2.2
    refine ⟨rfl, yes_if ⟨.ref a, rfl, a, d, spS, rfl, .inr (.inl (.inl ea)), by omega, fun x hx => ⟨nm_ne (od.2.1 x hx), by have := (nm_iff.mp (od.2.1 x hx)).2.1; omega⟩, by decide, fun H5 g5 => ?_⟩⟩
    have lx : (((got.deeds.map deedRow).take j).map V.str).length ≤ 200 := by rw [List.length_map, List.length_take, List.length_map]; omega
    have eD5 := g5.lst (by simp) eD
    refine ⟨_, eD5, by unfold sizeLine; omega, (gj.trans g5).put (fresh_none n1) eD5 (fun ps z => by cases z), ?_⟩
    rw [List.take_add_one, List.getElem?_map, ed, List.map_append]
    exact upd_same
  · obtain ⟨gj, eD⟩ := hp
    have lx : xs.length = (got.deeds.map deedRow).length := by rw [lL, List.length_map]
    rw [lx, List.take_length] at eD
    have eS3 := gj.lst (by simp) eS
    refine ⟨.ref S, rfl, S, _, 0, .ref W, rfl, rfl, .inl (.inl eS3), rfl, W, got.hands, got.roads, rfl, hW.grow gj, ok.web, fun R H4 fR g4 eR => ?_⟩
    have l1800 := webRows_lacks ok.web
    have lrows : (webRows got.hands got.roads).length ≤ 200 := by
      unfold webRows
      rw [List.length_cons, List.length_map, (sortP_perm got.roads).length_eq, ok.web.many]
      exact ok.web.len
    refine ⟨R, webRows got.hands got.roads, nlS, rfl, .inl (.inl (.inl eR)), lrows, fun x hx => ⟨(l1800 x hx).2.1, Nat.le_trans (l1800 x hx).2.2 (by decide)⟩, by decide, fun H5 g5 => ?_⟩
    have g05 := (gj.trans g4).trans g5
    refine ⟨.ref S, rfl, S, _, 1, .ref Bk_, rfl, rfl, .inl (.inl (g05.lst (by simp) eS)), rfl, Bk_, got.book, rfl, g05.lst (by simp) eB, ok.bk, fun H6 g6 => ?_⟩
    refine ⟨.ref D1, rfl, D1, got.deeds.map deedRow, nlS, rfl, .inl (.inl (.inl (((g4.trans g5).trans g6).lst (by simp) eD))), by rw [List.length_map]; omega, fun x hx => ?_, by decide, fun H7 g7 => ?_⟩
    · obtain ⟨d, hd, rfl⟩ := List.mem_map.mp hx
      have dr := deedRow_ok (ok.dd d hd)
      exact ⟨dr.2.1, Nat.le_trans dr.2.2 (by decide)⟩
    · have g07 := (g05.trans g6).trans g7
      exact ⟨by show 3 ≤ sizeLine; decide, fun p np => q p _ (g07.fresh (by simp) (fresh_none np)) (g07.new np) upd_same⟩
def spOrdered (K : PySem.W.Frag) : Sp := fun vs H Q _ => ∃ (S : Addr) (g : Got), vs = [.ref S] ∧ GotAt H S g ∧ g.Ok ∧ ∀ D H', Fresh H D → Grow [] H H' → GotAt H' D g.ord → Q (.ref D) H'
theorem ok_law_ordered {f c : Addr} {fd : FuncData} (B : Nb mg) (D : DefIs K "_law_ordered" "_law_ordered" st_law_ordered f fd (.ref c)) : FnG P w K mg base CX0 1 f fd ["some"] (spOrdered K) := by
  refine D.ok0 (k := 0) sc_law_ordered (fun vs H Q E h => ?_) (fun A outer s H vs Q E g hr h => ?_)
  · obtain ⟨S, g, rfl, _⟩ := h
    rfl
  obtain ⟨S, got, rfl, hS, ok, q⟩ := h
  refine ⟨_,
      (pss_one (ps_ret (pe_lst (pa_cons (pe_tup (pa_cons (pe_callB (cr_sortG (val := V.str) (enc := PyData.str) hr.units) rfl B.n_sorted (by decide +kernel) (pa_cons (pe_ix ix_tup (pe_ix ix_list (pv 0) pe_int (fun _ _ => rfl)) pe_int (fun _ _ => rfl)) pa_nil)) (pa_cons (pe_callB (cr_sortG (val := Prod.fst) (enc := fun b : V × (Str × Str) => encP b.2) hr.units) rfl B.n_sorted (by decide +kernel) (pa_cons (pe_ix ix_tup (pe_ix ix_list (pv 0) pe_int (fun _ _ => rfl)) pe_int (fun _ _ => rfl)) pa_nil)) pa_nil))) (pa_cons (pe_ix ix_list (pv 0) pe_int (fun _ _ => rfl)) (pa_cons (pe_ix ix_list (pv 0) pe_int (fun _ _ => rfl)) pa_nil)))))), ?_⟩
  obtain ⟨W, Bk_, L, eS, hW, eB, hL⟩ := hS
  obtain ⟨hs, rs, eW, eh, er⟩ := id hW
  have hl := ok.web.len
  have many := ok.web.many
  refine ⟨.ref S, rfl, S, _, 0, .ref W, rfl, rfl, .inl (.inl eS), rfl, W, _, 0, .ref hs, rfl, rfl, .inl (.inl eW), rfl, ?_⟩
  refine ⟨hs, got.hands, rfl, .inl (.inl eh), fun z hz => ⟨.str z, by show 0 ≤ 60; decide⟩, alike_strs got.hands, sortable_strs got.hands, by unfold sizeLine; omega, fun S1 n1 => ?_⟩
  rw [show got.hands.mergeSort (PySem.W.dataLe false PyData.str) = sortS got.hands from rfl]
  have g1 : Grow [] H (upd H S1 (.lst ((sortS got.hands).map V.str))) := grow_new n1
  have e1 : upd H S1 (.lst ((sortS got.hands).map V.str)) S1 = some (.lst ((sortS got.hands).map V.str)) := upd_same
  generalize upd H S1 (HO.lst ((sortS got.hands).map V.str)) = H1 at g1 e1 ⊢
  obtain ⟨bs, b1, b2, b3, b4, b5, b6⟩ := road_parts (K := K) (er.grow g1 noFrz_nil (by simp)) (by omega)
  refine ⟨.ref S, rfl, S, _, 0, .ref W, rfl, rfl, .inl (.inl (g1.lst (by simp) eS)), rfl, W, _, 1, .ref rs, rfl, rfl, .inl (.inl (g1.tup (by simp) eW)), rfl, ?_⟩
  refine ⟨rs, bs, rfl, b1, b2, b3, b4, b5, fun S2 n2 => ?_⟩
  have h2 := b6 S2 n2
  have g2 := g1.new (o := .lst ((bs.mergeSort (PySem.W.dataLe false fun b : V × (Str × Str) => encP b.2)).map Prod.fst)) n2
  have e2 := (grow_new (ex := []) (o := .lst ((bs.mergeSort (PySem.W.dataLe false fun b : V × (Str × Str) => encP b.2)).map Prod.fst)) n2).lst (by simp) e1
  generalize upd H1 S2 (HO.lst ((bs.mergeSort (PySem.W.dataLe false fun b : V × (Str × Str) => encP b.2)).map Prod.fst)) = H2 at g2 e2 h2 ⊢
  refine ⟨by show 2 ≤ sizeLine; decide, fun T nT => ?_⟩
  have gT : Grow [] H2 (upd H2 T (.tup [.ref S1, .ref S2])) := grow_new nT
  have hT : WebAt (upd H2 T (.tup [.ref S1, .ref S2])) T (sortS got.hands) (sortP got.roads) := ⟨S1, S2, upd_same, gT.lst (by simp) e2, h2.grow gT noFrz_nil (by simp)⟩
  have g3 := g2.trans gT
  generalize upd H2 T (HO.tup [V.ref S1, V.ref S2]) = H3 at g3 hT ⊢
  refine ⟨.ref S, rfl, S, _, 1, .ref Bk_, rfl, rfl, .inl (.inl (g3.lst (by simp) eS)), rfl, .ref S, rfl, S, _, 2, .ref L, rfl, rfl, .inl (.inl (g3.lst (by simp) eS)), rfl, by show 3 ≤ sizeLine; decide, fun D nD => ?_⟩
  have gD := g3.new (o := .lst [.ref T, .ref Bk_, .ref L]) nD
  exact q D _ (g3.fresh (by simp) (fresh_none nD)) gD ⟨T, Bk_, L, upd_same, hT.grow (grow_new nD), gD.lst (by simp) eB, hL.grow gD (lists_none _) (by simp)⟩
end

end Lw

namespace Lw
open PySem PySem.Spec PyProof.Rows L2 GxR Gx
section
variable {P : Program} {w : World} {K : PySem.W.Frag} {mg : Str → Option Value} {base : Heap}
def spLaw (K : PySem.W.Frag) (T1 T2 T3 T4 T5 T6 : Addr) : Sp := fun vs H Q _ => ∃ (a : Addr) (ns : List Int), vs = [.ref a] ∧ TabG H T1 ∧ TabG H T2 ∧ TabG H T3 ∧ TabG H T4 ∧ TabG H T5 ∧ TabG H T6 ∧ SqL K H a (ns.map V.int) ∧ ∀ (H' : Hp), Grow [] H H' → Q (.bl true) H'
theorem ok_law {f c T1 T2 T3 T4 T5 T6 : Addr} {fd : FuncData} (B : Nb mg) (D : DefIs K "law" "law" st_law f fd (.ref c))
    (c_law_pot : Callee P w K mg base CX0 3 "_law_pot" ["script", "k"] (spPot K)) (c_law_some : Callee P w K mg base CX0 6 "_law_some" ["pot"] (spSomeW K))
    (c_law_texts : Callee P w K mg base CX0 4 "_law_texts" ["some"] (spTexts K)) (c_law_shown : Callee P w K mg base CX0 13 "_law_shown" ["some"] (spShown K T1 T2 T3 T4 T5))
    (c_read_web : Callee P w K mg base CX0 10 "read_web" ["text"] (spReadWeb K T1 T2 T3)) (c_read_book : Callee P w K mg base CX0 10 "read_book" ["text"] (spReadB K T1 T2))
    (c_read_history : Callee P w K mg base CX0 12 "read_history" ["text"] (spReadH K T1 T4 T6)) (c_law_ordered : Callee P w K mg base CX0 1 "_law_ordered" ["some"] (spOrdered K)) :
    FnG P w K mg base CX0 14 f fd ["script"] (spLaw K T1 T2 T3 T4 T5 T6) := by
  refine D.ok0 (k := 13) sc_law (fun vs H Q E h => ?_) (fun A outer s H vs Q E g hr h => ?_)
  · obtain ⟨a, ns, rfl, _⟩ := h
    rfl
  obtain ⟨a, ns, rfl, t1, t2, t3, t4, t5, t6, ha, q⟩ := h
  refine ⟨_,
      (pss_cons (ps_for PassesOwn.never rfl (pi_range1 rfl B.n_range (pa_cons (pe_callB (call_max2 rfl) rfl B.n_max (by decide +kernel) (pa_cons pe_int (pa_cons (pe_callB (call_min2 rfl) rfl B.n_min (by decide +kernel) (pa_cons pe_int (pa_cons (pe_op op_add (pe_callB call_len_seq rfl B.n_len PySem.boot_len (pa_cons (pv 0) pa_nil)) pe_int) pa_nil))) pa_nil))) pa_nil)) (pg_name (i := 1) sc_law.nd rfl (.inl rfl)) (
        (pss_cons (ps_set (i := 2) sc_law.nd rfl (.inl rfl) (pe_g c_law_pot g (hr.mono (by decide)) pass0 (pa_cons (pv 0) (pa_cons (pv 1) pa_nil))))
        (pss_cons (ps_par (i := 3) (j := 4) rfl sc_law.nd rfl rfl (by decide) rfl rfl (pa_cons (pe_g c_law_some g (hr.mono (by decide)) pass0 (pa_cons (pv 2) pa_nil)) (pa_cons (pe_g c_law_some g (hr.mono (by decide)) pass0 (pa_cons (pv 2) pa_nil)) pa_nil)) rfl)
        (pss_cons (ps_set (i := 5) sc_law.nd rfl (.inl rfl) (pe_callB (cr_repr g hr.units) rfl B.n_repr (by decide +kernel) (pa_cons (pv 3) pa_nil)))
        (pss_cons (ps_set (i := 6) sc_law.nd rfl (.inl rfl) (pe_g c_law_texts g (hr.mono (by decide)) pass0 (pa_cons (pv 3) pa_nil)))
        (pss_cons (ps_if (PW.pt (pw_or (pt_cmpR (op_neD hr.units) (pe_g c_law_shown g (hr.mono (by decide)) pass0 (pa_cons (pv 3) pa_nil)) (pv 6) (nomark _)) (pw_or1 (pt_cmpR (op_ne) (pe_callB (cr_repr g hr.units) rfl B.n_repr (by decide +kernel) (pa_cons (pv 3) pa_nil)) (pv 5) (nomark _))))) (
          (pss_one (ps_ret pe_bl))) pss_nil)
        (pss_cons (ps_for PassesOwn.never rfl (pi_range1 rfl B.n_range (pa_cons pe_int pa_nil)) (pg_name (i := 7) sc_law.nd rfl (.inl rfl)) (
          (pss_cons (ps_set (i := 8) sc_law.nd rfl (.inl rfl) (pe_lst (pa_cons (pe_g c_read_web g (hr.mono (by decide)) pass0 (pa_cons (pe_ix ix_list (pv 6) pe_int (fun _ _ => rfl)) pa_nil)) (pa_cons (pe_g c_read_book g (hr.mono (by decide)) pass0 (pa_cons (pe_ix ix_list (pv 6) pe_int (fun _ _ => rfl)) pa_nil)) (pa_cons (pe_g c_read_history g (hr.mono (by decide)) pass0 (pa_cons (pe_ix ix_list (pv 6) pe_int (fun _ _ => rfl)) pa_nil)) pa_nil)))))
          (pss_cons (ps_if (pt_cmpR (op_ne) (pe_callB (cr_repr g hr.units) rfl B.n_repr (by decide +kernel) (pa_cons (pv 8) pa_nil)) (pe_callB (cr_repr g hr.units) rfl B.n_repr (by decide +kernel) (pa_cons (pe_g c_law_ordered g (hr.mono (by decide)) pass0 (pa_cons (pv 3) pa_nil)) pa_nil)) (nomark _)) (
            (pss_one (ps_ret pe_bl))) pss_nil)
          (pss_cons (ps_expr (pe_bm PySem.F.plainAttrs_list PySem.F.slot_list_append PySem.F.type_list_append mt_append (pe_ix ix_tup (pe_ix ix_list (pv 8) pe_int (fun _ _ => rfl)) pe_int (fun _ _ => rfl)) (pa_cons pe_str pa_nil)))
          (pss_cons (ps_expr (pe_bm PySem.F.plainAttrs_list PySem.F.slot_list_append PySem.F.type_list_append mt_append (pe_ix ix_tup (pe_ix ix_list (pv 8) pe_int (fun _ _ => rfl)) pe_int (fun _ _ => rfl)) (pa_cons pe_non pa_nil)))
          (pss_cons (ps_expr (pe_bm PySem.F.plainAttrs_list PySem.F.slot_list_append PySem.F.type_list_append mt_append (pe_ix ix_list (pv 8) pe_int (fun _ _ => rfl)) (pa_cons pe_str pa_nil)))
          (pss_one (ps_expr (pe_bm PySem.F.plainAttrs_list PySem.F.slot_list_append PySem.F.type_list_append mt_append (pe_ix ix_list (pv 8) pe_int (fun _ _ => rfl)) (pa_cons pe_non pa_nil)))))))))))
        (pss_cons (ps_setLc (i := 9) (own := [("one", 10), ("other", 11)]) (tt := tYes) (g := (gTup _ 2 (gCons (gName 10) (gCons (gName 11) gNil)))) rfl sc_law.nd rfl rfl (sw_true rfl rfl rfl (by decide +kernel)) (pi_zip rfl B.n_zip (pa_cons (pe_g c_law_ordered g (hr.mono (by decide)) pass0 (pa_cons (pv 3) pa_nil)) (pa_cons (pe_g c_law_ordered g (hr.mono (by decide)) pass0 (pa_cons (pv 4) pa_nil)) pa_nil))) (blkOk_by (N := N_law) (sc := defScope st_law) (by decide +kernel)) (fun _ _ _ _ _ => (pg_tup rfl (pgs_cons (pg_name (i := 10) sc_law.nd rfl (.inl rfl)) (pgs_cons (pg_name (i := 11) sc_law.nd rfl (.inl rfl)) pgs_nil)))) (fun _ _ _ _ _ => pts_nil) (fun _ _ _ _ _ => pe_to (pe_cmpR (op_eqD hr.units) (pv 10) (pv 11) (nomark _))))
        (pss_one (ps_if (pt_cmpR (op_neD hr.units) (pv 9) (pe_lc (own := [("one", 10), ("other", 11)]) (tt := tYes) (g := (gTup _ 2 (gCons (gName 10) (gCons (gName 11) gNil)))) rfl sc_law.nd (pi_zip rfl B.n_zip (pa_cons (pv 6) (pa_cons (pe_g c_law_shown g (hr.mono (by decide)) pass0 (pa_cons (pv 4) pa_nil)) pa_nil))) (blkOk_by (N := N_law) (sc := defScope st_law) (by decide +kernel)) (fun _ _ _ _ _ => (pg_tup rfl (pgs_cons (pg_name (i := 10) sc_law.nd rfl (.inl rfl)) (pgs_cons (pg_name (i := 11) sc_law.nd rfl (.inl rfl)) pgs_nil)))) (fun _ _ _ _ _ => pts_nil) (fun _ _ _ _ _ => pe_to (pe_cmpR (op_eqD hr.units) (pv 10) (pv 11) (nomark _)))) (nomark _)) (
          (pss_one (ps_ret pe_bl))) pss_nil)))))))))))
      (pss_one (ps_ret pe_bl))), ?_⟩
  refine ⟨.ref a, rfl, a, _, rfl, .inl ha, _, _, rfl, rfl, _, _, rfl, _, _, rfl, ?_⟩
  obtain ⟨n, hn, n8⟩ : ∃ n : Int, (if (if ((ns.map V.int).length : Int) + 1 < 8 then ((ns.map V.int).length : Int) + 1 else 8) > 1 then (if ((ns.map V.int).length : Int) + 1 < 8 then ((ns.map V.int).length : Int) + 1 else 8) else 1) = n ∧ 0 ≤ n ∧ n ≤ 8 := ⟨_, rfl, by omega⟩
  rw [hn]
  refine ⟨n, rfl, by omega, by omega, ?_⟩
  refine for_it walk_range (fun i σ H' => ∃ x1 x2 x3 x4 x5 x6 x7 x8 x9 : Option V, σ = [some (.ref a), x1, x2, x3, x4, x5, x6, x7, x8, x9, none, none] ∧ Grow [] H H') ⟨none, none, none, none, none, none, none, none, none, rfl, Grow.refl _ _⟩ (fun _ _ _ _ _ => trivial) (fun i x σ H2 H3 hi hp hy => ?_) (fun σ H2 hp => ?_)
  · obtain ⟨x1, x2, x3, x4, x5, x6, x7, x8, x9, rfl, gr⟩ := hp
    obtain ⟨rfl, rfl⟩ := hy
    refine ⟨.ref a, rfl, .int (0 + i), rfl, a, ns, i, by show [V.ref a, V.int (0 + (i : Int))] = [V.ref a, V.int (i : Int)]; rw [Int.zero_add], gr.seq0 ha, by omega, fun p H4 fp g4 pot4 => ?_⟩
    have fpH := gr.fresh (by simp) fp
    refine ⟨.ref p, rfl, p, 0, rfl, pot4, by decide, fun S1 H5 got fS1 g5 hS1 ok1 pot5 => ⟨.ref p, rfl, p, _, rfl, pot5, by decide, fun S2 H6 mate fS2 g6 hS2 ok2 pot6 => ⟨_, _, rfl, ?_⟩⟩⟩
    replace hS1 := hS1.growP ok1 pot5 g6
    have gr6 : Grow [] H H6 := (((gr.trans g4).any (ex := [p])).trans (g5.trans g6)).drop fpH
    have tt : ∀ {H7 : Hp}, Grow [] H6 H7 → TabG H7 T1 ∧ TabG H7 T2 ∧ TabG H7 T3 ∧ TabG H7 T4 ∧ TabG H7 T5 ∧ TabG H7 T6 := fun g7 => ⟨(gr6.trans g7).tabs _ t1, (gr6.trans g7).tabs _ t2, (gr6.trans g7).tabs _ t3, (gr6.trans g7).tabs _ t4, (gr6.trans g7).tabs _ t5, (gr6.trans g7).tabs _ t6⟩
    have f1 := ok1.fine
    have d1 : got.D.depth ≤ 60 := Nat.le_trans f1.deep (by decide)
    have z1 : got.D.shown.length ≤ sizeLine := f1.shown (by unfold sizeLine; decide)
    refine ⟨.ref S1, rfl, .ref S1, got.D, rfl, hS1.dp, f1.show_, f1.nod, d1, z1, ?_⟩
    refine ⟨.ref S1, rfl, S1, got, rfl, hS1, ok1, fun Du H7 fDu g7 eDu => ?_⟩
    obtain ⟨u1, u2, u3, u4, u5, u6⟩ := tt g7
    refine ⟨.ref S1, rfl, S1, got, rfl, u1, u2, u3, u4, u5, hS1.grow g7, ok1, fun Sh H8 fSh g8 eSh => ?_⟩
    have g78 := g7.trans g8
    have eDu8 := g8.lst (by simp) eDu
    refine ⟨.ref Du, rfl, _, _, dp_book (.inl (.inl eSh)), dp_book (.inl (.inl eDu8)), ok1.fineT.shaped (by decide), ok1.fineT.shaped (by decide), _, rfl, ?_⟩
    rw [ok1.fineT.eqv]
    refine iteF ⟨.ref S1, rfl, .ref S1, got.D, rfl, (hS1.grow g78).dp, f1.show_, f1.nod, d1, z1, .str got.D.shown, rfl, rfl, _, rfl, ?_⟩
    rw [decide_eq_true rfl]
    refine iteF ⟨2, rfl, by decide, by decide, ?_⟩
    refine for_it walk_range (fun j σ H' => ∃ y1 y2 : Option V, σ = [some (.ref a), some (.int (0 + i)), some (.ref p), some (.ref S1), some (.ref S2), some (.str got.D.shown), some (.ref Du), y1, y2, x9, none, none] ∧ Grow [] H8 H') ⟨_, _, rfl, Grow.refl _ _⟩ (fun _ _ _ _ _ => trivial) (fun j x σ H9 H10 hj hp hy => ?_) (fun σ H9 hp => ?_)
    · obtain ⟨y1, y2, rfl, g9⟩ := hp
      obtain ⟨rfl, rfl⟩ := hy
      have g69 := g78.trans g9
      obtain ⟨u1, u2, u3, u4, u5, u6⟩ := tt g69
      have eDu9 := g9.lst (by simp) eDu8
      refine ⟨.ref Du, rfl, Du, _, 0, .str (webText got.hands got.roads), rfl, rfl, .inl (.inl eDu9), rfl, got.hands, got.roads, rfl, u1, u2, u3, ok1.web, fun W H11 fW g11 nW => ?_⟩
      refine ⟨.ref Du, rfl, Du, _, 1, .str (bookText got.book), rfl, rfl, .inl (.inl (g11.lst (by simp) eDu9)), rfl, got.book, rfl, g11.tabs _ u1, g11.tabs _ u2, ok1.bk, fun Bo H12 fB g12 eB => ?_⟩
      have g92 := g11.trans g12
      refine ⟨.ref Du, rfl, Du, _, 2, .str (histText got.deeds), rfl, rfl, .inl (.inl (g92.lst (by simp) eDu9)), rfl, got.deeds, rfl, g92.tabs _ u1, g92.tabs _ u4, g92.tabs _ u6, ok1.dd, ok1.len, fun L H13 fL g13 hL => ?_⟩
      refine ⟨by show 3 ≤ sizeLine; decide, fun T nT => ?_⟩
      have gT : Grow [] H13 (upd H13 T (.lst [.ref W, .ref Bo, .ref L])) := grow_new nT
      have eT : upd H13 T (.lst [.ref W, .ref Bo, .ref L]) T = some (.lst [.ref W, .ref Bo, .ref L]) := upd_same
      obtain ⟨hs, rs, fhs, frs, eW, ehs, rds⟩ := nW
      have Ths : hs ≠ T := fun z => by
        have e := (g12.trans g13).lst (by simp) ehs
        rw [z, nT] at e
        cases e
      have Trs : rs ≠ T := fun z => by
        obtain ⟨xs, ex, _⟩ := rds.grow (g12.trans g13) noFrz_nil (by simp)
        rw [z, nT] at ex
        cases ex
      have TB : Bo ≠ T := fun z => by
        have e := g13.lst (by simp) eB
        rw [z, nT] at e
        cases e
      have Bhs : hs ≠ Bo := fB.ne ehs (fun ps z => by cases z)
      have Brs : rs ≠ Bo := by
        obtain ⟨xs, ex, _⟩ := rds
        exact fB.ne ex (fun ps z => by cases z)
      have LB : Bo ≠ L := fL.ne eB (fun ps z => by cases z)
      have Lhs : hs ≠ L := fL.ne (g12.lst (by simp) ehs) (fun ps z => by cases z)
      have Lrs : rs ≠ L := by
        obtain ⟨xs, ex, _⟩ := rds.grow g12 noFrz_nil (by simp)
        exact fL.ne ex (fun ps z => by cases z)
      have hT : GotAt (upd H13 T (.lst [.ref W, .ref Bo, .ref L])) T got.ord := by
        have gw := (g12.trans g13).trans gT
        exact ⟨W, Bo, L, upd_same, ⟨hs, rs, gw.tup (by simp) eW, gw.lst (by simp) ehs, rds.grow gw noFrz_nil (by simp)⟩, (g13.trans gT).lst (by simp) eB, hL.grow gT (lists_none _) (by simp)⟩
      have LT : L ≠ T := fun z => by
        obtain ⟨xs, ex, _⟩ := hL
        rw [z, nT] at ex
        cases ex
      have g14 := (g92.trans g13).trans gT
      have eB14 := (g13.trans gT).lst (by simp) eB
      have eW14 := ((g12.trans g13).trans gT).tup (by simp) eW
      have ehs14 := ((g12.trans g13).trans gT).lst (by simp) ehs
      have rds14 := rds.grow ((g12.trans g13).trans gT) noFrz_nil (by simp)
      have hL14 := hL.grow gT (lists_none _) (by simp)
      generalize upd H13 T (HO.lst [V.ref W, V.ref Bo, V.ref L]) = H14 at eT hT g14 eB14 eW14 ehs14 rds14 hL14 ⊢
      have fo := ok1.ord.fine
      have do_ : got.ord.D.depth ≤ 60 := Nat.le_trans fo.deep (by decide)
      have zo : got.ord.D.shown.length ≤ sizeLine := fo.shown (by unfold sizeLine; decide)
      refine ⟨.ref T, rfl, .ref T, got.ord.D, rfl, hT.dp, fo.show_, fo.nod, do_, zo, ?_⟩
      refine ⟨.ref S1, rfl, S1, got, rfl, hS1.grow (g69.trans g14), ok1, fun O H15 fO g15 hO => ?_⟩
      refine ⟨.ref O, got.ord.D, rfl, hO.dp, fo.show_, fo.nod, do_, zo, rfl, _, rfl, ?_⟩
      rw [decide_eq_true rfl]
      have g95 := g14.trans g15
      have eT5 := g15.lst (by simp) eT
      have eW5 := g15.tup (by simp) eW14
      have ehs5 := g15.lst (by simp) ehs14
      obtain ⟨xs, ers5, tx5⟩ := rds14.grow g15 noFrz_nil (by simp)
      have eB5 := g15.lst (by simp) eB14
      obtain ⟨zs, eL5, tz5⟩ := hL14.grow g15 (lists_none _) (by simp)
      have WT : W ≠ T := fun z => by
        rw [z, eT5] at eW5
        cases eW5
      have rhs : rs ≠ hs := fun z => by
        rw [z, ehs5] at ers5
        have hne := ok1.ord.web.ne
        cases hh : got.ord.hands with
        | nil => exact hne hh
        | cons y r =>
          have e2 : (sortS got.hands).map V.str = xs := by cases ers5; rfl
          rw [← e2, show sortS got.hands = y :: r from hh] at tx5
          cases tx5
      have Whs : W ≠ hs := fun z => by
        rw [z, ehs5] at eW5
        cases eW5
      have Wrs : W ≠ rs := fun z => by
        rw [z, ers5] at eW5
        cases eW5
      have lh : ((sortS got.hands).map V.str).length < sizeLine := by
        rw [List.length_map, (sortS_perm got.hands).length_eq]
        have := ok1.web.len
        unfold sizeLine
        omega
      have lr : xs.length < sizeLine := by
        rw [tx5.length, (sortP_perm got.roads).length_eq]
        have := ok1.web.len
        have := ok1.web.many
        unfold sizeLine
        omega
      have lb : (got.book.map V.str).length < sizeLine := by
        rw [List.length_map]
        have := ok1.bk.len
        unfold sizeLine
        omega
      have lz : zs.length < sizeLine := by
        rw [tz5.length]
        have := ok1.len
        unfold sizeLine
        omega
      refine iteF ⟨.ref T, rfl, T, _, 0, .ref W, rfl, rfl, .inl (.inl eT5), rfl, W, _, 0, .ref hs, rfl, rfl, .inl (.inl eW5), rfl, .inl ⟨rfl, _, .inl (.inl ehs5)⟩, hs, _, .str "zz", rfl, rfl, ehs5, lh, ?_⟩
      have k1 : Grow [] H10 (upd H15 hs (.lst ((sortS got.hands).map V.str ++ [.str "zz"]))) := g95.put fhs ehs5 (fun ps z => by cases z)
      have eT6 : upd H15 hs (.lst ((sortS got.hands).map V.str ++ [.str "zz"])) T = _ := (upd_ne (Ne.symm Ths)).trans eT5
      have eW6 : upd H15 hs (.lst ((sortS got.hands).map V.str ++ [.str "zz"])) W = _ := (upd_ne Whs).trans eW5
      have ers6 : upd H15 hs (.lst ((sortS got.hands).map V.str ++ [.str "zz"])) rs = _ := (upd_ne rhs).trans ers5
      have eB6 : upd H15 hs (.lst ((sortS got.hands).map V.str ++ [.str "zz"])) Bo = _ := (upd_ne (Ne.symm Bhs)).trans eB5
      have eL6 : upd H15 hs (.lst ((sortS got.hands).map V.str ++ [.str "zz"])) L = _ := (upd_ne (Ne.symm Lhs)).trans eL5
      generalize upd H15 hs (HO.lst ((sortS got.hands).map V.str ++ [V.str "zz"])) = H16 at k1 eT6 eW6 ers6 eB6 eL6 ⊢
      refine ⟨.ref T, rfl, T, _, 0, .ref W, rfl, rfl, .inl (.inl eT6), rfl, W, _, 1, .ref rs, rfl, rfl, .inl (.inl eW6), rfl, .inl ⟨rfl, _, .inl (.inl ers6)⟩, rs, _, .non, rfl, rfl, ers6, lr, ?_⟩
      have k2 : Grow [] H10 (upd H16 rs (.lst (xs ++ [.non]))) := k1.put frs ers6 (fun ps z => by cases z)
      have eT7 : upd H16 rs (.lst (xs ++ [.non])) T = _ := (upd_ne (Ne.symm Trs)).trans eT6
      have eB7 : upd H16 rs (.lst (xs ++ [.non])) Bo = _ := (upd_ne (Ne.symm Brs)).trans eB6
      have eL7 : upd H16 rs (.lst (xs ++ [.non])) L = _ := (upd_ne (Ne.symm Lrs)).trans eL6
      generalize upd H16 rs (HO.lst (xs ++ [V.non])) = H17 at k2 eT7 eB7 eL7 ⊢
      refine ⟨.ref T, rfl, T, _, 1, .ref Bo, rfl, rfl, .inl (.inl eT7), rfl, .inl ⟨rfl, _, .inl (.inl eB7)⟩, Bo, _, .str "zz", rfl, rfl, eB7, lb, ?_⟩
      have k3 : Grow [] H10 (upd H17 Bo (.lst (got.book.map V.str ++ [.str "zz"]))) := k2.put (g11.fresh (by simp) fB) eB7 (fun ps z => by cases z)
      have eT8 : upd H17 Bo (.lst (got.book.map V.str ++ [.str "zz"])) T = _ := (upd_ne (Ne.symm TB)).trans eT7
      have eL8 : upd H17 Bo (.lst (got.book.map V.str ++ [.str "zz"])) L = _ := (upd_ne (Ne.symm LB)).trans eL7
      generalize upd H17 Bo (HO.lst (got.book.map V.str ++ [V.str "zz"])) = H18 at k3 eT8 eL8 ⊢
      refine ⟨.ref T, rfl, T, _, 2, .ref L, rfl, rfl, .inl (.inl eT8), rfl, .inl ⟨rfl, _, .inl (.inl eL8)⟩, L, _, .non, rfl, rfl, eL8, lz, ?_⟩
      have k4 : Grow [] H10 (upd H18 L (.lst (zs ++ [.non]))) := k3.put (g92.fresh (by simp) fL) eL8 (fun ps z => by cases z)
      exact ⟨_, _, rfl, g9.trans k4⟩
    · obtain ⟨y1, y2, rfl, g9⟩ := hp
      have g89 := g78.trans g9
      refine ⟨.ref S1, rfl, S1, got, rfl, hS1.grow g89, ok1, fun O1 H10 fO1 g10 hO1 => ⟨.ref S2, rfl, S2, mate, rfl, hS2.grow (g89.trans g10), ok2, fun O2 H11 fO2 g11 hO2 => ?_⟩⟩
      obtain ⟨os, eO1, lo, po⟩ := (hO1.grow g11).parts
      obtain ⟨ms, eO2, lm, pm⟩ := hO2.parts
      refine ⟨O1, O2, os, ms, rfl, .inl (.inl eO1), .inl (.inl eO2), fun D1 n1 => ?_⟩
      have fo := ok1.ord.part
      have fm := ok2.ord.part
      refine lc_it (walk_zip (xs := os) (ys := ms) (n := 3) (by rw [lo, lm]; rfl)) (fun j H' => Grow [] H11 H' ∧ H' D1 = some (.lst (((sameB got.ord.Ds mate.ord.Ds).take j).map V.bl)))
        ⟨grow_new n1, upd_same⟩ (fun j H' _ h => ⟨.inl (.inl (po K _ h.1).1), .inl (.inl (pm K _ h.1).1)⟩) (fun j x H12 H13 hj hp hy => ?_) (fun H12 hp => ?_)
      · obtain ⟨gj, eD⟩ := hp
        obtain ⟨T0, v1, v2, rfl, nT, rfl, ea, eb⟩ := hy
        have gj2 : Grow [] H11 (upd H12 T0 (.tup [v1, v2])) := gj.new nT
        obtain ⟨dx, hdx, px⟩ := dpall_get (po K _ gj2).2 ea
        obtain ⟨dy, hdy, py⟩ := dpall_get (pm K _ gj2).2 eb
        have eD2 : upd H12 T0 (.tup [v1, v2]) D1 = some (.lst (((sameB got.ord.Ds mate.ord.Ds).take j).map V.bl)) := by rw [upd_ne (ne_of_none eD nT)]; exact eD
        refine ⟨T0, _, rfl, .inl (.inl upd_same), rfl, _, _, rfl, _, _, rfl, rfl, rfl, yes_if ?_⟩
        refine ⟨v1, rfl, v2, rfl, dx, dy, px, py, (fo dx (List.mem_of_getElem? hdx)).shaped (by decide), (fm dy (List.mem_of_getElem? hdy)).shaped (by decide), _, eD2, ?_, gj2.put (fresh_none n1) eD2 (fun ps z => by cases z), ?_⟩
        · rw [List.length_map, List.length_take]
          unfold sizeLine
          omega
        · rw [upd_same, sameB_at hdx hdy, List.map_append]
          rfl
      · obtain ⟨gj, eD⟩ := hp
        have g12 := ((g89.trans g10).trans g11).trans gj
        obtain ⟨w1, w2, w3, w4, w5, w6⟩ := tt g12
        refine ⟨.ref D1, rfl, .ref Du, rfl, .ref S2, rfl, S2, mate, rfl, w1, w2, w3, w4, w5, hS2.grow g12, ok2, fun Sm H13 fSm g13 eSm => ?_⟩
        have eDu13 := (((g8.trans g9).trans ((g10.trans g11).trans gj)).trans g13).lst (by simp) eDu
        refine ⟨Du, Sm, got.text.map V.str, mate.text.map V.str, rfl, .inl (.inl eDu13), .inl (.inl eSm), fun D2 n2 => ?_⟩
        have g1 : Grow [] H6 H13 := g12.trans g13
        have sh : ∀ {g0 : Got}, g0.Ok → ∀ d ∈ g0.text.map PyData.str, SeqAt.shaped d = true := fun ok0 d hd => by
          obtain ⟨x, hx, rfl⟩ := List.mem_map.mp hd
          exact (Fine.str (m := 500000) (ok0.short x hx).2 (ok0.short x hx).1).shaped (by decide)
        refine lc_it (walk_zip (xs := got.text.map V.str) (ys := mate.text.map V.str) (n := 3) rfl) (fun j H' => Grow [] H13 H' ∧ H' D2 = some (.lst (((sameB (got.text.map PyData.str) (mate.text.map PyData.str)).take j).map V.bl)))
          ⟨grow_new n2, upd_same⟩ (fun j H' _ h => ⟨.inl (.inl (h.1.lst (by simp) eDu13)), .inl (.inl (h.1.lst (by simp) eSm))⟩) (fun j x H14 H15 hj hp hy => ?_) (fun H14 hp => ?_)
        · obtain ⟨gk, eE⟩ := hp
          obtain ⟨T0, v1, v2, rfl, nT, rfl, ea, eb⟩ := hy
          have gk2 : Grow [] H13 (upd H14 T0 (.tup [v1, v2])) := gk.new nT
          obtain ⟨dx, hdx, px⟩ := dpall_get (dp_strs (K := K) (H := upd H14 T0 (.tup [v1, v2])) got.text) ea
          obtain ⟨dy, hdy, py⟩ := dpall_get (dp_strs (K := K) (H := upd H14 T0 (.tup [v1, v2])) mate.text) eb
          have eE2 : upd H14 T0 (.tup [v1, v2]) D2 = some (.lst (((sameB (got.text.map PyData.str) (mate.text.map PyData.str)).take j).map V.bl)) := by rw [upd_ne (ne_of_none eE nT)]; exact eE
          refine ⟨T0, _, rfl, .inl (.inl upd_same), rfl, _, _, rfl, _, _, rfl, rfl, rfl, yes_if ?_⟩
          refine ⟨v1, rfl, v2, rfl, dx, dy, px, py, sh ok1 dx (List.mem_of_getElem? hdx), sh ok2 dy (List.mem_of_getElem? hdy), _, eE2, ?_, gk2.put (fresh_none n2) eE2 (fun ps z => by cases z), ?_⟩
          · rw [List.length_map, List.length_take]
            unfold sizeLine
            omega
          · rw [upd_same, sameB_at hdx hdy, List.map_append]
            rfl
        · obtain ⟨gk, eE⟩ := hp
          have eD14 := (g13.trans gk).lst (by simp) eD
          rw [List.take_of_length_le (show (sameB got.ord.Ds mate.ord.Ds).length ≤ 3 from by unfold sameB; rw [List.length_zipWith]; exact Nat.min_le_left _ _), same_all ok1 ok2] at eD14
          rw [List.take_of_length_le (show (sameB (got.text.map PyData.str) (mate.text.map PyData.str)).length ≤ 3 from by unfold sameB; rw [List.length_zipWith]; exact Nat.min_le_left _ _)] at eE
          have f : Fine (.list ((sameB (got.text.map PyData.str) (mate.text.map PyData.str)).map PyData.bool)) 1 100 := Fine.list (n := 0) (m := 5) (fun d hd => by
            obtain ⟨b, hb, rfl⟩ := List.mem_map.mp hd
            exact fine_bool b) (by rw [List.length_map]; have : (sameB (got.text.map PyData.str) (mate.text.map PyData.str)).length ≤ 3 := by { unfold sameB; rw [List.length_zipWith]; exact Nat.min_le_left _ _ }; omega)
          refine ⟨_, _, .lst (.inl (.inl eD14)) (dp_bools _), .lst (.inl (.inl eE)) (dp_bools _), f.shaped (by decide), f.shaped (by decide), _, rfl, ?_⟩
          rw [f.eqv]
          exact iteF ⟨_, _, _, _, _, _, _, _, _, rfl, gr6.trans (g1.trans gk)⟩
  · obtain ⟨x1, x2, x3, x4, x5, x6, x7, x8, x9, rfl, gr⟩ := hp
    exact q H2 gr
end
theorem law_start {K : PySem.W.Frag} {H : Hp} {a : Addr} {ns : List Int} {c1 c2 c3 c4 c5 c6 : Addr × Addr} (t : ∀ p ∈ [c1, c2, c3, c4, c5, c6], TabG H p.2) (_ : ns.length ≤ 63) (_ : ∀ z ∈ ns, Builtin.Int.intBits z ≤ 1048576) (h : SqL K H a (ns.map V.int)) :
    spLaw K c1.2 c2.2 c3.2 c6.2 c4.2 c5.2 [.ref a] H (fun v _ => v = .bl true) E0 := ⟨a, ns, rfl, t _ List.mem_cons_self, t _ (List.mem_cons_of_mem _ List.mem_cons_self), t _ (List.mem_cons_of_mem _ (List.mem_cons_of_mem _ List.mem_cons_self)), t _ (List.mem_cons_of_mem _ (List.mem_cons_of_mem _ (List.mem_cons_of_mem _ (List.mem_cons_of_mem _ (List.mem_cons_of_mem _ List.mem_cons_self))))), t _ (List.mem_cons_of_mem _ (List.mem_cons_of_mem _ (List.mem_cons_of_mem _ List.mem_cons_self))), t _ (List.mem_cons_of_mem _ (List.mem_cons_of_mem _ (List.mem_cons_of_mem _ (List.mem_cons_of_mem _ List.mem_cons_self)))), h, fun _ _ => rfl⟩

end Lw

namespace Lw
open PySem PySem.Spec PyProof.Rows L2 GxR Gx
end Lw
namespace Lw
open PySem PySem.Spec PyProof.Rows L2 GxR Gx
/-! ### the head -/
def d_is_name : He.DefD := ⟨("is_name", none), "is_name", "is_name", defArgs st_is_name, defBody st_is_name, defScope st_is_name, [], []⟩
def d_are_unlike_names : He.DefD := ⟨("are_unlike_names", none), "are_unlike_names", "are_unlike_names", defArgs st_are_unlike_names, defBody st_are_unlike_names, defScope st_are_unlike_names, [], []⟩
def d_is_pair : He.DefD := ⟨("is_pair", none), "is_pair", "is_pair", defArgs st_is_pair, defBody st_is_pair, defScope st_is_pair, [], []⟩
def d_is_road : He.DefD := ⟨("is_road", none), "is_road", "is_road", defArgs st_is_road, defBody st_is_road, defScope st_is_road, [], []⟩
def d_is_web : He.DefD := ⟨("is_web", none), "is_web", "is_web", defArgs st_is_web, defBody st_is_web, defScope st_is_web, [], []⟩
def d_neighbours_in : He.DefD := ⟨("neighbours_in", none), "neighbours_in", "neighbours_in", defArgs st_neighbours_in, defBody st_neighbours_in, defScope st_neighbours_in, [], []⟩
def d_hands_ahead : He.DefD := ⟨("hands_ahead", none), "hands_ahead", "hands_ahead", defArgs st_hands_ahead, defBody st_hands_ahead, defScope st_hands_ahead, [], []⟩
def d_is_book : He.DefD := ⟨("is_book", none), "is_book", "is_book", defArgs st_is_book, defBody st_is_book, defScope st_is_book, [], []⟩
def d_show_web : He.DefD := ⟨("show_web", none), "show_web", "show_web", defArgs st_show_web, defBody st_show_web, defScope st_show_web, [], []⟩
def d_read_web : He.DefD := ⟨("read_web", none), "read_web", "read_web", defArgs st_read_web, defBody st_read_web, defScope st_read_web, [], []⟩
def d_show_book : He.DefD := ⟨("show_book", none), "show_book", "show_book", defArgs st_show_book, defBody st_show_book, defScope st_show_book, [], []⟩
def d_read_book : He.DefD := ⟨("read_book", none), "read_book", "read_book", defArgs st_read_book, defBody st_read_book, defScope st_read_book, [], []⟩
def d_show_history : He.DefD := ⟨("show_history", none), "show_history", "show_history", defArgs st_show_history, defBody st_show_history, defScope st_show_history, [], []⟩
def d_read_history : He.DefD := ⟨("read_history", none), "read_history", "read_history", defArgs st_read_history, defBody st_read_history, defScope st_read_history, [], []⟩
def d_rows_in : He.DefD := ⟨("rows_in", none), "rows_in", "rows_in", defArgs st_rows_in, defBody st_rows_in, defScope st_rows_in, [], []⟩
def d_rows_of_web : He.DefD := ⟨("rows_of_web", none), "rows_of_web", "rows_of_web", defArgs st_rows_of_web, defBody st_rows_of_web, defScope st_rows_of_web, [], []⟩
def d_web_in : He.DefD := ⟨("web_in", none), "web_in", "web_in", defArgs st_web_in, defBody st_web_in, defScope st_web_in, [], []⟩
def d_row_of_book : He.DefD := ⟨("row_of_book", none), "row_of_book", "row_of_book", defArgs st_row_of_book, defBody st_row_of_book, defScope st_row_of_book, [], []⟩
def d_book_in : He.DefD := ⟨("book_in", none), "book_in", "book_in", defArgs st_book_in, defBody st_book_in, defScope st_book_in, [], []⟩
def d_is_deed : He.DefD := ⟨("is_deed", none), "is_deed", "is_deed", defArgs st_is_deed, defBody st_is_deed, defScope st_is_deed, [], []⟩
def d_law_pot : He.DefD := ⟨("_law_pot", none), "_law_pot", "_law_pot", defArgs st_law_pot, defBody st_law_pot, defScope st_law_pot, [], []⟩
def d_law_dip : He.DefD := ⟨("_law_dip", none), "_law_dip", "_law_dip", defArgs st_law_dip, defBody st_law_dip, defScope st_law_dip, [], []⟩
def d_law_names : He.DefD := ⟨("_law_names", none), "_law_names", "_law_names", defArgs st_law_names, defBody st_law_names, defScope st_law_names, [], []⟩
def d_law_web : He.DefD := ⟨("_law_web", none), "_law_web", "_law_web", defArgs st_law_web, defBody st_law_web, defScope st_law_web, [], []⟩
def d_law_history : He.DefD := ⟨("_law_history", none), "_law_history", "_law_history", defArgs st_law_history, defBody st_law_history, defScope st_law_history, [], []⟩
def d_law_line : He.DefD := ⟨("_law_line", none), "_law_line", "_law_line", defArgs st_law_line, defBody st_law_line, defScope st_law_line, [], []⟩
def d_law_book_text : He.DefD := ⟨("_law_book_text", none), "_law_book_text", "_law_book_text", defArgs st_law_book_text, defBody st_law_book_text, defScope st_law_book_text, [], []⟩
def d_law_web_rows : He.DefD := ⟨("_law_web_rows", none), "_law_web_rows", "_law_web_rows", defArgs st_law_web_rows, defBody st_law_web_rows, defScope st_law_web_rows, [], []⟩
def d_law_moment_rows : He.DefD := ⟨("_law_moment_rows", none), "_law_moment_rows", "_law_moment_rows", defArgs st_law_moment_rows, defBody st_law_moment_rows, defScope st_law_moment_rows, [], []⟩
def d_law_some : He.DefD := ⟨("_law_some", none), "_law_some", "_law_some", defArgs st_law_some, defBody st_law_some, defScope st_law_some, [], []⟩
def d_law_shown : He.DefD := ⟨("_law_shown", none), "_law_shown", "_law_shown", defArgs st_law_shown, defBody st_law_shown, defScope st_law_shown, [], []⟩
def d_law_texts : He.DefD := ⟨("_law_texts", none), "_law_texts", "_law_texts", defArgs st_law_texts, defBody st_law_texts, defScope st_law_texts, [], []⟩
def d_law_ordered : He.DefD := ⟨("_law_ordered", none), "_law_ordered", "_law_ordered", defArgs st_law_ordered, defBody st_law_ordered, defScope st_law_ordered, [], []⟩
def d_law : He.DefD := ⟨("law", none), "law", "law", defArgs st_law, defBody st_law, defScope st_law, [], []⟩
def hdDefs : List He.DefD := [d_is_name, d_are_unlike_names, d_is_pair, d_is_road, d_is_web, d_neighbours_in, d_hands_ahead, d_is_book, d_show_web, d_read_web, d_show_book, d_read_book, d_show_history, d_read_history, d_rows_in, d_rows_of_web, d_web_in, d_row_of_book, d_book_in, d_is_deed, d_law_pot, d_law_dip, d_law_names, d_law_web, d_law_history, d_law_line, d_law_book_text, d_law_web_rows, d_law_moment_rows, d_law_some, d_law_shown, d_law_texts, d_law_ordered, d_law]
def hdFacts : List He.Fa := [.glo "is_name", .glo "are_unlike_names", .glo "is_pair", .glo "is_road", .glo "is_web", .glo "neighbours_in", .glo "hands_ahead", .glo "is_book", .glo "show_web", .glo "read_web", .glo "show_book", .glo "read_book", .glo "show_history", .glo "read_history", .glo "rows_in", .glo "rows_of_web", .glo "web_in", .glo "row_of_book", .glo "book_in", .glo "is_deed", .glo "_law_pot", .glo "_law_dip", .glo "_law_names", .glo "_law_web", .glo "_law_history", .glo "_law_line", .glo "_law_book_text", .glo "_law_web_rows", .glo "_law_moment_rows", .glo "_law_some", .glo "_law_shown", .glo "_law_texts", .glo "_law_ordered", .glo "law", .free "all", .free "int", .free "len", .free "list", .free "max", .free "min", .free "range", .free "repr", .free "set", .free "sorted", .free "str", .free "tuple", .free "type", .free "zip", .int "MOST_LETTERS" 8, .glo "DEEDS"]
def hdTabs : List He.Defn := [("is_name", none), ("are_unlike_names", none), ("is_web", none), ("show_history", none), ("read_history", none), ("is_deed", none)]
def hdLoose : List Str := (["ApartError", "NoText", "MOST_LETTERS", "DEEDS", "is_name", "are_unlike_names", "is_pair", "is_road", "is_web", "neighbours_in", "hands_ahead", "is_book", "show_web", "read_web", "show_book", "read_book", "show_history", "read_history", "rows_in", "rows_of_web"] : List Str) ++ (["web_in", "row_of_book", "book_in", "is_deed", "_law_pot", "_law_dip", "_law_names", "_law_web", "_law_history", "_law_line", "_law_book_text", "_law_web_rows", "_law_moment_rows", "_law_some", "_law_shown", "_law_texts", "_law_ordered"] : List Str)
abbrev hdRow : PySem.W.OpenRow := PySem.W.OpenLaw.row PySem.Challenge.rw_heardapart_k59_written_and_read
abbrev hdView : Program := PySem.W.view hdRow.prog [42]
abbrev hdTop : DefRec := HandSHeadRun.topDef hdRow.prog 42
def hdEx : PySem.W.Frag → Bool := fun K => He.valsB K (He.ga K "DEEDS") [("shout", .int 2), ("hear", .int 3)]
def hdTs : List He.Tab := [((fun K => He.ga K "DEEDS"), ["shout", "hear"])]
abbrev hdHook : PySem.W.Hook := He.hookX 4 hdFacts hdDefs hdTs hdTabs hdEx
def hdOb (s : PySem.W.SharedT) : He.AlX := He.obsX 4 hdFacts hdDefs hdTs hdTabs hdEx (HandSHeadRun.getT s)
theorem hdOb_eq (s : PySem.W.SharedT) : hdOb s = hdHook.obs s.abs := He.obsX_eq (HandSHeadRun.getT_eq s)
theorem hdRun (w : World) : HandSHeadRun.RunEq hdRow hdView hdHook hdOb 4000 hdLoose w := by
  exact PySem.W.byRow2 "special-get-raises" (P := fun w => HandSHeadRun.RunEq hdRow hdView hdHook hdOb 4000 hdLoose w) (fun w => by intro os; kernel_rfl) (fun w => by intro os; kernel_rfl) w
theorem triples_none : TriplesOk (#[] : Array Value).toList := trivial
/-- the law's promise, from the head's word -/
theorem hd_all {w : World} {K : PySem.W.Frag} {h : Heap} {mg : Str → Option Value} {f : Addr} (X : K.In h) (G : h.Ns mainGlobals mg) (hfa : mg ("law" : Str) = some (.ref f)) (c : He.SaysX hdFacts hdDefs hdTs hdTabs hdEx w h K) :
    LawG PySem.Challenge.rw_heardapart_k59_written_and_read w K 14 63 "script" mg f h := by
  have glo : ∀ x : Str, He.Fa.glo x ∈ hdFacts → mg x = some (.ref (He.ga K x)) := fun x hx => He.glo_ok X G (c.t.d.facts hx)
  have free : ∀ x : Str, He.Fa.free x ∈ hdFacts → mg x = none := fun x hx => He.free_ok X G (c.t.d.facts hx)
  have e := hfa.symm.trans (glo "law" (by simp [hdFacts]))
  cases e
  obtain ⟨fd_is_name, F_is_name⟩ := c.t.d.def_ 0 (d := d_is_name) rfl
  have D_is_name : DefIs K "is_name" "is_name" st_is_name _ fd_is_name _ := DefIs.of (p := ("is_name", none)) F_is_name
  have b_is_name : Binds K fd_is_name ["thing"] [] := D_is_name.binds fun _ _ _ _ _ us hl => match us, hl with | [_], _ => rfl
  have g_is_name := glo "is_name" (by simp [hdFacts])
  obtain ⟨fd_are_unlike_names, F_are_unlike_names⟩ := c.t.d.def_ 1 (d := d_are_unlike_names) rfl
  have D_are_unlike_names : DefIs K "are_unlike_names" "are_unlike_names" st_are_unlike_names _ fd_are_unlike_names _ := DefIs.of (p := ("are_unlike_names", none)) F_are_unlike_names
  have b_are_unlike_names : Binds K fd_are_unlike_names ["thing"] [] := D_are_unlike_names.binds fun _ _ _ _ _ us hl => match us, hl with | [_], _ => rfl
  have g_are_unlike_names := glo "are_unlike_names" (by simp [hdFacts])
  obtain ⟨fd_is_pair, F_is_pair⟩ := c.t.d.def_ 2 (d := d_is_pair) rfl
  have D_is_pair : DefIs K "is_pair" "is_pair" st_is_pair _ fd_is_pair _ := DefIs.of (p := ("is_pair", none)) F_is_pair
  have b_is_pair : Binds K fd_is_pair ["thing"] [] := D_is_pair.binds fun _ _ _ _ _ us hl => match us, hl with | [_], _ => rfl
  have g_is_pair := glo "is_pair" (by simp [hdFacts])
  obtain ⟨fd_is_road, F_is_road⟩ := c.t.d.def_ 3 (d := d_is_road) rfl
  have D_is_road : DefIs K "is_road" "is_road" st_is_road _ fd_is_road _ := DefIs.of (p := ("is_road", none)) F_is_road
  have b_is_road : Binds K fd_is_road ["thing", "hands"] [] := D_is_road.binds fun _ _ _ _ _ us hl => match us, hl with | [_, _], _ => rfl
  have g_is_road := glo "is_road" (by simp [hdFacts])
  obtain ⟨fd_is_web, F_is_web⟩ := c.t.d.def_ 4 (d := d_is_web) rfl
  have D_is_web : DefIs K "is_web" "is_web" st_is_web _ fd_is_web _ := DefIs.of (p := ("is_web", none)) F_is_web
  have b_is_web : Binds K fd_is_web ["thing"] [] := D_is_web.binds fun _ _ _ _ _ us hl => match us, hl with | [_], _ => rfl
  have g_is_web := glo "is_web" (by simp [hdFacts])
  obtain ⟨fd_neighbours_in, F_neighbours_in⟩ := c.t.d.def_ 5 (d := d_neighbours_in) rfl
  have D_neighbours_in : DefIs K "neighbours_in" "neighbours_in" st_neighbours_in _ fd_neighbours_in _ := DefIs.of (p := ("neighbours_in", none)) F_neighbours_in
  have b_neighbours_in : Binds K fd_neighbours_in ["web"] [] := D_neighbours_in.binds fun _ _ _ _ _ us hl => match us, hl with | [_], _ => rfl
  have g_neighbours_in := glo "neighbours_in" (by simp [hdFacts])
  obtain ⟨fd_hands_ahead, F_hands_ahead⟩ := c.t.d.def_ 6 (d := d_hands_ahead) rfl
  have D_hands_ahead : DefIs K "hands_ahead" "hands_ahead" st_hands_ahead _ fd_hands_ahead _ := DefIs.of (p := ("hands_ahead", none)) F_hands_ahead
  have b_hands_ahead : Binds K fd_hands_ahead ["web", "start", "barred"] [] := D_hands_ahead.binds fun _ _ _ _ _ us hl => match us, hl with | [_, _, _], _ => rfl
  have g_hands_ahead := glo "hands_ahead" (by simp [hdFacts])
  obtain ⟨fd_is_book, F_is_book⟩ := c.t.d.def_ 7 (d := d_is_book) rfl
  have D_is_book : DefIs K "is_book" "is_book" st_is_book _ fd_is_book _ := DefIs.of (p := ("is_book", none)) F_is_book
  have b_is_book : Binds K fd_is_book ["thing"] [] := D_is_book.binds fun _ _ _ _ _ us hl => match us, hl with | [_], _ => rfl
  have g_is_book := glo "is_book" (by simp [hdFacts])
  obtain ⟨fd_show_web, F_show_web⟩ := c.t.d.def_ 8 (d := d_show_web) rfl
  have D_show_web : DefIs K "show_web" "show_web" st_show_web _ fd_show_web _ := DefIs.of (p := ("show_web", none)) F_show_web
  have b_show_web : Binds K fd_show_web ["web"] [] := D_show_web.binds fun _ _ _ _ _ us hl => match us, hl with | [_], _ => rfl
  have g_show_web := glo "show_web" (by simp [hdFacts])
  obtain ⟨fd_read_web, F_read_web⟩ := c.t.d.def_ 9 (d := d_read_web) rfl
  have D_read_web : DefIs K "read_web" "read_web" st_read_web _ fd_read_web _ := DefIs.of (p := ("read_web", none)) F_read_web
  have b_read_web : Binds K fd_read_web ["text"] [] := D_read_web.binds fun _ _ _ _ _ us hl => match us, hl with | [_], _ => rfl
  have g_read_web := glo "read_web" (by simp [hdFacts])
  obtain ⟨fd_show_book, F_show_book⟩ := c.t.d.def_ 10 (d := d_show_book) rfl
  have D_show_book : DefIs K "show_book" "show_book" st_show_book _ fd_show_book _ := DefIs.of (p := ("show_book", none)) F_show_book
  have b_show_book : Binds K fd_show_book ["book"] [] := D_show_book.binds fun _ _ _ _ _ us hl => match us, hl with | [_], _ => rfl
  have g_show_book := glo "show_book" (by simp [hdFacts])
  obtain ⟨fd_read_book, F_read_book⟩ := c.t.d.def_ 11 (d := d_read_book) rfl
  have D_read_book : DefIs K "read_book" "read_book" st_read_book _ fd_read_book _ := DefIs.of (p := ("read_book", none)) F_read_book
  have b_read_book : Binds K fd_read_book ["text"] [] := D_read_book.binds fun _ _ _ _ _ us hl => match us, hl with | [_], _ => rfl
  have g_read_book := glo "read_book" (by simp [hdFacts])
  obtain ⟨fd_show_history, F_show_history⟩ := c.t.d.def_ 12 (d := d_show_history) rfl
  have D_show_history : DefIs K "show_history" "show_history" st_show_history _ fd_show_history _ := DefIs.of (p := ("show_history", none)) F_show_history
  have b_show_history : Binds K fd_show_history ["history"] [] := D_show_history.binds fun _ _ _ _ _ us hl => match us, hl with | [_], _ => rfl
  have g_show_history := glo "show_history" (by simp [hdFacts])
  obtain ⟨fd_read_history, F_read_history⟩ := c.t.d.def_ 13 (d := d_read_history) rfl
  have D_read_history : DefIs K "read_history" "read_history" st_read_history _ fd_read_history _ := DefIs.of (p := ("read_history", none)) F_read_history
  have b_read_history : Binds K fd_read_history ["text"] [] := D_read_history.binds fun _ _ _ _ _ us hl => match us, hl with | [_], _ => rfl
  have g_read_history := glo "read_history" (by simp [hdFacts])
  obtain ⟨fd_rows_in, F_rows_in⟩ := c.t.d.def_ 14 (d := d_rows_in) rfl
  have D_rows_in : DefIs K "rows_in" "rows_in" st_rows_in _ fd_rows_in _ := DefIs.of (p := ("rows_in", none)) F_rows_in
  have b_rows_in : Binds K fd_rows_in ["text"] [] := D_rows_in.binds fun _ _ _ _ _ us hl => match us, hl with | [_], _ => rfl
  have g_rows_in := glo "rows_in" (by simp [hdFacts])
  obtain ⟨fd_rows_of_web, F_rows_of_web⟩ := c.t.d.def_ 15 (d := d_rows_of_web) rfl
  have D_rows_of_web : DefIs K "rows_of_web" "rows_of_web" st_rows_of_web _ fd_rows_of_web _ := DefIs.of (p := ("rows_of_web", none)) F_rows_of_web
  have b_rows_of_web : Binds K fd_rows_of_web ["web"] [] := D_rows_of_web.binds fun _ _ _ _ _ us hl => match us, hl with | [_], _ => rfl
  have g_rows_of_web := glo "rows_of_web" (by simp [hdFacts])
  obtain ⟨fd_web_in, F_web_in⟩ := c.t.d.def_ 16 (d := d_web_in) rfl
  have D_web_in : DefIs K "web_in" "web_in" st_web_in _ fd_web_in _ := DefIs.of (p := ("web_in", none)) F_web_in
  have b_web_in : Binds K fd_web_in ["rows"] [] := D_web_in.binds fun _ _ _ _ _ us hl => match us, hl with | [_], _ => rfl
  have g_web_in := glo "web_in" (by simp [hdFacts])
  obtain ⟨fd_row_of_book, F_row_of_book⟩ := c.t.d.def_ 17 (d := d_row_of_book) rfl
  have D_row_of_book : DefIs K "row_of_book" "row_of_book" st_row_of_book _ fd_row_of_book _ := DefIs.of (p := ("row_of_book", none)) F_row_of_book
  have b_row_of_book : Binds K fd_row_of_book ["book"] [] := D_row_of_book.binds fun _ _ _ _ _ us hl => match us, hl with | [_], _ => rfl
  have g_row_of_book := glo "row_of_book" (by simp [hdFacts])
  obtain ⟨fd_book_in, F_book_in⟩ := c.t.d.def_ 18 (d := d_book_in) rfl
  have D_book_in : DefIs K "book_in" "book_in" st_book_in _ fd_book_in _ := DefIs.of (p := ("book_in", none)) F_book_in
  have b_book_in : Binds K fd_book_in ["row"] [] := D_book_in.binds fun _ _ _ _ _ us hl => match us, hl with | [_], _ => rfl
  have g_book_in := glo "book_in" (by simp [hdFacts])
  obtain ⟨fd_is_deed, F_is_deed⟩ := c.t.d.def_ 19 (d := d_is_deed) rfl
  have D_is_deed : DefIs K "is_deed" "is_deed" st_is_deed _ fd_is_deed _ := DefIs.of (p := ("is_deed", none)) F_is_deed
  have b_is_deed : Binds K fd_is_deed ["thing"] [] := D_is_deed.binds fun _ _ _ _ _ us hl => match us, hl with | [_], _ => rfl
  have g_is_deed := glo "is_deed" (by simp [hdFacts])
  obtain ⟨fd_law_pot, F_law_pot⟩ := c.t.d.def_ 20 (d := d_law_pot) rfl
  have D_law_pot : DefIs K "_law_pot" "_law_pot" st_law_pot _ fd_law_pot _ := DefIs.of (p := ("_law_pot", none)) F_law_pot
  have b_law_pot : Binds K fd_law_pot ["script", "k"] [] := D_law_pot.binds fun _ _ _ _ _ us hl => match us, hl with | [_, _], _ => rfl
  have g_law_pot := glo "_law_pot" (by simp [hdFacts])
  obtain ⟨fd_law_dip, F_law_dip⟩ := c.t.d.def_ 21 (d := d_law_dip) rfl
  have D_law_dip : DefIs K "_law_dip" "_law_dip" st_law_dip _ fd_law_dip _ := DefIs.of (p := ("_law_dip", none)) F_law_dip
  have b_law_dip : Binds K fd_law_dip ["pot", "many"] [] := D_law_dip.binds fun _ _ _ _ _ us hl => match us, hl with | [_, _], _ => rfl
  have g_law_dip := glo "_law_dip" (by simp [hdFacts])
  obtain ⟨fd_law_names, F_law_names⟩ := c.t.d.def_ 22 (d := d_law_names) rfl
  have D_law_names : DefIs K "_law_names" "_law_names" st_law_names _ fd_law_names _ := DefIs.of (p := ("_law_names", none)) F_law_names
  have b_law_names : Binds K fd_law_names ["pot", "many"] [] := D_law_names.binds fun _ _ _ _ _ us hl => match us, hl with | [_, _], _ => rfl
  have g_law_names := glo "_law_names" (by simp [hdFacts])
  obtain ⟨fd_law_web, F_law_web⟩ := c.t.d.def_ 23 (d := d_law_web) rfl
  have D_law_web : DefIs K "_law_web" "_law_web" st_law_web _ fd_law_web _ := DefIs.of (p := ("_law_web", none)) F_law_web
  have b_law_web : Binds K fd_law_web ["pot", "many"] [] := D_law_web.binds fun _ _ _ _ _ us hl => match us, hl with | [_, _], _ => rfl
  have g_law_web := glo "_law_web" (by simp [hdFacts])
  obtain ⟨fd_law_history, F_law_history⟩ := c.t.d.def_ 24 (d := d_law_history) rfl
  have D_law_history : DefIs K "_law_history" "_law_history" st_law_history _ fd_law_history _ := DefIs.of (p := ("_law_history", none)) F_law_history
  have b_law_history : Binds K fd_law_history ["pot"] [] := D_law_history.binds fun _ _ _ _ _ us hl => match us, hl with | [_], _ => rfl
  have g_law_history := glo "_law_history" (by simp [hdFacts])
  obtain ⟨fd_law_line, F_law_line⟩ := c.t.d.def_ 25 (d := d_law_line) rfl
  have D_law_line : DefIs K "_law_line" "_law_line" st_law_line _ fd_law_line _ := DefIs.of (p := ("_law_line", none)) F_law_line
  have b_law_line : Binds K fd_law_line ["words", "between"] [] := D_law_line.binds fun _ _ _ _ _ us hl => match us, hl with | [_, _], _ => rfl
  have g_law_line := glo "_law_line" (by simp [hdFacts])
  obtain ⟨fd_law_book_text, F_law_book_text⟩ := c.t.d.def_ 26 (d := d_law_book_text) rfl
  have D_law_book_text : DefIs K "_law_book_text" "_law_book_text" st_law_book_text _ fd_law_book_text _ := DefIs.of (p := ("_law_book_text", none)) F_law_book_text
  have b_law_book_text : Binds K fd_law_book_text ["book"] [] := D_law_book_text.binds fun _ _ _ _ _ us hl => match us, hl with | [_], _ => rfl
  have g_law_book_text := glo "_law_book_text" (by simp [hdFacts])
  obtain ⟨fd_law_web_rows, F_law_web_rows⟩ := c.t.d.def_ 27 (d := d_law_web_rows) rfl
  have D_law_web_rows : DefIs K "_law_web_rows" "_law_web_rows" st_law_web_rows _ fd_law_web_rows _ := DefIs.of (p := ("_law_web_rows", none)) F_law_web_rows
  have b_law_web_rows : Binds K fd_law_web_rows ["web"] [] := D_law_web_rows.binds fun _ _ _ _ _ us hl => match us, hl with | [_], _ => rfl
  have g_law_web_rows := glo "_law_web_rows" (by simp [hdFacts])
  obtain ⟨fd_law_moment_rows, F_law_moment_rows⟩ := c.t.d.def_ 28 (d := d_law_moment_rows) rfl
  have D_law_moment_rows : DefIs K "_law_moment_rows" "_law_moment_rows" st_law_moment_rows _ fd_law_moment_rows _ := DefIs.of (p := ("_law_moment_rows", none)) F_law_moment_rows
  have b_law_moment_rows : Binds K fd_law_moment_rows ["moment"] [] := D_law_moment_rows.binds fun _ _ _ _ _ us hl => match us, hl with | [_], _ => rfl
  have g_law_moment_rows := glo "_law_moment_rows" (by simp [hdFacts])
  obtain ⟨fd_law_some, F_law_some⟩ := c.t.d.def_ 29 (d := d_law_some) rfl
  have D_law_some : DefIs K "_law_some" "_law_some" st_law_some _ fd_law_some _ := DefIs.of (p := ("_law_some", none)) F_law_some
  have b_law_some : Binds K fd_law_some ["pot"] [] := D_law_some.binds fun _ _ _ _ _ us hl => match us, hl with | [_], _ => rfl
  have g_law_some := glo "_law_some" (by simp [hdFacts])
  obtain ⟨fd_law_shown, F_law_shown⟩ := c.t.d.def_ 30 (d := d_law_shown) rfl
  have D_law_shown : DefIs K "_law_shown" "_law_shown" st_law_shown _ fd_law_shown _ := DefIs.of (p := ("_law_shown", none)) F_law_shown
  have b_law_shown : Binds K fd_law_shown ["some"] [] := D_law_shown.binds fun _ _ _ _ _ us hl => match us, hl with | [_], _ => rfl
  have g_law_shown := glo "_law_shown" (by simp [hdFacts])
  obtain ⟨fd_law_texts, F_law_texts⟩ := c.t.d.def_ 31 (d := d_law_texts) rfl
  have D_law_texts : DefIs K "_law_texts" "_law_texts" st_law_texts _ fd_law_texts _ := DefIs.of (p := ("_law_texts", none)) F_law_texts
  have b_law_texts : Binds K fd_law_texts ["some"] [] := D_law_texts.binds fun _ _ _ _ _ us hl => match us, hl with | [_], _ => rfl
  have g_law_texts := glo "_law_texts" (by simp [hdFacts])
  obtain ⟨fd_law_ordered, F_law_ordered⟩ := c.t.d.def_ 32 (d := d_law_ordered) rfl
  have D_law_ordered : DefIs K "_law_ordered" "_law_ordered" st_law_ordered _ fd_law_ordered _ := DefIs.of (p := ("_law_ordered", none)) F_law_ordered
  have b_law_ordered : Binds K fd_law_ordered ["some"] [] := D_law_ordered.binds fun _ _ _ _ _ us hl => match us, hl with | [_], _ => rfl
  have g_law_ordered := glo "_law_ordered" (by simp [hdFacts])
  obtain ⟨fd_law, F_law⟩ := c.t.d.def_ 33 (d := d_law) rfl
  have D_law : DefIs K "law" "law" st_law _ fd_law _ := DefIs.of (p := ("law", none)) F_law
  have b_law : Binds K fd_law ["script"] [] := D_law.binds fun _ _ _ _ _ us hl => match us, hl with | [_], _ => rfl
  have g_law := glo "law" (by simp [hdFacts])
  have B : Nb mg := ⟨free "all" (by simp [hdFacts]), free "int" (by simp [hdFacts]), free "len" (by simp [hdFacts]), free "list" (by simp [hdFacts]), free "max" (by simp [hdFacts]), free "min" (by simp [hdFacts]), free "range" (by simp [hdFacts]), free "repr" (by simp [hdFacts]), free "set" (by simp [hdFacts]), free "sorted" (by simp [hdFacts]), free "str" (by simp [hdFacts]), free "tuple" (by simp [hdFacts]), free "type" (by simp [hdFacts]), free "zip" (by simp [hdFacts])⟩
  obtain ⟨tk_MOST_LETTERS, k_MOST_LETTERS⟩ := He.int_ok X G (c.t.d.facts (f := .int "MOST_LETTERS" 8) (by simp [hdFacts]))
  have k_DEEDS := glo "DEEDS" (by simp [hdFacts])
  have kd_DEEDS : Kinds K w (He.ga K "DEEDS") := ⟨c.t.tab 0, He.valsB_ok c.more (q := ("shout", .int 2)) (by simp), He.valsB_ok c.more (q := ("hear", .int 3)) (by simp)⟩
  refine ⟨fd_law, [He.cT K ("is_name", none), He.cT K ("are_unlike_names", none), He.cT K ("is_web", none), He.cT K ("show_history", none), He.cT K ("read_history", none), He.cT K ("is_deed", none)], (spLaw K (He.cT K ("is_name", none)).2 (He.cT K ("are_unlike_names", none)).2 (He.cT K ("is_web", none)).2 (He.cT K ("is_deed", none)).2 (He.cT K ("show_history", none)).2 (He.cT K ("read_history", none)).2), fun p hp => ?_, fun s u => ?_, fun H a ns hl hbits hT hS => law_start (fun p hp => ⟨#[], hT p hp, triples_none⟩) hl hbits hS, fun base KX GX TB => ?_⟩
  · obtain ⟨q, hq, rfl⟩ := List.mem_map.mp (show p ∈ hdTabs.map (He.cT K) from hp)
    exact ⟨c.empty q hq, c.out q hq, PySem.W.codeHd_of_K X (c.hd q hq)⟩
  · exact FunD.bindsA (ps := ["script"]) F_law (fun _ _ _ _ _ _ us hl => match us, hl with | [_], _ => rfl) s [u] rfl
  · have X_is_name := TB _ List.mem_cons_self
    have X_are_unlike_names := TB _ (List.mem_cons_of_mem _ List.mem_cons_self)
    have X_is_web := TB _ (List.mem_cons_of_mem _ (List.mem_cons_of_mem _ List.mem_cons_self))
    have X_show_history := TB _ (List.mem_cons_of_mem _ (List.mem_cons_of_mem _ (List.mem_cons_of_mem _ List.mem_cons_self)))
    have X_read_history := TB _ (List.mem_cons_of_mem _ (List.mem_cons_of_mem _ (List.mem_cons_of_mem _ (List.mem_cons_of_mem _ List.mem_cons_self))))
    have X_is_deed := TB _ (List.mem_cons_of_mem _ (List.mem_cons_of_mem _ (List.mem_cons_of_mem _ (List.mem_cons_of_mem _ (List.mem_cons_of_mem _ List.mem_cons_self)))))
    have c_is_name : Callee PySem.Challenge.rw_heardapart_k59_written_and_read.prog w K mg base CX0 4 "is_name" ["thing"] (spIsName K (He.cT K ("is_name", none)).2) := ⟨_, fd_is_name, ok_is_name B D_is_name X_is_name k_MOST_LETTERS, g_is_name, F_is_name.kp, b_is_name⟩
    have c_are_unlike_names : Callee PySem.Challenge.rw_heardapart_k59_written_and_read.prog w K mg base CX0 8 "are_unlike_names" ["thing"] (spUnlike K (He.cT K ("is_name", none)).2 (He.cT K ("are_unlike_names", none)).2) := ⟨_, fd_are_unlike_names, ok_are_unlike_names B D_are_unlike_names X_are_unlike_names c_is_name, g_are_unlike_names, F_are_unlike_names.kp, b_are_unlike_names⟩
    have c_is_book : Callee PySem.Challenge.rw_heardapart_k59_written_and_read.prog w K mg base CX0 9 "is_book" ["thing"] (spUnlike K (He.cT K ("is_name", none)).2 (He.cT K ("are_unlike_names", none)).2) := ⟨_, fd_is_book, ok_is_book D_is_book c_are_unlike_names, g_is_book, F_is_book.kp, b_is_book⟩
    have c_law_pot : Callee PySem.Challenge.rw_heardapart_k59_written_and_read.prog w K mg base CX0 3 "_law_pot" ["script", "k"] (spPot K) := ⟨_, fd_law_pot, ok_law_pot B D_law_pot, g_law_pot, F_law_pot.kp, b_law_pot⟩
    have c_law_dip : Callee PySem.Challenge.rw_heardapart_k59_written_and_read.prog w K mg base CX0 3 "_law_dip" ["pot", "many"] (spDip K) := ⟨_, fd_law_dip, ok_law_dip B D_law_dip, g_law_dip, F_law_dip.kp, b_law_dip⟩
    have c_is_pair : Callee PySem.Challenge.rw_heardapart_k59_written_and_read.prog w K mg base CX0 2 "is_pair" ["thing"] (spIsPair K) := ⟨_, fd_is_pair, ok_is_pair B D_is_pair, g_is_pair, F_is_pair.kp, b_is_pair⟩
    have c_is_road : Callee PySem.Challenge.rw_heardapart_k59_written_and_read.prog w K mg base CX0 3 "is_road" ["thing", "hands"] (spIsRoad K) := ⟨_, fd_is_road, ok_is_road B D_is_road c_is_pair, g_is_road, F_is_road.kp, b_is_road⟩
    have c_neighbours_in : Callee PySem.Challenge.rw_heardapart_k59_written_and_read.prog w K mg base CX0 2 "neighbours_in" ["web"] (spNear K) := ⟨_, fd_neighbours_in, ok_neighbours_in B D_neighbours_in, g_neighbours_in, F_neighbours_in.kp, b_neighbours_in⟩
    have c_hands_ahead : Callee PySem.Challenge.rw_heardapart_k59_written_and_read.prog w K mg base CX0 3 "hands_ahead" ["web", "start", "barred"] (spAhead K) := ⟨_, fd_hands_ahead, ok_hands_ahead B D_hands_ahead c_neighbours_in, g_hands_ahead, F_hands_ahead.kp, b_hands_ahead⟩
    have c_is_web : Callee PySem.Challenge.rw_heardapart_k59_written_and_read.prog w K mg base CX0 9 "is_web" ["thing"] (spIsWeb K (He.cT K ("is_name", none)).2 (He.cT K ("are_unlike_names", none)).2 (He.cT K ("is_web", none)).2) := ⟨_, fd_is_web, ok_is_web B D_is_web X_is_web c_is_pair c_are_unlike_names c_is_road c_hands_ahead, g_is_web, F_is_web.kp, b_is_web⟩
    have c_law_names : Callee PySem.Challenge.rw_heardapart_k59_written_and_read.prog w K mg base CX0 4 "_law_names" ["pot", "many"] (spNames K) := ⟨_, fd_law_names, ok_law_names B D_law_names c_law_dip, g_law_names, F_law_names.kp, b_law_names⟩
    have c_law_web : Callee PySem.Challenge.rw_heardapart_k59_written_and_read.prog w K mg base CX0 5 "_law_web" ["pot", "many"] (spWeb K) := ⟨_, fd_law_web, ok_law_web B D_law_web c_law_dip c_law_names, g_law_web, F_law_web.kp, b_law_web⟩
    have c_rows_of_web : Callee PySem.Challenge.rw_heardapart_k59_written_and_read.prog w K mg base CX0 1 "rows_of_web" ["web"] (spRowsW K) := ⟨_, fd_rows_of_web, ok_rows_of_web B D_rows_of_web, g_rows_of_web, F_rows_of_web.kp, b_rows_of_web⟩
    have c_rows_in : Callee PySem.Challenge.rw_heardapart_k59_written_and_read.prog w K mg base CX0 1 "rows_in" ["text"] (spRowsIn K) := ⟨_, fd_rows_in, ok_rows_in B D_rows_in, g_rows_in, F_rows_in.kp, b_rows_in⟩
    have c_web_in : Callee PySem.Challenge.rw_heardapart_k59_written_and_read.prog w K mg base CX0 1 "web_in" ["rows"] (spWebIn K) := ⟨_, fd_web_in, ok_web_in B D_web_in, g_web_in, F_web_in.kp, b_web_in⟩
    have c_show_web : Callee PySem.Challenge.rw_heardapart_k59_written_and_read.prog w K mg base CX0 10 "show_web" ["web"] (spShowWeb K (He.cT K ("is_name", none)).2 (He.cT K ("are_unlike_names", none)).2 (He.cT K ("is_web", none)).2) := ⟨_, fd_show_web, ok_show_web D_show_web c_is_web c_rows_of_web, g_show_web, F_show_web.kp, b_show_web⟩
    have c_read_web : Callee PySem.Challenge.rw_heardapart_k59_written_and_read.prog w K mg base CX0 10 "read_web" ["text"] (spReadWeb K (He.cT K ("is_name", none)).2 (He.cT K ("are_unlike_names", none)).2 (He.cT K ("is_web", none)).2) := ⟨_, fd_read_web, ok_read_web D_read_web c_is_web c_rows_of_web c_rows_in c_web_in, g_read_web, F_read_web.kp, b_read_web⟩
    have c_row_of_book : Callee PySem.Challenge.rw_heardapart_k59_written_and_read.prog w K mg base CX0 1 "row_of_book" ["book"] (spRowB K) := ⟨_, fd_row_of_book, ok_row_of_book B D_row_of_book, g_row_of_book, F_row_of_book.kp, b_row_of_book⟩
    have c_book_in : Callee PySem.Challenge.rw_heardapart_k59_written_and_read.prog w K mg base CX0 1 "book_in" ["row"] (spBookIn K) := ⟨_, fd_book_in, ok_book_in B D_book_in, g_book_in, F_book_in.kp, b_book_in⟩
    have c_show_book : Callee PySem.Challenge.rw_heardapart_k59_written_and_read.prog w K mg base CX0 10 "show_book" ["book"] (spShowB K (He.cT K ("is_name", none)).2 (He.cT K ("are_unlike_names", none)).2) := ⟨_, fd_show_book, ok_show_book D_show_book c_is_book c_row_of_book, g_show_book, F_show_book.kp, b_show_book⟩
    have c_read_book : Callee PySem.Challenge.rw_heardapart_k59_written_and_read.prog w K mg base CX0 10 "read_book" ["text"] (spReadB K (He.cT K ("is_name", none)).2 (He.cT K ("are_unlike_names", none)).2) := ⟨_, fd_read_book, ok_read_book B D_read_book c_is_book c_book_in, g_read_book, F_read_book.kp, b_read_book⟩
    have c_is_deed : Callee PySem.Challenge.rw_heardapart_k59_written_and_read.prog w K mg base CX0 8 "is_deed" ["thing"] (spDeed K (He.cT K ("is_name", none)).2 (He.cT K ("is_deed", none)).2) := ⟨_, fd_is_deed, ok_is_deed B D_is_deed X_is_deed k_DEEDS kd_DEEDS c_is_name, g_is_deed, F_is_deed.kp, b_is_deed⟩
    have c_show_history : Callee PySem.Challenge.rw_heardapart_k59_written_and_read.prog w K mg base CX0 12 "show_history" ["history"] (spShowH K (He.cT K ("is_name", none)).2 (He.cT K ("is_deed", none)).2 (He.cT K ("show_history", none)).2) := ⟨_, fd_show_history, ok_show_history B D_show_history X_show_history c_is_deed, g_show_history, F_show_history.kp, b_show_history⟩
    have c_read_history : Callee PySem.Challenge.rw_heardapart_k59_written_and_read.prog w K mg base CX0 12 "read_history" ["text"] (spReadH K (He.cT K ("is_name", none)).2 (He.cT K ("is_deed", none)).2 (He.cT K ("read_history", none)).2) := ⟨_, fd_read_history, ok_read_history B D_read_history X_read_history c_is_deed c_rows_in, g_read_history, F_read_history.kp, b_read_history⟩
    have c_law_history : Callee PySem.Challenge.rw_heardapart_k59_written_and_read.prog w K mg base CX0 5 "_law_history" ["pot"] (spHist K) := ⟨_, fd_law_history, ok_law_history B D_law_history c_law_dip c_law_names, g_law_history, F_law_history.kp, b_law_history⟩
    have c_law_line : Callee PySem.Challenge.rw_heardapart_k59_written_and_read.prog w K mg base CX0 1 "_law_line" ["words", "between"] (spLine K) := ⟨_, fd_law_line, ok_law_line B D_law_line, g_law_line, F_law_line.kp, b_law_line⟩
    have c_law_book_text : Callee PySem.Challenge.rw_heardapart_k59_written_and_read.prog w K mg base CX0 2 "_law_book_text" ["book"] (spBookT K) := ⟨_, fd_law_book_text, ok_law_book_text D_law_book_text c_law_line, g_law_book_text, F_law_book_text.kp, b_law_book_text⟩
    have c_law_web_rows : Callee PySem.Challenge.rw_heardapart_k59_written_and_read.prog w K mg base CX0 2 "_law_web_rows" ["web"] (spRowsL K) := ⟨_, fd_law_web_rows, ok_law_web_rows B D_law_web_rows c_law_line, g_law_web_rows, F_law_web_rows.kp, b_law_web_rows⟩
    have c_law_some : Callee PySem.Challenge.rw_heardapart_k59_written_and_read.prog w K mg base CX0 6 "_law_some" ["pot"] (spSomeW K) := ⟨_, fd_law_some, ok_law_some D_law_some c_law_dip c_law_names c_law_web c_law_history, g_law_some, F_law_some.kp, b_law_some⟩
    have c_law_shown : Callee PySem.Challenge.rw_heardapart_k59_written_and_read.prog w K mg base CX0 13 "_law_shown" ["some"] (spShown K (He.cT K ("is_name", none)).2 (He.cT K ("are_unlike_names", none)).2 (He.cT K ("is_web", none)).2 (He.cT K ("is_deed", none)).2 (He.cT K ("show_history", none)).2) := ⟨_, fd_law_shown, ok_law_shown D_law_shown c_show_web c_show_book c_show_history, g_law_shown, F_law_shown.kp, b_law_shown⟩
    have c_law_texts : Callee PySem.Challenge.rw_heardapart_k59_written_and_read.prog w K mg base CX0 4 "_law_texts" ["some"] (spTexts K) := ⟨_, fd_law_texts, ok_law_texts B D_law_texts c_law_line c_law_book_text c_law_web_rows, g_law_texts, F_law_texts.kp, b_law_texts⟩
    have c_law_ordered : Callee PySem.Challenge.rw_heardapart_k59_written_and_read.prog w K mg base CX0 1 "_law_ordered" ["some"] (spOrdered K) := ⟨_, fd_law_ordered, ok_law_ordered B D_law_ordered, g_law_ordered, F_law_ordered.kp, b_law_ordered⟩
    exact ok_law B D_law c_law_pot c_law_some c_law_texts c_law_shown c_read_web c_read_book c_read_history c_law_ordered
end Lw
open PyProof.Rows PySem PySem.W PySem.Calls
theorem PySem.Challenge.cw_heardapart_k59_written_and_read_holds : PySem.Challenge.rw_heardapart_k59_written_and_read.Holds := by
  w_on; o_law
  refine HandSHeadRun.head_any (r := Lw.hdRow) (q := Lw.hdView) (H := Lw.hdHook) (ob := Lw.hdOb) (M := 4000) (loose := Lw.hdLoose) (d := Lw.hdTop) (kwd := []) Lw.hdOb_eq
    (by kernel_rfl) (fun s => by kernel_rfl) Lw.hdRun (by kernel_rfl) (by kernel_rfl) (by kernel_rfl) (by rfl) (by first | assumption | decide +kernel) (by decide +kernel) ⟨rfl, rfl, rfl, rfl, rfl, by decide +kernel⟩ ?hw ?hc
  case hw => w_witness2
  case hc =>
    refine Gx.walk_GE (l := PySem.Challenge.rw_heardapart_k59_written_and_read) (n := 63) (k := 14) (x := "script") rfl (by decide) (by kernel_rfl) ⟨rfl, by decide, by decide⟩ ?F
    intro w mg fa h Y G hmg0
    obtain ⟨K, KX, c⟩ := Y
    have hmg : mg ("law" : PySem.Str) = some (.ref fa) := by
      have e : Lw.hdTop.name = ("law" : PySem.Str) := by kernel_rfl
      rw [← e]
      exact hmg0
    exact ⟨K, KX, Lw.hd_all KX G hmg c⟩

