import PyProof.Rows.All
import Wide.All
import OpenK.AllK
import Wide.FinOn
import HandS.ForMost
import HandS.AnyAll
import HandS.GenList
import HandS.EndTab
import KE.SortData
import HandS.WideBits
import HandS.DictComp
import HandS.More
import HandS.TupAny
import HandS.TupLe
import HandS.Walk
import HandS.HeadHook4
import HandS.Head4
import HandS.SortKw
import HandS.Iter
import HandS.SetFor
import HandS.SortInts
import HandS.Strs
import HandS.Dict
import PyProof.RowDictHeap
import HandS.HeadHook3
import HandS.FStr
import KE.KEqNest
import HandS.Style
import HandS.Small
import HandS.Deep
import HandS.IsInst
import HandS.Conv
import HandS.NoneIn
import HandS.Text
import HandS.TupLen
import HandS.ListItems
import HandS.Finally
import PySem.Challenge.RW_heardapart_k60_moments_written
set_option Elab.async false
set_option linter.all false
set_option maxRecDepth 100000
set_option maxHeartbeats 8000000
/-! A generator expression whose element may do anything, under all( ) and any( ). -/
namespace Gx
open PySem PySem.Spec PyProof.Rows L2 GxR GenW

abbrev genv (X : Cx) (sc : Scope) (C : Addr) (code : Value) : Env :=
  genEnv sc (cloFrom X.env.cells sc.names []) C code builtinsNs X.env
abbrev gcx (X : Cx) (s : Shared) (H : Hp) (sc : Scope) (C : Addr) (code : Value) (fp : List Addr) : Cx :=
  { X with
    A := X.A.in1.in1.deeper (genv X sc C code)
    s_0 := s
    H_0 := H
    env := genv X sc C code
    outer := X.stack
    stack := genv X sc C code :: X.stack
    ex := fp
    fn := fun _ => false
    calm := true
    pn := []
    xe := fun _ _ => False }

theorem over_loop_gx {A : Around} {elt : Expr} {gs : List Comprehension} {sc : Scope} {pos : Pos} {it acc : Value} {env : Env} :
    A.over (.compLoop (.GeneratorExp elt gs sc pos) 0 it acc env) [] = A.deeper env := by
  obtain ⟨a, b, c, d, e⟩ := A
  cases c <;> cases d <;>
  simp [Around.over, Around.deeper, marksOver, frameCount, unitsOf, envsOf, guardsOf, pushEnvs, pushGuards, Code.envs, Code.env?, Code.isFrame, Code.guards, Code.isGuard, Code.weight, Code.frames, Code.isCreation, Code.isCaller, Code.cUnits]
theorem over_start_gx {A : Around} {elt : Expr} {gs : List Comprehension} {sc : Scope} {pos : Pos} {it acc : Value} {env : Env} :
    A.over (.compStart (.GeneratorExp elt gs sc pos) 0 it acc env) [] = A.deeper env := by
  obtain ⟨a, b, c, d, e⟩ := A
  cases c <;> cases d <;>
  simp [Around.over, Around.deeper, marksOver, frameCount, unitsOf, envsOf, guardsOf, pushEnvs, pushGuards, Code.envs, Code.env?, Code.isFrame, Code.guards, Code.isGuard, Code.weight, Code.frames, Code.isCreation, Code.isCaller, Code.cUnits]

section
variable {X : Cx} {pins : List (Addr × Obj)} {σ : L2.St} {H : Hp} {s : Shared}

theorem clo_look {cells : List (Str × Addr)} {names : List (Str × NameKind)} {y : Str} {c : Addr} (hf : ∀ z ∈ names, z.2 = .free → ∃ c, cells.lookup z.1 = some c)
    (h : (cloFrom cells names []).lookup y = some c) : cells.lookup y = some c ∧ (y, NameKind.free) ∈ names := by
  rcases cloFrom_mem (PySem.mem_of_lookup h) with q | ⟨q1, q2⟩
  · cases q
  · obtain ⟨c', e⟩ := hf _ q1 rfl
    rw [e] at q2
    have q3 : c = c' := q2
    exact ⟨by rw [q3]; exact e, q1⟩
theorem clo_has {cells : List (Str × Addr)} {names : List (Str × NameKind)} {y : Str} (hf : ∀ z ∈ names, z.2 = .free → ∃ c, cells.lookup z.1 = some c)
    (h : (y, NameKind.free) ∈ names) : ∃ c, (cloFrom cells names []).lookup y = some c ∧ cells.lookup y = some c := by
  obtain ⟨c, e⟩ := mem_lookup (cloFrom_has (cells := cells) (acc := []) h)
  exact ⟨c, e, (clo_look hf e).1⟩

/-- the generator's frame has been made: the state as its body sees it -/
theorem gx_start {sc : Scope} {own : List (Str × Nat)} {fp : List Addr} {C : Addr} {code : Value} {h' : Heap} {g' : Array GenState} {d' : Drawn} {t' : Nat}
    (I : Inv X pins σ H s) (hh : X.A.handled = none) (ok : BlkOk X.N X.env.scope sc own) (hN : X.N.Nodup) (hcell : ∀ y ∈ sc.names, y.2 ≠ .cell)
    (hfp : ∀ b ∈ fp, FpOk X pins H b ∧ b < s.heap.objs.size) (hC : C = s.heap.objs.size) (hns : ∃ m, h'.Ns C m)
    (kp : ∀ b o, s.heap.get? b = some o → h'.get? b = some o) (hg : AllBare g') :
    Inv (gcx X s H sc C code fp) [] (wipe σ (own.map (·.2))) H { s with heap := h', gens := g', drawn := d', toks := t' } := by
  have hf : ∀ z ∈ sc.names, z.2 = .free → ∃ c, X.env.cells.lookup z.1 = some c := fun z hz e => by
    rcases ok.free z hz e with k | k
    · exact I.ok.has _ (.inl k)
    · exact I.ok.has _ (.inr k)
  have cl : ∀ {y c}, (genv X sc C code).cells.lookup y = some c → X.env.cells.lookup y = some c ∧ (y, NameKind.free) ∈ sc.names := fun {y c} e => clo_look hf e
  have clt : ∀ {y c}, X.env.cells.lookup y = some c → c < s.heap.objs.size := fun {y c} e => by
    obtain ⟨w, z⟩ := I.cell y c e
    exact z.lt
  have free_of : ∀ {y}, (genv X sc C code).kindOf y = some .cell ∨ (genv X sc C code).kindOf y = some .free → (y, NameKind.free) ∈ sc.names := fun {y} hy => by
    rcases hy with hy | hy
    · exact absurd rfl (hcell _ (PySem.mem_of_lookup (show sc.names.lookup y = some .cell from hy)))
    · exact PySem.mem_of_lookup (show sc.names.lookup y = some .free from hy)
  have okY : (gcx X s H sc C code fp).Ok :=
    { mod := I.ok.mod
      kind := ok.kind
      glob := I.ok.glob
      blt := rfl
      above := Nat.le_of_eq hC.symm
      inj := fun y z c e1 e2 => I.ok.inj y z c (cl e1).1 (cl e2).1
      has := fun y hy => by
        obtain ⟨c, e, _⟩ := clo_has (cells := X.env.cells) hf (free_of hy)
        exact ⟨c, e⟩
      cab := fun y c e => by cases e
      hd := fun _ => hh
      frames := by
        have q := I.ok.frames
        show X.A.frames.map (genv X sc C code :: ·) = _
        rw [q]
        rfl
      stk := .inr ⟨rfl, rfl⟩
      exf := fun b hb => ⟨by
          show b ≠ C
          rw [hC]
          exact Nat.ne_of_lt (hfp b hb).2, fun y c e => (hfp b hb).1.2.2.2.2.1 y c (cl e).1⟩
      bs := I.bs
      bsz := Nat.le_trans I.ok.bsz I.sz
      noex := fun b o e hb => by
        rcases (hfp b hb).1.2.2.2.1 with z | z
        · exact I.ok.noex b o e z
        · exact absurd (Nat.lt_of_lt_of_le (Heap.lt_size e) (Nat.le_trans I.ok.bsz z)) (Nat.lt_irrefl _)
      exfs := fun b hb z => by
        rcases List.mem_cons.mp (I.stkSub b z) with z | z
        · exact (hfp b hb).1.2.1 z
        · exact (hfp b hb).1.2.2.1 z
      funs := I.stack
      frf := I.stkFree }
  obtain ⟨m, hm⟩ := hns
  have hn : ∀ b, s.heap.objs.size ≤ b → H b = none := fun b hb => I.hok.fresh hb
  refine { ok := okY, os := rfl, bare := hg, base := Un.kept kp, loc := ⟨m, hm, fun i y v e1 e2 e3 => ?_⟩, cell := fun y c e => ?_, free := hn C (Nat.le_of_eq hC.symm), freeC := fun y c e => I.freeC y c (cl e).1,
           pin := fun p hp => absurd (show p ∈ ([] : List (Addr × Obj)) ++ [] from hp) (by simp), hok := I.hok.kept kp, len := by rw [wipe_length]; exact I.len }
  · obtain ⟨e2, hne⟩ := wipe_some e2
    have hfr : (y, NameKind.free) ∈ sc.names := by
      have e3' : sc.names.lookup y = some .local ∨ sc.names.lookup y = some .cell ∨ sc.names.lookup y = some .free := e3
      have own : ∀ k, (y, k) ∈ sc.names → k = .local ∨ k = .cell → False := fun k hk hk2 => by
        rcases ok.own _ hk hk2 with q | q
        · obtain ⟨p, hp, hpy⟩ := List.mem_map.mp q
          have q3 := ok.ix p hp
          rw [show p.1 = y from hpy] at q3
          exact hne (List.mem_map.mpr ⟨p, hp, nodup_ix hN q3 e1⟩)
        · exact q (List.mem_of_getElem? e1)
      rcases e3' with q | q | q
      · exact (own _ (PySem.mem_of_lookup q) (.inl rfl)).elim
      · exact (own _ (PySem.mem_of_lookup q) (.inr rfl)).elim
      · exact PySem.mem_of_lookup q
    obtain ⟨m0, _, hl⟩ := I.loc
    have vis : Vis X.env.scope y := (ok.free _ hfr rfl).elim (fun k => .inr (.inl k)) fun k => .inr (.inr k)
    obtain ⟨w, r, q⟩ := hl i y v e1 e2 vis
    obtain ⟨c, h1, h2⟩ := clo_has (cells := X.env.cells) hf hfr
    have kf : (genv X sc C code).kindOf y = some .free := ok.uniq _ hfr
    refine ⟨w, r, .inr ⟨.inr kf, c, h1, ?_⟩⟩
    rcases q with ⟨k, _⟩ | ⟨_, c', e', z⟩
    · have k' : X.env.scope.names.lookup y = some .local := k
      rcases ok.free _ hfr rfl with k2 | k2 <;> rw [show X.env.scope.names.lookup y = _ from k2] at k' <;> cases k'
    · rw [h2] at e'
      cases e'
      exact z.keeps kp
  · obtain ⟨w, z⟩ := I.cell y c (cl e).1
    exact ⟨w, z.keeps kp⟩

/-- generators, tokens and what was drawn are no matter -/
theorem inv_gens {g' : Array GenState} {d' : Drawn} {t' : Nat} (I : Inv X pins σ H s) (hg : AllBare g') : Inv X pins σ H { s with gens := g', drawn := d', toks := t' } :=
  I.step (h' := s.heap) (ch := []) (fun b hb => absurd hb (by simp)) (fun _ _ _ _ _ e _ => e) (fun _ o _ _ _ e _ => ⟨o.slots, e⟩) (fun _ _ _ _ n => n) (fun _ o _ e => ⟨o, e⟩)
    (fun _ _ e => e) (fun _ _ _ e => e) (fun _ ps e => ⟨#[], by rw [e]; simp⟩) (fun _ hm => hm) I.hok hg
theorem inv_like {s' : Shared} (I : Inv X pins σ H s) (hh : s'.heap = s.heap) (ho : s'.os = s.os) (hg : AllBare s'.gens) : Inv X pins σ H s' := by
  have J := inv_gens (g' := s'.gens) (d' := s'.drawn) (t' := s'.toks) I hg
  rw [← hh] at J
  rw [sh_eta s s' ho] at J
  exact J

/-- what is known once and for all of one run of the generator -/
structure Run (X : Cx) (s0 : Shared) (H0 : Hp) (sc : Scope) (C : Addr) (code : Value) (fp : List Addr) (tg elt : Expr) (g : TG) (te : TE) (J : It) (it : Addr) (tn : Nat → Heap → Prop) (vs : List Nat) (σ0 : L2.St)
    (sb : Bool) (W : Nat → Nat → Hp → Prop) (Q : VK) : Prop where
  turns : Turn X.prog X.w X.K tg J fp it tn
  target : PG (gcx X s0 H0 sc C code fp) tg g
  element : PE (gcx X s0 H0 sc C code fp) elt te
  nocor : sc.isCoroutine = false
  step : ∀ i m H, W i m H → (J.stop i H ∧ Q (.bl (!sb)) H) ∨ (J.go i H ∧ ∃ Nx : Hp → Prop, (∀ H', Nx H' → ∃ m', m' < m ∧ W (i + 1) m' H') ∧
    ∀ x H', J.yld i H x H' → g x σ0 H' fun σ2 H2 => wipe σ2 vs = σ0 ∧ te σ2 H2 fun y H4 => ∃ b, y = .bl b ∧ if b = sb then Q (.bl sb) H4 else Nx H4)

/-- the generator stands ahead of its i-th turn, with room for n more -/
def Ahead (X : Cx) (s0 : Shared) (H0 : Hp) (sc : Scope) (C : Addr) (code : Value) (fp : List Addr) (tn : Nat → Heap → Prop) (σ0 : L2.St) (W : Nat → Nat → Hp → Prop) (pin : Addr × Obj) (i n : Nat) (s : Shared) : Prop :=
  ∃ H m, Inv (gcx X s0 H0 sc C code fp) [pin] σ0 H s ∧ tn i s.heap ∧ (∀ b ∈ fp, H b = none) ∧ m ≤ n ∧ W i m H
/-- it hands out a truth -/
def Out (X : Cx) (s0 : Shared) (H0 : Hp) (sc : Scope) (C : Addr) (code : Value) (fp : List Addr) (pin : Addr × Obj) (sb : Bool) (Q : VK) : Protocol := fun n s₀ v s kap =>
  ∃ (b : Bool) (σ1 : L2.St) (H1 : Hp), v = .bool b ∧ Inv (gcx X s0 H0 sc C code fp) [pin] σ1 H1 s ∧ (b = sb → Q (.bl sb) H1) ∧
    (b ≠ sb → ∀ s'', s''.heap = s.heap → s''.os = s.os → AllBare s''.gens → kap (.send .none) s'')
/-- it has come to its end -/
def Over (X : Cx) (s0 : Shared) (H0 : Hp) (sc : Scope) (C : Addr) (code : Value) (fp : List Addr) (pin : Addr × Obj) (sb : Bool) (Q : VK) (n : Nat) (s₀ s : Shared) : Prop :=
  ∃ (σ1 : L2.St) (H1 : Hp), Inv (gcx X s0 H0 sc C code fp) [pin] σ1 H1 s ∧ Q (.bl (!sb)) H1

section
variable {s0 : Shared} {H0 : Hp} {sc : Scope} {C : Addr} {code : Value} {fp : List Addr} {tg elt iter : Expr} {g : TG} {te : TE} {J : It} {it : Addr} {tn : Nat → Heap → Prop} {vs : List Nat} {σ0 : L2.St} {sb : Bool} {W : Nat → Nat → Hp → Prop} {Q : VK}
  {pin : Addr × Obj} {pos : Pos}

theorem ahead_like {i n : Nat} {s s' : Shared} (h : Ahead X s0 H0 sc C code fp tn σ0 W pin i n s) (hh : s'.heap = s.heap) (ho : s'.os = s.os) (hg : AllBare s'.gens) : Ahead X s0 H0 sc C code fp tn σ0 W pin i n s' := by
  obtain ⟨H, m, I, st, n, le, w⟩ := h
  exact ⟨H, m, inv_like I hh ho hg, by rw [hh]; exact st, n, le, w⟩

abbrev LoopC (X : Cx) (elt tg iter : Expr) (sc : Scope) (pos : Pos) (it C : Addr) (code : Value) : Code := .compLoop (.GeneratorExp elt [⟨tg, iter, [], 0⟩] sc pos) 0 (.ref it) .none (genv X sc C code)
abbrev SegX (X : Cx) (s0 : Shared) (H0 : Hp) (sc : Scope) (C : Addr) (code : Value) (fp : List Addr) (pin : Addr × Obj) (sb : Bool) (Q : VK) (n : Nat) (s₀ : Shared) (c : Code) (t : Sem PySem.Fin) (s : Shared) : Prop :=
  Seg (model X.prog X.w) X.A.in1.in1 (fun n s₀ r s₁ => r = .ok .next ∧ Over X s0 H0 sc C code fp pin sb Q n s₀ s₁) (Out X s0 H0 sc C code fp pin sb Q) n s₀ c t [] s

theorem seg_turn (R : Run X s0 H0 sc C code fp tg elt g te J it tn vs σ0 sb W Q) (hp : pin.1 ∉ fp) (n i : Nat) (s₀ s : Shared) (h : Ahead X s0 H0 sc C code fp tn σ0 W pin i n s)
    (again : ∀ n' s'', n = n' + 1 → Ahead X s0 H0 sc C code fp tn σ0 W pin (i + 1) n' s'' → SegX X s0 H0 sc C code fp pin sb Q (n' + 1) s'' (LoopC X elt tg iter sc pos it C code) ((model X.prog X.w).den (LoopC X elt tg iter sc pos it C code)) s'') :
    SegX X s0 H0 sc C code fp pin sb Q (n + 1) s₀ (LoopC X elt tg iter sc pos it C code) ((model X.prog X.w).den (LoopC X elt tg iter sc pos it C code)) s := by
  have T := R.turns
  have eA : (X.A.in1.in1).over (LoopC X elt tg iter sc pos it C code) [] = (gcx X s0 H0 sc C code fp).A := over_loop_gx
  obtain ⟨H, m, I, st, nf, le, w⟩ := h
  have stat : ∀ {σ' : L2.St} {H' : Hp} {s' : Shared}, Inv (gcx X s0 H0 sc C code fp) [pin] σ' H' s' → (∀ b ∈ fp, H' b = none) → ∀ b ∈ fp, FpOk (gcx X s0 H0 sc C code fp) [pin] H' b := fun {σ' H' s'} I' hn b hb =>
    ⟨hn b hb, (I'.ok.exf b hb).1, I'.ok.exfs b hb, .inl hb, fun x c e => (I'.ok.exf b hb).2 x c e, fun p hp' => by
      have e : p = pin := by simpa using hp'
      rw [e]
      exact fun z => hp (z ▸ hb)⟩
  show Seg _ _ _ _ _ _ _ ((compTurn (.GeneratorExp elt [⟨tg, iter, [], 0⟩] sc pos) 0 (.ref it) .none (genv X sc C code)).onRaise (leaving (genv X sc C code))) _ _
  rw [compTurn_gen, Sem.onRaise_eq_wrap]
  refine seg_bind_wrap (wpAny_standAt ?_)
  rcases R.step i m H w with ⟨stop, q⟩ | ⟨go, Nx, hNx, turn⟩
  · refine seg_bind_wrap ?_
    rw [eA]
    refine wpAny_mono (T.done (gcx X s0 H0 sc C code fp) rfl rfl rfl rfl i [pin] s σ0 H (fun _ _ => False) I (stat I nf) st stop) (fun r s1 h1 => ?_) fun e s z => z.elim
    obtain ⟨hr, I1⟩ := h1
    subst hr
    exact seg_end (.ok .next) ⟨rfl, σ0, H, I1, q⟩
  · refine seg_bind_wrap ?_
    rw [eA]
    refine wpAny_mono (T.item (gcx X s0 H0 sc C code fp) rfl rfl rfl rfl i [pin] s σ0 H (fun _ _ => False) I (stat I nf) st go) (fun r s1 h1 => ?_) fun e s z => z.elim
    obtain ⟨u, hr, h1⟩ := h1
    subst hr
    refine seg_bind_wrap ?_
    rw [eA]
    refine wpAny_mono h1 (fun _ s2 h2 => ?_) fun e s z => z.elim
    obtain ⟨x, H2, I2, r2, y2, st2, nf2⟩ := h2
    have I2' := I2.pinned (stat I2 nf2) (T.obj _ _ st2)
    refine seg_bind_wrap ?_
    rw [eA]
    refine wpAny_mono (R.target.run _ s2 σ0 H2 x u _ I2' r2 (turn x H2 y2)) (fun _ s3 h3 => ?_) fun e s z => z.elim
    obtain ⟨σ3, H3, I3, hw3, q3⟩ := h3
    refine seg_bind_wrap ?_
    rw [List.forIn_nil]
    refine wpAny_pure ?_
    simp only [if_true]
    have hy : ∀ v, yieldOut (genv X sc C code) v = yieldValue v := fun v => by
      have e : (genv X sc C code).scope.isCoroutine = false := R.nocor
      simp only [yieldOut, e, Bool.false_eq_true, if_false]
    simp only [hy]
    rw [Sem.bind_eq_wrap', Sem.bind_eq_wrap', Sem.wrap_wrap, Sem.wrap_wrap]
    refine seg_wrap ?_
    rw [eA]
    refine wpAny_mono (R.element.run _ s3 σ3 H3 _ I3 q3) (fun y s4 h4 => ?_) fun e s z => z.elim
    obtain ⟨yv, H4, I4, r4, b, ey, q4⟩ := h4
    subst ey
    have er : y = Value.bool b := r4
    subst er
    have pinK : ∀ b ∈ fp, ∀ o, s2.heap.get? b = some o → s4.heap.get? b = some o ∧ H4 b = none := fun b hb o e =>
      let z := I4.pin (b, o) (List.mem_append_right _ (List.mem_append_right _ (mem_pinsAt hb e)))
      ⟨z.1, z.2.1⟩
    have hl : σ0.length = σ3.length := by rw [← hw3, wipe_length]
    have I4' : Inv (gcx X s0 H0 sc C code fp) [pin] σ0 H4 s4 := (I4.unpinned (pins := [pin])).weak hl fun j v e => by
      rw [← hw3] at e
      exact (wipe_some e).1
    refine seg_at (seg_yield rfl rfl rfl ⟨b, σ0, H4, rfl, I4', fun e => ?_, fun ne s'' hh ho hg => ?_⟩)
    · rw [if_pos e] at q4
      exact q4
    · rw [if_neg ne] at q4
      obtain ⟨m', hm, w'⟩ := hNx H4 q4
      obtain ⟨n', rfl⟩ : ∃ n', n = n' + 1 := ⟨n - 1, by omega⟩
      refine seg_again rfl (again n' s'' rfl (ahead_like (s := s4) ⟨H4, m', I4', T.keep _ _ _ st2 fun b hb o e => (pinK b hb o e).1, fun b hb => ?_, by omega, w'⟩ hh ho hg))
      obtain ⟨o, e, _⟩ := T.obj _ _ st2 b hb
      exact (pinK b hb o e).2
theorem seg_turns (R : Run X s0 H0 sc C code fp tg elt g te J it tn vs σ0 sb W Q) (hp : pin.1 ∉ fp) : ∀ (n i : Nat) (s₀ s : Shared), Ahead X s0 H0 sc C code fp tn σ0 W pin i n s →
    SegX X s0 H0 sc C code fp pin sb Q (n + 1) s₀ (LoopC X elt tg iter sc pos it C code) ((model X.prog X.w).den (LoopC X elt tg iter sc pos it C code)) s := by
  intro n
  induction n with
  | zero => exact fun i s₀ s h => seg_turn R hp 0 i s₀ s h fun n' s'' e _ => by omega
  | succ n ih =>
    refine fun i s₀ s h => seg_turn R hp (n + 1) i s₀ s h fun n' s'' e h' => ?_
    have e' : n' = n := by omega
    rw [e'] at h' ⊢
    exact ih (i + 1) s'' s'' h'
abbrev StartC (X : Cx) (elt tg iter : Expr) (sc : Scope) (pos : Pos) (it C : Addr) (code : Value) : Code := .compStart (.GeneratorExp elt [⟨tg, iter, [], 0⟩] sc pos) 0 (.ref it) .none (genv X sc C code)
theorem seg_begin (R : Run X s0 H0 sc C code fp tg elt g te J it tn vs σ0 sb W Q) (hp : pin.1 ∉ fp) (n : Nat) (s₀ s : Shared) (h : Ahead X s0 H0 sc C code fp tn σ0 W pin 0 n s) :
    SegX X s0 H0 sc C code fp pin sb Q (n + 1) s₀ (StartC X elt tg iter sc pos it C code) ((model X.prog X.w).den (StartC X elt tg iter sc pos it C code)) s := by
  have loop := seg_turns (iter := iter) (pos := pos) R hp n 0 s₀ s h
  obtain ⟨H, m, I, st, _⟩ := h
  show Seg _ _ _ _ _ _ _ ((compStart (.GeneratorExp elt [⟨tg, iter, [], 0⟩] sc pos) 0 (.ref it) .none (genv X sc C code)).onRaise (leaving (genv X sc C code))) _ _
  unfold compStart
  rw [Sem.onRaise_eq_wrap]
  show Seg _ _ _ _ _ _ _ ((ask >>= _).wrap _ _ _ _) _ _
  refine seg_bind_wrap (wpAny_askSetting ?_)
  split
  · exact seg_again rfl loop
  · refine seg_bind_wrap (wpAny_rule ?_)
    show Seg _ _ _ _ _ _ _ ((standAt iter.pos >>= _).wrap _ _ _ _) _ _
    refine seg_bind_wrap (wpAny_standAt (seg_bind_wrap ?_))
    exact R.turns.self _ 0 s _ _ st (seg_again rfl loop)
end
end
end Gx

namespace Gx
open PySem PySem.Spec PyProof.Rows L2 GxR GenW
section
variable {X : Cx} {s0 : Shared} {H0 : Hp} {sc : Scope} {C : Addr} {code : Value} {fp : List Addr} {sb : Bool} {Q : VK} {a : Addr} {go : Obj} {gi : Nat}

abbrev EndX (X : Cx) (s0 : Shared) (H0 : Hp) (sc : Scope) (C : Addr) (code : Value) (fp : List Addr) (pin : Addr × Obj) (sb : Bool) (Q : VK) : GenEnd := fun n s₀ r s₁ => r = .ok .next ∧ Over X s0 H0 sc C code fp pin sb Q n s₀ s₁
/-- the generator sleeps, n turns at most are ahead -/
def Awake (X : Cx) (s0 : Shared) (H0 : Hp) (sc : Scope) (C : Addr) (code : Value) (fp : List Addr) (sb : Bool) (Q : VK) (a : Addr) (go : Obj) (gi n : Nat) (s : Shared) : Prop :=
  (∃ σ1 H1, Inv (gcx X s0 H0 sc C code fp) [(a, go)] σ1 H1 s) ∧
  ∃ gs, s.gens[gi]? = some gs ∧ ∀ s'', s''.heap = s.heap → s''.os = s.os → AllBare s''.gens →
    gs.Goes (model X.prog X.w) X.A.in1.in1 (EndX X s0 H0 sc C code fp (a, go) sb Q) (Out X s0 H0 sc C code fp (a, go) sb Q) n (.send .none) s''
/-- what is wanted of the whole -/
def Fin' (X : Cx) (s0 : Shared) (H0 : Hp) (sc : Scope) (C : Addr) (code : Value) (fp : List Addr) (Q : VK) (a : Addr) (go : Obj) (R : Result → Shared → Prop) : Prop :=
  ∀ b σ1 H1 s1, Inv (gcx X s0 H0 sc C code fp) [(a, go)] σ1 H1 s1 → Q (.bl b) H1 → ∀ s', s'.os = s1.os → AllBare s'.gens → (∀ b o, s1.heap.get? b = some o → s'.heap.get? b = some o) → R (.ok (.ret (.bool b))) s'

theorem pin_at {σ1 : L2.St} {H1 : Hp} {s : Shared} (I : Inv (gcx X s0 H0 sc C code fp) [(a, go)] σ1 H1 s) : s.heap.get? a = some go := (I.pin (a, go) (by simp)).1

/-- one next( ) of it: a truth, or the end -/
theorem next_truth (hh : X.A.handled = none) (hd : X.A.depth < recursionLimit) (hgo : ∀ h : Heap, h.get? a = some go → h.IsGen a gi) {n : Nat} {s : Shared} (h : Awake X s0 H0 sc C code fp sb Q a go gi n s) {P : Option Value → Shared → Prop} {E : Value → Shared → Prop}
    (stop : ∀ σ1 H1 s1 s2, Inv (gcx X s0 H0 sc C code fp) [(a, go)] σ1 H1 s1 → Q (.bl sb) H1 → s2.os = s1.os → AllBare s2.gens → s2.heap = s1.heap → P (some (.bool sb)) s2)
    (more : ∀ n' s2, n = n' + 1 → Awake X s0 H0 sc C code fp sb Q a go gi n' s2 → P (some (.bool (!sb))) s2)
    (done : ∀ σ1 H1 s1 s2, Inv (gcx X s0 H0 sc C code fp) [(a, go)] σ1 H1 s1 → Q (.bl (!sb)) H1 → s2.os = s1.os → AllBare s2.gens → (∀ b o, s1.heap.get? b = some o → s2.heap.get? b = some o) → P none s2) :
    wpAny (model X.prog X.w) X.A.in1 (pyNext (.ref a)) P E s := by
  obtain ⟨⟨σ1, H1, I⟩, gs, hgs, goes⟩ := h
  have hlt : gi < s.gens.size := (Array.getElem?_eq_some_iff.mp hgs).1
  have hrun : AllBare (s.setGen gi .running).gens := allBare_setGen I.bare rfl
  refine wpAny_gsz (n := gi + 1) hlt (wpAny_pyNext_genexpQ (A := X.A.in1) (P := Over X s0 H0 sc C code fp (a, go) sb Q) hh I.nolimit hd (hgo _ (pin_at I)) hgs (goes _ rfl rfl hrun) (fun v s1 gs' hb hv => ?_) fun s1 hp h' hk => ?_)
  · intro hsz
    obtain ⟨b, σ2, H2, ev, I2, hst, hmore⟩ := hv
    subst ev
    have hb2 : AllBare (s1.setGen gi gs').gens := allBare_setGen I2.bare hb
    by_cases e : b = sb
    · rw [e]
      exact stop σ2 H2 s1 _ I2 (hst e) rfl hb2 rfl
    · have e2 : b = !sb := by cases b <;> cases sb <;> simp_all
      have q := hmore e
      cases n with
      | zero => exact (q s1 rfl rfl I2.bare).elim
      | succ n' =>
        rw [e2]
        have hlt2 : gi < s1.gens.size := by
          have z : (s1.setGen gi gs').gens.size = s1.gens.size := setGen_size _ _ _
          omega
        refine more n' _ rfl ⟨⟨σ2, H2, inv_like I2 rfl rfl hb2⟩, gs', setGen_at hlt2, fun s'' h1 h2 h3 => q s'' h1 h2 h3⟩
  · intro hsz
    obtain ⟨σ2, H2, I2, q⟩ := hp
    exact done σ2 H2 s1 _ I2 q rfl (allBare_setGen I2.bare rfl) hk

theorem all_turns (hh : X.A.handled = none) (hd : X.A.depth < recursionLimit) (hgo : ∀ h : Heap, h.get? a = some go → h.IsGen a gi) {R : Result → Shared → Prop} (fin : Fin' X s0 H0 sc C code fp Q a go R) :
    ∀ (n : Nat) (s : Shared), Awake X s0 H0 sc C code fp false Q a go gi n s → codeAny (model X.prog X.w) X.A (.builtin "all.loop" ⟨[.ref a], []⟩) R s := by
  intro n
  induction n with
  | zero =>
    intro s h
    refine codeAny_builtin F.entry_all_loop ?_
    rw [Around.under_plainId F.plain_all_loop _]
    show wpAny _ X.A.in1 (pyNext (.ref a) >>= _) _ _ s
    refine wpAny_bind (next_truth hh hd hgo h (fun σ1 H1 s1 s2 I q e1 e2 e3 => ?_) (fun n' s2 e _ => by omega) fun σ1 H1 s1 s2 I q e1 e2 e3 => ?_)
    · refine wpAny_bind (wpAny_holding (wpAny_truthy_bool ?_))
      refine wpAny_bind (wpAny_letGo ?_)
      simp only [Bool.false_eq_true, if_false]
      exact wpAny_bind (wpAny_rule (wpAny_pure (fin false σ1 H1 s1 I q s2 e1 e2 fun b o e => by rw [e3]; exact e)))
    · exact wpAny_bind (wpAny_rule (wpAny_pure (fin true σ1 H1 s1 I q s2 e1 e2 e3)))
  | succ n ih =>
    intro s h
    refine codeAny_builtin F.entry_all_loop ?_
    rw [Around.under_plainId F.plain_all_loop _]
    show wpAny _ X.A.in1 (pyNext (.ref a) >>= _) _ _ s
    refine wpAny_bind (next_truth hh hd hgo h (fun σ1 H1 s1 s2 I q e1 e2 e3 => ?_) (fun n' s2 e h2 => ?_) fun σ1 H1 s1 s2 I q e1 e2 e3 => ?_)
    · refine wpAny_bind (wpAny_holding (wpAny_truthy_bool ?_))
      refine wpAny_bind (wpAny_letGo ?_)
      simp only [Bool.false_eq_true, if_false]
      exact wpAny_bind (wpAny_rule (wpAny_pure (fin false σ1 H1 s1 I q s2 e1 e2 fun b o e => by rw [e3]; exact e)))
    · refine wpAny_bind (wpAny_holding (wpAny_truthy_bool ?_))
      refine wpAny_bind (wpAny_letGo ?_)
      simp only [Bool.not_false, if_true]
      have en : n' = n := by omega
      rw [en] at h2
      exact wpAny_pure ⟨plainId_quiet F.plain_all_loop _, ih s2 h2⟩
    · exact wpAny_bind (wpAny_rule (wpAny_pure (fin true σ1 H1 s1 I q s2 e1 e2 e3)))
theorem any_turns (hh : X.A.handled = none) (hd : X.A.depth < recursionLimit) (hgo : ∀ h : Heap, h.get? a = some go → h.IsGen a gi) {R : Result → Shared → Prop} (fin : Fin' X s0 H0 sc C code fp Q a go R) :
    ∀ (n : Nat) (s : Shared), Awake X s0 H0 sc C code fp true Q a go gi n s → codeAny (model X.prog X.w) X.A (.builtin "any.loop" ⟨[.ref a], []⟩) R s := by
  intro n
  induction n with
  | zero =>
    intro s h
    refine codeAny_builtin F.entry_any_loop ?_
    rw [Around.under_plainId F.plain_any_loop _]
    show wpAny _ X.A.in1 (pyNext (.ref a) >>= _) _ _ s
    refine wpAny_bind (next_truth hh hd hgo h (fun σ1 H1 s1 s2 I q e1 e2 e3 => ?_) (fun n' s2 e _ => by omega) fun σ1 H1 s1 s2 I q e1 e2 e3 => ?_)
    · refine wpAny_bind (wpAny_holding (wpAny_truthy_bool ?_))
      refine wpAny_bind (wpAny_letGo ?_)
      simp only [if_true]
      exact wpAny_bind (wpAny_rule (wpAny_pure (fin true σ1 H1 s1 I q s2 e1 e2 fun b o e => by rw [e3]; exact e)))
    · exact wpAny_bind (wpAny_rule (wpAny_pure (fin false σ1 H1 s1 I q s2 e1 e2 e3)))
  | succ n ih =>
    intro s h
    refine codeAny_builtin F.entry_any_loop ?_
    rw [Around.under_plainId F.plain_any_loop _]
    show wpAny _ X.A.in1 (pyNext (.ref a) >>= _) _ _ s
    refine wpAny_bind (next_truth hh hd hgo h (fun σ1 H1 s1 s2 I q e1 e2 e3 => ?_) (fun n' s2 e h2 => ?_) fun σ1 H1 s1 s2 I q e1 e2 e3 => ?_)
    · refine wpAny_bind (wpAny_holding (wpAny_truthy_bool ?_))
      refine wpAny_bind (wpAny_letGo ?_)
      simp only [if_true]
      exact wpAny_bind (wpAny_rule (wpAny_pure (fin true σ1 H1 s1 I q s2 e1 e2 fun b o e => by rw [e3]; exact e)))
    · refine wpAny_bind (wpAny_holding (wpAny_truthy_bool ?_))
      refine wpAny_bind (wpAny_letGo ?_)
      simp only [Bool.not_true, Bool.false_eq_true, if_false]
      have en : n' = n := by omega
      rw [en] at h2
      exact wpAny_pure ⟨plainId_quiet F.plain_any_loop _, ih s2 h2⟩
    · exact wpAny_bind (wpAny_rule (wpAny_pure (fin false σ1 H1 s1 I q s2 e1 e2 e3)))
end
end Gx

namespace Gx
open PySem PySem.Spec PyProof.Rows L2 GxR GenW
section
variable {X : Cx} {pins : List (Addr × Obj)} {σ : L2.St} {H : Hp} {s : Shared}

/-- what stands once the generator has been made, ahead of its first turn -/
structure Made (X : Cx) (pins : List (Addr × Obj)) (σ : L2.St) (P : Addr) (elt tg iter : Expr) (sc : Scope) (pos : Pos) (vs : List Nat) (J : It) (H1 H2 : Hp) (it : Addr) (fp : List Addr) (tn : Nat → Heap → Prop) (s0 : Shared) (C : Addr) (code : Value) (a : Addr) (go : Obj) (gi : Nat) (s5 : Shared) : Prop where
  tab : Tabbed P H1 H2
  turns : Turn X.prog X.w X.K tg J fp it tn
  st : tn 0 s5.heap
  i0 : Inv X pins σ H2 s0
  fpo : ∀ b ∈ fp, FpOk X pins H2 b ∧ b < s0.heap.objs.size
  i5 : Inv (gcx X s0 H2 sc C code fp) [(a, go)] (wipe σ vs) H2 s5
  apart : a ∉ fp
  gens : s5.gens[gi]? = some (.fresh (StartC X elt tg iter sc pos it C code))
  isgen : ∀ h : Heap, h.get? a = some go → h.IsGen a gi

theorem gen_made {c P : Addr} {elt tg iter : Expr} {gpos : Pos} {sc : Scope} {own : List (Str × Nat)} {wi : TI} {k : Nat} {Q' : Value → Shared → Prop} {R : It → Hp → Prop}
    (hr : Room k X.A) (TB : TabB X.base X.mg c P) (hcode : X.env.code = .ref c) (ok : BlkOk X.N X.env.scope sc own) (hN : X.N.Nodup) (hcell : ∀ y ∈ sc.names, y.2 ≠ .cell) (hdot : sc.names.lookup (".0" : Str) = some NameKind.local)
    (hco : sc.isCoroutine = false) (hi : PI X tg iter wi) (hs : ∀ v, genFold iter X.env v = pure v) (I : Inv X pins σ H s) (h : wi σ H fun J H1 => TabG H1 P ∧ R J H1)
    (hQ : ∀ J H1 H2 it fp tn s0 C code a go gi s5, R J H1 → Made X pins σ P elt tg iter sc gpos (own.map (·.2)) J H1 H2 it fp tn s0 C code a go gi s5 → Q' (.ref a) s5) :
    wpAny (model X.prog X.w) X.A (eval (.GeneratorExp elt [⟨tg, iter, [], 0⟩] sc gpos) X.env) Q' X.xe s := by
  have hf : ∀ z ∈ sc.names, z.2 = .free → ∃ c, X.env.cells.lookup z.1 = some c := fun z hz e => by
    rcases ok.free z hz e with k | k
    · exact I.ok.has _ (.inl k)
    · exact I.ok.has _ (.inr k)
  refine wpAny_GeneratorExp_make hco (closure_ok hf) hcell hdot ok.kind (by have := hr.dp; omega) ?_ hs
  refine thn (hi.run pins s σ H _ I h) fun xv s1 h1 => thn h1 fun itv s2 h2 => ?_
  obtain ⟨it, fp, tn, J, H1, e, I1, T, st, f1, ⟨ps, hP, htr⟩, q⟩ := h2
  subst e
  refine ⟨I1.nolimit, ?_⟩
  have hPs : s2.heap.get? P = some { cls := .none, data := .fields ps } := I1.hok P _ hP
  have cd : PySem.W.CodeHd s2.heap c P := TB.code.keeps I1.bk
  -- behind the making of the code object
  have cont : ∀ (cv : Value) (h3 : Heap) (tk : Nat) (more : Array Value), (∀ b o, b ≠ P → s2.heap.get? b = some o → h3.get? b = some o) → h3.get? P = some { cls := .none, data := .fields (ps ++ more) } → TriplesOk (ps ++ more).toList →
      wpAny (model X.prog X.w) X.A (builtinsFor X.env.globals X.env.builtins) (fun bi s4 => ∀ h', h'.Ns s4.heap.objs.size (fun y => if y = ".0" then some (.ref it) else none) → Heap.SameBut s4.heap.objs.size (s4.heap.push { cls := .type "frame", data := .dict #[] }) h' →
        Q' (.ref h'.objs.size) { s4 with
          gens := s4.gens.push (.fresh (.compStart (.GeneratorExp elt [⟨tg, iter, [], 0⟩] sc gpos) 0 (.ref it) .none (genEnv sc (cloFrom X.env.cells sc.names []) s4.heap.objs.size cv bi X.env))),
          toks := s4.toks + 1 + 1 + 1,
          heap := h'.push { cls := .type "generator", data := .fields #[.int s4.gens.size 0, .str "<genexpr>" (s4.toks + 1), .str (X.env.qual ++ "<genexpr>") (s4.toks + 1 + 1)] } }) X.xe { s2 with heap := h3, toks := tk } := by
    intro cv h3 tk more k3 hP3 ht3
    have I3 : Inv X pins σ (upd H1 P (.tbl (ps ++ more))) { s2 with heap := h3, toks := tk } := inv_tab (g' := s2.gens) (d' := s2.drawn) (t' := tk) I1 hP k3 hP3 I1.bare
    have tbd : Tabbed P H1 (upd H1 P (.tbl (ps ++ more))) := ⟨⟨ps ++ more, upd_same, ht3⟩, fun b hb => upd_ne hb⟩
    obtain ⟨bm, ob, e1, e2, e3, e4, e5, e6, e7, e8⟩ := TB.bm
    have gNs := I3.mod.glob.keeps I3.bk
    refine wpAny_builtinsFor (m := X.mg) (by rw [I3.ok.glob]; exact gNs) e1 e2 (I3.bk _ _ e5) e6 e7 e8 ?_
    intro h' hns' hsb
    generalize hH2 : upd H1 P (.tbl (ps ++ more)) = H2 at I3 tbd
    have n2 : ∀ b, H1 b = none → H2 b = none := fun b e => by
      have hne : b ≠ P := fun z => by rw [z, hP] at e; cases e
      rw [tbd.2 b hne]
      exact e
    have f3 : ∀ b ∈ fp, FpOk X pins H2 b ∧ b < h3.objs.size := fun b hb => by
      have hne : b ≠ P := fun z => by
        have := (f1 b hb).1
        rw [z, hP] at this
        cases this
      obtain ⟨o, e, _⟩ := T.obj _ _ st b hb
      exact ⟨⟨n2 b (f1 b hb).1, (f1 b hb).2⟩, Heap.lt_size (k3 b o hne e)⟩
    have hsz : h'.objs.size = h3.objs.size + 1 := by
      have z := hsb.1
      rw [Heap.size_push] at z
      exact z
    have kp : ∀ b o, h3.get? b = some o → h'.get? b = some o := fun b o e => hsb.extBut b o (Nat.ne_of_lt (Heap.lt_size e)) (Heap.get?_push_of_some _ e)
    generalize hgo : ({ cls := .type "generator", data := .fields #[.int s2.gens.size 0, .str "<genexpr>" (tk + 1), .str (X.env.qual ++ "<genexpr>") (tk + 1 + 1)] } : Obj) = go
    have ggo : (h'.push go).get? h'.objs.size = some go := Heap.get?_push_size _ (by rw [← hgo]; rfl)
    have kp5 : ∀ b o, h3.get? b = some o → (h'.push go).get? b = some o := fun b o e => Heap.get?_push_of_some _ (kp b o e)
    have bg : AllBare (s2.gens.push (.fresh (.compStart (.GeneratorExp elt [⟨tg, iter, [], 0⟩] sc gpos) 0 (.ref it) .none (genv X sc h3.objs.size cv)))) := I1.bare.push rfl
    have I5 := gx_start (C := h3.objs.size) (code := cv) (d' := s2.drawn) (t' := tk + 1 + 1 + 1) (h' := h'.push go) (s := { s2 with heap := h3, toks := tk }) I3 hr.hd ok hN hcell f3 rfl ⟨_, hns'.push _⟩ kp5 bg
    have na : h3.objs.size ≤ h'.objs.size := by rw [hsz]; exact Nat.le_succ _
    have I5' := I5.pins_of (pins' := [(h'.objs.size, go)]) fun p hp => by
      have ep : p = (h'.objs.size, go) := by simpa using hp
      subst ep
      refine ⟨ggo, I3.hok.fresh na, ?_, fun z => ?_, fun v z => ?_⟩
      · show h'.objs.size ≠ h3.objs.size
        rw [hsz]
        exact Nat.succ_ne_self _
      · rcases List.mem_cons.mp (I3.stkSub _ z) with y | y
        · have l : X.env.locals < h3.objs.size := I3.lt
          rw [← show h'.objs.size = X.env.locals from y] at l
          exact Nat.lt_irrefl _ (Nat.lt_of_lt_of_le l na)
        · exact I3.nofs (a := h'.objs.size) na y
      · rw [← hgo] at z
        cases z
    refine hQ J H1 H2 it fp tn { s2 with heap := h3, toks := tk } h3.objs.size cv h'.objs.size go s2.gens.size _ q ⟨tbd, T, ?_, I3, f3, I5', fun z => ?_, Array.getElem?_push_size .., fun h e => ⟨go, _, _, e, by rw [← hgo], by rw [← hgo], by rw [← hgo]⟩⟩
    · refine T.keep _ _ _ st fun b hb o e => kp5 b o (k3 b o (fun z => ?_) e)
      have := (f1 b hb).1
      rw [z, hP] at this
      cases this
    · exact Nat.lt_irrefl _ (Nat.lt_of_lt_of_le (f3 _ z).2 na)
  cases hf2 : codeAmong gpos ps.toList with
  | none =>
    refine wpAny_genexprCodeX hcode (cd.code hPs htr) (cd.tab hPs) hf2 fun c' h' tk hx hge hlt hco' _ htab' _ => ?_
    obtain ⟨o1, us, f1', tf, fl, tg', inF, tx, tt, op, _, _, _, _, _, _, _, _, _, htr', _⟩ := hco'
    exact cont _ h' tk _ (fun b o hb e => hx b o hb e) htab'.2 htr'
  | some cv =>
    refine wpAny_genexprCode_hit hcode (cd.code hPs htr) hf2 ?_
    exact cont cv s2.heap s2.toks #[] (fun b o _ e => e) (by rw [Array.append_empty]; exact hPs) (by rw [Array.append_empty]; exact htr)

/-- all( ), any( ) of a generator expression: sb is the truth at which it stops -/
def rTruth (P : Addr) (sb : Bool) (g : TG) (te : TE) (vs : List Nat) (σ : L2.St) (Q : VK) (J : It) (H1 : Hp) : Prop := ∀ H2, Tabbed P H1 H2 → ∃ W : Nat → Nat → Hp → Prop, (∃ m, W 0 m H2) ∧
  ∀ i m H, W i m H → (J.stop i H ∧ Q (.bl (!sb)) H) ∨ (J.go i H ∧ ∃ Nx : Hp → Prop, (∀ H', Nx H' → ∃ m', m' < m ∧ W (i + 1) m' H') ∧
    ∀ x H', J.yld i H x H' → g x (wipe σ vs) H' fun σ2 H2 => wipe σ2 vs = wipe σ vs ∧ te σ2 H2 fun y H4 => ∃ b, y = .bl b ∧ if b = sb then Q (.bl sb) H4 else Nx H4)
def tTruthG (P : Addr) (sb : Bool) (wi : TI) (g : TG) (te : TE) (vs : List Nat) : TE := fun σ H Q => wi σ H fun J H1 => TabG H1 P ∧ rTruth P sb g te vs σ Q J H1
/-- how a run of it is told -/
def Told (X : Cx) (pins : List (Addr × Obj)) (σ : L2.St) (sc : Scope) (sb : Bool) (Q : VK) (a : Addr) (s5 : Shared) : Prop :=
  ∀ R : Result → Shared → Prop, (∀ b s', EP X pins σ Q (.bool b) s' → R (.ok (.ret (.bool b))) s') → ∃ s0 H0 C code fp go gi n, Awake X s0 H0 sc C code fp sb Q a go gi n s5 ∧ (∀ h : Heap, h.get? a = some go → h.IsGen a gi) ∧ Fin' X s0 H0 sc C code fp Q a go R
/-- what the generator expression must have; the two names of it that are the program's -/
structure GxOk (X : Cx) (sc : Scope) (own : List (Str × Nat)) (c P : Addr) : Prop where
  tb : TabB X.base X.mg c P
  code : X.env.code = .ref c
  blk : BlkOk X.N X.env.scope sc own
  nd : X.N.Nodup
  nocell : ∀ y ∈ sc.names, y.2 ≠ .cell
  dot : sc.names.lookup (".0" : Str) = some NameKind.local
  nocor : sc.isCoroutine = false

section
variable {c P : Addr} {elt tg iter : Expr} {gpos p pos : Pos} {sc : Scope} {own : List (Str × Nat)} {wi : TI} {g : TG} {te : TE} {k : Nat}
theorem truth_core {sb : Bool} {Q : VK} (hr : Room k X.A) (G : GxOk X sc own c P) (hi : PI X tg iter wi) (hs : ∀ v, genFold iter X.env v = pure v)
    (hg : ∀ (s : Shared) (H : Hp) (C : Addr) (code : Value) (fp : List Addr), PG (gcx X s H sc C code fp) tg g) (he : ∀ (s : Shared) (H : Hp) (C : Addr) (code : Value) (fp : List Addr), PE (gcx X s H sc C code fp) elt te)
    (I : Inv X pins σ H s) (h : tTruthG P sb wi g te (own.map (·.2)) σ H Q) {Q' : Value → Shared → Prop}
    (hQ : ∀ a s5, s5.heap.NoLimit → (∃ gi, s5.heap.IsGen a gi) →
      Told X pins σ sc sb Q a s5 → Q' (.ref a) s5) :
    wpAny (model X.prog X.w) X.A (eval (.GeneratorExp elt [⟨tg, iter, [], 0⟩] sc gpos) X.env) Q' X.xe s := by
  have h' : wi σ H fun J H1 => TabG H1 P ∧ rTruth P sb g te (own.map (·.2)) σ Q J H1 := h
  refine gen_made (own := own)
    hr G.tb G.code G.blk G.nd G.nocell G.dot G.nocor hi hs I h' fun J H1 H2 it fp tn s0 C code a go gi s5 hR M => ?_
  obtain ⟨W, ⟨m, w0⟩, step⟩ := hR H2 M.tab
  have I5 := M.i5
  have n2 : ∀ b ∈ fp, H2 b = none := fun b hb => (M.fpo b hb).1.1
  have RR : Run X s0 H2 sc C code fp tg elt g te J it tn (own.map (·.2)) (wipe σ (own.map (·.2))) sb W Q := ⟨M.turns, hg _ _ _ _ _, he _ _ _ _ _, G.nocor, step⟩
  refine hQ a s5 I5.nolimit ⟨gi, M.isgen _ (pin_at I5)⟩ fun R hRR => ⟨s0, H2, C, code, fp, go, gi, m + 1, ⟨⟨_, _, I5⟩, _, M.gens, fun s'' e1 e2 e3 => ⟨rfl, seg_begin RR M.apart m s'' s'' (ahead_like ⟨H2, m, I5, M.st, n2, Nat.le_refl _, w0⟩ e1 e2 e3)⟩⟩, M.isgen, ?_⟩
  intro b σ1 H3 s1 I1 q s' ho hgs hk
  refine hRR b s' ⟨.bl b, H3, ?_, rfl, q⟩
  have un := I1.base.trans (Un.kept hk)
  exact M.i0.call' (ch := fp) (ho.trans I1.os) un (I1.hok.kept hk) hgs fun b hb => ⟨(M.fpo b hb).1.2.2.2.1, (M.fpo b hb).1.2.1, (M.fpo b hb).1.2.2.2.2.1, (M.fpo b hb).1.2.2.2.2.2⟩

theorem told_all {Q : VK} {a : Addr} {s5 : Shared} {R : Result → Shared → Prop} (hr : Room k X.A) (h : Told X pins σ sc false Q a s5) (hR : ∀ b s', EP X pins σ Q (.bool b) s' → R (.ok (.ret (.bool b))) s') :
    codeAny (model X.prog X.w) X.A (.builtin "all.loop" ⟨[.ref a], []⟩) R s5 := by
  obtain ⟨s0, H0, C, code, fp, go, gi, n, aw, hgo, fin⟩ := h R hR
  exact all_turns hr.hd (by have := hr.dp; omega) hgo fin n s5 aw
theorem told_any {Q : VK} {a : Addr} {s5 : Shared} {R : Result → Shared → Prop} (hr : Room k X.A) (h : Told X pins σ sc true Q a s5) (hR : ∀ b s', EP X pins σ Q (.bool b) s' → R (.ok (.ret (.bool b))) s') :
    codeAny (model X.prog X.w) X.A (.builtin "any.loop" ⟨[.ref a], []⟩) R s5 := by
  obtain ⟨s0, H0, C, code, fp, go, gi, n, aw, hgo, fin⟩ := h R hR
  exact any_turns hr.hd (by have := hr.dp; omega) hgo fin n s5 aw
theorem pe_allG (hr : Room k X.A) (G : GxOk X sc own c P) (hga : Gl X "all") (hma : X.mg "all" = none) (hb : bootBuiltins "all" = some (.builtin "all")) (hi : PI X tg iter wi)
    (hg : ∀ (s : Shared) (H : Hp) (C : Addr) (code : Value) (fp : List Addr), PG (gcx X s H sc C code fp) tg g) (he : ∀ (s : Shared) (H : Hp) (C : Addr) (code : Value) (fp : List Addr), PE (gcx X s H sc C code fp) elt te)
    (hs : ∀ v, genFold iter X.env v = pure v := by intro _; rfl)
    (hst : starEach [.GeneratorExp elt [⟨tg, iter, [], 0⟩] sc gpos] X.env = (false, eval (.GeneratorExp elt [⟨tg, iter, [], 0⟩] sc gpos) X.env) :: starEach [] X.env := by rfl) :
    PE X (.Call (.Name "all" p) [.GeneratorExp elt [⟨tg, iter, [], 0⟩] sc gpos] [] pos) (tTruthG P false wi g te (own.map (·.2))) := by
  refine ⟨fun pins s σ H Q I h => ?_⟩
  refine wpAny_Call_Name_kw (ld_blt I hga hma hb ?_)
  refine PyProof.Rows.callWith_builtin1 ?_ hst (by rfl)
  rw [hst]
  show wpAny _ _ (spliced ((false, eval (.GeneratorExp elt [⟨tg, iter, [], 0⟩] sc gpos) X.env) :: backTo pos (starEach [] X.env))) _ _ s
  refine Calls.spliced_cons (truth_core hr G hi hs hg he I h fun a s5 hl hgn hall => ?_)
  refine Calls.spliced_nil ?_
  refine call_function_tree F.kind_all F.plain_all F.entry_all (F.args_all1 _) ?_
  unfold Builtin.«all»
  refine wpAny_bind (m := oneArg "all" _) (wpAny_pure ?_)
  obtain ⟨gi, hgn⟩ := hgn
  refine wpAny_bind (wpAny_pyIter_gen hgn ?_)
  exact wpAny_pure ⟨plainId_quiet F.plain_all_loop _, told_all hr hall fun b s' h => h⟩
theorem pe_anyG (hr : Room k X.A) (G : GxOk X sc own c P) (hga : Gl X "any") (hma : X.mg "any" = none) (hb : bootBuiltins "any" = some (.builtin "any")) (hi : PI X tg iter wi)
    (hg : ∀ (s : Shared) (H : Hp) (C : Addr) (code : Value) (fp : List Addr), PG (gcx X s H sc C code fp) tg g) (he : ∀ (s : Shared) (H : Hp) (C : Addr) (code : Value) (fp : List Addr), PE (gcx X s H sc C code fp) elt te)
    (hs : ∀ v, genFold iter X.env v = pure v := by intro _; rfl)
    (hst : starEach [.GeneratorExp elt [⟨tg, iter, [], 0⟩] sc gpos] X.env = (false, eval (.GeneratorExp elt [⟨tg, iter, [], 0⟩] sc gpos) X.env) :: starEach [] X.env := by rfl) :
    PE X (.Call (.Name "any" p) [.GeneratorExp elt [⟨tg, iter, [], 0⟩] sc gpos] [] pos) (tTruthG P true wi g te (own.map (·.2))) := by
  refine ⟨fun pins s σ H Q I h => ?_⟩
  refine wpAny_Call_Name_kw (ld_blt I hga hma hb ?_)
  refine PyProof.Rows.callWith_builtin1 ?_ hst (by rfl)
  rw [hst]
  show wpAny _ _ (spliced ((false, eval (.GeneratorExp elt [⟨tg, iter, [], 0⟩] sc gpos) X.env) :: backTo pos (starEach [] X.env))) _ _ s
  refine Calls.spliced_cons (truth_core hr G hi hs hg he I h fun a s5 hl hgn hall => ?_)
  refine Calls.spliced_nil ?_
  refine call_function_tree F.kind_any F.plain_any F.entry_any (F.args_any1 _) ?_
  unfold Builtin.«any»
  refine wpAny_bind (m := oneArg "any" _) (wpAny_pure ?_)
  obtain ⟨gi, hgn⟩ := hgn
  refine wpAny_bind (wpAny_pyIter_gen hgn ?_)
  exact wpAny_pure ⟨plainId_quiet F.plain_any_loop _, told_any hr hall fun b s' h => h⟩
end
end
end Gx

/-! Defs whose callers run no repr; how they are called; repr and sorted of data; the end of a law. -/
namespace Gx
open PySem PySem.Spec PyProof.Rows L2 GxR GenW

/-- a def's promise where no repr is running around -/
structure FnG (P : Program) (w : World) (K : PySem.W.Frag) (mg : Str → Option Value) (base : Heap) (CX : CXT) (k : Nat) (f : Addr) (fd : FuncData) (ps : List Str) (sp : Sp) : Prop where
  many : ∀ vs H Q E, sp vs H Q E → vs.length = ps.length
  runs : ∀ (A : Around) (outer : List Env) (s : Shared) (H : Hp) (args : Args) (us : List Value) (vs : List V) (Q : VK) (E : XK), A.guards = some [] → Room k A →
    Env0 P w K mg base A outer s H → BindsTo s fd args (ps.zip us) → Vals vs us → sp vs H Q E → codeAny (model P w) A (.call (.ref f) args) (CR CX outer P w H s Q E) s
/-- a def of the text, with its code object's value -/
structure DefIs (K : PySem.W.Frag) (x qual : Str) (st : Stmt) (f : Addr) (fd : FuncData) (cdv : Value) : Prop where
  at_ : ∃ (oc : Value) (od : Option Addr) (kV doc pm : Value) (an : Option Addr) (ct : Value) (osl : Array (Option Value)),
    fd = PySem.W.fnOf x qual (defArgs st) (defBody st) (defScope st) .none kV doc pm an cdv ct ∧ K.lookup f = some ⟨oc, od, .func fd, osl⟩
  code : PySem.W.codeIn K cdv qual = true
  keep : PySem.W.keepIn K (.ref f) = true
theorem defIs_mk {K : PySem.W.Frag} {x qual : Str} {st : Stmt} {f : Addr} {oc : Value} {od an : Option Addr} {osl : Array (Option Value)} {kV doc pm cdv ct : Value}
    (l : K.lookup f = some ⟨oc, od, .func (PySem.W.fnOf x qual (defArgs st) (defBody st) (defScope st) .none kV doc pm an cdv ct), osl⟩) (c : PySem.W.codeIn K cdv qual = true) (kp : PySem.W.keepIn K (.ref f) = true) :
    DefIs K x qual st f (PySem.W.fnOf x qual (defArgs st) (defBody st) (defScope st) .none kV doc pm an cdv ct) cdv := ⟨⟨oc, od, kV, doc, pm, an, ct, osl, rfl, l⟩, c, kp⟩

section
variable {P : Program} {w : World} {K : PySem.W.Frag} {mg : Str → Option Value} {base : Heap} {CX : CXT}
theorem FnG.less {j k : Nat} {f : Addr} {fd : FuncData} {ps : List Str} {sp : Sp} (F : FnG P w K mg base CX j f fd ps sp) (h : j ≤ k) : FnG P w K mg base CX k f fd ps sp :=
  ⟨F.many, fun A outer s H args us vs Q E g r => F.runs A outer s H args us vs Q E g (r.mono h)⟩
/-- by its body -/
theorem DefIs.ok {x qual : Str} {st : Stmt} {f : Addr} {fd : FuncData} {cdv : Value} {N ps : List Str} {k : Nat} {sp : Sp} (D : DefIs K x qual st f fd cdv) (S : FnScope N ps (defScope st)) (len : ∀ vs H Q E, sp vs H Q E → vs.length = ps.length)
    (body : ∀ (A : Around) (outer : List Env) (s : Shared) (H : Hp) (vs : List V) (Q : VK) (E : XK), A.guards = some [] → Room k (A.deeper (envOfC qual (defScope st) s.heap.objs.size f cdv)) → sp vs H Q E →
      ∃ t, PSs (cxOf CX P w K mg base N qual (defScope st) f cdv A outer s H E) (defBody st) t ∧ t { nx := fun _ H' => Q .non H', rt := Q } (start N vs) H) : FnG P w K mg base CX (k + 1) f fd ps sp := by
  obtain ⟨oc, od, kV, doc, pm, an, ct, osl, rfl, lk⟩ := D.at_
  refine ⟨len, fun A outer s H args us vs Q E g hr e0 hb r hsp => ?_⟩
  have KX : K.In s.heap := e0.mod.kin.keeps fun b o e => (e0.bs b o e).1
  have inits : ∀ y ∈ ps.zip us, (defScope st).names.lookup y.1 = some .local ∨ ((defScope st).names.lookup y.1 = some .cell ∧ ((cellsFrom (s.heap.objs.size + 1) (defScope st).names []).lookup y.1).isSome = true) := by
    rintro ⟨n, v⟩ hy
    exact (S.par n (List.of_mem_zip hy).1).elim .inl fun q => .inr ⟨q, PySem.W.cellsFrom_some _ _ _ (.inl q)⟩
  refine codeAny_call_function hr.depth (KX _ _ lk) rfl S.co S.gen rfl (PySem.W.codeRec_of KX D.code) (hb _ _ _ _ (wpAny_newFunctionEnv_cells S.kind inits fun env he s1 x => ?_))
  subst he
  refine ⟨(e0.mod.nolimit.keeps fun b o e => (e0.bs b o e).1).keeps x.toInCall.keep, codeAny_func ?_⟩
  obtain ⟨t, ht, hq⟩ := body A outer s H vs Q E g (hr.deeper _) hsp
  refine wpAny_mono (ht.run [] s1 (start N vs) H _ (inv_start S hr.hd e0 (len _ _ _ _ hsp) r x) hq) (fun fl s' hs => ?_) fun e s' hs => hs
  cases fl with
  | ret u =>
    obtain ⟨v, σ', H', J, rv, q⟩ := hs
    exact ⟨v, H', J.os, J.bare, J.base, J.hok, rv, q⟩
  | next =>
    obtain ⟨σ', H', J, q⟩ := hs
    exact ⟨V.non, H', J.os, J.bare, J.base, J.hok, rfl, q⟩
  | brk => exact hs.elim fun _ z => z.elim fun _ y => False.elim y.2
  | cont => exact hs.elim fun _ z => z.elim fun _ y => False.elim y.2
/-- .. that nothing raised leaves -/
theorem DefIs.ok0 {x qual : Str} {st : Stmt} {f : Addr} {fd : FuncData} {cdv : Value} {N ps : List Str} {k : Nat} {sp : Sp} (D : DefIs K x qual st f fd cdv) (S : FnScope N ps (defScope st)) (len : ∀ vs H Q E, sp vs H Q E → vs.length = ps.length)
    (body : ∀ (A : Around) (outer : List Env) (s : Shared) (H : Hp) (vs : List V) (Q : VK) (E : XK), A.guards = some [] → Room k (A.deeper (envOfC qual (defScope st) s.heap.objs.size f cdv)) → sp vs H Q E →
      ∃ t, PSs (cxOf CX P w K mg base N qual (defScope st) f cdv A outer s H E).nox (defBody st) t ∧ t { nx := fun _ H' => Q .non H', rt := Q } (start N vs) H) : FnG P w K mg base CX (k + 1) f fd ps sp :=
  D.ok S len fun A outer s H vs Q E g hr hsp => let ⟨t, ht, q⟩ := body A outer s H vs Q E g hr hsp; ⟨t, ht.nox, q⟩
theorem DefIs.binds {x qual : Str} {st : Stmt} {f : Addr} {fd : FuncData} {cdv : Value} {ps : List Str} (D : DefIs K x qual st f fd cdv)
    (h : ∀ (kV doc pm : Value) (an : Option Addr) (ct : Value) (us : List Value), us.length = ps.length → bindArgs (PySem.W.fnOf x qual (defArgs st) (defBody st) (defScope st) .none kV doc pm an cdv ct) ⟨us, []⟩ = pure (ps.zip us)) : Binds K fd ps [] := by
  obtain ⟨oc, od, kV, doc, pm, an, ct, osl, rfl, lk⟩ := D.at_
  exact .all (h kV doc pm an ct)
end

/-- a def that can be called by its name: its promise, its place, how it binds -/
structure Callee (P : Program) (w : World) (K : PySem.W.Frag) (mg : Str → Option Value) (base : Heap) (CX : CXT) (k : Nat) (x : Str) (ps : List Str) (sp : Sp) : Prop where
  is : ∃ f fd, FnG P w K mg base CX k f fd ps sp ∧ mg x = some (.ref f) ∧ PySem.W.keepIn K (.ref f) = true ∧ Binds K fd ps []

section
variable {X : Cx} {CX : CXT} {k : Nat} {x : Str} {ps : List Str} {sp : Sp} {E : XK} {p pos : Pos} {e : Expr} {es : List Expr} {t : TA}
theorem run_g {pins : List (Addr × Obj)} {σ : L2.St} {H : Hp} {s : Shared} {Q : VK} {us : List Value} {vs : List V} {f : Addr} {fd : FuncData} (F : FnG X.prog X.w X.K X.mg X.base CX k f fd ps sp) (g : X.A.guards = some []) (hr : Room k X.A) (hb : Binds X.K fd ps []) (hx : Passes CX X E)
    (I : Inv X pins σ H s) (r : Vals vs us) (h : sp vs H Q E) : wpAny (model X.prog X.w) X.A (call (.ref f) us) (EP X pins σ Q) X.xe s := by
  have hl : (us ++ ([] : List Value)).length = ps.length := by rw [List.append_nil, ← r.length]; exact F.many _ _ _ _ h
  have hB := hb s us I.kIn hl
  rw [List.append_nil] at hB
  refine wpAny_call (codeAny_mono (F.runs X.A X.stack s H ⟨us, []⟩ us vs Q E g hr I.env0 hB r h) fun q s' hq => ?_)
  match q, hq with
  | .error e, hq => exact hx pins σ H s e s' I hq
  | .ok (.ret u), hq => exact I.after hq
/-- f(e, ..) -/
theorem pe_g (C : Callee X.prog X.w X.K X.mg X.base CX k x ps sp) (g : X.A.guards = some []) (hr : Room k X.A) (hx : Passes CX X E) (ha : PA X (e :: es) t) (hg : Gl X x := by rfl)
    (hdb : (x == ("__debug__" : Str)) = false := by decide) (he : starEach (e :: es) X.env = (false, eval e X.env) :: starEach es X.env := by rfl) (hpl : (backTo pos (starEach es X.env)).any (·.1) = false := by rfl) :
    PE X (.Call (.Name x p) (e :: es) [] pos) (tCall sp [] E t) := by
  obtain ⟨f, fd, F, hm, hk, hb⟩ := C.is
  refine ⟨fun pins s σ H Q I h => wpAny_Call_Name_kw (ld_glob I hg hm (PySem.W.callWith_K (h₀ := X.base) I.ok.mod.kin hk (thn (ha.run pos pins s σ H _ I h) fun us s1 h1 => ?_) he hpl) hdb)⟩
  obtain ⟨vs, H1, I1, r, q⟩ := h1
  rw [List.append_nil] at q
  exact ⟨I1.kIn, run_g F g hr hb hx I1 r q⟩
theorem pe_g0 (C : Callee X.prog X.w X.K X.mg X.base CX k x ps sp) (g : X.A.guards = some []) (hr : Room k X.A) (hx : Passes CX X E) (hg : Gl X x := by rfl) (hdb : (x == ("__debug__" : Str)) = false := by decide) :
    PE X (.Call (.Name x p) [] [] pos) (tCall sp [] E tNil) := by
  obtain ⟨f, fd, F, hm, hk, hb⟩ := C.is
  exact ⟨fun pins s σ H Q I h => wpAny_Call_Name_kw (ld_glob I hg hm (PySem.W.callWith_K0 I.kIn hk (run_g (us := []) F g hr hb hx I .nil h)) hdb)⟩
/-- a statement, a block that is never come to -/
theorem ps_dead {st : Stmt} : PS X st (fun _ _ _ => False) := ⟨fun _ _ _ _ _ _ h => h.elim⟩
theorem pss_dead {st : List Stmt} : PSs X st (fun _ _ _ => False) := ⟨fun _ _ _ _ _ _ h => h.elim⟩
theorem pe_dead {e : Expr} : PE X e (fun _ _ _ => False) := ⟨fun _ _ _ _ _ _ h => h.elim⟩
end
end Gx

namespace Gx
open PySem PySem.Spec PyProof.Rows L2 GxR GenW

/-! ### repr and sorted of data -/
section
variable {X : Cx}
def rRepr (K : PySem.W.Frag) : List V → Hp → VK → Prop := fun xs H Q => ∃ x d, xs = [x] ∧ Dp K H x d ∧ d.showable = true ∧ d.hasDict = false ∧ d.depth ≤ 60 ∧ d.shown.length ≤ sizeLine ∧ Q (.str d.shown) H
theorem cr_repr (g : X.A.guards = some []) (hu : X.A.units + 64 < cLine) : CallR X (.builtin "repr") (rRepr X.K) := by
  intro pins s σ H xs us Q I r h
  obtain ⟨x, d, rfl, hD, hs, hd, hp, hz, q⟩ := h
  obtain ⟨u, rfl, rx⟩ : ∃ u, us = [u] ∧ RelV x u := by
    cases r with
    | cons r1 r2 => cases r2; exact ⟨_, rfl, r1⟩
  obtain ⟨as, rd⟩ := Dp.reads I d x u hD rx
  have refs : ∀ a, x = .ref a → wpAny (model X.prog X.w) X.A (call (.builtin "repr") [u]) (EP X pins σ Q) X.xe s := fun a e => by
    subst e
    have e2 : u = .ref a := rx
    subst e2
    exact repr_of_reads' rd hs (PyData.noDict_hsm hd) g (by omega) (fun _ _ e => e) (fun h' v tk hk => ⟨.str _, H, I.kept hk, ⟨_, rfl⟩, q⟩) hz
  cases hD with
  | non =>
    have e2 : u = .none := rx
    subst e2
    exact PySem.P.repr_of_none ⟨.str _, H, I.tok _, ⟨_, rfl⟩, q⟩
  | bl b =>
    have e2 : u = .bool b := rx
    subst e2
    refine PySem.P.repr_of_bool ⟨.str _, H, I.tok _, ⟨_, rfl⟩, ?_⟩
    cases b <;> exact q
  | int i =>
    obtain ⟨t, rfl⟩ := rx
    exact PySem.P.repr_of_int (of_decide_eq_true hs) ⟨.str _, H, I.tok _, ⟨_, rfl⟩, q⟩
  | str z =>
    obtain ⟨t, rfl⟩ := rx
    exact PySem.P.repr_of_str ⟨.str _, H, I.tok _, ⟨_, rfl⟩, q⟩ hz
  | lst h1 h2 => exact refs _ rfl
  | tup h1 h2 => exact refs _ rfl

/-- sorted of a list of data, all of one shape -/
def rSortG (K : PySem.W.Frag) {β : Type} (val : β → V) (enc : β → PyData) : List V → Hp → VK → Prop := fun vs H Q => ∃ (a : Addr) (bs : List β), vs = [V.ref a] ∧ SqL K H a (bs.map val) ∧
  (∀ b ∈ bs, Dp K H (val b) (enc b) ∧ (enc b).depth ≤ 60) ∧ PySem.W.AllAlike (bs.map enc) ∧ PySem.W.Sortable (bs.map enc) ∧ bs.length ≤ sizeLine ∧
  ∀ p, H p = none → Q (.ref p) (upd H p (.lst ((bs.mergeSort (PySem.W.dataLe false enc)).map val)))
theorem each_vals {β : Type} {val : β → V} : ∀ {bs : List β} {us : List Value}, Vals (bs.map val) us → PySem.W.EachIs (fun u b => RelV (val b) u) us bs
  | [], _, .nil => .nil
  | _ :: _, _, .cons r t => .cons r (each_vals t)
theorem vals_each {β : Type} {val : β → V} : ∀ {bs : List β} {us : List Value}, PySem.W.EachIs (fun u b => RelV (val b) u) us bs → Vals (bs.map val) us
  | _, _, .nil => .nil
  | _, _, .cons r t => .cons r (vals_each t)
theorem each_mem {α β : Type} {R S : α → β → Prop} : ∀ {as : List α} {bs : List β}, PySem.W.EachIs R as bs → (∀ a b, b ∈ bs → R a b → S a b) → PySem.W.EachIs S as bs
  | _, _, .nil, _ => .nil
  | _, _, .cons r t, f => .cons (f _ _ List.mem_cons_self r) (each_mem t fun a b hb => f a b (List.mem_cons_of_mem _ hb))
theorem cr_sortG {β : Type} {val : β → V} {enc : β → PyData} (hu : X.A.units + 64 < cLine) : CallR X (.builtin "sorted") (rSortG X.K val enc) := by
  intro pins s σ H xs us Q I r h
  obtain ⟨a, bs, rfl, hL, hD, hal, hk, hz, q⟩ := h
  obtain ⟨u, rfl, rx⟩ : ∃ u, us = [u] ∧ RelV (.ref a) u := by
    cases r with
    | cons r1 r2 => cases r2; exact ⟨_, rfl, r1⟩
  have e2 : u = .ref a := rx
  subst e2
  obtain ⟨its, rv, pl, hz'⟩ := I.list hL
  have ev := each_vals rv
  have er : PySem.W.EachIs (fun v b => ∃ as, Reads s.heap v (enc b) as) its bs := each_mem ev fun v b hb rb => Dp.reads I (enc b) (val b) v (hD b hb).1 rb
  refine PySem.W.sorted_data pl.isList ev er hal hk hz (fun b hb => by have := (hD b hb).2; omega) fun out ho eo => ?_
  obtain ⟨n, hat⟩ := sortedAll_at s.heap its out.toArray
  have rout : Vals ((bs.mergeSort (PySem.W.dataLe false enc)).map val) out := vals_each eo
  have hlen : ((bs.mergeSort (PySem.W.dataLe false enc)).map val).length ≤ sizeLine := by rw [rout.length, ho]; exact hz
  have hf : H (s.heap.objs.size + 1) = none := I.hok.fresh (Nat.le_succ _)
  exact ⟨.ref (s.heap.objs.size + 1), upd H (s.heap.objs.size + 1) (.lst _), I.laid (t' := s.toks) (fun b o e => sortedAll_old e) (Nat.le_succ _) ⟨hlen, out, n, rout, hat⟩, rfl, q _ hf⟩
end

/-! ### the end of a law -/
section
variable {P : Program} {w : World} {K : PySem.W.Frag} {mg mb : Str → Option Value} {k : Nat} {fa a : Addr} {cs : List (Addr × Addr)} {fd : FuncData} {x : Str} {sp : Sp} {s₁ : Shared} {vs : List Value} {ns : List Int}
abbrev scriptObj (vs : List Value) : Obj := { cls := .type "list", data := .seq vs.toArray }
abbrev tabObj : Obj := { cls := .none, data := .fields #[] }
/-- the law's call from a heap in which the script and the tables alone are told -/
theorem law_from (H : Hp) (hT : ∀ p ∈ cs, H p.2 = some (.tbl #[])) (hall : ∀ b u, H b = some u → (b ∈ cs.map Prod.snd ∧ u = .tbl #[]) ∨ (b = a ∧ K.lookup a = none ∧ u = .frz (scriptObj vs) (.lst (ns.map V.int))))
    (KX : K.In s₁.heap) (hns : s₁.heap.Ns mainGlobals mg) (hb : s₁.heap.Ns builtinsNs mb) (hbb : ∀ x : Str, x ≠ "__name__" → mb x = bootBuiltins x) (hlim : s₁.heap.NoLimit) (hg : s₁.gens = #[])
    (tabs : ∀ p ∈ cs, s₁.heap.get? p.2 = some tabObj ∧ K.lookup p.2 = none ∧ PySem.W.CodeHd s₁.heap p.1 p.2)
    (hbm : ∃ (bm : Addr) (ob : Obj), mg "__builtins__" = some (.ref bm) ∧ bm ≠ builtinsNs ∧ s₁.heap.get? bm = some ob ∧ ob.cls = .type "module" ∧ ob.dict = some builtinsNs ∧ ob.data = .plain)
    (ha : s₁.heap.get? a = some (scriptObj vs)) (rv : Vals (ns.map V.int) vs) (hl : ns.length ≤ sizeLine) (hS : SqL K H a (ns.map V.int)) (hr : Room k callerA)
    (F : ∀ base : Heap, K.In base → base.Ns mainGlobals mg → (∀ p ∈ cs, TabB base mg p.1 p.2) → FnG P w K mg base CX0 k fa fd [x] sp) (hbind : ∀ (s : Shared) (u : Value), BindsTo s fd ⟨[u], []⟩ [(x, u)])
    (hsp : sp [.ref a] H (fun v _ => v = .bl true) E0) :
    codeAny (model P w) callerA (.call (.ref fa) ⟨[.ref a], []⟩) (fun r s' => r = .ok (.ret (.bool true)) ∧ OldK s₁.heap s'.heap ∧ s'.os = s₁.os ∧ AllBare s'.gens) s₁ := by
  have isT : ∀ b ∈ cs.map Prod.snd, s₁.heap.get? b = some tabObj := fun b h => by
    obtain ⟨p, hp, rfl⟩ := List.mem_map.mp h
    exact (tabs p hp).1
  -- what is of another kind is not told of
  have un : ∀ {b : Addr} {o : Obj}, s₁.heap.get? b = some o → o.data ≠ (scriptObj vs).data → o.data ≠ tabObj.data → H b = none := fun {b o} e n1 n2 => by
    cases q : H b with
    | none => rfl
    | some u =>
      rcases hall b u q with ⟨hm, _⟩ | ⟨rfl, _, _⟩
      · rw [isT b hm] at e
        exact (n2 (by rw [← Option.some.inj e])).elim
      · rw [ha] at e
        exact (n1 (by rw [← Option.some.inj e])).elim
  have unD : ∀ {b : Addr} {o : Obj} {es : Array DictEntry} {ep : Nat}, s₁.heap.get? b = some o → o.data = .dict es ep → H b = none := fun e d => un e (fun z => by rw [d] at z; cases z) fun z => by rw [d] at z; cases z
  have nsK : ∀ {b : Addr} {m : Str → Option Value}, s₁.heap.Ns b m → (hidT s₁.heap H).Ns b m := fun ⟨o, es, ep, e, d, r⟩ => ⟨o, es, ep, hidT_get e (unD e d), d, r⟩
  have hKb : K.In (hidT s₁.heap H) := fun b o e => hidT_get (KX b o e) (by
    cases q : H b with
    | none => rfl
    | some u =>
      rcases hall b u q with ⟨hm, _⟩ | ⟨rfl, hk, _⟩
      · obtain ⟨p, hp, rfl⟩ := List.mem_map.mp hm
        rw [(tabs p hp).2.1] at e
        cases e
      · rw [hk] at e
        cases e)
  have hok : HOk P w H s₁.heap := fun b u q => by
    rcases hall b u q with ⟨hm, rfl⟩ | ⟨rfl, _, rfl⟩
    · exact isT b hm
    · exact ⟨ha, by rw [List.length_map]; exact hl, vs, _, rv, ha⟩
  have TB : ∀ p ∈ cs, TabB (hidT s₁.heap H) mg p.1 p.2 := fun p hp => by
    obtain ⟨t1, t2, o, us, file, tf, flags, tg, inF, text, tt, e1, r1, r2, r3, rr⟩ := tabs p hp
    have nMain : mainGlobals ≠ p.2 := fun z => by
      obtain ⟨o, es, ep, e, d, _⟩ := hns
      rw [z, t1] at e
      cases e
      cases d
    refine ⟨⟨o, us, file, tf, flags, tg, inF, text, tt, hidT_get e1 (un e1 (fun z => ?_) fun z => ?_), r1, r2, r3, rr⟩, ?_, nMain⟩
    · rw [r2] at z
      cases z
    · rw [r2] at z
      cases z
      simp at r3
    · obtain ⟨bm, ob, b1, b2, b3, b4, b5, b6⟩ := hbm
      refine ⟨bm, ob, b1, b2, fun z => ?_, fun z => ?_, hidT_get b3 (un b3 (fun z => ?_) fun z => ?_), b4, b5, b6⟩
      · obtain ⟨o, es, ep, e, d, _⟩ := hns
        rw [z, e] at b3
        cases b3
        rw [d] at b6
        cases b6
      · rw [z, t1] at b3
        cases b3
        cases b6
      · rw [b6] at z
        cases z
      · rw [b6] at z
        cases z
  have lim2 : (hidT s₁.heap H).NoLimit := hlim.elim fun mc h => ⟨mc, nsK h.1, h.2⟩
  have e0 : Env0 P w K mg (hidT s₁.heap H) callerA [] s₁ H :=
    { frames := rfl, mod := ⟨hKb, nsK hns, ⟨mb, nsK hb, hbb⟩, lim2⟩, bs := fun b o e => of_hidT e, bsz := Nat.le_of_eq (hidT_size _ _), funs := trivial, frf := fun b hb => absurd (show b ∈ ([] : List Addr) from hb) (by simp), hok := hok, bare := .of_eq hg }
  refine codeAny_mono ((F _ hKb (nsK hns) TB).runs callerA [] s₁ H ⟨[.ref a], []⟩ [.ref a] [.ref a] _ _ rfl hr e0 (hbind s₁ (.ref a)) (.cons rfl .nil) hsp) fun r s' h => ?_
  match r, h with
  | .ok (.ret u), h =>
    obtain ⟨v, H', os, bare, U, hok', ru, ev⟩ := h
    subst ev
    have eu : u = .bool true := ru
    subst eu
    have kept : ∀ b o, b ∉ cs.map Prod.snd → s₁.heap.get? b = some o → s'.heap.get? b = some o := fun b o nb e => by
      cases q : H b with
      | none => exact U.keep b o e q (fun z => absurd (show b ∈ ([] : List Addr) from z) (by simp)) (by simp)
      | some u =>
        rcases hall b u q with ⟨hm, _⟩ | ⟨rfl, _, rfl⟩
        · exact (nb hm).elim
        · obtain ⟨e1, _⟩ := hok b _ q
          obtain ⟨e2, _⟩ := hok' b _ (U.frzs b _ _ q)
          rw [e] at e1
          rw [e1]
          exact e2
    have grown : ∀ p ∈ cs, ∃ more : Array Value, s'.heap.get? p.2 = some { cls := .none, data := .fields more } := fun p hp => by
      obtain ⟨more, z⟩ := U.tbls p.2 #[] (hT p hp)
      exact ⟨_, hok' p.2 _ z⟩
    refine ⟨rfl, ⟨fun b o e => ?_, fun b o e => ?_⟩, os, bare⟩
    · by_cases hm : b ∈ cs.map Prod.snd
      · obtain ⟨p, hp, rfl⟩ := List.mem_map.mp hm
        obtain ⟨more, hmore⟩ := grown p hp
        rw [(tabs p hp).1] at e
        cases e
        exact .inr (.inl ⟨((tabs p hp).2.2.tab (tabs p hp).1).isCodeTable, rfl, #[], more, rfl, by rw [Array.empty_append]; exact hmore⟩)
      · exact .inl (kept b o hm e)
    · by_cases hm : b ∈ cs.map Prod.snd
      · obtain ⟨p, hp, rfl⟩ := List.mem_map.mp hm
        exact (grown p hp).elim fun more h => ⟨_, h⟩
      · exact ⟨o, kept b o hm e⟩
/-- what is known of the law's promise at the heap h behind the top -/
def LawG (l : PySem.W.OpenLaw) (w : World) (K : PySem.W.Frag) (k n : Nat) (x : Str) (mg : Str → Option Value) (fa : Addr) (h : Heap) : Prop :=
  ∃ (fd : FuncData) (cs : List (Addr × Addr)) (sp : Sp), (∀ p ∈ cs, h.get? p.2 = some tabObj ∧ K.lookup p.2 = none ∧ PySem.W.CodeHd h p.1 p.2) ∧ (∀ (s : Shared) (u : Value), BindsTo s fd ⟨[u], []⟩ [(x, u)]) ∧
    (∀ (H : Hp) (a : Addr) (ns : List Int), ns.length ≤ n → (∀ z ∈ ns, Builtin.Int.intBits z ≤ 1048576) → (∀ p ∈ cs, H p.2 = some (.tbl #[])) → SqL K H a (ns.map V.int) → sp [.ref a] H (fun v _ => v = .bl true) E0) ∧
    ∀ base : Heap, K.In base → base.Ns mainGlobals mg → (∀ p ∈ cs, TabB base mg p.1 p.2) → FnG l.prog w K mg base CX0 k fa fd [x] sp
theorem walk_G {l : PySem.W.OpenLaw} {n k : Nat} {q : Program} {loose : List Str} {XP : (Str → Option Value) → Heap → Prop} {YP : World → Heap → Prop} {d : DefRec} {K : Params → PySem.W.Frag} {x : Str}
    (hn : l.most = some n) (hn2 : n ≤ sizeLine) (hdf : d.params.defaults = []) (hr : Room k callerA) (hY : ∀ (w : World) (h : Heap), YP w h → (K w.params).In h)
    (F : ∀ (w : World) (mg : Str → Option Value) (fa : Addr) (h : Heap), YP w h → (K w.params).In h → h.Ns mainGlobals mg → mg d.name = some (.ref fa) → LawG l w (K w.params) k n x mg fa h) :
    PySem.W.WalkO q loose XP YP l.row.toRowW d [] (fun f vs => PySem.call f vs) := by
  refine Att.attach_callB hn hdf fun w s₀ s₁ mg mb fa o pm cd doc a vs ns G Y ho hd hcd hmg hobj hints hlen hbits hg => ?_
  have KX := hY w _ Y
  obtain ⟨fd, cs, sp, hT, hb, hsp, hF⟩ := F w mg fa _ Y KX G.T.g hmg
  have aT : a ∉ cs.map Prod.snd := fun z => by
    obtain ⟨p, hp, e⟩ := List.mem_map.mp z
    have q := (hT p hp).1
    rw [e, hobj] at q
    have z' : Data.seq vs.toArray _ = Data.fields #[] := congrArg Obj.data (Option.some.inj q)
    cases z'
  have rv := vals_ints hints
  cases hk : (K w.params).lookup a with
  | some o2 =>
    have e := KX a o2 hk
    rw [hobj] at e
    cases e
    have sl : SqL (K w.params) (fun b => if b ∈ cs.map Prod.snd then some (.tbl #[]) else none) a (ns.map V.int) :=
      .inr ⟨_, vs.toArray, _, hk, rfl, rfl, rfl, by rw [List.size_toArray, hints.length]; exact Nat.le_trans hlen hn2, by simpa using rv⟩
    have hT' : ∀ p ∈ cs, (fun b => if b ∈ cs.map Prod.snd then some (HO.tbl #[]) else none) p.2 = some (.tbl #[]) := fun p hp => if_pos (List.mem_map.mpr ⟨p, hp, rfl⟩)
    refine law_from _ hT' (fun b u z => ?_) KX G.T.g G.T.b G.T.builtins G.T.nolimit hg hT G.T.bmain hobj rv (Nat.le_trans hlen hn2) sl hr hF hb (hsp _ a ns hlen hbits hT' sl)
    by_cases hm : b ∈ cs.map Prod.snd
    · exact .inl ⟨hm, Option.some.inj (z.symm.trans (if_pos hm))⟩
    · have z' := z.symm.trans (if_neg hm)
      cases z'
  | none =>
    have sl : SqL (K w.params) (fun b => if b = a then some (.frz (scriptObj vs) (.lst (ns.map V.int))) else if b ∈ cs.map Prod.snd then some (.tbl #[]) else none) a (ns.map V.int) := .inl (.inr ⟨scriptObj vs, if_pos rfl⟩)
    have hT' : ∀ p ∈ cs, (fun b => if b = a then some (HO.frz (scriptObj vs) (.lst (ns.map V.int))) else if b ∈ cs.map Prod.snd then some (.tbl #[]) else none) p.2 = some (.tbl #[]) := fun p hp =>
      (if_neg (show ¬ p.2 = a from fun z => aT (by rw [← z]; exact List.mem_map.mpr ⟨p, hp, rfl⟩))).trans (if_pos (List.mem_map.mpr ⟨p, hp, rfl⟩))
    refine law_from _ hT' (fun b u z => ?_) KX G.T.g G.T.b G.T.builtins G.T.nolimit hg hT G.T.bmain hobj rv (Nat.le_trans hlen hn2) sl hr hF hb (hsp _ a ns hlen hbits hT' sl)
    by_cases hm : b = a
    · exact .inr ⟨hm, hk, Option.some.inj (z.symm.trans (if_pos hm))⟩
    · have z1 := z.symm.trans (if_neg hm)
      by_cases hm2 : b ∈ cs.map Prod.snd
      · exact .inl ⟨hm2, Option.some.inj (z1.trans (if_pos hm2))⟩
      · have z' := z1.trans (if_neg hm2)
        cases z'
end
end Gx

/-! set( ) of a list of keys of any kind, fewer than 4,000; len(set( )) of a list of texts -/
namespace Gx
open PySem PySem.Spec PyProof.Rows L2 GxR GenW
/-- the unlike ones, in their order -/
def uq {κ : Type} [DecidableEq κ] : List κ → List κ → List κ
  | acc, [] => acc
  | acc, x :: r => uq (if x ∈ acc then acc else acc ++ [x]) r
theorem uq_append {κ : Type} [DecidableEq κ] : ∀ (l acc : List κ) (x : κ), uq acc (l ++ [x]) = if x ∈ uq acc l then uq acc l else uq acc l ++ [x]
  | [], acc, x => rfl
  | y :: r, acc, x => uq_append r _ x
theorem uq_len {κ : Type} [DecidableEq κ] : ∀ (l acc : List κ), (uq acc l).length ≤ acc.length + l.length
  | [], acc => Nat.le_refl _
  | x :: r, acc => by
    have h := uq_len r (if x ∈ acc then acc else acc ++ [x])
    have e : (if x ∈ acc then acc else acc ++ [x]).length ≤ acc.length + 1 := by split <;> simp
    show (uq _ r).length ≤ acc.length + (r.length + 1)
    omega
theorem uq_mem {κ : Type} [DecidableEq κ] : ∀ (l acc : List κ) (k : κ), k ∈ uq acc l ↔ k ∈ acc ∨ k ∈ l
  | [], acc, k => by simp [uq]
  | x :: r, acc, k => by
    show k ∈ uq (if x ∈ acc then acc else acc ++ [x]) r ↔ _
    rw [uq_mem r]
    by_cases h : x ∈ acc
    · rw [if_pos h]
      constructor
      · rintro (h1 | h1)
        · exact .inl h1
        · exact .inr (List.mem_cons_of_mem _ h1)
      · rintro (h1 | h1)
        · exact .inl h1
        · rcases List.mem_cons.mp h1 with e | h2
          · exact .inl (e ▸ h)
          · exact .inr h2
    · rw [if_neg h]
      simp only [List.mem_append, List.mem_cons, List.not_mem_nil, or_false]
      constructor
      · rintro ((h1 | h1) | h1)
        · exact .inl h1
        · exact .inr (.inl h1)
        · exact .inr (.inr h1)
      · rintro (h1 | h1 | h1)
        · exact .inl (.inl h1)
        · exact .inl (.inr h1)
        · exact .inr h1
theorem uq_nodup {κ : Type} [DecidableEq κ] : ∀ (l acc : List κ), (acc ++ l).Nodup → uq acc l = acc ++ l
  | [], acc, _ => by simp [uq]
  | x :: r, acc, h => by
    have hx : x ∉ acc := fun hm => by
      rw [List.nodup_append] at h
      exact h.2.2 x hm x List.mem_cons_self rfl
    show uq (if x ∈ acc then acc else acc ++ [x]) r = _
    rw [if_neg hx]
    have e : acc ++ x :: r = (acc ++ [x]) ++ r := by simp
    rw [e] at h ⊢
    exact uq_nodup r _ h
theorem uq_short {κ : Type} [DecidableEq κ] : ∀ (l acc : List κ), acc.Nodup → ¬ (acc ++ l).Nodup → (uq acc l).length < acc.length + l.length
  | [], acc, h, h2 => absurd (by simpa using h) h2
  | x :: r, acc, h, h2 => by
    show (uq (if x ∈ acc then acc else acc ++ [x]) r).length < acc.length + (r.length + 1)
    by_cases hx : x ∈ acc
    · rw [if_pos hx]
      have := uq_len r acc
      omega
    · rw [if_neg hx]
      have hn : (acc ++ [x]).Nodup := by
        rw [List.nodup_append]
        refine ⟨h, by simp, fun a ha b hb => ?_⟩
        have e : b = x := by simpa using hb
        rw [e]
        exact fun z => hx (z ▸ ha)
      have e : acc ++ x :: r = (acc ++ [x]) ++ r := by simp
      rw [e] at h2
      have := uq_short r (acc ++ [x]) hn h2
      rw [List.length_append, List.length_singleton] at this
      omega

section
variable {prog : Program} {w : World} {A : Around} {κ : Type} [DecidableEq κ] {knd : PySem.KeyKind prog w κ}
/-- the loop that fills it -/
theorem fill_set {R : Result → Shared → Prop} {it : Addr} {fp wr : List Addr} {G : Array GenState → Array GenState → Prop} {n : Nat} {P : Nat → Value → Prop} {St : Nat → Shared → Prop} (W : WalksS prog w A.in1 it fp wr G n P St) {Z : Addr} (zf : Z ∉ fp)
    (ks : List κ) (hn : ks.length = n) (hv : ∀ (i : Nat) (v : Value), P i v → v.scannable = true ∧ ∃ k, ks[i]? = some k ∧ knd.is k v = true) (hb : n + 1 < scanBound) :
    ∀ (m i : Nat) (s : Shared), n = i + m → St i s → s.heap.SetOf knd Z (fun k => decide (k ∈ ks.take i)) (uq [] (ks.take i)).length →
      (∀ s', Moved (Z :: wr) G s s' → s'.heap.SetOf knd Z (fun k => decide (k ∈ ks)) (uq [] ks).length → R (.ok (.ret .none)) s') →
      codeAny (model prog w) A (.builtin "set.update.loop" ⟨[.ref Z, .ref it], []⟩) R s := by
  have zw : Z ∉ wr := fun z => zf (W.sub _ z)
  have more : ∀ b ∈ wr, b ∈ Z :: wr := fun b hb => List.mem_cons_of_mem _ hb
  have stays : ∀ {s s' : Shared} {T : κ → Bool} {c : Nat}, Moved wr G s s' → s.heap.SetOf knd Z T c → s'.heap.SetOf knd Z T c := fun mv ⟨o, es, ep, tb, ho, r⟩ => ⟨o, es, ep, tb, mv.heap Z _ zw ho, r⟩
  intro m
  induction m with
  | zero =>
    intro i s hi hst hS hR
    have e1 : i = n := by omega
    subst e1
    have e2 : ks.take ks.length = ks := List.take_length
    refine codeAny_builtin PyProof.Rows.F.entry_set_update_loop ?_
    rw [Around.under_plainId PyProof.Rows.F.plain_set_update_loop _]
    show wpAny (model prog w) A.in1 (pyNext (.ref it) >>= _) _ _ s
    refine wpAny_bind (W.done s _ _ hst fun s' mv => ?_)
    show wpAny (model prog w) A.in1 (ret Value.none) _ _ s'
    refine wpAny_pure (hR s' (mv.mono more) ?_)
    have q := stays mv hS
    rw [← hn, e2] at q
    exact q
  | succ m ih =>
    intro i s hi hst hS hR
    have il : i < n := by omega
    refine codeAny_builtin PyProof.Rows.F.entry_set_update_loop ?_
    rw [Around.under_plainId PyProof.Rows.F.plain_set_update_loop _]
    show wpAny (model prog w) A.in1 (pyNext (.ref it) >>= _) _ _ s
    refine wpAny_bind (W.item i s _ _ il hst fun v s' hP hst' mv => ?_)
    obtain ⟨hsc, k, hk, his⟩ := hv i v hP
    have hS' := stays mv hS
    show wpAny (model prog w) A.in1 (holding [v] (setAdd Z v) >>= _) _ _ s'
    refine wpAny_bind (wpAny_holding ?_)
    unfold setAdd
    refine wpAny_holding (wpAny_bind (knd.pyHash his ?_))
    have room : (uq [] (ks.take i)).length + 1 < scanBound := by
      have h1 := uq_len (ks.take i) ([] : List κ)
      have h2 : (ks.take i).length ≤ i := by rw [List.length_take]; omega
      simp only [List.length_nil] at h1
      omega
    refine wpAny_setAddHashed_of (knd := knd) (s := { s' with toks := s'.toks + 1 }) his hsc hS' room fun h' sb hS2 => ?_
    have et : ks.take (i + 1) = ks.take i ++ [k] := by rw [List.take_add_one, hk]; rfl
    have hS3 : h'.SetOf knd Z (fun k => decide (k ∈ ks.take (i + 1))) (uq [] (ks.take (i + 1))).length := by
      have e1 : (fun k' => decide (k' ∈ ks.take i) || decide (k' = k)) = fun k' => decide (k' ∈ ks.take (i + 1)) := by
        funext k'
        rw [et]
        by_cases c1 : k' ∈ ks.take i <;> by_cases c2 : k' = k <;> simp [c1, c2]
      have e2 : (if decide (k ∈ ks.take i) = true then (uq [] (ks.take i)).length else (uq [] (ks.take i)).length + 1) = (uq [] (ks.take (i + 1))).length := by
        rw [et, uq_append]
        by_cases c : k ∈ ks.take i
        · have c2 : k ∈ uq [] (ks.take i) := (uq_mem _ _ _).mpr (.inr c)
          rw [if_pos c2, if_pos (decide_eq_true c)]
        · have c2 : k ∉ uq [] (ks.take i) := fun z => by
            rcases (uq_mem _ _ _).mp z with y | y
            · cases y
            · exact c y
          rw [if_neg c2, if_neg (by simpa using c), List.length_append, List.length_singleton]
      rw [← e1, ← e2]
      exact hS2
    have same : ∀ b o, b ≠ Z → s'.heap.get? b = some o → h'.get? b = some o := fun b o hb e => by rw [sb.2 b hb]; exact e
    refine wpAny_pure ⟨plainId_quiet PyProof.Rows.F.plain_set_update_loop _, ih (i + 1) _ (by omega) (W.frame _ s' _ _ hst' (Nat.le_succ _) fun b hb o e => same b o (fun z => zf (z ▸ hb)) e) hS3 fun s'' mv2 hS4 => ?_⟩
    exact hR s'' (Moved.trans W.gtrans ((mv.mono more).then_heap (Nat.le_succ _) fun b o hb e => same b o (fun z => hb (by rw [z]; exact List.mem_cons_self)) e) mv2) hS4

/-- set(l), l a list of keys -/
theorem set_of_list {E : Value → Shared → Prop} {s : Shared} {l : Addr} {items : Array Value} {ks : List κ} {Q : Value → Shared → Prop} (hh : A.handled = none) (hl : s.heap.IsList l items) (hn : ks.length = items.size)
    (hv : ∀ (i : Nat) (v : Value), items[i]? = some v → v.scannable = true ∧ ∃ k, ks[i]? = some k ∧ knd.is k v = true) (hb : items.size + 1 < scanBound)
    (h : ∀ (h' : Heap) (tk : Nat), h'.SetOf knd s.heap.objs.size (fun k => decide (k ∈ ks)) (uq [] ks).length → (∀ b o, s.heap.get? b = some o → h'.get? b = some o) → Q (.ref s.heap.objs.size) { s with heap := h', toks := tk }) :
    wpAny (model prog w) A (call (.type "set") [.ref l]) Q E s := by
  obtain ⟨c0, tl0, mro0⟩ := PySem.F.called_set.mro
  have made0 := PySem.F.called_set.made; have sub0 := PySem.F.called_set.sub
  have nt0 := PySem.F.called_set.notType; have cc0 := PySem.F.called_set.canCreate
  have tc0 := PySem.F.typeCall_set_1 (.ref l)
  refine wpAny_call (codeAny_of_tree ?_)
  show wpAny (model prog w) _ (callAny (.type "set") _) _ _ _
  refine wpAny_pure ⟨Code.quiet_builtin _ (by decide +kernel), codeAny_builtin PySem.F.entry_type_call ?_⟩
  rw [Around.under_plain (weight_type_call_type "set" [.ref l] []) rfl]
  repeat any_goals first | assumption | wp_step
  refine codeAny_mono (code_set_new_1 (.ref l) (E := E) (Q₁ := fun z t => ∃ led : Bool, z = .ref s.heap.objs.size ∧ t = { s with heap := s.heap.push { cls := .type "set", dict := none, data := .set #[] 0 (.fresh 0 0 led) } }) fun led => ⟨led, rfl, rfl⟩) fun r1 t1 q1 => ?_
  match r1, q1 with
  | .error e, q1 => exact q1
  | .ok (.ret z), q1 =>
    obtain ⟨led, rfl, rfl⟩ := q1
    have gS : (s.heap.push { cls := .type "set", dict := none, data := .set #[] 0 (.fresh 0 0 led) }).get? s.heap.objs.size = some { cls := .type "set", dict := none, data := .set #[] 0 (.fresh 0 0 led) } := Heap.get?_push_size _ rfl
    have tS : Shared.TypeIs { s with heap := s.heap.push { cls := .type "set", dict := none, data := .set #[] 0 (.fresh 0 0 led) } } (.ref s.heap.objs.size) "set" := ⟨_, gS, rfl⟩
    have li := PySem.F.called_set.init.lookup; have bi := PySem.F.called_set.init.bind (.ref s.heap.objs.size)
    repeat any_goals first | assumption | wp_step
    refine codeAny_mono (codeAny_call_builtin (R := wants (fun r t => r = .none ∧ ∃ h' tk, t = { s with heap := h', toks := tk } ∧ h'.SetOf knd s.heap.objs.size (fun k => decide (k ∈ ks)) (uq [] ks).length ∧
        ∀ b o, s.heap.get? b = some o → h'.get? b = some o) E) PySem.F.called_set.init.plain PySem.F.entry_set_init (check_set_init_1 tS ?_)) fun r2 t2 q2 => ?_
    · obtain ⟨ol, gl, cl, nl, dl⟩ := hl
      obtain ⟨oc, od, ot, os⟩ := ol
      simp only at cl dl
      subst cl; subst dl
      have ll : l < s.heap.objs.size := Heap.lt_size gl
      have gl' : (s.heap.push { cls := .type "set", dict := none, data := .set #[] 0 (.fresh 0 0 led) }).get? l = some { cls := .type "list", dict := od, data := .seq items nl, slots := os } := Heap.get?_push_of_some _ gl
      have il : (s.heap.push { cls := .type "set", dict := none, data := .set #[] 0 (.fresh 0 0 led) }).IsList l items := ⟨_, gl', rfl, nl, rfl⟩
      have s1 := PySem.F.sub_list_set; have s2 := PySem.F.sub_list_frozenset
      have nd : (Value.type "list" == Value.type "dict") = false := by decide
      unfold Builtin.«set.__init__» noKeywords Builtin.Frozenset.updateFrom
      generalize hp : pyIter = pI
      wp_walk
      subst hp
      refine wpAny_pyIter_list il (wpAny_bind (wpAny_runValue ?_))
      have h3 : A.in1.in1.in1.handled = none := by simp [hh]
      have ni : l ≠ (s.heap.push { cls := .type "set", dict := none, data := .set #[] 0 (.fresh 0 0 led) }).objs.size := by rw [Heap.size_push]; exact Nat.ne_of_lt (Nat.lt_succ_of_lt ll)
      have zf : s.heap.objs.size ∉ [(s.heap.push { cls := .type "set", dict := none, data := .set #[] 0 (.fresh 0 0 led) }).objs.size, l] := by
        rw [Heap.size_push]; simp only [List.mem_cons, List.mem_singleton, List.not_mem_nil, or_false, not_or]
        exact ⟨Nat.ne_of_lt (Nat.lt_succ_self _), Nat.ne_of_gt ll⟩
      refine fill_set ((Walks.list h3 _ l ni items).toS) zf ks hn hv hb items.size 0 _ (by omega) ⟨⟨_, Heap.get?_push_size _ rfl, rfl, rfl⟩, il.push _⟩ ?_ fun t mv hS => ?_
      · have g2 : ((s.heap.push { cls := .type "set", dict := none, data := .set #[] 0 (.fresh 0 0 led) }).push { cls := .type "list_iterator", data := .fields #[.ref l, .int 0 0] }).get? s.heap.objs.size =
            some { cls := .type "set", dict := none, data := .set #[] 0 (.fresh 0 0 led) } := Heap.get?_push_of_some _ gS
        have q := (PyProof.Rows.setObjOf_fresh (knd := knd) led).setOf g2 (by unfold scanBound; omega)
        have e : (fun k => decide (k ∈ ks.take 0)) = fun _ : κ => false := by funext k; simp
        rw [e]
        exact q
      · obtain ⟨h', g', d', tk', os'⟩ := t
        obtain rfl : g' = s.gens := mv.gens
        obtain rfl : d' = s.drawn := mv.drawn
        obtain rfl : os' = s.os := mv.os
        show wpAny (model prog w) _ _ _ _ _
        refine wpAny_pure ?_
        show wpAny (model prog w) _ (ret Value.none) _ _ _
        refine wpAny_pure ⟨rfl, h', tk', rfl, hS, fun b o e => ?_⟩
        have lb := Heap.lt_size e
        refine mv.heap b o (fun z => ?_) (Heap.get?_push_of_some _ (Heap.get?_push_of_some _ e))
        rcases List.mem_cons.mp z with y | y
        · exact Nat.ne_of_lt lb y
        · rcases List.mem_cons.mp y with y | y
          · rw [Heap.size_push] at y
            exact Nat.ne_of_lt (Nat.lt_succ_of_lt lb) y
          · cases y
    · match r2, q2 with
      | .error e, q2 => exact q2
      | .ok (.ret r), q2 =>
        obtain ⟨rfl, h', tk, rfl, hS, hk⟩ := q2
        repeat any_goals first | assumption | wp_step
        exact h _ _ hS hk
end
end Gx
namespace Gx
open PySem PySem.Spec PyProof.Rows L2 GxR GenW
section
variable {X : Cx}
/-- len(set(xs)) of a list of texts -/
def tLenSetS (K : PySem.W.Frag) (ta : TE) : TE := fun σ H Q => ta σ H fun x H1 => ∃ (l : Addr) (xs : List Str), x = .ref l ∧ SqL K H1 l (xs.map V.str) ∧ xs.length ≤ 4000 ∧ Q (.int ((uq [] xs).length : Nat)) H1
theorem pe_lenSetS {a : Expr} {ta : TE} {p p2 q pos : Pos} (hg : Gl X "len") (hm : X.mg "len" = none) (hg2 : Gl X "set") (hm2 : X.mg "set" = none) (hh : X.A.handled = none) (ha : PE X a ta)
    (na : starEach [a] X.env = (false, eval a X.env) :: starEach [] X.env := by rfl) : PE X (.Call (.Name "len" p) [.Call (.Name "set" p2) [a] [] q] [] pos) (tLenSetS X.K ta) := by
  refine ⟨fun pins s σ H Q I h => Call_ (ld_blt I hg hm boot_len (PyProof.Rows.callWith_builtin1 (PyProof.Rows.args_cons (Call_ (ld_blt I hg2 hm2 boot_set ?_)) rfl) rfl rfl))⟩
  refine PyProof.Rows.callWith_type1 (PyProof.Rows.args_cons (thn (ha.run pins s σ H _ I h) fun v s1 h1 => PyProof.Rows.args_nil ?_) na) na rfl
  obtain ⟨x, H1, I1, r1, l, xs, rfl, hq, hz, q1⟩ := h1
  have e : v = .ref l := r1
  subst e
  obtain ⟨its, rv, pl, _⟩ := I1.list hq
  have hlen : xs.length = its.length := by have := rv.length; rw [List.length_map] at this; exact this
  refine set_of_list (knd := PySem.strKind X.prog X.w) hh pl.isList (ks := xs) (by rw [List.size_toArray]; exact hlen) (fun i v hv => ?_) (by rw [List.size_toArray, ← hlen]; unfold scanBound; omega) fun h' tk hS hk => ?_
  · have hv' : its[i]? = some v := by simpa using hv
    have hi : i < xs.length := by rw [hlen]; exact (List.getElem?_eq_some_iff.mp hv').1
    have e1 : (xs.map V.str)[i]? = some (V.str xs[i]) := by rw [List.getElem?_map, List.getElem?_eq_getElem hi]; rfl
    obtain ⟨u, hu, t, rfl⟩ := rv.get e1
    rw [hv'] at hu
    obtain rfl := Option.some.inj hu
    exact ⟨rfl, xs[i], List.getElem?_eq_getElem hi, PySem.strKind_is _ _ _ _⟩
  · obtain ⟨o, es, ep, t, ho, hex, hd, _, _, _, hf, hn⟩ := hS
    have I2 : Inv X pins σ H1 { s1 with heap := h', toks := tk } := I1.kept hk
    have hle : (uq ([] : List Str) xs).length ≤ 4000 := by have := uq_len xs ([] : List Str); simp only [List.length_nil] at this; omega
    exact PyProof.Rows.args_nil (call_len_set ho hex hd hf (by rw [hn]; omega) ⟨.int _, H1, I2.tok _, ⟨_, by rw [hn]⟩, q1⟩)
end
end Gx

/-! What else the programs want: powers, generator expressions by their scopes, what stays of a heap. -/
namespace Gx
open PySem PySem.Spec PyProof.Rows L2 GxR GenW
theorem bits_le {x : Int} {n : Nat} (h0 : 0 < n) (h : x.natAbs < 2 ^ n) : Builtin.Int.intBits x ≤ n := by
  have l := PySem.Flt.log2_lt_of h0 h
  unfold Builtin.Int.intBits
  split <;> omega
section
variable {X : Cx}
/-- ** of any base, together below 2 ^ 27 bits -/
def CPowX (i j : Int) : Prop := 0 ≤ j ∧ (Builtin.Int.intBits i : Int) * j ≤ 2 ^ 27
theorem op_powX : OpR X (binaryOp .Pow) (rI CPowX fun i j => .int (i ^ j.toNat)) := opI fun _ _ _ _ _ _ _ hc q => pow_int hc.1 hc.2 q
theorem room_gx {k : Nat} {s : Shared} {H : Hp} {sc : Scope} {C : Addr} {code : Value} {fp : List Addr} (r : Room (k + 3) X.A) : Room k (gcx X s H sc C code fp).A := r.in1.in1.deeper _
def gxC (sc : Scope) : Bool := (sc.names.all fun y => match y.2 with | .cell => false | _ => true) && (match sc.names.lookup (".0" : Str) with | some .local => true | _ => false) && !sc.isCoroutine
theorem gx_ok {gsc dsc : Scope} {own : List (Str × Nat)} {c P : Addr} {N : List Str} (tb : TabB X.base X.mg c P) (nd : N.Nodup) (b : blkC N dsc gsc own = true) (h2 : gxC gsc = true)
    (e1 : X.N = N := by rfl) (e2 : X.env.scope = dsc := by rfl) (e3 : X.env.code = .ref c := by rfl) : GxOk X gsc own c P := by
  unfold gxC at h2
  rw [Bool.and_eq_true, Bool.and_eq_true, List.all_eq_true] at h2
  refine ⟨tb, e3, ?_, by rw [e1]; exact nd, fun y hy e => ?_, ?_, ?_⟩
  · rw [e1, e2]
    exact blkOk_by b
  · have := h2.1.1 y hy
    rw [e] at this
    cases this
  · have := h2.1.2
    split at this
    · assumption
    · cases this
  · simpa using h2.2
end

/-! ### what stays -/
/-- all but tables and what stands at ex is as it was; tables may have grown -/
structure Grow (ex : List Addr) (H H' : Hp) : Prop where
  keep : ∀ b o, b ∉ ex → H b = some o → (∀ ps, o ≠ .tbl ps) → H' b = some o
  tabs : ∀ b, TabG H b → TabG H' b
theorem Grow.refl (ex : List Addr) (H : Hp) : Grow ex H H := ⟨fun _ _ _ e _ => e, fun _ t => t⟩
theorem Grow.trans {ex : List Addr} {H H1 H2 : Hp} (a : Grow ex H H1) (b : Grow ex H1 H2) : Grow ex H H2 := ⟨fun c o h e t => b.keep c o h (a.keep c o h e t) t, fun c t => b.tabs c (a.tabs c t)⟩
theorem Grow.mono {ex ex' : List Addr} {H H1 : Hp} (a : Grow ex H H1) (h : ∀ b ∈ ex, b ∈ ex') : Grow ex' H H1 := ⟨fun c o n e t => a.keep c o (fun z => n (h c z)) e t, a.tabs⟩
theorem Grow.any {ex : List Addr} {H H1 : Hp} (a : Grow [] H H1) : Grow ex H H1 := a.mono fun _ z => by cases z
theorem Grow.lst {ex : List Addr} {H H' : Hp} (a : Grow ex H H') {p : Addr} {xs : List V} (n : p ∉ ex) (h : H p = some (.lst xs)) : H' p = some (.lst xs) := a.keep p _ n h fun ps z => by cases z
theorem Grow.tup {ex : List Addr} {H H' : Hp} (a : Grow ex H H') {p : Addr} {xs : List V} (n : p ∉ ex) (h : H p = some (.tup xs)) : H' p = some (.tup xs) := a.keep p _ n h fun ps z => by cases z
theorem Grow.seq {K : PySem.W.Frag} {ex : List Addr} {H H' : Hp} (a : Grow ex H H') {p : Addr} {xs : List V} (n : p ∉ ex) (h : SqL K H p xs) : SqL K H' p xs := by
  rcases h with (h | ⟨o, h⟩) | h
  · exact .inl (.inl (a.lst n h))
  · exact .inl (.inr ⟨o, a.keep p _ n h fun ps z => by cases z⟩)
  · exact .inr h
theorem Grow.seq0 {K : PySem.W.Frag} {H H' : Hp} (a : Grow [] H H') {p : Addr} {xs : List V} (h : SqL K H p xs) : SqL K H' p xs := a.seq (by simp) h
/-- a new object -/
theorem grow_new {ex : List Addr} {H : Hp} {p : Addr} {o : HO} (h : H p = none) : Grow ex H (upd H p o) :=
  ⟨fun b u _ e _ => by rw [upd_ne (ne_of_none e h)]; exact e, fun b ⟨ps, e, t⟩ => ⟨ps, by rw [upd_ne (ne_of_none e h)]; exact e, t⟩⟩
/-- what stands at p, no table, is changed -/
theorem grow_at {ex : List Addr} {H : Hp} {p : Addr} {o u : HO} (h : H p = some u) (hu : ∀ ps, u ≠ .tbl ps) (hp : p ∈ ex) : Grow ex H (upd H p o) :=
  ⟨fun b v n e _ => by rw [upd_ne (show b ≠ p from fun z => n (by rw [z]; exact hp))]; exact e, fun b ⟨ps, e, t⟩ => ⟨ps, by rw [upd_ne (show b ≠ p from fun z => by rw [z, h] at e; exact hu ps (Option.some.inj e))]; exact e, t⟩⟩
theorem grow_tab {ex : List Addr} {P : Addr} {H H' : Hp} (h : TabG H P) (t : Tabbed P H H') : Grow ex H H' :=
  ⟨fun b o _ e no => by
    have n : b ≠ P := fun z => by
      obtain ⟨ps, e2, _⟩ := h
      rw [z, e2] at e
      exact no ps (Option.some.inj e).symm
    rw [t.2 b n]
    exact e, fun b ht => by
    by_cases z : b = P
    · rw [z]
      exact t.1
    · obtain ⟨ps, e, q⟩ := ht
      exact ⟨ps, by rw [t.2 b z]; exact e, q⟩⟩
/-- what was not told of before may be dropped from ex -/
theorem Grow.less {ex : List Addr} {p : Addr} {H H' : Hp} (a : Grow (p :: ex) H H') (h : H p = none) : Grow ex H H' :=
  ⟨fun b o n e t => a.keep b o (fun z => by
    rcases List.mem_cons.mp z with y | y
    · rw [y, h] at e
      cases e
    · exact n y) e t, a.tabs⟩
/-- nothing stood there, or a table did -/
def Fresh (H : Hp) (p : Addr) : Prop := ∀ o, H p = some o → ∃ ps, o = .tbl ps
theorem fresh_none {H : Hp} {p : Addr} (h : H p = none) : Fresh H p := fun o e => by
  rw [h] at e
  cases e
theorem Grow.fresh {ex : List Addr} {H H' : Hp} (a : Grow ex H H') {p : Addr} (n : p ∉ ex) (h : Fresh H' p) : Fresh H p := fun o e => by
  cases o with
  | tbl ps => exact ⟨ps, rfl⟩
  | _ => exact h _ (a.keep p _ n e (fun ps z => by cases z))
theorem Grow.fresh0 {H H' : Hp} (a : Grow [] H H') {p : Addr} (h : H' p = none) : Fresh H p := a.fresh (by simp) (fresh_none h)
theorem Fresh.ne {H : Hp} {p b : Addr} {o : HO} (n : Fresh H p) (h : H b = some o) (ho : ∀ ps, o ≠ .tbl ps) : b ≠ p := fun z => by
  rw [z] at h
  obtain ⟨ps, e⟩ := n o h
  exact ho ps e
/-- what is new may be changed -/
theorem Grow.put {ex : List Addr} {p : Addr} {o u : HO} {H H' : Hp} (a : Grow ex H H') (n : Fresh H p) (h : H' p = some u) (hu : ∀ ps, u ≠ .tbl ps) : Grow ex H (upd H' p o) :=
  ⟨fun b v z e t => by
    rw [upd_ne (n.ne e t)]
    exact a.keep b v z e t, fun b t => by
    obtain ⟨ps, e, q⟩ := a.tabs b t
    exact ⟨ps, by rw [upd_ne (show b ≠ p from fun z => by rw [z, h] at e; exact hu ps (Option.some.inj e))]; exact e, q⟩⟩
theorem Grow.drop {ex : List Addr} {p : Addr} {H H' : Hp} (a : Grow (p :: ex) H H') (n : Fresh H p) : Grow ex H H' :=
  ⟨fun b o nb e t => a.keep b o (fun z => by
    rcases List.mem_cons.mp z with y | y
    · exact n.ne e t y
    · exact nb y) e t, a.tabs⟩
theorem Grow.new {ex : List Addr} {p : Addr} {o : HO} {H H' : Hp} (a : Grow ex H H') (h : H' p = none) : Grow ex H (upd H' p o) := a.trans (grow_new h)
/-! ### data -/
mutual
theorem Dp.grow {K : PySem.W.Frag} {H H' : Hp} (a : Grow [] H H') : ∀ {x : V} {d : PyData}, Dp K H x d → Dp K H' x d
  | _, _, .non => .non
  | _, _, .bl b => .bl b
  | _, _, .int i => .int i
  | _, _, .str x => .str x
  | _, _, .lst h1 h2 => .lst (a.seq0 h1) (DpAll.grow a h2)
  | _, _, .tup h1 h2 => .tup (by
      rcases h1 with (h | ⟨o, h⟩) | h
      · exact .inl (.inl (a.keep _ _ (by simp) h fun ps z => by cases z))
      · exact .inl (.inr ⟨o, a.keep _ _ (by simp) h fun ps z => by cases z⟩)
      · exact .inr h) (DpAll.grow a h2)
theorem DpAll.grow {K : PySem.W.Frag} {H H' : Hp} (a : Grow [] H H') : ∀ {x : List V} {d : List PyData}, DpAll K H x d → DpAll K H' x d
  | _, _, .nil => .nil
  | _, _, .cons h t => .cons (Dp.grow a h) (DpAll.grow a t)
end
theorem dp_strs {K : PySem.W.Frag} {H : Hp} : ∀ xs : List Str, DpAll K H (xs.map V.str) (xs.map PyData.str)
  | [] => .nil
  | x :: r => .cons (.str x) (dp_strs r)
theorem dp_book {K : PySem.W.Frag} {H : Hp} {p : Addr} {xs : List Str} (h : SqL K H p (xs.map V.str)) : Dp K H (.ref p) (.list (xs.map PyData.str)) := .lst h (dp_strs xs)

theorem tyB_str {K : PySem.W.Frag} {H : Hp} {z : Str} {p : String → Prop} : (∃ U, TyB K H (.str z) U ∧ p U) ↔ p "str" := by
  constructor
  · rintro ⟨U, t, h⟩
    cases t
    exact h
  · exact fun h => ⟨_, .str z, h⟩
theorem tyB_int {K : PySem.W.Frag} {H : Hp} {z : Int} {p : String → Prop} : (∃ U, TyB K H (.int z) U ∧ p U) ↔ p "int" := by
  constructor
  · rintro ⟨U, t, h⟩
    cases t
    exact h
  · exact fun h => ⟨_, .int z, h⟩

/-! ### all( ), any( ) over items that are known -/
section
variable {sb : Bool} {g : TG} {te : TE} {vs : List Nat} {σ : L2.St} {Q : VK} {P : Addr} {J : It} {H1 : Hp}
theorem truth_by {items : List V} (Pv : Nat → Hp → Prop) (h0 : ∀ H2, Tabbed P H1 H2 → Pv 0 H2) (yld : ∀ i H x H', Pv i H → J.yld i H x H' → H' = H ∧ items[i]? = some x) (go : ∀ i H, i < items.length → Pv i H → J.go i H)
    (stop : ∀ H, Pv items.length H → J.stop items.length H) (step : ∀ i x H, items[i]? = some x → Pv i H → g x (wipe σ vs) H fun σ2 H2 => wipe σ2 vs = wipe σ vs ∧ te σ2 H2 fun y H4 => ∃ b, y = .bl b ∧ if b = sb then Q (.bl sb) H4 else Pv (i + 1) H4)
    (fin : ∀ H, Pv items.length H → Q (.bl (!sb)) H) : rTruth P sb g te vs σ Q J H1 := by
  refine fun H2 t => ⟨fun i m H => m = items.length - i ∧ i ≤ items.length ∧ Pv i H, ⟨_, rfl, Nat.zero_le _, h0 H2 t⟩, fun i m H hw => ?_⟩
  obtain ⟨rfl, hi, hp⟩ := hw
  by_cases hl : i < items.length
  · refine .inr ⟨go i H hl hp, Pv (i + 1), fun H' h' => ⟨items.length - (i + 1), by omega, rfl, hl, h'⟩, fun x H' hy => ?_⟩
    obtain ⟨rfl, hx⟩ := yld i H x H' hp hy
    exact step i x _ hx hp
  · have e : i = items.length := by omega
    subst e
    exact .inl ⟨stop H hp, fin H hp⟩
theorem truth_list {K : PySem.W.Frag} {a : Addr} {xs : List V} (Pv : Nat → Hp → Prop) (h0 : ∀ H2, Tabbed P H1 H2 → Pv 0 H2) (hl : ∀ i H, Pv i H → SqL K H a xs)
    (step : ∀ i x H, xs[i]? = some x → Pv i H → g x (wipe σ vs) H fun σ2 H2 => wipe σ2 vs = wipe σ vs ∧ te σ2 H2 fun y H4 => ∃ b, y = .bl b ∧ if b = sb then Q (.bl sb) H4 else Pv (i + 1) H4)
    (fin : ∀ H, Pv xs.length H → Q (.bl (!sb)) H) : rTruth P sb g te vs σ Q (Itl K a) H1 :=
  truth_by (items := xs) Pv h0 (fun i H x H' hp hy => ⟨hy.1, hy.2 xs (hl i H hp)⟩) (fun i H hi hp => ⟨xs, xs[i], hl i H hp, List.getElem?_eq_getElem hi⟩) (fun H hp => ⟨xs, hl _ H hp, Nat.le_refl _⟩) step fin
theorem truth_text {z : Str} (Pv : Nat → Hp → Prop) (h0 : ∀ H2, Tabbed P H1 H2 → Pv 0 H2)
    (step : ∀ (i : Nat) (c : Nat) H, z.cps.toList[i]? = some c → Pv i H → g (.str ⟨#[c]⟩) (wipe σ vs) H fun σ2 H2 => wipe σ2 vs = wipe σ vs ∧ te σ2 H2 fun y H4 => ∃ b, y = .bl b ∧ if b = sb then Q (.bl sb) H4 else Pv (i + 1) H4)
    (fin : ∀ H, Pv z.cps.toList.length H → Q (.bl (!sb)) H) : rTruth P sb g te vs σ Q (Its z) H1 := by
  have el : (z.cps.toList.map fun c => V.str ⟨#[c]⟩).length = z.cps.toList.length := by rw [List.length_map]
  refine truth_by (items := z.cps.toList.map fun c => V.str ⟨#[c]⟩) Pv h0 (fun i H x H' hp hy => ?_) (fun i H hi hp => ?_) (fun H hp => ?_) (fun i x H hx hp => ?_) fun H hp => fin H (by rw [← el]; exact hp)
  · obtain ⟨e, c, hc, rfl⟩ := hy
    refine ⟨e, ?_⟩
    rw [List.getElem?_map, Array.getElem?_toList, hc]
    rfl
  · rw [el] at hi
    show i < z.cps.size
    simpa using hi
  · show z.cps.size ≤ _
    rw [el]
    simp
  · rw [List.getElem?_map] at hx
    cases hc : z.cps.toList[i]? with
    | none => rw [hc] at hx; cases hx
    | some c =>
      rw [hc] at hx
      cases hx
      exact step i c H hc hp
end

theorem put_len {κ : Type} [DecidableEq κ] (c : List (κ × V)) (k : κ) (x : V) : (putK c k x).length ≤ c.length + 1 := by
  unfold putK
  split
  · rw [List.length_map]
    omega
  · rw [List.length_append]
    exact Nat.le_refl _
/-! ### readings within a block -/
section
variable {X : Cx}
theorem blk_K {s : Shared} {H : Hp} {sc : Scope} {ce : Env} {fp : List Addr} : (X.blk s H sc ce fp).K = X.K := rfl
theorem gcx_K {s : Shared} {H : Hp} {sc : Scope} {C : Addr} {code : Value} {fp : List Addr} : (gcx X s H sc C code fp).K = X.K := rfl
theorem pe_to {e : Expr} {t t' : TE} (p : PE X e t) (h : t = t' := by first | exact rfl | (simp only [Gx.blk_K, Gx.gcx_K]; exact rfl)) : PE X e t' := h ▸ p
theorem pg_to {e : Expr} {t t' : TG} (p : PG X e t) (h : t = t' := by first | exact rfl | (simp only [Gx.blk_K, Gx.gcx_K]; exact rfl)) : PG X e t' := h ▸ p
theorem pts_to {e : List Expr} {t t' : TT} (p : PTs X e t) (h : t = t' := by first | exact rfl | (simp only [Gx.blk_K, Gx.gcx_K]; exact rfl)) : PTs X e t' := h ▸ p
theorem pi_to {tg e : Expr} {t t' : TI} (p : PI X tg e t) (h : t = t' := by first | exact rfl | (simp only [Gx.blk_K, Gx.gcx_K]; exact rfl)) : PI X tg e t' := h ▸ p
end
/-! ### things that are known, lists that are names -/
theorem _root_.L2.TyB.grow {K : PySem.W.Frag} {H H' : Hp} {x : V} {U : String} (g : Grow [] H H') (t : TyB K H x U) : TyB K H' x U := by
  cases t with
  | non => exact .non
  | bl b => exact .bl b
  | int i => exact .int i
  | str z => exact .str z
  | byt b => exact .byt b
  | lst h => exact .lst (g.seq0 h)
  | @tup p xs h =>
    refine .tup (xs := xs) ?_
    rcases h with (h | ⟨o, h⟩) | h
    · exact .inl (.inl (g.keep _ _ (by simp) h fun ps z => by cases z))
    · exact .inl (.inr ⟨o, g.keep _ _ (by simp) h fun ps z => by cases z⟩)
    · exact .inr h
  | dK h => exact .dK (g.keep _ _ (by simp) h fun ps z => by cases z)
/-- a text of no great length, or of a kind that is told -/
def Known (K : PySem.W.Frag) (H : Hp) (x : V) : Prop := (∃ z : Str, x = .str z ∧ z.length ≤ sizeLine) ∨ ∃ U, U ≠ "str" ∧ TyB K H x U
theorem Known.grow {K : PySem.W.Frag} {H H' : Hp} {x : V} (g : Grow [] H H') : Known K H x → Known K H' x
  | .inl h => .inl h
  | .inr ⟨U, n, t⟩ => .inr ⟨U, n, t.grow g⟩
/-- a text's own -/
def theStr : V → Str
  | .str z => z
  | _ => Str.empty
theorem strs_of {p : V → Bool} (hp : ∀ x, p x = true → ∃ z, x = .str z) : ∀ {xs : List V}, xs.all p = true → xs = (xs.map theStr).map V.str
  | [], _ => rfl
  | x :: r, h => by
    rw [List.all_cons, Bool.and_eq_true] at h
    obtain ⟨z, rfl⟩ := hp x h.1
    show V.str z :: r = V.str z :: (r.map theStr).map V.str
    rw [← strs_of hp h.2]
theorem nodup_str {zs : List Str} : (zs.map V.str).Nodup ↔ zs.Nodup := by
  constructor
  · exact fun h => (List.pairwise_map.mp h).imp fun q e => q (congrArg V.str e)
  · exact fun h => List.pairwise_map.mpr (h.imp fun q e => q (V.str.inj e))
theorem uq_same {κ : Type} [DecidableEq κ] (l : List κ) : decide (((uq [] l).length : Int) = (l.length : Int)) = decide l.Nodup := by
  by_cases h : l.Nodup
  · rw [decide_eq_true h, uq_nodup l [] (by simpa using h)]
    exact decide_eq_true rfl
  · rw [decide_eq_false h]
    have := uq_short l [] List.nodup_nil (by simpa using h)
    simp only [List.length_nil] at this
    exact decide_eq_false (by omega)
end Gx

/-! Dict comprehensions and comprehensions of two clauses over walks; data that no list is in. -/
namespace Gx
open PySem PySem.Spec PyProof.Rows L2 GxR
section
variable {J J1 : It} {n : Nat} {G : Hp → Prop} {Y : Nat → Hp → V → Hp → Prop}
theorem dc_it (w : Walk J n G Y) {g : TG} {tt : TT} {tk tv : TE} {vs : List Nat} {σ : L2.St} {H1 : Hp} {D : Addr} {Qd : Hp → Prop} (Pv : Nat → Hp → Prop) (h0 : Pv 0 (upd H1 D (.dK []))) (hG : ∀ i H, i ≤ n → Pv i H → G H)
    (hs : ∀ i x H H', i < n → Pv i H → Y i H x H' → g x (wipe σ vs) H' fun σ2 H2 => wipe σ2 vs = wipe σ vs ∧ tt σ2 H2 fun b H3 =>
      if b = true then tk σ2 H3 fun y H4 => tv σ2 H4 fun z H5 => ∃ kvs k, y = kV k ∧ H5 D = some (.dK kvs) ∧ kvs.length < sizeLine ∧ Pv (i + 1) (upd H5 D (.dK (putK kvs k z))) else Pv (i + 1) H3) (hd : ∀ H, Pv n H → Qd H) :
    ∃ W : Nat → Nat → Hp → Prop, (∃ m, W 0 m (upd H1 D (.dK []))) ∧ ∀ i m H, W i m H →
      (J.stop i H ∧ Qd H) ∨ (J.go i H ∧ ∃ Nx : Hp → Prop, (∀ H', Nx H' → ∃ m', m' < m ∧ W (i + 1) m' H') ∧ ∀ x H', J.yld i H x H' → g x (wipe σ vs) H' fun σ2 H2 => wipe σ2 vs = wipe σ vs ∧ tt σ2 H2 fun b H3 =>
        if b = true then tk σ2 H3 fun y H4 => tv σ2 H4 fun z H5 => ∃ kvs k, y = kV k ∧ H5 D = some (.dK kvs) ∧ kvs.length < sizeLine ∧ Nx (upd H5 D (.dK (putK kvs k z))) else Nx H3) := by
  refine ⟨fun i m H => m = n - i ∧ i ≤ n ∧ Pv i H, ⟨n, by simp, Nat.zero_le _, h0⟩, ?_⟩
  rintro i m H ⟨rfl, hi, p⟩
  by_cases hlt : i < n
  · exact .inr ⟨w.goes i H hlt (hG i H hi p), Pv (i + 1), fun H' p' => ⟨n - (i + 1), by omega, rfl, hlt, p'⟩, fun x H' y => hs i x H H' hlt p (w.yields i H x H' hlt (hG i H hi p) y)⟩
  · have e : i = n := by omega
    subst e
    exact .inl ⟨w.stops H (hG _ H hi p), hd H p⟩
/-- the loop of the second clause -/
abbrev In1 (D : Addr) (g1 : TG) (tt1 : TT) (te : TE) (vs1 : List Nat) (σ2 : L2.St) (Nx : Hp → Prop) (J1 : It) (H4 : Hp) : Prop := ∃ W1 : Nat → Nat → Hp → Prop, (∃ m, W1 0 m H4) ∧ ∀ j k H, W1 j k H →
  (J1.stop j H ∧ Nx H) ∨ (J1.go j H ∧ ∃ Nx1 : Hp → Prop, (∀ H', Nx1 H' → ∃ k', k' < k ∧ W1 (j + 1) k' H') ∧ ∀ x H', J1.yld j H x H' → g1 x (wipe σ2 vs1) H' fun σ3 H5 => wipe σ3 vs1 = wipe σ2 vs1 ∧ tt1 σ3 H5 fun b H6 =>
    if b = true then te σ3 H6 fun y H7 => ∃ acc, H7 D = some (.lst acc) ∧ acc.length < sizeLine ∧ Nx1 (upd H7 D (.lst (acc ++ [y]))) else Nx1 H6)
theorem lc2_it (w : Walk J n G Y) {g g1 : TG} {tt tt1 : TT} {wi1 : TI} {te : TE} {vs vs1 : List Nat} {σ : L2.St} {H1 : Hp} {D : Addr} {Qd : Hp → Prop} (Pv : Nat → Hp → Prop) (h0 : Pv 0 (upd H1 D (.lst []))) (hG : ∀ i H, i ≤ n → Pv i H → G H)
    (hs : ∀ i x H H', i < n → Pv i H → Y i H x H' → g x (wipe σ vs) H' fun σ2 H2 => wipe σ2 vs = wipe σ vs ∧ tt σ2 H2 fun b H3 =>
      if b = true then wi1 σ2 H3 fun J1 H4 => In1 D g1 tt1 te vs1 σ2 (Pv (i + 1)) J1 H4 else Pv (i + 1) H3) (hd : ∀ H, Pv n H → Qd H) :
    ∃ W : Nat → Nat → Hp → Prop, (∃ m, W 0 m (upd H1 D (.lst []))) ∧ ∀ i m H, W i m H →
      (J.stop i H ∧ Qd H) ∨ (J.go i H ∧ ∃ Nx : Hp → Prop, (∀ H', Nx H' → ∃ m', m' < m ∧ W (i + 1) m' H') ∧ ∀ x H', J.yld i H x H' → g x (wipe σ vs) H' fun σ2 H2 => wipe σ2 vs = wipe σ vs ∧ tt σ2 H2 fun b H3 =>
        if b = true then wi1 σ2 H3 fun J1 H4 => In1 D g1 tt1 te vs1 σ2 Nx J1 H4 else Nx H3) := by
  refine ⟨fun i m H => m = n - i ∧ i ≤ n ∧ Pv i H, ⟨n, by simp, Nat.zero_le _, h0⟩, ?_⟩
  rintro i m H ⟨rfl, hi, p⟩
  by_cases hlt : i < n
  · exact .inr ⟨w.goes i H hlt (hG i H hi p), Pv (i + 1), fun H' p' => ⟨n - (i + 1), by omega, rfl, hlt, p'⟩, fun x H' y => hs i x H H' hlt p (w.yields i H x H' hlt (hG i H hi p) y)⟩
  · have e : i = n := by omega
    subst e
    exact .inl ⟨w.stops H (hG _ H hi p), hd H p⟩
theorem in1_it (w : Walk J1 n G Y) {g1 : TG} {tt1 : TT} {te : TE} {vs1 : List Nat} {σ2 : L2.St} {H4 : Hp} {D : Addr} {Nx : Hp → Prop} (Pw : Nat → Hp → Prop) (h0 : Pw 0 H4) (hG : ∀ i H, i ≤ n → Pw i H → G H)
    (hs : ∀ i x H H', i < n → Pw i H → Y i H x H' → g1 x (wipe σ2 vs1) H' fun σ3 H5 => wipe σ3 vs1 = wipe σ2 vs1 ∧ tt1 σ3 H5 fun b H6 =>
      if b = true then te σ3 H6 fun y H7 => ∃ acc, H7 D = some (.lst acc) ∧ acc.length < sizeLine ∧ Pw (i + 1) (upd H7 D (.lst (acc ++ [y]))) else Pw (i + 1) H6) (hd : ∀ H, Pw n H → Nx H) :
    In1 D g1 tt1 te vs1 σ2 Nx J1 H4 := by
  refine ⟨fun i m H => m = n - i ∧ i ≤ n ∧ Pw i H, ⟨n, by simp, Nat.zero_le _, h0⟩, ?_⟩
  rintro i m H ⟨rfl, hi, p⟩
  by_cases hlt : i < n
  · exact .inr ⟨w.goes i H hlt (hG i H hi p), Pw (i + 1), fun H' p' => ⟨n - (i + 1), by omega, rfl, hlt, p'⟩, fun x H' y => hs i x H H' hlt p (w.yields i H x H' hlt (hG i H hi p) y)⟩
  · have e : i = n := by omega
    subst e
    exact .inl ⟨w.stops H (hG _ H hi p), hd H p⟩
end

theorem yes_if {σ : L2.St} {H : Hp} {A B : Hp → Prop} (h : A H) : tYes σ H fun b H3 => if b = true then A H3 else B H3 := by
  show if true = true then A H else B H
  rw [if_pos rfl]
  exact h
theorem if_yes {A B : Hp → Prop} {H : Hp} (h : A H) : (fun (b : Bool) H3 => if b = true then A H3 else B H3) true H := by
  show if true = true then A H else B H
  rw [if_pos rfl]
  exact h
theorem if_no {A B : Hp → Prop} {H : Hp} (h : B H) : (fun (b : Bool) H3 => if b = true then A H3 else B H3) false H := by
  show if false = true then A H else B H
  rw [if_neg Bool.false_ne_true]
  exact h
theorem tyl {K : PySem.W.Frag} {H : Hp} {p : Addr} {xs : List V} (h : H p = some (.lst xs)) : tyV K "list" (.ref p) H := .inl ⟨rfl, xs, .inl (.inl h)⟩
theorem erase_map {α β} (f : α → β) (l : List α) (i : Nat) : (l.map f).eraseIdx i = (l.eraseIdx i).map f := by
  simp [List.eraseIdx_eq_take_drop_succ, List.map_take, List.map_drop]
theorem erase_perm {α} : ∀ (l : List α) (i : Nat) (h : i < l.length), (l[i] :: l.eraseIdx i).Perm l
  | x :: r, 0, _ => .refl _
  | x :: r, i + 1, h => (List.Perm.swap x _ _).trans ((erase_perm r i (Nat.lt_of_succ_lt_succ h)).cons x)
theorem cut_lo (xs : List V) (k : Nat) : cutV xs (some (k : Int)) none = xs.drop k := by
  unfold cutV
  rw [HT.sIx_none, HT.sIx_nat]
  by_cases h : k ≤ xs.length
  · rw [Nat.min_eq_left h]
    exact List.take_of_length_le (by rw [List.length_drop]; exact Nat.le_refl _)
  · rw [Nat.min_eq_right (by omega), Nat.sub_self, List.take_zero, List.drop_of_length_le (by omega)]
theorem cut_hi (xs : List V) (k : Nat) : cutV xs none (some (k : Int)) = xs.take k := by
  unfold cutV
  rw [HT.sIx_none, HT.sIx_nat, List.drop_zero, Nat.sub_zero]
  by_cases h : k ≤ xs.length
  · rw [Nat.min_eq_left h]
  · rw [Nat.min_eq_right (by omega), List.take_length, List.take_of_length_le (by omega)]
theorem swap_perm {α : Type} (xs : List α) (a : Nat) (h : a + 1 < xs.length) : (xs.take a ++ [xs[a + 1], xs[a]] ++ xs.drop (a + 2)).Perm xs := by
  have e : xs = xs.take a ++ [xs[a], xs[a + 1]] ++ xs.drop (a + 2) := by
    have h1 : xs.drop a = xs[a] :: xs[a + 1] :: xs.drop (a + 2) := by rw [List.drop_eq_getElem_cons (by omega), List.drop_eq_getElem_cons h]
    conv => lhs; rw [← List.take_append_drop a xs, h1]
    simp
  conv => rhs; rw [e]
  exact List.Perm.append_right _ (List.Perm.append_left _ (List.Perm.swap _ _ _))
theorem turn_perm {α : Type} (xs : List α) (a : Nat) : (xs.drop a ++ xs.take a).Perm xs := List.perm_append_comm.trans (by rw [List.take_append_drop])
theorem cut_from (xs : List V) (k : Nat) : cutV xs (some ((k : Int) + 1)) none = xs.drop (k + 1) := by
  unfold cutV
  have e : ((k : Int) + 1) = ((k + 1 : Nat) : Int) := by omega
  rw [e, HT.sIx_none, HT.sIx_nat]
  by_cases h : k + 1 ≤ xs.length
  · rw [Nat.min_eq_left h]
    exact List.take_of_length_le (by rw [List.length_drop]; exact Nat.le_refl _)
  · rw [Nat.min_eq_right (by omega), Nat.sub_self, List.take_zero, List.drop_of_length_le (by omega)]
/-- a cut: what holds behind the statement, and from there the rest -/
def tCut (I : L2.St → Hp → Prop) (t u : TS) : TS := fun D σ H => t { D with nx := I } σ H ∧ ∀ σ' H', I σ' H' → u D σ' H'
theorem pss_cut {X : Cx} {st : Stmt} {rest : List Stmt} {t u : TS} (I : L2.St → Hp → Prop) (h1 : PS X st t) (h2 : PSs X rest u) : PSs X (st :: rest) (tCut I t u) := by
  refine ⟨fun pins s σ H D J h => ?_⟩
  refine wpAny_execs_cons (thn (h1.run pins s σ H { D with nx := I } J h.1) fun f s1 q => ?_)
  cases f with
  | next =>
    obtain ⟨σ', H', I', q⟩ := q
    exact h2.run pins s1 σ' H' D I' (h.2 σ' H' q)
  | ret v => exact q
  | brk => exact q
  | cont => exact q
theorem valV_none {κ : Type} [DecidableEq κ] {k : κ} : ∀ {kvs : List (κ × V)}, k ∉ kvs.map Prod.fst → valV kvs k = none
  | [], _ => rfl
  | p :: r, h => by
    rw [valV_neg fun e => h (by rw [← e]; exact List.mem_cons_self)]
    exact valV_none fun z => h (List.mem_cons_of_mem _ z)
theorem valV_some {κ : Type} [DecidableEq κ] {k : κ} {v : V} : ∀ {kvs : List (κ × V)} {j : Nat}, (kvs.map Prod.fst).Nodup → kvs[j]? = some (k, v) → valV kvs k = some v
  | p :: r, 0, _, e => by
    cases e
    exact valV_pos rfl
  | p :: r, j + 1, nd, e => by
    obtain ⟨h1, h2⟩ := List.nodup_cons.mp nd
    have hk : k ∈ r.map Prod.fst := List.mem_map.mpr ⟨(k, v), List.mem_of_getElem? (i := j) e, rfl⟩
    rw [valV_neg fun q => h1 (by rw [q]; exact hk)]
    exact valV_some (j := j) h2 e
/-! ### data that no list is in -/
mutual
inductive DpT (K : PySem.W.Frag) (H : Hp) : V → PyData → Prop
  | non : DpT K H .non .none
  | bl (b : Bool) : DpT K H (.bl b) (.bool b)
  | int (i : Int) : DpT K H (.int i) (.int i)
  | str (z : Str) : DpT K H (.str z) (.str z)
  | tup {a : Addr} {xs : List V} {ds : List PyData} : H a = some (.tup xs) → DpTs K H xs ds → DpT K H (.ref a) (.tuple ds)
inductive DpTs (K : PySem.W.Frag) (H : Hp) : List V → List PyData → Prop
  | nil : DpTs K H [] []
  | cons {x : V} {d : PyData} {xs : List V} {ds : List PyData} : DpT K H x d → DpTs K H xs ds → DpTs K H (x :: xs) (d :: ds)
end
mutual
theorem DpT.dp {K : PySem.W.Frag} {H : Hp} : ∀ {x : V} {d : PyData}, DpT K H x d → Dp K H x d
  | _, _, .non => .non
  | _, _, .bl b => .bl b
  | _, _, .int i => .int i
  | _, _, .str z => .str z
  | _, _, .tup h t => .tup (.inl (.inl h)) (DpTs.dp t)
theorem DpTs.dp {K : PySem.W.Frag} {H : Hp} : ∀ {x : List V} {d : List PyData}, DpTs K H x d → DpAll K H x d
  | _, _, .nil => .nil
  | _, _, .cons h t => .cons (DpT.dp h) (DpTs.dp t)
end
/-- where only lists (or nothing) stood, they stay -/
def Lists (ex : List Addr) (H : Hp) : Prop := ∀ b ∈ ex, ∀ xs, H b ≠ some (.tup xs)
theorem lists_none (H : Hp) : Lists [] H := fun b h => by cases h
theorem lists_one {H : Hp} {a : Addr} {xs : List V} (h : H a = some (.lst xs)) : Lists [a] H := fun b hb ys e => by
  rw [List.mem_singleton.mp hb, h] at e
  cases e
mutual
theorem DpT.grow {K : PySem.W.Frag} {ex : List Addr} {H H' : Hp} (a : Grow ex H H') (l : Lists ex H) : ∀ {x : V} {d : PyData}, DpT K H x d → DpT K H' x d
  | _, _, .non => .non
  | _, _, .bl b => .bl b
  | _, _, .int i => .int i
  | _, _, .str z => .str z
  | _, _, .tup (a := p) (xs := xs) h t => .tup (a.keep p _ (fun z => l p z xs h) h fun ps z => by cases z) (DpTs.grow a l t)
theorem DpTs.grow {K : PySem.W.Frag} {ex : List Addr} {H H' : Hp} (a : Grow ex H H') (l : Lists ex H) : ∀ {x : List V} {d : List PyData}, DpTs K H x d → DpTs K H' x d
  | _, _, .nil => .nil
  | _, _, .cons h t => .cons (DpT.grow a l h) (DpTs.grow a l t)
end
theorem dpT_str {K : PySem.W.Frag} {H : Hp} (z : Str) : DpT K H (.str z) (.str z) := .str z
theorem dpT_int {K : PySem.W.Frag} {H : Hp} (z : Int) : DpT K H (.int z) (.int z) := .int z
theorem dpT_strs {K : PySem.W.Frag} {H : Hp} : ∀ xs : List Str, DpTs K H (xs.map V.str) (xs.map PyData.str)
  | [] => .nil
  | x :: r => .cons (dpT_str x) (dpT_strs r)
theorem DpTs.snoc {K : PySem.W.Frag} {H : Hp} : ∀ {xs : List V} {ds : List PyData} {x : V} {d : PyData}, DpTs K H xs ds → DpT K H x d → DpTs K H (xs ++ [x]) (ds ++ [d])
  | _, _, _, _, .nil, q => .cons q .nil
  | _, _, _, _, .cons h t, q => .cons h (t.snoc q)
theorem DpTs.app {K : PySem.W.Frag} {H : Hp} : ∀ {xs ys : List V} {ds es : List PyData}, DpTs K H xs ds → DpTs K H ys es → DpTs K H (xs ++ ys) (ds ++ es)
  | _, _, _, _, .nil, q => q
  | _, _, _, _, .cons h t, q => .cons h (t.app q)
theorem DpTs.get {K : PySem.W.Frag} {H : Hp} : ∀ {xs : List V} {ds : List PyData} {i : Nat} {x : V}, DpTs K H xs ds → xs[i]? = some x → ∃ d, ds[i]? = some d ∧ DpT K H x d
  | _, _, 0, _, .cons h _, e => ⟨_, rfl, by cases e; exact h⟩
  | _, _, _ + 1, _, .cons _ t, e => t.get e
theorem DpTs.zip {K : PySem.W.Frag} {H : Hp} : ∀ {xs : List V} {ds : List PyData}, DpTs K H xs ds → ∀ b ∈ xs.zip ds, DpT K H b.1 b.2
  | _, _, .nil, b, hb => by cases hb
  | _, _, .cons h t, b, hb => by
    rcases List.mem_cons.mp hb with rfl | hb
    · exact h
    · exact t.zip b hb
theorem dpTs_of {K : PySem.W.Frag} {H : Hp} : ∀ {bs : List (V × PyData)}, (∀ b ∈ bs, DpT K H b.1 b.2) → DpTs K H (bs.map Prod.fst) (bs.map Prod.snd)
  | [], _ => .nil
  | b :: r, h => .cons (h b List.mem_cons_self) (dpTs_of fun c hc => h c (List.mem_cons_of_mem _ hc))
theorem DpTs.length {K : PySem.W.Frag} {H : Hp} : ∀ {xs : List V} {ds : List PyData}, DpTs K H xs ds → xs.length = ds.length
  | _, _, .nil => rfl
  | _, _, .cons _ t => congrArg (· + 1) t.length
/-- a list of such data -/
def LstT (K : PySem.W.Frag) (H : Hp) (D : Addr) (ds : List PyData) : Prop := ∃ xs, H D = some (.lst xs) ∧ DpTs K H xs ds
theorem LstT.dp {K : PySem.W.Frag} {H : Hp} {D : Addr} {ds : List PyData} (h : LstT K H D ds) : Dp K H (.ref D) (.list ds) := by
  obtain ⟨xs, h1, h2⟩ := h
  exact .lst (.inl (.inl h1)) h2.dp
theorem LstT.grow {K : PySem.W.Frag} {ex : List Addr} {H H' : Hp} {D : Addr} {ds : List PyData} (h : LstT K H D ds) (a : Grow ex H H') (l : Lists ex H) (n : D ∉ ex) : LstT K H' D ds := by
  obtain ⟨xs, h1, h2⟩ := h
  exact ⟨xs, a.lst n h1, h2.grow a l⟩
/-- one more at the end -/
theorem LstT.push {K : PySem.W.Frag} {H H' : Hp} {D : Addr} {ds : List PyData} {x : V} {d : PyData} (h : LstT K H D ds) (g : Grow [] H H') (q : DpT K H' x d) :
    ∃ acc, H' D = some (.lst acc) ∧ acc.length = ds.length ∧ LstT K (upd H' D (.lst (acc ++ [x]))) D (ds ++ [d]) := by
  obtain ⟨xs, h1, h2⟩ := h
  have e := g.lst (p := D) (by simp) h1
  have gr : Grow [D] H' (upd H' D (.lst (xs ++ [x]))) := grow_at e (fun ps z => by cases z) (by simp)
  exact ⟨xs, e, h2.length, _, upd_same, ((h2.grow g (lists_none H)).snoc q).grow gr (lists_one e)⟩
/-- the items of another such list behind them -/
theorem LstT.ext {K : PySem.W.Frag} {H : Hp} {D F : Addr} {ds es : List PyData} (h : LstT K H D ds) (k : LstT K H F es) :
    ∃ xs zs, H D = some (.lst xs) ∧ H F = some (.lst zs) ∧ xs.length = ds.length ∧ zs.length = es.length ∧ LstT K (upd H D (.lst (xs ++ zs))) D (ds ++ es) := by
  obtain ⟨xs, h1, h2⟩ := h
  obtain ⟨zs, k1, k2⟩ := k
  have gr : Grow [D] H (upd H D (.lst (xs ++ zs))) := grow_at h1 (fun ps z => by cases z) (by simp)
  exact ⟨xs, zs, h1, k1, h2.length, k2.length, _, upd_same, (h2.app k2).grow gr (lists_one h1)⟩
/-- list.index of a text that is in -/
theorem index_str {K : PySem.W.Frag} {H : Hp} {m : Addr} {ws : List Str} {b : Str} {Q : VK} (h : SqL K H m (ws.map V.str)) (hb : b ∈ ws) (q : Q (.int (ws.idxOf b : Nat)) H) : rIndex K (.ref m) [.str b] H Q := by
  have h1 := List.idxOf_lt_length_of_mem hb
  refine ⟨m, ws.map V.str, .str b, ws.idxOf b, .str b, rfl, rfl, h, rfl, ?_, ?_, by simp [eqV], fun j z' hj hz => ?_, q⟩
  · rw [List.all_map, List.all_eq_true]
    exact fun x _ => rfl
  · rw [List.getElem?_map, List.getElem?_eq_getElem h1, List.getElem_idxOf h1]
    rfl
  · rw [List.getElem?_map] at hz
    cases hw : ws[j]? with
    | none => rw [hw] at hz; cases hz
    | some z =>
      rw [hw] at hz
      cases hz
      have : z ≠ b := fun e => by
        subst e
        have h2 := List.not_of_lt_findIdx (p := (· == z)) (xs := ws) hj
        obtain ⟨h3, h4⟩ := List.getElem?_eq_some_iff.mp hw
        rw [h4] at h2
        simp at h2
      simp [eqV, this]
end Gx

/-! Sorted rows of data: what is a rearrangement of another sorts alike. -/
namespace Gx
open PySem PySem.Spec PyProof.Rows L2 GxR
open PySem.W in
theorem sort_same {β : Type} {enc : β → PyData} {xs ys : List β} (p : xs.Perm ys) (inj : ∀ a b, keyToks (enc a) = keyToks (enc b) → a = b) : xs.mergeSort (dataLe false enc) = ys.mergeSort (dataLe false enc) := by
  have tot := sortLe_total (listOrd itemOrd) false fun b => keyToks (enc b)
  refine List.Perm.eq_of_pairwise (le := fun a b => dataLe false enc a b = true) (fun a b _ _ h h' => ?_) (sort_pairwise tot xs) (sort_pairwise tot ys) ((List.mergeSort_perm xs _).trans (p.trans (List.mergeSort_perm ys _).symm))
  have h1 : (listOrd itemOrd).blt (keyToks (enc b)) (keyToks (enc a)) = false := by simpa [dataLe, sortLe] using h
  have h2 : (listOrd itemOrd).blt (keyToks (enc a)) (keyToks (enc b)) = false := by simpa [dataLe, sortLe] using h'
  exact inj a b ((listOrd itemOrd).total _ _ h2 h1)
theorem str_cps {x y : Str} (h : x.cps.toList = y.cps.toList) : x = y := by
  cases x; cases y
  congr 1
  exact Array.ext' h
theorem toks_str {a b : Str} (h : PySem.W.keyToks (.str a) = PySem.W.keyToks (.str b)) : a = b := by
  simp only [PySem.W.keyToks] at h
  exact str_cps (by simpa using h)
/-- a pair of texts -/
def encP (p : Str × Str) : PyData := .tuple [.str p.1, .str p.2]
theorem toks_pair {a b : Str × Str} (h : PySem.W.keyToks (encP a) = PySem.W.keyToks (encP b)) : a = b := by
  unfold encP at h
  simp only [PySem.W.keyToks, PySem.W.keyToksAll] at h
  simp at h
  exact Prod.ext (by have := h.1; exact str_cps (by simpa using this)) (by have := h.2; exact str_cps (by simpa using this))
theorem alike_strs (zs : List Str) : PySem.W.AllAlike (zs.map PyData.str) := PySem.W.AllAlike.of fun b b' => by simp [PySem.W.alike]
theorem sortable_strs (zs : List Str) : PySem.W.Sortable (zs.map PyData.str) := PySem.W.Sortable.others (enc := PyData.str) fun b => ⟨(nomatch ·), fun xs => (nomatch ·)⟩
theorem alike_pairs (ps : List (Str × Str)) : PySem.W.AllAlike (ps.map encP) := PySem.W.AllAlike.of fun b b' => by simp [encP, PySem.W.alike, PySem.W.alikeAll]
theorem sortable_pairs (ps : List (Str × Str)) : PySem.W.Sortable (ps.map encP) := PySem.W.Sortable.tuples fun b => ⟨_, _, rfl⟩

/-- of a pair of texts -/
theorem pair_inv {K : PySem.W.Frag} {H : Hp} {x : V} {p : Str × Str} (h : DpT K H x (encP p)) : ∃ r, x = .ref r ∧ H r = some (.tup [.str p.1, .str p.2]) := by
  unfold encP at h
  cases h with
  | tup e t =>
    cases t with
    | cons a t =>
      cases t with
      | cons b t =>
        cases t
        cases a
        cases b
        exact ⟨_, rfl, e⟩
/-- sorted of a list of pairs of texts -/
theorem sort_pairs {K : PySem.W.Frag} {H : Hp} {D : Addr} {ps : List (Str × Str)} {Q : VK} (h : LstT K H D (ps.map encP)) (hl : ps.length ≤ 1000000)
    (q : ∀ p o, H p = none → LstT K (upd H p o) p ((ps.mergeSort (PySem.W.dataLe false encP)).map encP) → Q (.ref p) (upd H p o)) : rSortG K Prod.fst Prod.snd [.ref D] H Q := by
  obtain ⟨xs, e, t⟩ := h
  have hlen := t.length
  have m1 : (xs.zip (ps.map encP)).map Prod.fst = xs := List.map_fst_zip (Nat.le_of_eq hlen)
  have m2 : (xs.zip (ps.map encP)).map Prod.snd = ps.map encP := List.map_snd_zip (Nat.le_of_eq hlen.symm)
  refine ⟨D, xs.zip (ps.map encP), rfl, .inl (.inl (by rw [m1]; exact e)), fun b hb => ⟨(t.zip b hb).dp, ?_⟩, by rw [m2]; exact alike_pairs ps, by rw [m2]; exact sortable_pairs ps, ?_, fun p np => q p _ np ⟨_, upd_same, ?_⟩⟩
  · have := List.mem_map_of_mem (f := Prod.snd) hb
    rw [m2] at this
    obtain ⟨y, _, hy⟩ := List.mem_map.mp this
    rw [← hy]
    simp [encP, PyData.depth, PyData.depthAll]
  · rw [List.length_zip, hlen, Nat.min_self, List.length_map]
    unfold sizeLine
    omega
  · have k : ((xs.zip (ps.map encP)).mergeSort (PySem.W.dataLe false Prod.snd)).map Prod.snd = (ps.mergeSort (PySem.W.dataLe false encP)).map encP := by
      rw [List.map_mergeSort (f := Prod.snd) (r := PySem.W.dataLe false Prod.snd) (s := PySem.W.dataLe false id) fun a _ b _ => rfl, m2,
        ← List.map_mergeSort (f := encP) (r := PySem.W.dataLe false encP) (s := PySem.W.dataLe false id) fun a _ b _ => rfl]
    rw [← k]
    exact (dpTs_of fun b hb => t.zip b ((List.mergeSort_perm _ _).mem_iff.mp hb)).grow (grow_new (ex := []) np) (lists_none _)
/-- data that can be shown, compared, sorted: no deeper than n, no more than m -/
structure Fine (d : PyData) (n m : Nat) : Prop where
  lay : d.canLay0 = true
  show_ : d.showable = true
  nod : d.hasDict = false
  leaves : d.leavesShort 8 = true
  deep : d.depth ≤ n
  bulk : d.bulk ≤ m
structure Fines (ds : List PyData) (n m : Nat) : Prop where
  lay : PyData.canLayAll0 ds = true
  show_ : PyData.showableAll ds = true
  nod : PyData.hasDictAll ds = false
  leaves : PyData.leavesShortAll 8 ds = true
  deep : PyData.depthAll ds ≤ n
  bulk : PyData.bulkAll ds ≤ ds.length * (m + 1)
theorem fines {n m : Nat} : ∀ {ds : List PyData}, (∀ d ∈ ds, Fine d n m) → Fines ds n m
  | [], _ => ⟨rfl, rfl, rfl, rfl, Nat.zero_le _, by simp [PyData.bulkAll]⟩
  | d :: r, h => by
    have h1 := h d List.mem_cons_self
    have h2 := fines (ds := r) fun d q => h d (List.mem_cons_of_mem _ q)
    refine ⟨?_, ?_, ?_, ?_, ?_, ?_⟩
    · rw [PyData.canLayAll0, h1.lay, h2.lay]; rfl
    · rw [PyData.showableAll, h1.show_, h2.show_]; rfl
    · rw [PyData.hasDictAll, h1.nod, h2.nod]; rfl
    · rw [PyData.leavesShortAll, h1.leaves, h2.leaves]; rfl
    · rw [PyData.depthAll]
      exact Nat.max_le.mpr ⟨h1.deep, h2.deep⟩
    · rw [PyData.bulkAll, List.length_cons, Nat.succ_mul]
      have := h1.bulk
      have := h2.bulk
      omega
theorem Fine.list {n m k : Nat} {ds : List PyData} (h : ∀ d ∈ ds, Fine d n m) (hk : ds.length * (m + 1) ≤ k) : Fine (.list ds) (n + 1) k := by
  have f := fines h
  exact ⟨by rw [PyData.canLay0]; exact f.lay, by rw [PyData.showable]; exact f.show_, by rw [PyData.hasDict]; exact f.nod, by rw [PyData.leavesShort]; exact f.leaves, by rw [PyData.depth]; exact Nat.succ_le_succ f.deep, by rw [PyData.bulk]; exact Nat.le_trans f.bulk hk⟩
theorem Fine.tuple {n m k : Nat} {ds : List PyData} (h : ∀ d ∈ ds, Fine d n m) (hk : ds.length * (m + 1) ≤ k) : Fine (.tuple ds) (n + 1) k := by
  have f := fines h
  exact ⟨by rw [PyData.canLay0]; exact f.lay, by rw [PyData.showable]; exact f.show_, by rw [PyData.hasDict]; exact f.nod, by rw [PyData.leavesShort]; exact f.leaves, by rw [PyData.depth]; exact Nat.succ_le_succ f.deep, by rw [PyData.bulk]; exact Nat.le_trans f.bulk hk⟩
theorem Fine.str {z : Str} {m : Nat} (h : ∀ c ∈ z.cps.toList, c < 0x110000) (l : z.length ≤ m) : Fine (.str z) 0 m := by
  refine ⟨?_, rfl, rfl, ?_, Nat.le_refl _, l⟩
  · show PyData.strOk z = true
    unfold PyData.strOk
    rw [← Array.all_toList, List.all_eq_true]
    exact fun c hc => decide_eq_true (h c hc)
  · show (z.cps.toList.all fun c => decide (c < 16 ^ 8)) = true
    rw [List.all_eq_true]
    exact fun c hc => decide_eq_true (Nat.lt_of_lt_of_le (h c hc) (by decide))
theorem Fine.shaped {d : PyData} {n m : Nat} (f : Fine d n m) (hn : n ≤ 60) : SeqAt.shaped d = true := by
  unfold SeqAt.shaped
  rw [f.lay, decide_eq_true (by have := f.deep; omega)]
  rfl
theorem Fine.shown {d : PyData} {n m : Nat} (f : Fine d n m) (h : 10 * m + 8 ≤ sizeLine) : d.shown.length ≤ sizeLine := by
  have := PyData.shown_le_bulk 8 (by decide) d f.leaves
  have := f.bulk
  omega
theorem Fine.eqv {d : PyData} {n m : Nat} (f : Fine d n m) : PyData.eqv d d = true := PySem.SeqAt.eqv_refl d f.lay
end Gx

/-! The end of a law over a head whose facts are told by names. -/
namespace Gx
open PySem PySem.Spec PyProof.Rows L2 GxR GenW
/-- a def without defaults, from the head's word of it -/
theorem DefIs.of {K : PySem.W.Frag} {x qual : Str} {st : Stmt} {fd : FuncData} {p : He.Defn} (F : FunD K x qual (defArgs st) (defBody st) (defScope st) [] [] (He.fAd K p) fd) : DefIs K x qual st (He.fAd K p) fd (.ref (He.cT K p).1) := by
  obtain ⟨oc, od, dV, kV, doc, pm, an, cdv, ct, osl, rfl, lk, hcd, hd, _⟩ := F.ex
  obtain ⟨c, rfl⟩ := He.codeIn_ref hcd
  rcases hd with ⟨_, rfl⟩ | ⟨h, _⟩
  · have e : He.codeOf K p = c := He.codeOf_eq lk rfl
    show DefIs K x qual st (He.fAd K p) _ (.ref (He.codeOf K p))
    rw [e]
    exact ⟨⟨oc, od, kV, doc, pm, an, ct, osl, rfl, lk⟩, hcd, F.kp⟩
  · exact absurd rfl h
section
theorem walk_GE {l : PySem.W.OpenLaw} {n k : Nat} {q : Program} {loose : List Str} {XP : (Str → Option Value) → Heap → Prop} {YP : World → Heap → Prop} {d : DefRec} {x : Str}
    (hn : l.most = some n) (hn2 : n ≤ sizeLine) (hdf : d.params.defaults = []) (hr : Room k callerA)
    (F : ∀ (w : World) (mg : Str → Option Value) (fa : Addr) (h : Heap), YP w h → h.Ns mainGlobals mg → mg d.name = some (.ref fa) → ∃ K : PySem.W.Frag, K.In h ∧ LawG l w K k n x mg fa h) :
    PySem.W.WalkO q loose XP YP l.row.toRowW d [] (fun f vs => PySem.call f vs) := by
  refine Att.attach_callB hn hdf fun w s₀ s₁ mg mb fa o pm cd doc a vs ns G Y ho hd hcd hmg hobj hints hlen hbits hg => ?_
  obtain ⟨K, KX, fd, cs, sp, hT, hb, hsp, hF⟩ := F w mg fa _ Y G.T.g hmg
  have aT : a ∉ cs.map Prod.snd := fun z => by
    obtain ⟨p, hp, e⟩ := List.mem_map.mp z
    have q := (hT p hp).1
    rw [e, hobj] at q
    have z' : Data.seq vs.toArray _ = Data.fields #[] := congrArg Obj.data (Option.some.inj q)
    cases z'
  have rv := vals_ints hints
  cases hk : K.lookup a with
  | some o2 =>
    have e := KX a o2 hk
    rw [hobj] at e
    cases e
    have sl : SqL K (fun b => if b ∈ cs.map Prod.snd then some (.tbl #[]) else none) a (ns.map V.int) :=
      .inr ⟨_, vs.toArray, _, hk, rfl, rfl, rfl, by rw [List.size_toArray, hints.length]; exact Nat.le_trans hlen hn2, by simpa using rv⟩
    have hT' : ∀ p ∈ cs, (fun b => if b ∈ cs.map Prod.snd then some (HO.tbl #[]) else none) p.2 = some (.tbl #[]) := fun p hp => if_pos (List.mem_map.mpr ⟨p, hp, rfl⟩)
    refine law_from _ hT' (fun b u z => ?_) KX G.T.g G.T.b G.T.builtins G.T.nolimit hg hT G.T.bmain hobj rv (Nat.le_trans hlen hn2) sl hr hF hb (hsp _ a ns hlen hbits hT' sl)
    by_cases hm : b ∈ cs.map Prod.snd
    · exact .inl ⟨hm, Option.some.inj (z.symm.trans (if_pos hm))⟩
    · have z' := z.symm.trans (if_neg hm)
      cases z'
  | none =>
    have sl : SqL K (fun b => if b = a then some (.frz (scriptObj vs) (.lst (ns.map V.int))) else if b ∈ cs.map Prod.snd then some (.tbl #[]) else none) a (ns.map V.int) := .inl (.inr ⟨scriptObj vs, if_pos rfl⟩)
    have hT' : ∀ p ∈ cs, (fun b => if b = a then some (HO.frz (scriptObj vs) (.lst (ns.map V.int))) else if b ∈ cs.map Prod.snd then some (.tbl #[]) else none) p.2 = some (.tbl #[]) := fun p hp =>
      (if_neg (show ¬ p.2 = a from fun z => aT (by rw [← z]; exact List.mem_map.mpr ⟨p, hp, rfl⟩))).trans (if_pos (List.mem_map.mpr ⟨p, hp, rfl⟩))
    refine law_from _ hT' (fun b u z => ?_) KX G.T.g G.T.b G.T.builtins G.T.nolimit hg hT G.T.bmain hobj rv (Nat.le_trans hlen hn2) sl hr hF hb (hsp _ a ns hlen hbits hT' sl)
    by_cases hm : b = a
    · exact .inr ⟨hm, hk, Option.some.inj (z.symm.trans (if_pos hm))⟩
    · have z1 := z.symm.trans (if_neg hm)
      by_cases hm2 : b ∈ cs.map Prod.snd
      · exact .inl ⟨hm2, Option.some.inj (z1.trans (if_pos hm2))⟩
      · have z' := z1.trans (if_neg hm2)
        cases z'
end
end Gx

/-! max( ) of whole numbers with a default. -/
namespace Gx
open PySem PySem.Spec PyProof.Rows L2
def MaxA (a d : Value) : Args := ⟨[a], [(Str.ofString "default", d)]⟩
theorem maxA_ok (a d : Value) : argsOk "max" (MaxA a d) := by
  unfold argsOk MaxA
  kernel_rfl
section
variable {prog : Program} {w : World} {A : Around} {R : Result → Shared → Prop} {I : Addr} {fp wr : List Addr} {n : Nat} {P : Nat → Value → Prop} {St : Nat → Heap → Prop}
/-- what the loop holds: nothing yet, or the best so far -/
def MaxHeld (P : Nat → Value → Prop) (bt : Nat → Nat → Bool) (j : Nat) (vs : Array Value) : Prop := (j = 0 ∧ vs = #[]) ∨ ∃ v, vs = #[v, v] ∧ 0 < j ∧ P (argBest bt (j - 1)) v
def MaxOut (P : Nat → Value → Prop) (bt : Nat → Nat → Bool) (n : Nat) (d v : Value) : Prop := (n = 0 ∧ v = d) ∨ (0 < n ∧ P (argBest bt (n - 1)) v)
theorem max_rounds (W : Walks prog w A.in1 I fp wr n P St) (bt : Nat → Nat → Bool) (hcmp : CmpOf prog w A.in1 .Gt P bt) (S : Addr) (hS0 : S ∉ fp) (d : Value) :
    ∀ (k j : Nat) (s : Shared) (vs : Array Value) (c : Nat), n - j = k → j ≤ n → St j s.heap → MaxHeld P bt j vs → s.heap.get? S = some { cls := .type "list", dict := none, data := .seq vs c, slots := #[] } →
    (∀ v h2 tk, MaxOut P bt n d v → (∀ b o, b ∉ wr → b ≠ S → s.heap.get? b = some o → h2.get? b = some o) → R (.ok (.ret v)) { s with heap := h2, toks := tk }) →
    codeAny (model prog w) A (.builtin "max.loop" ⟨[.ref I, .none, .ref S], [(Str.ofString "default", d)]⟩) R s := by
  have sw : S ∉ wr := fun h => hS0 (W.sub _ h)
  have nm : (toString "max" ++ toString ".loop" : String) = "max.loop" := by decide
  intro k
  induction k with
  | zero =>
    intro j s vs c e hj st held hS fin
    have ej : j = n := by omega
    subst ej
    refine codeAny_builtin F.entry_max_loop (by
      rw [Around.under_plainId F.plain_max_loop _]
      show wpAny _ A.in1 (seqItems? (.ref S) >>= _) _ _ s
      refine wpAny_bind (wpAny_seqItems hS rfl ?_)
      show wpAny _ A.in1 (tryCatch (pyNext (.ref I)) _ >>= _) _ _ s
      refine wpAny_bind (wpAny_tryCatch (W.done s _ _ st fun h2 tk keep => ?_))
      have hS2 := keep S _ sw hS
      rcases held with ⟨e0, rfl⟩ | ⟨v, rfl, j0, hv⟩
      · show wpAny _ A.in1 (rule _ >>= _) _ _ _
        refine wpAny_bind (wpAny_rule ?_)
        refine wpAny_pure ?_
        exact fin d h2 tk (.inl ⟨e0, rfl⟩) fun b o hw _ q => keep b o hw q
      · show wpAny _ A.in1 (updateSeq S (fun _ => #[]) >>= _) _ _ _
        refine wpAny_bind (wpAny_updateSeq hS2 rfl (wpAny_bind (wpAny_letGo (wpAny_pure ?_))))
        exact fin v _ tk (.inr ⟨j0, hv⟩) fun b o hw hb q => (Heap.get?_update_other _ _ (Ne.symm hb)).trans (keep b o hw q))
  | succ k ih =>
    intro j s vs c e hj st held hS fin
    have hlt : j < n := by omega
    refine codeAny_builtin F.entry_max_loop (by
      rw [Around.under_plainId F.plain_max_loop _]
      show wpAny _ A.in1 (seqItems? (.ref S) >>= _) _ _ s
      refine wpAny_bind (wpAny_seqItems hS rfl ?_)
      show wpAny _ A.in1 (tryCatch (pyNext (.ref I)) _ >>= _) _ _ s
      refine wpAny_bind (wpAny_tryCatch (W.item j s _ _ hlt st fun v h2 tk hP st2 keep => ?_))
      have hS2 := keep S _ sw hS
      rcases held with ⟨rfl, rfl⟩ | ⟨b0, rfl, j0, hb0⟩
      · show wpAny _ A.in1 (updateSeq S (fun _ => #[v, v]) >>= _) _ _ _
        refine wpAny_bind (wpAny_updateSeq hS2 rfl ?_)
        rw [nm]
        refine wpAny_pure ⟨plainId_quiet F.plain_max_loop _, ih 1 _ #[v, v] _ (by omega) (by omega) (W.frame _ _ _ st2 fun b hb o q => (Heap.get?_update_other _ _ (fun h : S = b => hS0 (by rw [h]; exact hb))).trans q) (.inr ⟨v, rfl, Nat.one_pos, hP⟩) (Heap.get?_update_self _ hS2 rfl) fun v3 h3 tk3 out keep3 => ?_⟩
        exact fin v3 h3 tk3 out fun b o hw hb q => keep3 b o hw hb ((Heap.get?_update_other _ _ (Ne.symm hb)).trans (keep b o hw q))
      · show wpAny _ A.in1 (tryCatch (holding [v, v] (richCompare .Gt v b0 >>= _)) _ >>= _) _ _ _
        refine wpAny_bind (wpAny_tryCatch (wpAny_holding (wpAny_bind (hcmp j (argBest bt (j - 1)) v b0 _ _ _ hP hb0 ?_))))
        refine wpAny_bind (wpAny_holding (wpAny_truthy_bool (wpAny_bind (wpAny_letGo (wpAny_pure ?_)))))
        have ea : ∀ q, bt j (argBest bt (j - 1)) = q → argBest bt j = if q = true then j else argBest bt (j - 1) := fun q hq => by
          obtain ⟨i, rfl⟩ : ∃ i, j = i + 1 := ⟨j - 1, by omega⟩
          rw [argBest]
          rw [show i + 1 - 1 = i from rfl] at hq ⊢
          rw [hq]
        cases hb : bt j (argBest bt (j - 1)) with
        | true =>
          have eb := ea true hb
          rw [if_pos rfl] at eb ⊢
          refine wpAny_bind (wpAny_updateSeq hS2 rfl (wpAny_bind (wpAny_letGo ?_)))
          rw [nm]
          refine wpAny_pure ⟨plainId_quiet F.plain_max_loop _, ih (j + 1) _ #[v, v] _ (by omega) (by omega) (W.frame _ _ _ st2 fun b hb o q => (Heap.get?_update_other _ _ (fun h : S = b => hS0 (by rw [h]; exact hb))).trans q) (.inr ⟨v, rfl, Nat.succ_pos _, by rw [Nat.add_sub_cancel, eb]; exact hP⟩) (Heap.get?_update_self _ hS2 rfl) fun v3 h3 tk3 out keep3 => ?_⟩
          exact fin v3 h3 tk3 out fun b o hw hb q => keep3 b o hw hb ((Heap.get?_update_other _ _ (Ne.symm hb)).trans (keep b o hw q))
        | false =>
          have eb := ea false hb
          rw [if_neg Bool.false_ne_true] at eb ⊢
          refine wpAny_bind (wpAny_letGo ?_)
          rw [nm]
          refine wpAny_pure ⟨plainId_quiet F.plain_max_loop _, ih (j + 1) _ #[b0, b0] c (by omega) (by omega) st2 (.inr ⟨b0, rfl, Nat.succ_pos _, by rw [Nat.add_sub_cancel, eb]; exact hb0⟩) hS2 fun v3 h3 tk3 out keep3 => ?_⟩
          exact fin v3 h3 tk3 out fun b o hw hb q => keep3 b o hw hb (keep b o hw q))
end
end Gx
namespace Gx
open PySem PySem.Spec PyProof.Rows L2
section
variable {prog : Program} {w : World} {A : Around} {E : Value → Shared → Prop} {s : Shared}
theorem max_def_walk {x d : Value} {Q : Value → Shared → Prop}
    (h : wpAny (model prog w) A.in1 (pyIter x) (fun it s2 => ∃ I fp wr n P St bt, it = .ref I ∧ Walks prog w A.in1 I fp wr n P St ∧ St 0 s2.heap ∧ (∀ b ∈ fp, b < s2.heap.objs.size) ∧ CmpOf prog w A.in1 .Gt P bt ∧
      ∀ v h2 tk, MaxOut P bt n d v → (∀ b o, b ∉ wr → s2.heap.get? b = some o → h2.get? b = some o) → Q v { s2 with heap := h2, toks := tk }) E s) :
    wpAny (model prog w) A (call (.builtin "max") [x] [(Str.ofString "default", d)]) Q E s := by
  have nm : (toString "max" ++ toString ".loop" : String) = "max.loop" := by decide
  refine wpAny_call (codeAny_call_builtin F.plain_max F.entry_max ?_)
  simp only [checkBuiltinCall, F.kind_max]
  have body : wpAny (model prog w) A.in1 (Builtin.«max» (MaxA x d)) (fun fin s' => match fin with
      | .done f => (match (Except.ok f : Result) with | .ok (.ret v) => Q v s' | .ok _ => False | .error e => E e s')
      | .again c' => c'.quiet = true ∧ codeAny (model prog w) A c' (fun r s' => match r with | .ok (.ret v) => Q v s' | .ok _ => False | .error e => E e s') s') E s := by
    show wpAny _ A.in1 (Builtin.Builtins.bindParams "max" ["key", "default"] 0 ⟨[], [(Str.ofString "default", d)]⟩ >>= _) _ _ s
    refine wpAny_bind (wpAny_of_eq (show Builtin.Builtins.bindParams "max" ["key", "default"] 0 ⟨[], [(Str.ofString "default", d)]⟩ = pure [none, some d] from rfl) ?_)
    refine wpAny_bind (wpAny_pure ?_)
    refine wpAny_bind (wpAny_mono h (fun it s2 h2 => ?_) fun _ _ e => e)
    obtain ⟨I, fp, wr, n, P, St, bt, rfl, W, hst, hfp, hcmp, hQ⟩ := h2
    refine wpAny_bind (wpAny_newObj_type ?_)
    have sf : s2.heap.objs.size ∉ fp := fun hm => Nat.lt_irrefl _ (hfp _ hm)
    rw [nm]
    refine wpAny_pure ⟨plainId_quiet F.plain_max_loop _, max_rounds W bt hcmp s2.heap.objs.size sf d n 0 _ #[] _ rfl (Nat.zero_le _) (W.frame _ _ _ hst fun b _ o e => Heap.get?_push_of_some _ e) (.inl ⟨rfl, rfl⟩) (Heap.get?_push_size _ rfl) fun v h3 tk out keep => ?_⟩
    exact hQ v h3 tk out fun b o hbw e => keep b o hbw (Nat.ne_of_lt (Heap.lt_size e)) (Heap.get?_push_of_some _ e)
  cases hsig : Manifest.signature? "max" with
  | none => exact wpAny_pure body
  | some sig =>
    have ok := maxA_ok x d
    simp only [argsOk, hsig] at ok
    have h2 : Bind.checkArgs "max" sig (MaxA x d) = pure () := ok
    show wpAny _ A.in1 (Bind.checkArgs "max" sig (MaxA x d)) _ _ s
    rw [h2]
    exact wpAny_pure body
end
end Gx
namespace Gx
open PySem PySem.Spec PyProof.Rows L2
/-- what max(ns, default=d) is -/
def TopOf (d : Int) (ns : List Int) (m : Int) : Prop := (ns = [] ∧ m = d) ∨ (m ∈ ns ∧ ∀ y ∈ ns, y ≤ m)
section
variable {prog : Program} {w : World} {A : Around} {E : Value → Shared → Prop} {s : Shared}
theorem max_def_ints {l : Addr} {its : List Value} {ns : List Int} {d : Int} {dt : Tok} {Q : Value → Shared → Prop} (hh : A.handled = none) (hl : s.heap.IsList l its.toArray) (hi : IntsAre its ns)
    (h : ∀ h2 tk m t2, (∀ b o, s.heap.get? b = some o → h2.get? b = some o) → TopOf d ns m → Q (.int m t2) { s with heap := h2, toks := tk }) : wpAny (model prog w) A (call (.builtin "max") [.ref l] [(Str.ofString "default", .int d dt)]) Q E s := by
  obtain ⟨xs, e⟩ := hi.allInts.items
  have hn : numsOf (intItems xs).toList = ns := by rw [← e]; exact hi.numsOf
  rw [nums_intItems] at hn
  subst hn
  rw [e] at hl
  refine max_def_walk (iter_intList hl fun s2 e2 st hfp hlI => ?_)
  subst e2
  refine ⟨_, _, _, _, _, _, _, rfl, Walks.list (A := A.in1) hh _ l hlI (intItems xs), st, hfp, CmpOf.ints_gt (numAt xs) (fun _ _ => intItems_at), fun v h2 tk out keep => ?_⟩
  rcases out with ⟨e0, rfl⟩ | ⟨n0, hv⟩
  · refine h h2 tk d dt (old_kept keep) (.inl ⟨?_, rfl⟩)
    have : xs.toList = [] := List.eq_nil_of_length_eq_zero (by simpa [intItems] using e0)
    rw [this]
    rfl
  · obtain ⟨t, rfl⟩ := intItems_at hv
    obtain ⟨h1, h2'⟩ := argBest_gt (numAt xs) ((intItems xs).size - 1)
    have hs : (intItems xs).size = xs.size := by simp [intItems]
    rw [hs] at h1 h2' n0
    rw [hs]
    refine h h2 tk _ t (old_kept keep) (.inr ⟨?_, fun a ha => ?_⟩)
    · rw [numAt_eq]
      exact PySem.getD_mem (by rw [List.length_map, Array.length_toList]; omega)
    · obtain ⟨j, hj, rfl⟩ := mem_getD ha
      rw [List.length_map, Array.length_toList] at hj
      rw [← numAt_eq]
      exact h2' j (by omega)
end
section
variable {X : Cx}
def rMaxDef (K : PySem.W.Frag) : List V → List V → Hp → VK → Prop := fun vs zs H Q => ∃ (a : Addr) (ns : List Int) (d : Int), vs = [V.ref a] ∧ zs = [V.int d] ∧ SqL K H a (ns.map V.int) ∧ ∀ m, TopOf d ns m → Q (.int m) H
theorem cr_maxDef (hc : X.calm = true) : CallRK X (.builtin "max") [Str.ofString "default"] (rMaxDef X.K) := by
  intro pins s σ H xs zs us ws Q I r1 r2 h
  obtain ⟨a, ns, d, rfl, rfl, hs, q⟩ := h
  obtain ⟨its, rv, hl, _⟩ := I.list hs
  rw [Vals.ref1 r1]
  cases r2 with
  | cons r rr =>
    cases rr
    obtain ⟨t, rfl⟩ := r
    exact max_def_ints (I.ok.hd hc) hl.isList rv.ints fun h2 tk m t2 keep top => ⟨.int m, H, I.kept keep, ⟨_, rfl⟩, q m top⟩
end
end Gx

/-! max(d.values(), default=k) of whole numbers. -/
namespace Gx
open PySem PySem.Spec PyProof.Rows L2
theorem topOf_out {ns : List Int} {d : Int} {n : Nat} (hn : n = ns.length) {P : Nat → Value → Prop} (hP : ∀ i v, P i v → i < n ∧ ∃ t, v = .int (ns.getD i 0) t) {dv v : Value} {dt : Tok} (hd : dv = .int d dt)
    (out : MaxOut P (fun i j => decide (ns.getD i 0 > ns.getD j 0)) n dv v) : ∃ m t, v = .int m t ∧ TopOf d ns m := by
  rcases out with ⟨e0, rfl⟩ | ⟨n0, hv⟩
  · exact ⟨d, dt, hd, .inl ⟨List.eq_nil_of_length_eq_zero (by omega), rfl⟩⟩
  · obtain ⟨hi, t, rfl⟩ := hP _ _ hv
    obtain ⟨h1, h2⟩ := argBest_gt (fun i => ns.getD i 0) (n - 1)
    refine ⟨_, t, rfl, .inr ⟨PySem.getD_mem (by omega), fun a ha => ?_⟩⟩
    obtain ⟨j, hj, rfl⟩ := mem_getD ha
    exact h2 j (by omega)
section
variable {X : Cx}
def tMaxVals (td : TE) (k : Int) : TE := fun σ H Q => td σ H fun x H1 => ∃ (d : Addr) (kvs : List (Key × V)) (ns : List Int), x = .ref d ∧ H1 d = some (.dK kvs) ∧ kvs.map Prod.snd = ns.map V.int ∧ ∀ m, TopOf k ns m → Q (.int m) H1
theorem pe_maxVals {e : Expr} {td : TE} {p apos cpos kpos kp pos : Pos} {k : Int} {kk : Nat} (hc : X.calm = true) (hg : Gl X "max") (hm : X.mg "max" = none) (he : PE X e td)
    (hbase : attributeBase e "values" X.env (eval e X.env) = eval e X.env := by rfl) (hline : (apos.endLine == cpos.line) = true := by rfl) :
    PE X (.Call (.Name "max" p) [.Call (.Attribute e "values" apos) [] [] cpos] [⟨some "default", .Constant (.int k) kk kp, kpos⟩] pos) (tMaxVals td k) := by
  refine ⟨fun pins s σ H Q I h => ?_⟩
  refine wpAny_Call_Name_kw (ld_blt I hg hm (show bootBuiltins "max" = some (.builtin "max") by decide +kernel) ?_)
  refine PyProof.Rows.callWith_kw ?_
  refine Calls.spliced_cons ?_
  refine wpAny_Call_method (T := "dict") (id := "dict.values") hbase rfl hline F.plainAttrs_dict F.slot_dict_values F.type_dict_values (thn (he.run pins s σ H _ I h) fun u s1 h1 => ?_)
  obtain ⟨x, H1, I1, rx, d, kvs, ns, rfl, hd, hv, q⟩ := h1
  obtain rfl : u = Value.ref d := rx
  obtain ⟨hz, hs, vs, kv, o1, es, ep, ho, hx, hdt, r⟩ := I1.hok d _ hd
  have hD : s1.heap.DictAt (mixKind X.prog X.w) d vs ep := ⟨o1, es, ho, hx, hdt, r⟩
  have hl : kvs.length = vs.length := Paired.length kv
  have hln : kvs.length = ns.length := by have := congrArg List.length hv; rwa [List.length_map, List.length_map] at this
  refine ⟨hD.dictOf.typeIs, hD.dictOf.mapOf.noDict, ?_⟩
  refine method_meetsIn F.slot_dict_values F.entry_dict_values rfl (PySem.evalArgs_none ⟨rfl, hD.dictOf.typeIs, F.args_dict_values_1 _, _, meets_dict_values (mixKind X.prog X.w) d hs, ⟨vs, hD.dictOf⟩, ?_⟩)
  have I2 : L2.Inv X pins σ H1 { s1 with heap := s1.heap.push { cls := .type "dict_values", data := .fields #[.ref d] } } := I1.kept (t' := s1.toks) fun b ob z => Heap.get?_push_of_some _ z
  have nb : H1 s1.heap.objs.size = none := I1.hok.fresh (Nat.le_refl _)
  have I3 := I2.pinned (fp := [s1.heap.objs.size]) (fun b hb => by
    rw [List.mem_singleton.mp hb]
    exact I1.fpOk (Nat.le_refl _) nb) (fun b hb => by
    rw [List.mem_singleton.mp hb]
    exact ⟨_, Heap.get?_push_size _ rfl, fun v z => by cases z⟩)
  show wpAny _ _ (spliced []) _ _ _
  refine Calls.spliced_nil ?_
  refine thn ((pk_cons pe_int pk_nil).run pos _ _ σ H1 _ I3 (show tCons (tC (.int k)) tNil σ H1 (fun zs H2 => zs = [V.int k] ∧ H2 = H1) from ⟨rfl, rfl⟩)) fun ws s4 h4 => ?_
  obtain ⟨zs, H2, I4, rz, rfl, rfl⟩ := h4
  obtain ⟨t, rfl⟩ : ∃ t, ws = [Value.int k t] := by
    cases rz with
    | cons r0 rr =>
      cases rr
      obtain ⟨t, rfl⟩ := r0
      exact ⟨t, rfl⟩
  obtain ⟨_, _, us, ku, o4, es4, ep4, ho4, hx4, hdt4, r4⟩ := I4.hok d _ hd
  have hD4 : s4.heap.DictAt (mixKind X.prog X.w) d us ep4 := ⟨o4, es4, ho4, hx4, hdt4, r4⟩
  have hlu : kvs.length = us.length := Paired.length ku
  have view : s4.heap.get? s1.heap.objs.size = some { cls := .type "dict_values", data := .fields #[.ref d] } :=
    (I4.pin (s1.heap.objs.size, { cls := .type "dict_values", data := .fields #[.ref d] }) (List.mem_append_right _ (List.mem_append_right _ (mem_pinsAt (List.mem_singleton.mpr rfl) (Heap.get?_push_size _ rfl))))).1
  show wpAny _ _ (call (.builtin "max") [.ref s1.heap.objs.size] [(Str.ofString "default", .int k t)]) _ _ _
  have vals : ∀ i v, (∃ key, us[i]? = some (key, v)) → i < us.length ∧ ∃ t, v = .int (ns.getD i 0) t := fun i v hk => by
    obtain ⟨key, hk⟩ := hk
    have hi := (List.getElem?_eq_some_iff.mp hk).1
    obtain ⟨⟨k2, x2⟩, hk2⟩ : ∃ q, kvs[i]? = some q := ⟨kvs[i]'(by omega), List.getElem?_eq_getElem (by omega)⟩
    obtain ⟨u2, hu2, ru2⟩ := kv_get ku hk2
    rw [hk] at hu2
    cases hu2
    have e1 := congrArg (fun l => l[i]?) hv
    simp only [List.getElem?_map, hk2] at e1
    have hni : i < ns.length := by omega
    rw [List.getElem?_eq_getElem hni] at e1
    have e2 : x2 = V.int ns[i] := Option.some.inj e1
    subst e2
    obtain ⟨t2, rfl⟩ := ru2
    exact ⟨hi, t2, by rw [List.getD_eq_getElem?_getD, List.getElem?_eq_getElem hni]; rfl⟩
  refine max_def_walk (wpAny_pyIter_values (d := d) (knd := mixKind X.prog X.w) ⟨_, view, rfl, rfl⟩ hD4 ?_)
  have hlt : d < s4.heap.objs.size := by
    obtain ⟨_, _, e, _⟩ := hD4
    exact Heap.lt_size e
  refine ⟨s4.heap.objs.size, _, _, _, _, _, fun i j => decide (ns.getD i 0 > ns.getD j 0), rfl, Walks.dictValues (A := X.A.in1) (knd := mixKind X.prog X.w) (I.ok.hd hc) s4.heap.objs.size d (Nat.ne_of_lt hlt) us ep4, ⟨⟨_, Heap.get?_push_size _ rfl, rfl, rfl⟩, hD4.push _⟩, fun b hb => ?_, CmpOf.ints_gt (fun i => ns.getD i 0) (fun i v hk => (vals i v hk).2), fun v h2 tk out keep => ?_⟩
  · show b < (s4.heap.push _).objs.size
    rw [Heap.size_push]
    rcases List.mem_cons.mp hb with rfl | hb
    · exact Nat.lt_succ_self _
    · rw [List.mem_singleton.mp hb]
      exact Nat.lt_succ_of_lt hlt
  · obtain ⟨m, t3, rfl, top⟩ := topOf_out (by omega) vals rfl out
    refine ⟨.int m, H2, (I4.unpinned.kept fun b o e => ?_), ⟨_, rfl⟩, q m top⟩
    exact keep b o (fun z => by rw [List.mem_singleton.mp z] at e; exact absurd (Heap.lt_size e) (Nat.lt_irrefl _)) (Heap.get?_push_of_some _ e)
end
end Gx
namespace Gx
open PySem PySem.Spec PyProof.Rows L2
theorem kv_vals {κ : Type} : ∀ {kvs : List (κ × V)} {us : List (κ × Value)} {vs : List Value}, KV kvs us → vs = us.map Prod.snd → Vals (kvs.map Prod.snd) vs
  | _, _, _, .nil, rfl => .nil
  | _, _, _, .cons h t, rfl => .cons h.2 (kv_vals t rfl)
section
variable {X : Cx}
/-- list(d.values()) -/
def tListVals (td : TE) : TE := fun σ H Q => td σ H fun x H1 => ∃ (d : Addr) (kvs : List (Key × V)), x = .ref d ∧ H1 d = some (.dK kvs) ∧ ∀ l, H1 l = none → Q (.ref l) (upd H1 l (.lst (kvs.map Prod.snd)))
theorem pe_listVals {e : Expr} {td : TE} {p apos cpos pos : Pos} (hc : X.calm = true) (hg : Gl X "list") (hm : X.mg "list" = none) (he : PE X e td)
    (hbase : attributeBase e "values" X.env (eval e X.env) = eval e X.env := by rfl) (hline : (apos.endLine == cpos.line) = true := by rfl) (na : starEach [(.Call (.Attribute e "values" apos) [] [] cpos : Expr)] X.env = (false, eval (.Call (.Attribute e "values" apos) [] [] cpos) X.env) :: starEach [] X.env := by rfl) :
    PE X (.Call (.Name "list" p) [.Call (.Attribute e "values" apos) [] [] cpos] [] pos) (tListVals td) := by
  refine ⟨fun pins s σ H Q I h => Call_ (ld_blt I hg hm (show bootBuiltins "list" = some (.type "list") by decide +kernel) ?_)⟩
  refine PyProof.Rows.callWith_type1 (PyProof.Rows.args_cons ?_ na) na rfl
  refine wpAny_Call_method (T := "dict") (id := "dict.values") hbase rfl hline F.plainAttrs_dict F.slot_dict_values F.type_dict_values (thn (he.run pins s σ H _ I h) fun u s1 h1 => ?_)
  obtain ⟨x, H1, I1, rx, d, kvs, rfl, hd, q⟩ := h1
  obtain rfl : u = Value.ref d := rx
  obtain ⟨hz, hs, vs, kv, o1, es, ep, ho, hx, hdt, r⟩ := I1.hok d _ hd
  have hD : s1.heap.DictAt (mixKind X.prog X.w) d vs ep := ⟨o1, es, ho, hx, hdt, r⟩
  have hl : kvs.length = vs.length := Paired.length kv
  refine ⟨hD.dictOf.typeIs, hD.dictOf.mapOf.noDict, ?_⟩
  refine method_meetsIn F.slot_dict_values F.entry_dict_values rfl (PySem.evalArgs_none ⟨rfl, hD.dictOf.typeIs, F.args_dict_values_1 _, _, meets_dict_values (mixKind X.prog X.w) d hs, ⟨vs, hD.dictOf⟩, PyProof.Rows.args_nil ?_⟩)
  have I2 : L2.Inv X pins σ H1 { s1 with heap := s1.heap.push { cls := .type "dict_values", data := .fields #[.ref d] } } := I1.kept (t' := s1.toks) fun b ob z => Heap.get?_push_of_some _ z
  refine PySem.W.kdl_call (PySem.W.kdl_values (knd := mixKind X.prog X.w) (d := d) (r := s1.heap.objs.size) (kvs := vs) (ep := ep)) (I.ok.hd hc) ⟨⟨_, Heap.get?_push_size _ rfl, rfl, rfl⟩, hD.push _⟩ (by omega) fun h2 tk acc c keep new items => ?_
  have ev : acc.toList = vs.map Prod.snd := PySem.W.kdl_vals_eq acc.toList (by rw [Array.length_toList]; exact items.1) fun j v e => items.2 j v (by rw [← Array.getElem?_toList]; exact e)
  refine ⟨.ref _, _, I2.laid (t' := tk) (h' := h2) keep (Nat.le_refl _) (show ObjOk X.prog X.w _ h2 _ (.lst (kvs.map Prod.snd)) from ⟨by rw [List.length_map]; exact hz, acc.toList, c, kv_vals kv ev, ?_⟩), rfl, q _ (I2.hok.fresh (Nat.le_refl _))⟩
  rw [Array.toArray_toList]
  exact new
end
end Gx

/-! sorted(set(xs)) of a list of whole numbers -/
namespace Gx
open PySem PySem.Spec PyProof.Rows L2
section
variable {prog : Program} {w : World} {A : Around}
/-- set(l), l a list of whole numbers, with the order of its members -/
theorem set_of_ints {E : Value → Shared → Prop} {s : Shared} {l : Addr} {items : Array Value} {ns : List Int} {Q : Value → Shared → Prop} (hh : A.handled = none) (hl : s.heap.IsList l items) (hi : IntsAre items.toList ns) (hb : ns.length + 1 < scanBound)
    (h : ∀ (h' : Heap) (tk c : Nat), SetR w h' s.heap.objs.size (fun j => decide (j ∈ ns)) c → c ≤ ns.length → (∀ b o, s.heap.get? b = some o → h'.get? b = some o) → Q (.ref s.heap.objs.size) { s with heap := h', toks := tk }) :
    wpAny (model prog w) A (call (.type "set") [.ref l]) Q E s := by
  have hn : ns.length = items.size := by have q := IntsAre.length hi; rw [Array.length_toList] at q; exact q.symm
  obtain ⟨led, hled⟩ : ∃ led : Bool, (!w.params.followText "set-order") = led := ⟨_, rfl⟩
  obtain ⟨c0, tl0, mro0⟩ := PySem.F.called_set.mro
  have made0 := PySem.F.called_set.made; have sub0 := PySem.F.called_set.sub
  have nt0 := PySem.F.called_set.notType; have cc0 := PySem.F.called_set.canCreate
  have tc0 := PySem.F.typeCall_set_1 (.ref l)
  refine wpAny_call (codeAny_of_tree ?_)
  show wpAny (model prog w) _ (callAny (.type "set") _) _ _ _
  refine wpAny_pure ⟨Code.quiet_builtin _ (by decide +kernel), codeAny_builtin PySem.F.entry_type_call ?_⟩
  rw [Around.under_plain (weight_type_call_type "set" [.ref l] []) rfl]
  repeat any_goals first | assumption | wp_step
  refine codeAny_mono (code_set_led1 (.ref l) (E := E) (Q₁ := fun z t => z = .ref s.heap.objs.size ∧ t = { s with heap := s.heap.push { cls := .type "set", dict := none, data := .set #[] 0 (.fresh 0 0 (!w.params.followText "set-order")) } }) ⟨rfl, rfl⟩) fun r1 t1 q1 => ?_
  match r1, q1 with
  | .error e, q1 => exact q1
  | .ok (.ret z), q1 =>
    obtain ⟨rfl, rfl⟩ := q1
    have gS : (s.heap.push { cls := .type "set", dict := none, data := .set #[] 0 (.fresh 0 0 (!w.params.followText "set-order")) }).get? s.heap.objs.size = some { cls := .type "set", dict := none, data := .set #[] 0 (.fresh 0 0 (!w.params.followText "set-order")) } := Heap.get?_push_size _ rfl
    have tS : Shared.TypeIs { s with heap := s.heap.push { cls := .type "set", dict := none, data := .set #[] 0 (.fresh 0 0 (!w.params.followText "set-order")) } } (.ref s.heap.objs.size) "set" := ⟨_, gS, rfl⟩
    have li := PySem.F.called_set.init.lookup; have bi := PySem.F.called_set.init.bind (.ref s.heap.objs.size)
    repeat any_goals first | assumption | wp_step
    refine codeAny_mono (codeAny_call_builtin (R := wants (fun r t => r = .none ∧ ∃ h' tk c, t = { s with heap := h', toks := tk } ∧ SetR w h' s.heap.objs.size (fun j => decide (j ∈ ns)) c ∧ c ≤ ns.length ∧
        ∀ b o, s.heap.get? b = some o → h'.get? b = some o) E) PySem.F.called_set.init.plain PySem.F.entry_set_init (check_set_init_1 tS ?_)) fun r2 t2 q2 => ?_
    · obtain ⟨ol, gl, cl, nl, dl⟩ := hl
      obtain ⟨oc, od, ot, os⟩ := ol
      simp only at cl dl
      subst cl; subst dl
      have ll : l < s.heap.objs.size := Heap.lt_size gl
      have gl' : (s.heap.push { cls := .type "set", dict := none, data := .set #[] 0 (.fresh 0 0 (!w.params.followText "set-order")) }).get? l = some { cls := .type "list", dict := od, data := .seq items nl, slots := os } := Heap.get?_push_of_some _ gl
      have il : (s.heap.push { cls := .type "set", dict := none, data := .set #[] 0 (.fresh 0 0 (!w.params.followText "set-order")) }).IsList l items := ⟨_, gl', rfl, nl, rfl⟩
      have s1 := PySem.F.sub_list_set; have s2 := PySem.F.sub_list_frozenset
      have nd : (Value.type "list" == Value.type "dict") = false := by decide
      unfold Builtin.«set.__init__» noKeywords Builtin.Frozenset.updateFrom
      generalize hp : pyIter = pI
      wp_walk
      subst hp
      refine wpAny_pyIter_list il ?_
      refine wpAny_bind (wpAny_runValue ?_)
      have h3 : A.in1.in1.in1.handled = none := by simp [hh]
      have ni : l ≠ (s.heap.push { cls := .type "set", dict := none, data := .set #[] 0 (.fresh 0 0 (!w.params.followText "set-order")) }).objs.size := by rw [Heap.size_push]; exact Nat.ne_of_lt (Nat.lt_succ_of_lt ll)
      have zf : s.heap.objs.size ∉ [(s.heap.push { cls := .type "set", dict := none, data := .set #[] 0 (.fresh 0 0 (!w.params.followText "set-order")) }).objs.size, l] := by
        rw [Heap.size_push]; simp only [List.mem_cons, List.mem_singleton, List.not_mem_nil, or_false, not_or]
        exact ⟨Nat.ne_of_lt (Nat.lt_succ_self _), Nat.ne_of_gt ll⟩
      have hv : ∀ (i : Nat) (v : Value), items[i]? = some v → ∃ k t, ns[i]? = some k ∧ v = .int k t := fun i v q => by
        have il2 : i < ns.length := by rw [hn]; exact (Array.getElem?_eq_some_iff.mp q).1
        obtain ⟨t, e⟩ := PyProof.Rows.IntsAre.int_at hi i v (by rw [Array.getElem?_toList]; exact q)
        refine ⟨ns[i], t, List.getElem?_eq_getElem il2, ?_⟩
        rw [e, List.getD_eq_getElem?_getD, List.getElem?_eq_getElem il2] <;> rfl
      refine set_update_ints ((Walks.list h3 _ l ni items).toS) s.heap.objs.size zf ns hn.symm hb hv (items.size - 0) 0 _ (by omega) (Nat.zero_le _) ⟨⟨_, Heap.get?_push_size _ rfl, rfl, rfl⟩, il.push _⟩ ?_ fun t c mv hc hS => ?_
      · refine ⟨0, Nat.le_refl 0, setR_new_at ?_⟩
        exact Heap.get?_push_of_some _ gS
      · obtain ⟨h', g', d', tk', os'⟩ := t
        obtain rfl : g' = s.gens := mv.gens
        obtain rfl : d' = s.drawn := mv.drawn
        obtain rfl : os' = s.os := mv.os
        show wpAny (model prog w) _ _ _ _ _
        refine wpAny_pure ?_
        show wpAny (model prog w) _ (ret Value.none) _ _ _
        refine wpAny_pure ⟨rfl, h', tk', c, rfl, hS, by omega, fun b o e => ?_⟩
        have lb := Heap.lt_size e
        refine mv.heap b o (fun z => ?_) (Heap.get?_push_of_some _ (Heap.get?_push_of_some _ e))
        rcases List.mem_cons.mp z with y | y
        · exact Nat.ne_of_lt lb y
        · rcases List.mem_cons.mp y with y | y
          · rw [Heap.size_push] at y
            exact Nat.ne_of_lt (Nat.lt_succ_of_lt lb) y
          · cases y
    · match r2, q2 with
      | .error e, q2 => exact q2
      | .ok (.ret r), q2 =>
        obtain ⟨rfl, h', tk, c, rfl, hS, hc, hk⟩ := q2
        repeat any_goals first | assumption | wp_step
        exact h _ _ _ hS hc hk
/-- sorted(s), s a set of whole numbers, any number of them -/
theorem sorted_setN {E : Value → Shared → Prop} {s : Shared} {a : Addr} {S : Int → Bool} {n : Nat} {Q : Value → Shared → Prop} (R : SetR w s.heap a S n) (hh : A.handled = none)
    (hQ : ∀ s' p (out : Array Value) (c : Nat) (ns : List Int), (∀ b o, s.heap.get? b = some o → s'.heap.get? b = some o) → s'.gens = s.gens → s'.os = s.os → s.heap.objs.size ≤ p →
      s'.heap.get? p = some (seqObj "list" out c) → IntsAre out.toList ns → ns.Pairwise (· < ·) → (∀ k, k ∈ ns ↔ S k = true) → ns.length = n → Q (.ref p) s') :
    wpAny (model prog w) A (call (.builtin "sorted") [.ref a]) Q E s := by
  obtain ⟨o, es, ep, t, ho, hex, hd, g, nd, hm, hb, hf, hn, hr, hl⟩ := R
  refine Calls.call_function_entry kind_sorted plain_sorted entry_sorted (args_sorted1 _) ?_
  unfold Builtin.«sorted»
  refine wpAny_bind (m := checkCount "sorted" 1 1 _) (wpAny_pure (wpAny_bind (collect_set (A := A.in1) hh ⟨o, ho, hex.1, hd⟩ hf hb hr hl fun s1 vs keep le g1 o1 pm => ?_)))
  have lv : vs.length = n := by rw [pm.length_eq, List.length_map, Array.length_toList]; exact hn
  have lz : vs.length ≤ sizeLine := by rw [lv, ← hn]; unfold scanBound at hb; unfold sizeLine; omega
  have hI : IntsAre vs (vs.map Builtin.Re.reRawOf) := ints_of vs fun v hv => by
    obtain ⟨e, he, q⟩ := List.mem_map.mp (pm.mem_iff.mp hv)
    obtain ⟨k, tk, h1, _⟩ := g e he
    exact ⟨k, tk, q.symm.trans h1⟩
  have pk : (vs.map Builtin.Re.reRawOf).Perm (es.toList.map keyOf) := by
    have q := pm.map Builtin.Re.reRawOf
    rwa [List.map_map] at q
  refine wpAny_bind (wpAny_newList ?_ lz)
  have gL : (s1.heap.push (seqObj "list" vs.toArray 0)).get? s1.heap.objs.size = some (seqObj "list" vs.toArray 0) := Heap.get?_push_size _ rfl
  refine wpAny_bind (wpAny_holding (wpAny_call_entry slot_list_sort ⟨_, gL, rfl⟩ entry_list_sort (SrtO.list_sort_ord SrtO.swo_int gL lz (fun h2 => SrtO.ints_sortable hI h2) fun out a1 a2 => ⟨_, rfl, ?_⟩) (args_list_sort _)))
  obtain ⟨k1, k2, k3⟩ := SrtO.ints_out hI a1 a2
  obtain ⟨c, hc⟩ := sortedHeap_at (vs := vs) (out := out.toArray) gL
  have pn : (out.map SrtO.iv).Perm (es.toList.map keyOf) := k2.trans pk
  refine wpAny_pure ⟨_, rfl, hQ _ s1.heap.objs.size out.toArray c _ (fun b u e => ?_) g1 o1 le hc k1 (lt_of_le_nodup _ k3 (pn.nodup_iff.mpr nd)) (fun k => by rw [pn.mem_iff, ← hm k]) ?_⟩
  · have q := keep b u e
    have hlt := Heap.lt_size q
    show (sortedHeap (s1.heap.push (seqObj "list" vs.toArray 0)) s1.heap.objs.size vs out.toArray).get? b = some u
    rw [sortedHeap_old (Nat.ne_of_lt hlt) (by rw [size_push']; exact Nat.lt_succ_of_lt hlt)]
    exact Heap.get?_push_of_some _ q
  · rw [pn.length_eq, List.length_map, Array.length_toList]; exact hn
end
section
variable {X : Cx}
/-- sorted(set(xs)) of a list of whole numbers -/
def tSortedSetI (K : PySem.W.Frag) (ta : TE) : TE := fun σ H Q => ta σ H fun x H1 => ∃ (l : Addr) (ns : List Int), x = .ref l ∧ SqL K H1 l (ns.map V.int) ∧ ns.length ≤ 4000 ∧
  ∀ (ms : List Int) p, ms.Pairwise (· < ·) → (∀ k, k ∈ ms ↔ k ∈ ns) → H1 p = none → Q (.ref p) (upd H1 p (.lst (ms.map V.int)))
theorem pe_sortedSetI {a : Expr} {ta : TE} {p p2 q pos : Pos} (hg : Gl X "sorted") (hm : X.mg "sorted" = none) (hg2 : Gl X "set") (hm2 : X.mg "set" = none) (hh : X.A.handled = none) (ha : PE X a ta)
    (na : starEach [a] X.env = (false, eval a X.env) :: starEach [] X.env := by rfl) : PE X (.Call (.Name "sorted" p) [.Call (.Name "set" p2) [a] [] q] [] pos) (tSortedSetI X.K ta) := by
  refine ⟨fun pins s σ H Q I h => Call_ (ld_blt I hg hm (show bootBuiltins "sorted" = some (.builtin "sorted") by decide +kernel) (PyProof.Rows.callWith_builtin1 (PyProof.Rows.args_cons (Call_ (ld_blt I hg2 hm2 boot_set ?_)) rfl) rfl rfl))⟩
  refine PyProof.Rows.callWith_type1 (PyProof.Rows.args_cons (thn (ha.run pins s σ H _ I h) fun v s1 h1 => PyProof.Rows.args_nil ?_) na) na rfl
  obtain ⟨x, H1, I1, r1, l, ns, rfl, hq, hz, q1⟩ := h1
  have e : v = .ref l := r1
  subst e
  obtain ⟨its, rv, pl, _⟩ := I1.list hq
  refine set_of_ints hh pl.isList (ns := ns) (by simpa using rv.ints) (by unfold scanBound; omega) fun h' tk c hS hc hk => ?_
  have I2 : Inv X pins σ H1 { s1 with heap := h', toks := tk } := I1.kept hk
  refine PyProof.Rows.args_nil ?_
  obtain ⟨s2, hs2⟩ : ∃ s2 : Shared, s2 = { s1 with heap := h', toks := tk } := ⟨_, rfl⟩
  rw [← hs2] at I2 ⊢
  refine sorted_setN (by rw [hs2]; exact hS) hh fun s' p out c ms k g o hp hgp hi hs hm hl => ?_
  have hlen : (ms.map V.int).length ≤ sizeLine := by rw [List.length_map, hl]; unfold sizeLine; omega
  have hn : H1 p = none := I2.hok.fresh hp
  have J : Inv X pins σ (upd H1 p (.lst (ms.map V.int))) { s2 with heap := s'.heap, gens := s'.gens, drawn := s'.drawn, toks := s'.toks } :=
    I2.call (ch := []) (Un.laid k hp hn) (I2.hok.laid k hp ⟨hlen, out.toList, c, vals_of_ints hi, hgp⟩) (by rw [g]; exact I2.bare) (fun _ z => nomatch z)
  have e : s' = { s2 with heap := s'.heap, gens := s'.gens, drawn := s'.drawn, toks := s'.toks } := by
    cases s'
    cases s2
    cases o
    rfl
  rw [e]
  exact ⟨.ref p, _, J, rfl, q1 ms p hs (fun k => by rw [hm k]; exact decide_eq_true_iff) hn⟩
end
end Gx
namespace Gx
open L2
theorem room65 {A : PySem.Around} {k : Nat} (r : Room k A) : A.units + 65 < PySem.cLine := by have := r.un; omega
end Gx

/-! name = {key: value for ..}, the name a local of its def -/
namespace Gx
open PySem PySem.Spec PyProof.Rows L2 GxR
section
variable {X : Cx}
theorem swD_true {k v : Expr} {gs : List Comprehension} {sc : Scope} {p q : Pos} {n : Str} {ln : Nat} {en : Env} (k1 : en.scope.kind = .function) (k2 : en.scope.names.lookup n = some .local) (k3 : (q.line == p.line) = true)
    (k4 : (sc.names.any fun (z, y) => z == n && (y == .local || y == .cell)) = false) : swapsWith (.DictComp k v gs sc p) (some (.Name n q)) ln en = pure true := by
  have e1 : en.kindOf n = some .local := k2
  have e2 : en.blockKind = .function := by
    unfold Env.blockKind
    rw [k1]
    rfl
  unfold swapsWith
  simp only [e2, e1, k4, Expr.pos, k3]
  rfl
theorem ps_setDc {n : Nat} {x : Str} {px p sp : Pos} {ke ve tg it : Expr} {ifs : List Expr} {sc : Scope} {own : List (Str × Nat)} {w : TI} {g : TG} {tt : TT} {tk tv : TE}
    (calm : X.calm = true) (nd : X.N.Nodup) (at_ : X.N[n]? = some x) (loc : X.env.scope.names.lookup x = some .local) (used : swapsWith (.DictComp ke ve [⟨tg, it, ifs, 0⟩] sc p) (some (.Name x px)) sp.line X.env = pure true)
    (hw : PI X tg it w) (ok : BlkOk X.N X.env.scope sc own)
    (hg : ∀ (s : Shared) (H : Hp) (C : Addr) (cl : List (Str × Addr)) (fp : List Addr),
      PG (X.blk s H sc (compEnvC sc cl C X.env) fp) tg g)
    (ht : ∀ (s : Shared) (H : Hp) (C : Addr) (cl : List (Str × Addr)) (fp : List Addr),
      PTs (X.blk s H sc (compEnvC sc cl C X.env) fp) ifs tt)
    (hk : ∀ (s : Shared) (H : Hp) (C : Addr) (cl : List (Str × Addr)) (fp : List Addr),
      PE (X.blk s H sc (compEnvC sc cl C X.env) fp) ke tk)
    (hv : ∀ (s : Shared) (H : Hp) (C : Addr) (cl : List (Str × Addr)) (fp : List Addr),
      PE (X.blk s H sc (compEnvC sc cl C X.env) fp) ve tv)
    (fold : ∀ z, foldedSetIterable it X.env z = pure z := by intro _; rfl) :
    PS X (.Assign [.Name x px] (.DictComp ke ve [⟨tg, it, ifs, 0⟩] sc p) sp) (tAsg (tDc w g tt tk tv (own.map (·.2))) (gName n)) := by
  refine ⟨fun pins s σ H J I h => ?_⟩
  rw [exec_Assign_Name_used _ _ _ _ used]
  refine wpAny_bind (wpAny_standAt (wpAny_bind ?_))
  show wpAny _ X.A (do
    let _ ← comprehension (.DictComp ke ve [⟨tg, it, ifs, 0⟩] sc p) sc X.env (firstIterPos [⟨tg, it, ifs, 0⟩] p) newDict false (eval it X.env) (some (assign (.Name x px) X.env))) _ _ s
  have h2 : tDc w g tt tk tv (own.map (·.2)) σ H (fun y H1 => gName n y σ H1 J.nx) := h
  refine wpAny_bind (thn (dc_core (Qf := fun _ s' => SP X pins J .next s') calm nd I hw ok hg ht hk hv fold h2 fun L C t m H' I' q ns fr => ?_) fun _ t hq => wpAny_pure (wpAny_pure hq))
  show wpAny _ _ (assign (.Name x px) X.env (.ref L)) _ _ _
  refine wpAny_assign_Name (store_ok2 (v := V.ref L) I' nd at_ (.inl loc) rfl (fun t2 I2 hb => ?_) (.inr loc))
  obtain ⟨b, sb, hb⟩ := hb
  obtain ⟨r0, r1, r2, r3, r4, r5⟩ := fr
  have ne : C ≠ b := by
    rcases hb with z | z
    · rw [z]
      exact r1
    · exact fun e => r4 x b z e.symm
  refine ⟨m, ns.sameBut sb ne, fun h3 sb3 => ⟨_, H', I2.turned (t' := t2.toks) (fun c o hc e => ?_) r0 r1 r3 r4 r5, q⟩⟩
  exact (sb3.2 c hc).trans e
end
end Gx

/-! Tuples whose objects are known to have no names of their own: made by tuple( ), and their methods. -/
namespace Gx
open PySem PySem.Spec PyProof.Rows L2 GxR
section
variable {X : Cx}
def rTupF (K : PySem.W.Frag) : List V → Hp → VK → Prop := fun xs H Q => ∃ (p : Addr) (ys : List V), xs = [.ref p] ∧ SqL K H p ys ∧ ∀ (l : Addr) (o : Obj), H l = none → o.dict = none → Q (.ref l) (upd H l (.frz o (.tup ys)))
theorem call_tupleF : CallR X (.type "tuple") (rTupF X.K) := by
  intro pins s σ H xs us Q I r h
  obtain ⟨p, ys, rfl, hq, q⟩ := h
  obtain ⟨u, rfl, rx⟩ := vals1 r
  obtain rfl : u = Value.ref p := rx
  obtain ⟨its, rv, pl, hz⟩ := I.list hq
  have hlen := rv.length
  refine call_tuple_list pl.isList (fun g keep => ?_) (by rw [List.size_toArray]; omega)
  have J : Inv X pins σ H { s with heap := g } := I.kept (t' := s.toks) keep
  have J2 : Inv X pins σ (upd H g.objs.size (.frz { cls := .type "tuple", data := .seq its.toArray } (.tup ys))) { s with heap := g.push { cls := .type "tuple", data := .seq its.toArray } } :=
    J.laid (t' := s.toks) (fun b o e => Heap.get?_push_of_some _ e) (Nat.le_refl _)
      (show ObjOk X.prog X.w _ _ _ (.frz _ (.tup ys)) from ⟨Heap.get?_push_size _ rfl, hz, its, rv, IsTup.new _ _⟩)
  exact ⟨.ref g.objs.size, _, J2, rfl, q _ _ (J.hok.fresh (Nat.le_refl _)) rfl⟩
/-- t.name(..), t such a tuple -/
def tBMF (r : V → List V → Hp → VK → Prop) (to : TE) (t : TA) : TE := fun σ H Q => to σ H fun x H1 => (∃ (p : Addr) (o : Obj) (ys : List V), x = .ref p ∧ H1 p = some (.frz o (.tup ys)) ∧ o.dict = none) ∧ t σ H1 fun xs H2 => r x xs H2 Q
variable {o e : Expr} {es : List Expr} {to : TE} {t : TA} {name : Str} {apos cpos : Pos} {id : String} {r : V → List V → Hp → VK → Prop}
theorem pe_bmF (slot : Slot "tuple" name id) (hty : typeOf (.builtin id) = pure (.type "method_descriptor")) (hm : MtR X id r) (ho : PE X o to) (ha : PA X (e :: es) t)
    (base : attributeBase o name X.env (eval o X.env) = eval o X.env := by rfl)
    (few : ((backTo cpos (starEach (e :: es) X.env)).all (fun x => !x.1) && (backToKw cpos (keywordEach [] X.env)).all (fun x => x.1.isSome) && decide ((e :: es).length + ([] : List Keyword).length + (if ([] : List Keyword).isEmpty then 0 else 1) < 30)) = true := by rfl)
    (line : (apos.endLine == cpos.line) = true := by rfl) (star : starEach (e :: es) X.env = (false, eval e X.env) :: starEach es X.env := by rfl)
    (plain : (backTo cpos (starEach es X.env)).any (·.1) = false := by rfl) :
    PE X (.Call (.Attribute o name apos) (e :: es) [] cpos) (tBMF r to t) := by
  refine ⟨fun pins s σ H Q I h => ?_⟩
  refine wpAny_Call_method_late base few line rfl (thn (ho.run pins s σ H _ I h) fun v s1 hx => ?_)
  obtain ⟨x, H1, I1, r1, ⟨p, ob, ys, rfl, hp, hd⟩, q1⟩ := hx
  obtain rfl : v = Value.ref p := r1
  obtain ⟨g, _, its, _, o2, g2, c2, _⟩ := I1.hok p _ hp
  have ty : s1.TypeIs (.ref p) "tuple" := ⟨o2, g2, c2⟩
  refine ⟨"tuple", id, PySem.F.plainAttrs_tuple, slot, hty, ty, fun a ea => ?_, ?_⟩
  · cases ea
    exact ⟨ob, g, hd⟩
  · have hA := ha.run cpos pins s1 σ H1 _ I1 q1
    rw [star] at hA ⊢
    refine Calls.callWith_builtin (by show (false || (backTo cpos (starEach es X.env)).any (·.1)) = false; rw [plain] <;> rfl) (Calls.evalArgs_plain ?_)
    exact thn hA fun us s2 hu => by
      obtain ⟨vs, H2, I2, r2, q2⟩ := hu
      exact hm pins s2 σ H2 (.ref p) vs (.ref p) us Q I2 rfl r2 q2
end
end Gx

/-! sorted(d), d a dict of up to sizeLine texts -/
namespace Gx
open PySem PySem.Spec PyProof.Rows L2 GxR GenW
section
variable {X : Cx}
def rSortD : List V → Hp → VK → Prop := fun xs H Q => ∃ (a : Addr) (kvs : List (Key × V)) (ks : List Str), xs = [.ref a] ∧ Rd H a (.dK kvs) ∧ kvs.map (·.1) = ks.map Sum.inr ∧ ks.length ≤ sizeLine ∧
  ∀ p, H p = none → Q (.ref p) (upd H p (.lst ((ks.mergeSort (PySem.W.dataLe false PyData.str)).map V.str)))
theorem strs_each : ∀ {vs : List Value} {ks : List Str}, StrsAre vs ks → PySem.W.EachIs (fun u b => RelV (V.str b) u) vs ks
  | _, _, h => by
    exact each_vals (val := V.str) (vals_of_strs h)
theorem cr_sortD (hcalm : X.calm = true) (hu : X.A.units + 64 < cLine) : CallR X (.builtin "sorted") rSortD := by
  intro pins s σ H xs us Q I r q
  obtain ⟨a, kvs, ks, ex, hd, hks, h64, q⟩ := q
  subst ex
  obtain ⟨u, eu, rx⟩ := vals1 r
  subst eu
  cases rx
  obtain ⟨z, lo, vs, rel, dd⟩ := dk_rd I.hok hd
  obtain ⟨ep, hat⟩ := dd.dictAt
  have hkeys : vs.map (·.1) = ks.map Sum.inr := rel.keys.symm.trans hks
  have hl : vs.length = ks.length := by
    have e := congrArg List.length hkeys
    rw [List.length_map, List.length_map] at e
    exact e
  have h16 : vs.length ≤ sizeLine := by rw [hl]; exact h64
  refine Calls.call_function_entry PyProof.Rows.kind_sorted PyProof.Rows.plain_sorted PyProof.Rows.entry_sorted (PyProof.Rows.args_sorted1 _) ?_
  unfold Builtin.«sorted»
  refine wpAny_bind (m := checkCount "sorted" 1 1 _) (wpAny_pure ?_)
  refine wpAny_bind (PySem.W.kdu_collect (A := X.A.in1) (PySem.W.kdl_dict (knd := mixKind X.prog X.w) (kvs := vs) (ep := ep) lo) (I.ok.hd hcalm) hat h16 fun h' tk acc hk hacc => ?_)
  have hal : acc.toList.length = ks.length := by rw [Array.length_toList, hacc.1, hl]
  have hS : StrsAre acc.toList ks := strs_at hal fun j v e => by
    obtain ⟨k, x, e1, e2⟩ := hacc.2 j v (by rw [← Array.getElem?_toList]; exact e)
    have e3 : (vs.map (·.1))[j]? = some k := by rw [List.getElem?_map, e1]; all_goals rfl
    rw [hkeys, List.getElem?_map] at e3
    cases e4 : ks[j]? with
    | none => rw [e4] at e3; cases e3
    | some y =>
      rw [e4] at e3
      have e5 : Sum.inr y = k := Option.some.inj e3
      subst e5
      obtain ⟨t, ev⟩ := Value.isStrOf_shape (x := y) (v := v) e2
      exact ⟨y, t, rfl, ev⟩
  have I1 : Inv X pins σ H { s with heap := h', toks := tk } := I.kept hk
  refine wpAny_bind (wpAny_newList ?_ (by rw [hal]; exact h64))
  have hoL : (h'.push (seqObj "list" acc.toList.toArray 0)).get? h'.objs.size = some (seqObj "list" acc.toList.toArray 0) := Heap.get?_push_size _ rfl
  show wpAny _ _ _ _ _ { s with heap := h'.push (seqObj "list" acc.toList.toArray 0), toks := tk }
  have ev := strs_each hS
  have er : PySem.W.EachIs (fun v b => ∃ as, Reads (h'.push (seqObj "list" acc.toList.toArray 0)) v (PyData.str b) as ∧ h'.objs.size ∉ as) acc.toList ks := each_mem ev fun v b hb rb => by
    obtain ⟨t, rfl⟩ := rb
    exact ⟨_, Reads.str b t, List.not_mem_nil⟩
  refine wpAny_bind (wpAny_holding (PySem.W.list_sort_data (s := { s with heap := h'.push (seqObj "list" acc.toList.toArray 0), toks := tk }) hoL ev er (alike_strs _) (sortable_strs _) h64 (fun b hb => by
    have : (PyData.str b).depth ≤ 1 := by show 0 ≤ 1; decide
    show X.A.in1.units + 1 + (PyData.str b).depth < cLine
    have : X.A.in1.units ≤ X.A.units + 32 := by
      show X.A.units + 1 ≤ X.A.units + 32
      omega
    omega) fun out ho eo => ?_))
  have rout : Vals ((ks.mergeSort (PySem.W.dataLe false PyData.str)).map V.str) out := vals_each eo
  obtain ⟨e', he'⟩ := PyProof.Rows.sortedHeap_at (vs := acc.toList) (out := out.toArray) hoL
  have hlen : ((ks.mergeSort (PySem.W.dataLe false PyData.str)).map V.str).length ≤ sizeLine := by rw [rout.length, ho]; exact h64
  refine wpAny_pure ⟨_, rfl, .ref h'.objs.size, upd H h'.objs.size (.lst ((ks.mergeSort (PySem.W.dataLe false PyData.str)).map V.str)), I1.laid (t' := tk) (fun b u e => ?_) (Nat.le_refl _)
    (show ObjOk X.prog X.w _ _ _ (.lst ((ks.mergeSort (PySem.W.dataLe false PyData.str)).map V.str)) from ⟨hlen, out, e', rout, he'⟩), rfl, q _ (I1.hok.fresh (Nat.le_refl _))⟩
  have hb : b < h'.objs.size := Heap.lt_size e
  rw [PyProof.Rows.sortedHeap_old (Nat.ne_of_lt hb) (by rw [size_push']; exact Nat.lt_succ_of_lt hb)]
  exact Heap.get?_push_of_some _ e
end
end Gx

/-! ### repr of a list in which dicts from texts to whole numbers stand -/
namespace Gx
open PySem PySem.Spec PyProof.Rows L2 GxR GenW
def encN (ps : List (Str × Int)) : PyData := .dict (ps.map fun p => (.str p.1, .int p.2))
inductive Dm (K : PySem.W.Frag) (H : Hp) : V → PyData → Prop
  | p {v : V} {d : PyData} : Dp K H v d → d.hasDict = false → Dm K H v d
  | k {a : Addr} {ps : List (Str × Int)} : H a = some (.dK (ps.map fun p => ((Sum.inr p.1 : Key), V.int p.2))) → Dm K H (.ref a) (encN ps)
inductive Dms (K : PySem.W.Frag) (H : Hp) : List V → List PyData → Prop
  | nil : Dms K H [] []
  | cons {v : V} {d : PyData} {vs : List V} {ds : List PyData} : Dm K H v d → Dms K H vs ds → Dms K H (v :: vs) (d :: ds)
section
variable {X : Cx} {pins : List (Addr × Obj)} {σ : L2.St} {H : Hp} {s : Shared}
theorem pairs_read {h : Heap} : ∀ {ps : List (Str × Int)} {vs : List (Key × Value)}, KV (ps.map fun p => ((Sum.inr p.1 : Key), V.int p.2)) vs →
    PyProof.V.PairsRead h (fun k : Key => match k with | .inl i => PyData.int i | .inr x => PyData.str x) vs (ps.map fun p => (.str p.1, .int p.2)) []
  | [], _, h => by
    unfold KV at h
    rw [List.map_nil] at h
    cases h
    exact .nil
  | p :: ps, _, h => by
    unfold KV at h
    rw [List.map_cons] at h
    cases h with
    | @cons a b as bs r t =>
      obtain ⟨k, u⟩ := b
      obtain ⟨e, t2, eu⟩ := r
      have e : Sum.inr p.1 = k := e
      have eu : u = Value.int p.2 t2 := eu
      subst e eu
      exact PyProof.V.PairsRead.cons (as := []) (bs := []) (Reads.int _ _) (pairs_read t)
theorem Dm.shows (I : Inv X pins σ H s) {v : V} {u : Value} {d : PyData} (h : Dm X.K H v d) (r : RelV v u) (hs : d.showable = true) (hz : d.shown.length ≤ sizeLine) :
    ∃ as bs, Reads s.heap u d as ∧ ReadAtMost s.heap d.depth bs ∧ ReprK X.prog X.w bs s.heap d.depth u d.shown := by
  cases h with
  | p hd nod =>
    obtain ⟨as, rd⟩ := Dp.reads I d v u hd r
    obtain ⟨bs, h1, h2⟩ := ReprK.of_reads (prog := X.prog) (w := X.w) rd hs (PyData.noDict_hsm nod) hz
    exact ⟨as, bs, rd, h1, h2⟩
  | @k a ps e =>
    cases r
    obtain ⟨_, lo, vs, rel, dd⟩ := dk_of I.hok e
    have rd : Reads s.heap (.ref a) (encN ps) [a] := PyProof.V.reads_dictOf (fun k key hk => by
      rcases keyIs_shape hk with ⟨i, t, rfl, rfl⟩ | ⟨x, t, rfl, rfl⟩
      · exact Reads.int i t
      · exact Reads.str x t) dd (pairs_read rel)
    obtain ⟨bs, h1, h2⟩ := ReprK.of_reads (prog := X.prog) (w := X.w) rd hs (fun _ hm => by
      rw [List.mem_singleton.mp hm] at lo
      exact absurd lo (by simp)) hz
    exact ⟨_, bs, rd, h1, h2⟩
theorem Dms.shows (I : Inv X pins σ H s) : ∀ {vs : List V} {us : List Value} {ds : List PyData}, Dms X.K H vs ds → Vals vs us → PyData.showableAll ds = true → (∀ t ∈ PyData.shownAll ds, t.length ≤ sizeLine) →
    ∃ as bs, ReadsAll s.heap us ds as ∧ ReadAtMost s.heap (PyData.depthAll ds) bs ∧ ReprAllK X.prog X.w bs s.heap (PyData.depthAll ds) us (PyData.shownAll ds)
  | _, _, _, .nil, r, _, _ => by
    cases r
    exact ⟨[], [], .nil, (fun _ h => nomatch h), by simp only [PyData.shownAll]; exact .nil⟩
  | _, _, _, .cons (d := d) (ds := ds) h t, r, hs, hz => by
    cases r with
    | cons r1 r2 =>
      rw [PyData.showableAll, Bool.and_eq_true] at hs
      obtain ⟨as, bs, a1, a2, a3⟩ := h.shows I r1 hs.1 (hz _ (by rw [PyData.shownAll]; exact List.mem_cons_self))
      obtain ⟨cs, ds', b1, b2, b3⟩ := t.shows I r2 hs.2 fun t ht => hz t (by rw [PyData.shownAll]; exact List.mem_cons_of_mem _ ht)
      refine ⟨_, bs ++ ds', .cons a1 b1, (a2.mono ?_).append (b2.mono ?_), ?_⟩
      · rw [PyData.depthAll]
        exact Nat.le_max_left _ _
      · rw [PyData.depthAll]
        exact Nat.le_max_right _ _
      · rw [PyData.shownAll, PyData.depthAll]
        exact .cons ((a3.more fun b hb => List.mem_append_left _ hb).level_le (Nat.le_max_left _ _)) (b3.more_le (fun b hb => List.mem_append_right _ hb) (Nat.le_max_right _ _))
end
section
variable {X : Cx}
def rReprM (K : PySem.W.Frag) : List V → Hp → VK → Prop := fun xs H Q => ∃ (L : Addr) (v : V) (vs : List V) (ds : List PyData), xs = [.ref L] ∧ H L = some (.lst (v :: vs)) ∧ Dms K H (v :: vs) ds ∧ PyData.showableAll ds = true ∧
  PyData.depthAll ds ≤ 60 ∧ (PyData.list ds).shown.length ≤ sizeLine ∧ Q (.str (PyData.list ds).shown) H
theorem cr_reprM (g : X.A.guards = some []) (hu : X.A.units + 64 < cLine) : CallR X (.builtin "repr") (rReprM X.K) := by
  intro pins s σ H xs us Q I r h
  obtain ⟨L, v, vs, ds, rfl, hL, hD, hs, hd, hz, q⟩ := h
  obtain ⟨u, rfl, rx⟩ : ∃ u, us = [u] ∧ RelV (.ref L) u := by
    cases r with
    | cons r1 r2 => cases r2; exact ⟨_, rfl, r1⟩
  cases rx
  obtain ⟨z, its, n, ri, hl, e⟩ := I.lstM hL
  have hz2 : (listText (PyData.shownAll ds)).length ≤ sizeLine := by simpa only [PyData.shown] using hz
  obtain ⟨as, bs, a1, a2, a3⟩ := hD.shows I ri hs fun t ht => Nat.le_trans (listText_mem_le ht) hz2
  have rd : Reads s.heap (.ref L) (.list ds) (L :: as) := Reads.list e rfl rfl (by simpa using a1)
  have hna : L ∉ bs := not_mem_of_deeper rd (by simp only [PyData.depth]; omega) a2
  cases ri with
  | @cons _ y _ ys r1 r2 =>
    refine call_repr_slot (T := "list") (by omega) ⟨_, e, rfl⟩ F.slot_list_repr.toG ?_
    refine call_list_reprK e rfl rfl hna (by simpa using a3.length_eq) (fun i y e => a3.item i y (by simpa using e)) g (fun b _ => Clear.nil b) (by show X.A.units + 1 + (_ + 1) < cLine; omega) (fun _ _ e => e) (fun h' u tk hk => ?_) hz2
    refine ⟨_, _, rfl, .str _, H, I.kept hk, ⟨_, rfl⟩, ?_⟩
    have : (PyData.list ds).shown = listText (PyData.shownAll ds) := by simp only [PyData.shown]
    rw [this] at q
    exact q
end
end Gx

/-! A dict of the module, with text keys, asked by get. -/
namespace Gx
open PySem PySem.Spec PyProof.Rows L2 GxR
section
variable {X : Cx} {d : Addr} {es : Array DictEntry} {n : Nat}
def tKGet (K : PySem.W.Frag) (d : Addr) (ty : TE) : TE := fun σ H Q => ty σ H fun y H2 => ∃ (z : Str) (u0 : Value) (v0 : V), y = .str z ∧ PySem.W.nsIn K d z = some (some u0) ∧ RelV v0 u0 ∧ Q v0 H2
theorem pe_kget1 {o e : Expr} {apos cpos : Pos} {ty : TE} (D : KDict X.K X.w d es n) (ho : PE X o (tC (.ref d))) (he : PE X e ty) (m : M1 X o "get" apos e cpos) : PE X (.Call (.Attribute o "get" apos) [e] [] cpos) (tKGet X.K d ty) := by
  refine ⟨fun pins s σ H Q I h => ?_⟩
  refine wpAny_Call_method m.base m.few m.line PySem.F.plainAttrs_dict PySem.F.slot_dict_get PySem.F.type_dict_get (thn (ho.run pins s σ H (fun x H1 => x = .ref d ∧ tKGet X.K d ty σ H1 Q) I ⟨rfl, h⟩) fun u s1 ⟨x, H1, I1, rx, ex, q1⟩ => ?_)
  subst ex
  obtain rfl : u = Value.ref d := rx
  refine ⟨kd_type D I1, fun a ea => ?_, ?_⟩
  · cases ea
    exact ⟨_, I1.kIn d _ D.at_, rfl⟩
  · rw [m.trees]
    refine Calls.callWith_builtin rfl (Calls.evalArgs_plain (Calls.spliced_cons (thn (he.run pins s1 σ H1 _ I1 q1) fun iv s2 ⟨y, H2, I2, ry, z, u0, v0, ey, e0, r0, q2⟩ => Calls.spliced_nil ?_)))
    subst ey
    obtain ⟨t, rfl⟩ := ry
    refine call_meetsIn PySem.F.slot_dict_get (kd_type D I2) PySem.F.entry_dict_get (PySem.F.args_dict_get_2 _ _) (meets_dict_get (PySem.strKind X.prog X.w) d (PySem.strKind_is X.prog X.w z t) D.low) ⟨_, PySem.W.mapOf_K (prog := X.prog) I2.kIn D.at_ D.lit, ?_⟩
    rw [PySem.W.find_K D.at_ e0]
    exact ⟨v0, H2, I2.tok _, r0, q2⟩
/-- f'..' -/
def tJoin (ts : List TE) : TE := fun σ H Q => tJs ts Str.empty σ H fun out H1 => Q (.str out) H1
theorem pe_joinF {v1 v2 : Expr} {rest : List Expr} {ts : List TE} {pos : Pos} (h : PJ X (v1 :: v2 :: rest) ts) : PE X (.JoinedStr (v1 :: v2 :: rest) pos) (tJoin ts) := pe_joined h
end
end Gx

/-! ### tuples in which dicts with text keys stand: repr, == -/
namespace Gx
open PySem PySem.Spec PyProof.Rows L2 GxR GenW
inductive KvD (K : PySem.W.Frag) (H : Hp) : List (Key × V) → List (Str × PyData) → Prop
  | nil : KvD K H [] []
  | cons {x : Str} {v : V} {d : PyData} {r : List (Key × V)} {t : List (Str × PyData)} : Dp K H v d → d.hasDict = false → KvD K H r t → KvD K H ((Sum.inr x, v) :: r) ((x, d) :: t)
def dicD (ps : List (Str × PyData)) : PyData := .dict (ps.map fun p => (.str p.1, p.2))
/-- data, or a dict of data -/
inductive Di (K : PySem.W.Frag) (H : Hp) : V → PyData → Prop
  | p {v : V} {d : PyData} : Dp K H v d → d.hasDict = false → Di K H v d
  | k {a : Addr} {kvs : List (Key × V)} {ps : List (Str × PyData)} : H a = some (.dK kvs) → KvD K H kvs ps → Di K H (.ref a) (dicD ps)
inductive Dis (K : PySem.W.Frag) (H : Hp) : List V → List PyData → Prop
  | nil : Dis K H [] []
  | cons {v : V} {d : PyData} {vs : List V} {ds : List PyData} : Di K H v d → Dis K H vs ds → Dis K H (v :: vs) (d :: ds)
theorem kvd_plain {K : PySem.W.Frag} {H : Hp} {kvs : List (Key × V)} {ps : List (Str × PyData)} (h : KvD K H kvs ps) : PyData.hasDictAll ((ps.map fun p => ((.str p.1 : PyData), p.2)).map (·.2)) = false ∧ PyData.hasDictAll ((ps.map fun p => ((.str p.1 : PyData), p.2)).map (·.1)) = false := by
  induction h with
  | nil => exact ⟨rfl, rfl⟩
  | cons h1 h2 _ ih =>
    refine ⟨?_, ?_⟩
    · rw [List.map_cons, List.map_cons, PyData.hasDictAll, ih.1, h2]
      rfl
    · rw [List.map_cons, List.map_cons, PyData.hasDictAll, ih.2]
      rfl
section
variable {X : Cx} {pins : List (Addr × Obj)} {σ : L2.St} {H : Hp} {s : Shared}
theorem kvd_read (I : Inv X pins σ H s) {kvs : List (Key × V)} {ps : List (Str × PyData)} (h : KvD X.K H kvs ps) : ∀ {vs : List (Key × Value)}, KV kvs vs →
    ∃ bs, PyProof.V.PairsRead s.heap (fun k : Key => match k with | .inl i => PyData.int i | .inr x => PyData.str x) vs (ps.map fun p => (.str p.1, p.2)) bs := by
  induction h with
  | nil =>
    intro vs r
    cases r
    exact ⟨[], .nil⟩
  | cons h1 h2 _ ih =>
    intro vs r
    cases r with
    | @cons a b as bs r t =>
      obtain ⟨k, u⟩ := b
      obtain ⟨e, ru⟩ := r
      have e : Sum.inr _ = k := e
      subst e
      obtain ⟨as, rd⟩ := Dp.reads I _ _ u h1 ru
      obtain ⟨bs, pb⟩ := ih t
      exact ⟨_, .cons rd pb⟩
theorem Di.shows (I : Inv X pins σ H s) {v : V} {u : Value} {d : PyData} (h : Di X.K H v d) (r : RelV v u) (hs : d.showable = true) (hz : d.shown.length ≤ sizeLine) :
    ∃ as bs, Reads s.heap u d as ∧ ReadAtMost s.heap d.depth bs ∧ ReprK X.prog X.w bs s.heap d.depth u d.shown := by
  cases h with
  | p hd nod =>
    obtain ⟨as, rd⟩ := Dp.reads I d v u hd r
    obtain ⟨bs, h1, h2⟩ := ReprK.of_reads (prog := X.prog) (w := X.w) rd hs (PyData.noDict_hsm nod) hz
    exact ⟨as, bs, rd, h1, h2⟩
  | @k a kvs ps e kd =>
    cases r
    obtain ⟨_, lo, vs, rel, o, es, ep, ho, hx, hdat, c1, hp, c2⟩ := dk_of I.hok e
    obtain ⟨bs0, pr⟩ := kvd_read I kd rel
    obtain ⟨r1, r2⟩ := PyProof.V.readsAll_of_pairs (fun k key hk => by
      rcases keyIs_shape hk with ⟨i, t, rfl, rfl⟩ | ⟨x, t, rfl, rfl⟩
      · exact Reads.int i t
      · exact Reads.str x t) hp pr
    have rd : Reads s.heap (.ref a) (dicD ps) _ := Reads.dict ho hx.1 hdat r1 r2
    have big : (dictText (PyData.shownKv (ps.map fun p => ((.str p.1 : PyData), p.2)))).length ≤ sizeLine := by
      have e2 : (dicD ps).shown = dictText (PyData.shownKv (ps.map fun p => ((.str p.1 : PyData), p.2))) := by
        unfold dicD
        rw [PyData.shown]
      rw [← e2]
      exact hz
    obtain ⟨s1, s2⟩ := PyData.showableKv_split (ps.map fun p => ((.str p.1 : PyData), p.2)) (by
      unfold dicD at hs
      rwa [PyData.showable] at hs)
    obtain ⟨n2, n1⟩ := kvd_plain kd
    obtain ⟨b1, m1, k1⟩ := ReprAllK.of_readsAll (prog := X.prog) (w := X.w) r1 s1 (fun q => by rw [n1] at q; cases q) (fun t ht => by
      obtain ⟨q, hq, l⟩ := PyData.shownKv_key_le _ t ht
      exact Nat.le_trans (Nat.le_trans l (dictText_mem_le hq)) big)
    obtain ⟨b2, m2, k2⟩ := ReprAllK.of_readsAll (prog := X.prog) (w := X.w) r2 s2 (fun q => by rw [n2] at q; cases q) (fun t ht => by
      obtain ⟨q, hq, l⟩ := PyData.shownKv_val_le _ t ht
      exact Nat.le_trans (Nat.le_trans l (dictText_mem_le hq)) big)
    have dd : (dicD ps).depth = PyData.depthKv (ps.map fun p => ((.str p.1 : PyData), p.2)) + 1 := by
      unfold dicD
      rw [PyData.depth]
    have both : ReadAtMost s.heap (PyData.depthKv (ps.map fun p => ((.str p.1 : PyData), p.2))) (b1 ++ b2) := (m1.mono (PyData.depthAll_keys_le _)).append (m2.mono (PyData.depthAll_vals_le _))
    have out : a ∉ b1 ++ b2 := not_mem_of_deeper rd (by rw [dd]; omega) both
    refine ⟨_, a :: (b1 ++ b2), rd, ReadAtMost.cons rd (by rw [dd]; omega) both, ?_⟩
    rw [dd]
    unfold dicD
    rw [PyData.shown, PyData.shownKv_eq]
    exact ReprK.dict ho hx.1 hdat lo out (ReprEntriesK.of_two es.toList _ _ (k1.more_le (fun b hb => List.mem_append_left b2 hb) (PyData.depthAll_keys_le _)) (k2.more_le (fun b hb => List.mem_append_right b1 hb) (PyData.depthAll_vals_le _)))
theorem Dis.shows (I : Inv X pins σ H s) {vs : List V} {ds : List PyData} (h : Dis X.K H vs ds) : ∀ {us : List Value}, Vals vs us → PyData.showableAll ds = true → (∀ t ∈ PyData.shownAll ds, t.length ≤ sizeLine) →
    ∃ as bs, ReadsAll s.heap us ds as ∧ ReadAtMost s.heap (PyData.depthAll ds) bs ∧ ReprAllK X.prog X.w bs s.heap (PyData.depthAll ds) us (PyData.shownAll ds) := by
  induction h with
  | nil =>
    intro us r _ _
    cases r
    exact ⟨[], [], .nil, (fun _ h => nomatch h), by simp only [PyData.shownAll]; exact .nil⟩
  | @cons v d vs ds h t ih =>
    intro us r hs hz
    cases r with
    | cons r1 r2 =>
      rw [PyData.showableAll, Bool.and_eq_true] at hs
      obtain ⟨as, bs, a1, a2, a3⟩ := h.shows I r1 hs.1 (hz _ (by rw [PyData.shownAll]; exact List.mem_cons_self))
      obtain ⟨cs, ds', b1, b2, b3⟩ := ih r2 hs.2 fun t ht => hz t (by rw [PyData.shownAll]; exact List.mem_cons_of_mem _ ht)
      refine ⟨_, bs ++ ds', .cons a1 b1, (a2.mono ?_).append (b2.mono ?_), ?_⟩
      · rw [PyData.depthAll]
        exact Nat.le_max_left _ _
      · rw [PyData.depthAll]
        exact Nat.le_max_right _ _
      · rw [PyData.shownAll, PyData.depthAll]
        exact .cons ((a3.more fun b hb => List.mem_append_left _ hb).level_le (Nat.le_max_left _ _)) (b3.more_le (fun b hb => List.mem_append_right _ hb) (Nat.le_max_right _ _))
end
section
variable {X : Cx}
def rReprT (K : PySem.W.Frag) : List V → Hp → VK → Prop := fun xs H Q => ∃ (T : Addr) (vs : List V) (ds : List PyData), xs = [.ref T] ∧ SqT K H T vs ∧ Dis K H vs ds ∧ PyData.showableAll ds = true ∧
  PyData.depthAll ds ≤ 60 ∧ (PyData.tuple ds).shown.length ≤ sizeLine ∧ Q (.str (PyData.tuple ds).shown) H
theorem cr_reprT (g : X.A.guards = some []) (hu : X.A.units + 64 < cLine) : CallR X (.builtin "repr") (rReprT X.K) := by
  intro pins s σ H xs us Q I r h
  obtain ⟨T, vs, ds, rfl, hT, hD, hs, hd, hz, q⟩ := h
  obtain ⟨u, rfl, rx⟩ : ∃ u, us = [u] ∧ RelV (.ref T) u := by
    cases r with
    | cons r1 r2 => cases r2; exact ⟨_, rfl, r1⟩
  cases rx
  obtain ⟨its, ri, ⟨o, ho, hc, n, hdat⟩, hl⟩ := I.tuple hT
  have e0 : (PyData.tuple ds).shown = tupleText (PyData.shownAll ds) := by rw [PyData.shown]
  have hz2 : (tupleText (PyData.shownAll ds)).length ≤ sizeLine := by rw [← e0]; exact hz
  obtain ⟨as, bs, a1, a2, a3⟩ := hD.shows I ri hs fun t ht => Nat.le_trans (tupleText_mem_le ht) hz2
  have rd : Reads s.heap (.ref T) (.tuple ds) as := Reads.tuple ho hc hdat (by simpa using a1)
  have hna : T ∉ bs := not_mem_of_deeper rd (by simp only [PyData.depth]; omega) a2
  refine call_repr_slot (T := "tuple") (by omega) ⟨_, ho, hc⟩ F.slot_tuple_repr ?_
  refine call_tuple_reprK ho hc hdat hna (by simpa using a3) g (fun b _ => Clear.nil b) (by show X.A.units + 1 + (_ + 1) < cLine; omega) (fun _ _ e => e) (fun h' u tk hk => ?_) hz2
  refine ⟨_, _, rfl, .str _, H, I.kept hk, ⟨_, rfl⟩, ?_⟩
  rw [e0] at q
  exact q
end
/-! ### == -/
/-- the values of two dicts, key by key -/
def Hits (K : PySem.W.Frag) (H : Hp) (kvs lvs : List (Key × V)) (e : Key → Bool) : Prop := ∀ k v w, (k, v) ∈ kvs → valV lvs k = some w → ∃ d d', Dp K H v d ∧ Dp K H w d' ∧ SeqAt.shaped d = true ∧ SeqAt.shaped d' = true ∧ e k = PyData.eqv d d'
def dicE (kvs lvs : List (Key × V)) (e : Key → Bool) : Bool := kvs.length == lvs.length && kvs.all fun p => (valV lvs p.1).isSome && e p.1
inductive EqV (K : PySem.W.Frag) (H : Hp) : V → V → Bool → Prop
  | p {v w : V} {d d' : PyData} : Dp K H v d → Dp K H w d' → SeqAt.shaped d = true → SeqAt.shaped d' = true → EqV K H v w (PyData.eqv d d')
  | k {a b : Addr} {kvs lvs : List (Key × V)} {e : Key → Bool} : a ≠ b → H a = some (.dK kvs) → H b = some (.dK lvs) → Hits K H kvs lvs e → EqV K H (.ref a) (.ref b) (dicE kvs lvs e)
inductive EqVs (K : PySem.W.Frag) (H : Hp) : List V → List V → List Bool → Prop
  | nil : EqVs K H [] [] []
  | cons {v w : V} {b : Bool} {vs ws : List V} {bs : List Bool} : EqV K H v w b → EqVs K H vs ws bs → EqVs K H (v :: vs) (w :: ws) (b :: bs)
section
variable {X : Cx} {pins : List (Addr × Obj)} {σ : L2.St} {H : Hp} {s : Shared}
theorem dp_leaf (I : Inv X pins σ H s) {v w : V} {u y : Value} {d d' : PyData} (h : Dp X.K H v d) (k : Dp X.K H w d') (sd : SeqAt.shaped d = true) (se : SeqAt.shaped d' = true) (ru : RelV v u) (ry : RelV w y) :
    PySem.W.EqTree X.prog X.w s 64 u y (PyData.eqv d d') := by
  obtain ⟨as, r1⟩ := Dp.reads I d v u h ru
  obtain ⟨bs, r2⟩ := Dp.reads I d' w y k ry
  refine .leaf fun A hu => SeqAt.eqAt_reads d d' A s u y as bs r1 r2 (SeqAt.canLay_of_shaped sd) (SeqAt.canLay_of_shaped se) ?_
  have := SeqAt.depth_of_shaped sd
  have : min d.depth d'.depth ≤ d.depth := Nat.min_le_left _ _
  omega
theorem paired_mem {α β : Type} {F : α → β → Prop} : ∀ {xs : List α} {ys : List β}, Paired F xs ys → ∀ {y : β}, y ∈ ys → ∃ x, x ∈ xs ∧ F x y
  | _, _, .nil, _, h => by cases h
  | _, _, .cons r t, y, h => by
    rcases List.mem_cons.mp h with rfl | h
    · exact ⟨_, List.mem_cons_self, r⟩
    · obtain ⟨x, hx, fx⟩ := paired_mem t h
      exact ⟨x, List.mem_cons_of_mem _ hx, fx⟩
theorem EqV.tree (I : Inv X pins σ H s) {v w : V} {b : Bool} (h : EqV X.K H v w b) {u y : Value} (ru : RelV v u) (ry : RelV w y) : PySem.W.EqTree X.prog X.w s 65 u y b := by
  cases h with
  | @p _ _ d d' h1 h2 s1 s2 =>
    obtain ⟨as, r1⟩ := Dp.reads I _ v u h1 ru
    obtain ⟨bs, r2⟩ := Dp.reads I _ w y h2 ry
    refine .leaf fun A hu => SeqAt.eqAt_reads _ _ A s u y as bs r1 r2 (SeqAt.canLay_of_shaped s1) (SeqAt.canLay_of_shaped s2) ?_
    have := SeqAt.depth_of_shaped s1
    have : min d.depth d'.depth ≤ d.depth := Nat.min_le_left _ _
    omega
  | @k a b kvs lvs e ne ha hb hit =>
    cases ru
    cases ry
    obtain ⟨_, la, va, ra, da⟩ := dk_of I.hok ha
    obtain ⟨_, lb, vb, rb, db⟩ := dk_of I.hok hb
    have t := PySem.W.EqTree.dicts (prog := X.prog) (w := X.w) (s := s) (n := 64) (knd := mixKind X.prog X.w) (e := e) ne la lb da db fun k u y hm hv => by
      obtain ⟨⟨k', v⟩, hv', e1, r1⟩ := paired_mem ra hm
      have e1 : k' = k := e1
      subst e1
      have rv := rb.val k'
      rw [hv] at rv
      obtain ⟨w, hw, rw_⟩ : ∃ w, valV lvs k' = some w ∧ RelV w y := by
        cases z : valV lvs k' with
        | none =>
          rw [z] at rv
          exact absurd rv (by intro q; cases q)
        | some w =>
          rw [z] at rv
          exact ⟨w, rfl, rv⟩
      obtain ⟨d, d', p1, p2, s1, s2, ee⟩ := hit k' v w hv' hw
      rw [ee]
      exact dp_leaf I p1 p2 s1 s2 r1 rw_
    have e3 : (va.length == vb.length && va.all fun p => (valueAt vb p.1).isSome && e p.1) = dicE kvs lvs e := by
      unfold dicE
      rw [← ra.length, ← rb.length]
      congr 1
      have some_ : ∀ k, (valueAt vb k).isSome = (valV lvs k).isSome := fun k => by
        have rv := rb.val k
        cases z1 : valV lvs k with
        | none =>
          rw [z1] at rv
          cases z2 : valueAt vb k with
          | none => rfl
          | some q =>
            rw [z2] at rv
            exact absurd rv (by intro q; cases q)
        | some w =>
          rw [z1] at rv
          cases z2 : valueAt vb k with
          | none =>
            rw [z2] at rv
            exact absurd rv (by intro q; cases q)
          | some q => rfl
      have a1 : ∀ (l : List (Key × Value)), (l.all fun p => (valueAt vb p.1).isSome && e p.1) = (l.map (·.1)).all fun k => (valV lvs k).isSome && e k := fun l => by
        rw [List.all_map]
        congr 1
        funext p
        show ((valueAt vb p.1).isSome && e p.1) = ((valV lvs p.1).isSome && e p.1)
        rw [some_]
      rw [a1, ← ra.keys, List.all_map]
      rfl
    rw [← e3]
    exact t
theorem EqVs.trees (I : Inv X pins σ H s) {vs ws : List V} {bs : List Bool} (h : EqVs X.K H vs ws bs) : ∀ {us ys : List Value}, Vals vs us → Vals ws ys → us.length = bs.length ∧ ys.length = bs.length ∧
    ∀ j (h1 : j < us.length) (h2 : j < ys.length), PySem.W.EqTree X.prog X.w s 65 us[j] ys[j] (bs.getD j false) := by
  induction h with
  | nil =>
    intro us ys r1 r2
    cases r1
    cases r2
    exact ⟨rfl, rfl, fun j h1 => absurd h1 (Nat.not_lt_zero _)⟩
  | cons hb _ ih =>
    intro us ys r1 r2
    cases r1 with
    | cons a1 t1 =>
      cases r2 with
      | cons a2 t2 =>
        obtain ⟨l1, l2, t⟩ := ih t1 t2
        refine ⟨congrArg (· + 1) l1, congrArg (· + 1) l2, fun j h1 h2 => ?_⟩
        cases j with
        | zero => exact hb.tree I a1 a2
        | succ j => exact t j (Nat.lt_of_succ_lt_succ h1) (Nat.lt_of_succ_lt_succ h2)
end
section
open AutoSeq1 SeqRoads2 MeetsSeq MeetsSeq2 MeetsSeq3 SeqAt
variable {prog : Program} {w : World}
/-- tuple.__ne__ of two of one length, item by item -/
theorem ne_meets (p q : Addr) (us ys : List Value) (bs : List Bool) (n m : Nat) (od oe : Option Addr) (so sp : Array (Option Value)) (lu : us.length = bs.length) (ly : ys.length = bs.length) :
    MeetsIn prog w (Builtin.«tuple.__ne__» ⟨[.ref p, .ref q], []⟩) (fun A R s =>
      s.heap.get? p = some { cls := .type "tuple", dict := od, data := .seq us.toArray n, slots := so } ∧
      s.heap.get? q = some { cls := .type "tuple", dict := oe, data := .seq ys.toArray m, slots := sp } ∧
      (∀ (j : Nat) (u y : Value) (b : Bool), us[j]? = some u → ys[j]? = some y → bs[j]? = some b → EqIn prog w A.in1 s u y b) ∧ R (.ok (.ret (.bool (!bs.all id)))) s) := .of_wp fun A R s h => by
  obtain ⟨hp, g, d, tk, os⟩ := s
  obtain ⟨e1, e2, each, fin⟩ := h
  have sub := AutoSeq1.sub_tuple_tuple
  have zl : (us.zip ys).length = bs.length := by rw [List.length_zip, lu, ly, Nat.min_self]
  wp_walk using wpAny_loadPart' e1, wpAny_loadPart' e2, wpAny_forIn_list _ (fun left acc st => acc.1 = none ∧ st = ⟨hp, g, d, tk, os⟩ ∧ ∃ i, left = (us.zip ys).drop i ∧ R (.ok (.ret (.bool (!(bs.drop i).all id)))) ⟨hp, g, d, tk, os⟩) _
  case turn =>
    rintro ⟨u, y⟩ left acc st ⟨ha, rfl, i, hz, hr⟩
    have hi : i < (us.zip ys).length := Nat.lt_of_not_le fun z => by
      rw [List.drop_of_length_le z] at hz
      cases hz
    have hb : i < bs.length := by omega
    have at_ : (us.zip ys)[i]? = some (u, y) := by
      have := congrArg List.head? hz
      rw [List.head?_cons, List.head?_drop] at this
      exact this.symm
    have tl : left = (us.zip ys).drop (i + 1) := by
      have := congrArg List.tail hz
      rw [List.tail_cons, List.tail_drop] at this
      exact this
    obtain ⟨a1, a2⟩ := List.getElem?_zip_eq_some.mp at_
    have bd : bs.drop i = bs[i] :: bs.drop (i + 1) := List.drop_eq_getElem_cons hb
    rw [bd, List.all_cons] at hr
    refine wpAny_bind (each i u y bs[i] a1 a2 (List.getElem?_eq_getElem hb) _ _ ?_)
    cases cb : bs[i] with
    | true =>
      rw [cb] at hr
      wp_walk
      exact ⟨rfl, rfl, i + 1, tl, by simpa using hr⟩
    | false =>
      rw [cb] at hr
      wp_walk
      exact ⟨_, rfl, by simpa using hr⟩
  case fin =>
    rintro ⟨c1, c2⟩ st ⟨hc, rfl, i, hz, hr⟩
    have hc : c1 = none := hc
    subst hc
    have hi : bs.length ≤ i := Nat.le_of_not_lt fun z => by
      rw [List.drop_eq_getElem_cons (by omega : i < (us.zip ys).length)] at hz
      cases hz
    rw [List.drop_of_length_le hi] at hr
    wp_walk
    refine ⟨_, rfl, ?_⟩
    simpa [Builtin.Tuple.tupleCompareSizes, bne, lu, ly] using hr
  case h =>
    exact ⟨rfl, rfl, 0, by simp, by simpa using fin⟩
end
section
variable {X : Cx}
def rEqT (K : PySem.W.Frag) : R2 := fun x y H Q => ∃ (a b : Addr) (vs ws : List V) (bs : List Bool), x = .ref a ∧ y = .ref b ∧ SqT K H a vs ∧ SqT K H b ws ∧ EqVs K H vs ws bs ∧ Q (.bl (bs.all id)) H
def rNeT (K : PySem.W.Frag) : R2 := fun x y H Q => ∃ (a b : Addr) (vs ws : List V) (bs : List Bool), x = .ref a ∧ y = .ref b ∧ SqT K H a vs ∧ SqT K H b ws ∧ EqVs K H vs ws bs ∧ Q (.bl (!bs.all id)) H
theorem all_range {bs : List Bool} : ((List.range bs.length).all fun j => bs.getD j false) = bs.all id := by
  induction bs with
  | nil => rfl
  | cons b r ih =>
    rw [List.length_cons, List.range_succ_eq_map, List.all_cons, List.all_cons, ← ih, List.all_map]
    rfl
theorem op_eqT (hu : X.A.units + 128 < cLine) : OpR X (compareOp .Eq) (rEqT X.K) := by
  intro pins s σ H x y v u Q I rx ry h
  obtain ⟨a, b, vs, ws, bs, rfl, rfl, ha, hb, he, q⟩ := h
  cases rx
  cases ry
  obtain ⟨i1, r1, ⟨o1, x1, x2, n1, x3⟩, _⟩ := I.tuple ha
  obtain ⟨i2, r2, ⟨o2, y1, y2, n2, y3⟩, _⟩ := I.tuple hb
  obtain ⟨l1, l2, t⟩ := he.trees I r1 r2
  refine PySem.W.eq_tuplesT (n := 65) (e := fun j => bs.getD j false) ⟨o1, x1, x2, n1, x3⟩ ⟨o2, y1, y2, n2, y3⟩ (fun j h1 h2 => by simpa using t j (by simpa using h1) (by simpa using h2)) (by omega) ?_
  have e1 : ((List.range (min i1.toArray.size i2.toArray.size)).all (fun j => bs.getD j false) && i1.toArray.size == i2.toArray.size) = bs.all id := by
    rw [List.size_toArray, List.size_toArray, l1, l2, Nat.min_self, all_range, beq_self_eq_true, Bool.and_true]
  rw [e1]
  exact ⟨.bl _, H, I, rfl, q⟩
theorem op_neT (hu : X.A.units + 128 < cLine) : OpR X (compareOp .NotEq) (rNeT X.K) := by
  intro pins s σ H x y v u Q I rx ry h
  obtain ⟨a, b, vs, ws, bs, rfl, rfl, ha, hb, he, q⟩ := h
  cases rx
  cases ry
  obtain ⟨i1, r1, ⟨⟨c1, d1, t1, s1⟩, x1, x2, n1, x3⟩, _⟩ := I.tuple ha
  obtain ⟨i2, r2, ⟨⟨c2, d2, t2, s2⟩, y1, y2, n2, y3⟩, _⟩ := I.tuple hb
  have x2 : c1 = .type "tuple" := x2
  have x3 : t1 = .seq i1.toArray n1 := x3
  have y2 : c2 = .type "tuple" := y2
  have y3 : t2 = .seq i2.toArray n2 := y3
  subst x2 x3 y2 y3
  obtain ⟨l1, l2, t⟩ := he.trees I r1 r2
  show wpAny (model X.prog X.w) X.A (richCompare .NotEq (.ref a) (.ref b)) _ _ s
  refine wpAny_richCompare_same_room (T := "tuple") (op := .NotEq) ⟨_, x1, rfl⟩ ⟨_, y1, rfl⟩ F.slot_tuple_ne (call_meetsIn F.slot_tuple_ne ⟨_, x1, rfl⟩ F.entry_tuple_ne (F.args_tuple_ne_2 _ _) (ne_meets a b i1 i2 bs n1 n2 d1 d2 s1 s2 l1 l2)
    ⟨x1, y1, fun j u y b e1 e2 e3 => ?_, show Value.bool (!bs.all id) ≠ Value.notImplemented ∧ _ from ⟨(fun x => nomatch x), ⟨.bl _, H, I, rfl, q⟩⟩⟩) (by omega)
  obtain ⟨h1, rfl⟩ := List.getElem?_eq_some_iff.mp e1
  obtain ⟨h2, rfl⟩ := List.getElem?_eq_some_iff.mp e2
  have t2 := t j h1 h2
  rw [List.getD_eq_getElem?_getD, e3] at t2
  exact t2.at _ (by show X.A.units + 1 + 65 < cLine; omega)
/-- d != {} -/
def rNeD0 : R2 := fun x y H Q => ∃ (a b : Addr) (kvs : List (Key × V)), x = .ref a ∧ y = .ref b ∧ H a = some (.dK kvs) ∧ H b = some (.dK []) ∧ Q (.bl (decide (kvs ≠ []))) H
theorem op_neD0 (hu : X.A.units < cLine) : OpR X (compareOp .NotEq) rNeD0 := by
  intro pins s σ H x y v u Q I rx ry h
  obtain ⟨a, b, kvs, rfl, rfl, ha, hb, q⟩ := h
  cases rx
  cases ry
  obtain ⟨_, la, va, ra, da⟩ := dk_of I.hok ha
  obtain ⟨_, lb, vb, rb, db⟩ := dk_of I.hok hb
  cases rb
  have e : (!(va.length == ([] : List (Key × Value)).length && true)) = decide (kvs ≠ []) := by
    rw [← ra.length, Bool.and_true]
    cases kvs <;> rfl
  refine PySem.W.keq_ne (knd := mixKind X.prog X.w) (r := true) la lb da db hu (fun z => ?_) ?_
  · rw [List.length_nil] at z
    rw [List.eq_nil_of_length_eq_zero z]
    exact .nil
  · rw [e]
    exact ⟨.bl _, H, I, rfl, q⟩
theorem room128 {A : PySem.Around} {k : Nat} (r : Room k A) : A.units + 128 < PySem.cLine := by
  have := r.un
  omega
end
end Gx

namespace Lw
open PySem PySem.Spec PyProof.Rows L2 GxR Gx
def topS (i : Nat) : Stmt := PySem.Challenge.pw_heardapart_k60_moments_written.main.body.getD i (.Pass ⟨0, 0, 0, 0⟩)
abbrev st_is_name : Stmt := topS 5
abbrev N_is_name : List Str := ["thing", "letter"]
theorem sc_is_name : FnScope N_is_name ["thing"] (defScope st_is_name) := ⟨rfl, rfl, rfl, by decide +kernel, rfl, by decide +kernel, by decide +kernel⟩
abbrev st_are_unlike_names : Stmt := topS 6
abbrev N_are_unlike_names : List Str := ["thing", "name"]
theorem sc_are_unlike_names : FnScope N_are_unlike_names ["thing"] (defScope st_are_unlike_names) := ⟨rfl, rfl, rfl, by decide +kernel, rfl, by decide +kernel, by decide +kernel⟩
abbrev st_is_pair : Stmt := topS 7
abbrev N_is_pair : List Str := ["thing"]
theorem sc_is_pair : FnScope N_is_pair ["thing"] (defScope st_is_pair) := ⟨rfl, rfl, rfl, by decide +kernel, rfl, by decide +kernel, by decide +kernel⟩
abbrev st_is_road : Stmt := topS 8
abbrev N_is_road : List Str := ["thing", "hands", "one", "other"]
theorem sc_is_road : FnScope N_is_road ["thing", "hands"] (defScope st_is_road) := ⟨rfl, rfl, rfl, by decide +kernel, rfl, by decide +kernel, by decide +kernel⟩
abbrev st_is_web : Stmt := topS 9
abbrev N_is_web : List Str := ["thing", "hands", "roads", "known", "hand", "road"]
theorem sc_is_web : FnScope N_is_web ["thing"] (defScope st_is_web) := ⟨rfl, rfl, rfl, by decide +kernel, rfl, by decide +kernel, by decide +kernel⟩
abbrev st_neighbours_in : Stmt := topS 10
abbrev N_neighbours_in : List Str := ["web", "hands", "roads", "near", "hand", "one", "other"]
theorem sc_neighbours_in : FnScope N_neighbours_in ["web"] (defScope st_neighbours_in) := ⟨rfl, rfl, rfl, by decide +kernel, rfl, by decide +kernel, by decide +kernel⟩
abbrev st_hands_ahead : Stmt := topS 11
abbrev N_hands_ahead : List Str := ["web", "start", "barred", "near", "ahead", "waiting", "hand", "other"]
theorem sc_hands_ahead : FnScope N_hands_ahead ["web", "start", "barred"] (defScope st_hands_ahead) := ⟨rfl, rfl, rfl, by decide +kernel, rfl, by decide +kernel, by decide +kernel⟩
abbrev st_is_book : Stmt := topS 13
abbrev N_is_book : List Str := ["thing"]
theorem sc_is_book : FnScope N_is_book ["thing"] (defScope st_is_book) := ⟨rfl, rfl, rfl, by decide +kernel, rfl, by decide +kernel, by decide +kernel⟩
abbrev st_is_moment : Stmt := topS 15
abbrev N_is_moment : List Str := ["thing", "web", "mouths", "books", "hands", "hand"]
theorem sc_is_moment : FnScope N_is_moment ["thing"] (defScope st_is_moment) := ⟨rfl, rfl, rfl, by decide +kernel, rfl, by decide +kernel, by decide +kernel⟩
abbrev st_are_mouths : Stmt := topS 16
abbrev N_are_mouths : List Str := ["thing", "hands", "word", "hand"]
theorem sc_are_mouths : FnScope N_are_mouths ["thing", "hands"] (defScope st_are_mouths) := ⟨rfl, rfl, rfl, by decide +kernel, rfl, by decide +kernel, by decide +kernel⟩
abbrev st_are_books : Stmt := topS 17
abbrev N_are_books : List Str := ["thing", "hands", "mouths", "hand", "book"]
theorem sc_are_books : FnScope N_are_books ["thing", "hands", "mouths"] (defScope st_are_books) := ⟨rfl, rfl, rfl, by decide +kernel, rfl, by decide +kernel, by decide +kernel⟩
abbrev st_has_mouths : Stmt := topS 18
abbrev N_has_mouths : List Str := ["book", "mouths", "word"]
theorem sc_has_mouths : FnScope N_has_mouths ["book", "mouths"] (defScope st_has_mouths) := ⟨rfl, rfl, rfl, by decide +kernel, rfl, by decide +kernel, by decide +kernel⟩
abbrev st_show_moment : Stmt := topS 20
abbrev N_show_moment : List Str := ["moment"]
theorem sc_show_moment : FnScope N_show_moment ["moment"] (defScope st_show_moment) := ⟨rfl, rfl, rfl, by decide +kernel, rfl, by decide +kernel, by decide +kernel⟩
abbrev st_read_moment : Stmt := topS 21
abbrev N_read_moment : List Str := ["text", "rows", "moment"]
theorem sc_read_moment : FnScope N_read_moment ["text"] (defScope st_read_moment) := ⟨rfl, rfl, rfl, by decide +kernel, rfl, by decide +kernel, by decide +kernel⟩
abbrev st_rows_in : Stmt := topS 22
abbrev N_rows_in : List Str := ["text"]
theorem sc_rows_in : FnScope N_rows_in ["text"] (defScope st_rows_in) := ⟨rfl, rfl, rfl, by decide +kernel, rfl, by decide +kernel, by decide +kernel⟩
abbrev st_rows_of_web : Stmt := topS 23
abbrev N_rows_of_web : List Str := ["web", "hands", "roads", "one", "other"]
theorem sc_rows_of_web : FnScope N_rows_of_web ["web"] (defScope st_rows_of_web) := ⟨rfl, rfl, rfl, by decide +kernel, rfl, by decide +kernel, by decide +kernel⟩
abbrev st_web_in : Stmt := topS 24
abbrev N_web_in : List Str := ["rows", "row"]
theorem sc_web_in : FnScope N_web_in ["rows"] (defScope st_web_in) := ⟨rfl, rfl, rfl, by decide +kernel, rfl, by decide +kernel, by decide +kernel⟩
abbrev st_row_of_book : Stmt := topS 25
abbrev N_row_of_book : List Str := ["book"]
theorem sc_row_of_book : FnScope N_row_of_book ["book"] (defScope st_row_of_book) := ⟨rfl, rfl, rfl, by decide +kernel, rfl, by decide +kernel, by decide +kernel⟩
abbrev st_book_in : Stmt := topS 26
abbrev N_book_in : List Str := ["row"]
theorem sc_book_in : FnScope N_book_in ["row"] (defScope st_book_in) := ⟨rfl, rfl, rfl, by decide +kernel, rfl, by decide +kernel, by decide +kernel⟩
abbrev st_rows_of_moment : Stmt := topS 27
abbrev N_rows_of_moment : List Str := ["moment", "web", "mouths", "books", "written", "hand", "word"]
theorem sc_rows_of_moment : FnScope N_rows_of_moment ["moment"] (defScope st_rows_of_moment) := ⟨rfl, rfl, rfl, by decide +kernel, rfl, by decide +kernel, by decide +kernel⟩
abbrev st_moment_in : Stmt := topS 28
abbrev N_moment_in : List Str := ["rows", "many", "books", "row", "hand", "_", "book", "mouths", "word"]
theorem sc_moment_in : FnScope N_moment_in ["rows"] (defScope st_moment_in) := ⟨rfl, rfl, rfl, by decide +kernel, rfl, by decide +kernel, by decide +kernel⟩
abbrev st_law_pot : Stmt := topS 30
abbrev N_law_pot : List Str := ["script", "k", "cell"]
theorem sc_law_pot : FnScope N_law_pot ["script", "k"] (defScope st_law_pot) := ⟨rfl, rfl, rfl, by decide +kernel, rfl, by decide +kernel, by decide +kernel⟩
abbrev st_law_dip : Stmt := topS 31
abbrev N_law_dip : List Str := ["pot", "many", "found", "mixed"]
theorem sc_law_dip : FnScope N_law_dip ["pot", "many"] (defScope st_law_dip) := ⟨rfl, rfl, rfl, by decide +kernel, rfl, by decide +kernel, by decide +kernel⟩
abbrev st_law_names : Stmt := topS 32
abbrev N_law_names : List Str := ["pot", "many", "pool", "one", "other", "k"]
theorem sc_law_names : FnScope N_law_names ["pot", "many"] (defScope st_law_names) := ⟨rfl, rfl, rfl, by decide +kernel, rfl, by decide +kernel, by decide +kernel⟩
abbrev st_law_web : Stmt := topS 33
abbrev N_law_web : List Str := ["pot", "many", "hands", "way", "roads", "k", "at"]
theorem sc_law_web : FnScope N_law_web ["pot", "many"] (defScope st_law_web) := ⟨rfl, rfl, rfl, by decide +kernel, rfl, by decide +kernel, by decide +kernel⟩
abbrev st_law_moment : Stmt := topS 34
abbrev N_law_moment : List Str := ["pot", "web", "words", "mouths", "word", "books", "hand", "left", "turn"]
theorem sc_law_moment : FnScope N_law_moment ["pot", "web"] (defScope st_law_moment) := ⟨rfl, rfl, rfl, by decide +kernel, rfl, by decide +kernel, by decide +kernel⟩
abbrev st_law_line : Stmt := topS 35
abbrev N_law_line : List Str := ["words", "between", "found", "word"]
theorem sc_law_line : FnScope N_law_line ["words", "between"] (defScope st_law_line) := ⟨rfl, rfl, rfl, by decide +kernel, rfl, by decide +kernel, by decide +kernel⟩
abbrev st_law_book_text : Stmt := topS 36
abbrev N_law_book_text : List Str := ["book"]
theorem sc_law_book_text : FnScope N_law_book_text ["book"] (defScope st_law_book_text) := ⟨rfl, rfl, rfl, by decide +kernel, rfl, by decide +kernel, by decide +kernel⟩
abbrev st_law_web_rows : Stmt := topS 37
abbrev N_law_web_rows : List Str := ["web", "one", "other"]
theorem sc_law_web_rows : FnScope N_law_web_rows ["web"] (defScope st_law_web_rows) := ⟨rfl, rfl, rfl, by decide +kernel, rfl, by decide +kernel, by decide +kernel⟩
abbrev st_law_moment_rows : Stmt := topS 38
abbrev N_law_moment_rows : List Str := ["moment", "web", "mouths", "books", "rows", "hand", "word"]
theorem sc_law_moment_rows : FnScope N_law_moment_rows ["moment"] (defScope st_law_moment_rows) := ⟨rfl, rfl, rfl, by decide +kernel, rfl, by decide +kernel, by decide +kernel⟩
abbrev st_law_ordered : Stmt := topS 39
abbrev N_law_ordered : List Str := ["moment", "web", "mouths", "books"]
theorem sc_law_ordered : FnScope N_law_ordered ["moment"] (defScope st_law_ordered) := ⟨rfl, rfl, rfl, by decide +kernel, rfl, by decide +kernel, by decide +kernel⟩
abbrev st_law_otherwise : Stmt := topS 40
abbrev N_law_otherwise : List Str := ["pot", "moment", "web", "mouths", "books", "more", "word", "others", "hand", "way"]
theorem sc_law_otherwise : FnScope N_law_otherwise ["pot", "moment"] (defScope st_law_otherwise) := ⟨rfl, rfl, rfl, by decide +kernel, rfl, by decide +kernel, by decide +kernel⟩
abbrev st_law : Stmt := topS 41
abbrev N_law : List Str := ["script", "k", "pot", "moment", "kept", "due", "turn", "told", "hand", "web", "mouths", "books", "turned", "mate"]
theorem sc_law : FnScope N_law ["script"] (defScope st_law) := ⟨rfl, rfl, rfl, by decide +kernel, rfl, by decide +kernel, by decide +kernel⟩
/-- names that the top leaves to the built-ins -/
structure Nb (mg : Str → Option Value) : Prop where
  n_all : mg "all" = none
  n_dict : mg "dict" = none
  n_int : mg "int" = none
  n_isinstance : mg "isinstance" = none
  n_len : mg "len" = none
  n_list : mg "list" = none
  n_max : mg "max" = none
  n_min : mg "min" = none
  n_range : mg "range" = none
  n_repr : mg "repr" = none
  n_set : mg "set" = none
  n_sorted : mg "sorted" = none
  n_str : mg "str" = none
  n_tuple : mg "tuple" = none
  n_type : mg "type" = none
section
variable {P : Program} {w : World} {K : PySem.W.Frag} {mg : Str → Option Value} {base : Heap}
/-! ### is_name -/
def nameC (c : Nat) : Bool := decide (97 ≤ c) && decide (c ≤ 122)
def isNm (z : Str) : Bool := decide (1 ≤ z.length) && decide (z.length ≤ 8) && z.cps.toList.all nameC
def spIsName (K : PySem.W.Frag) (T : Addr) : Sp := fun vs H Q _ => ∃ x, vs = [x] ∧ TabG H T ∧
  ((∃ z : Str, x = .str z ∧ z.length ≤ sizeLine ∧ ∀ H', Grow [] H H' → Q (.bl (isNm z)) H') ∨ ∃ U, U ≠ "str" ∧ TyB K H x U ∧ Q (.bl false) H)
theorem lt1 (a b : Nat) : decide ([a] < [b]) = decide (a < b) := by
  have h : ([a] < [b]) ↔ a < b := by
    rw [List.cons_lt_cons_iff]
    simp
  exact decide_eq_decide.mpr h
theorem ge_a (c : Nat) : (!decide ([c] < [97])) = decide (97 ≤ c) := by
  rw [lt1]
  by_cases h : 97 ≤ c
  · rw [decide_eq_true h, decide_eq_false (by omega)]; rfl
  · rw [decide_eq_false h, decide_eq_true (by omega)]; rfl
theorem le_z (c : Nat) : (!decide ([122] < [c])) = decide (c ≤ 122) := by
  rw [lt1]
  by_cases h : c ≤ 122
  · rw [decide_eq_true h, decide_eq_false (by omega)]; rfl
  · rw [decide_eq_false h, decide_eq_true (by omega)]; rfl
theorem ok_is_name {f c T : Addr} {fd : FuncData} {tk : Tok} (B : Nb mg) (D : DefIs K "is_name" "is_name" st_is_name f fd (.ref c)) (x_is_name : TabB base mg c T) (k_MOST_LETTERS : mg "MOST_LETTERS" = some (.int 8 tk)) :
    FnG P w K mg base CX0 4 f fd ["thing"] (spIsName K T) := by
  refine D.ok0 (k := 3) sc_is_name (fun vs H Q E h => ?_) (fun A outer s H vs Q E g hr h => ?_)
  · obtain ⟨x, rfl, _⟩ := h
    rfl
  obtain ⟨x, rfl, tT, h⟩ := h
  refine ⟨_,
      (pss_cons (ps_if (PW.pt (pw_or (pt_cmpR (op_notTyB) (pe_callTy call_type1 rfl B.n_type (by decide +kernel) (pa_cons (pv 0) pa_nil)) (pe_bltn (v := .ty "str") rfl B.n_str (by decide +kernel) rfl) (nomark _)) (pw_or1 (pt_not (pt_chain (op_le) (op_le) pe_int (pe_callB call_len_str rfl B.n_len PySem.boot_len (pa_cons (pv 0) pa_nil)) (pe_glob (v := .int 8) rfl k_MOST_LETTERS ⟨_, rfl⟩)))))) (
        (pss_one (ps_ret pe_bl))) pss_nil)
      (pss_one (ps_ret (pe_allG (own := [("letter", 1)]) hr (gx_ok (N := N_is_name) (dsc := defScope st_is_name) x_is_name sc_is_name.nd (by decide +kernel) (by decide +kernel)) rfl B.n_all (by decide +kernel) (pi_str (pv 0)) (fun _ _ _ _ _ => (pg_name (i := 1) sc_is_name.nd rfl (.inl rfl))) (fun _ _ _ _ _ => pe_to (pe_chain (op_le_str) (op_le_str) pe_str (pv 1) pe_str)))))), ?_⟩
  rcases h with ⟨z, rfl, hz, q⟩ | ⟨U, hU, ty, q⟩
  · refine ⟨.str z, rfl, _, "str", rfl, .str z, "str", "str", rfl, rfl, _, rfl, iteNS rfl ⟨.str z, rfl, z, rfl, hz, 1, z.length, rfl, rfl, _, rfl, ?_⟩⟩
    have no : isNm z = false → Q (.bl false) H := fun e => by
      rw [← e]
      exact q H (Grow.refl _ _)
    by_cases h1 : (1 : Int) ≤ z.length
    · rw [if_pos (decide_eq_true h1)]
      refine ⟨z.length, 8, rfl, rfl, _, rfl, ?_⟩
      by_cases h8 : (z.length : Int) ≤ 8
      · rw [decide_eq_true h8]
        refine iteF ⟨.str z, rfl, z, rfl, tT, ?_⟩
        have hall : ∀ b : Bool, b = z.cps.toList.all nameC → ∀ H', Grow [] H H' → Q (.bl b) H' := fun b e H' gr => by
          have e2 : isNm z = b := by
            unfold isNm
            rw [decide_eq_true (by omega : 1 ≤ z.length), decide_eq_true (by omega : z.length ≤ 8), e]
            rfl
          rw [← e2]
          exact q H' gr
        refine truth_text (fun i H' => Grow [] H H' ∧ (z.cps.toList.take i).all nameC = true) (fun H2 t => ⟨grow_tab tT t, rfl⟩) (fun i cc H' hc hp => ?_) fun H' hp => ?_
        · have e1 : (!decide ((⟨#[cc]⟩ : Str).cps.toList < (Str.ofString "a").cps.toList)) = decide (97 ≤ cc) := ge_a cc
          have e2 : (!decide ((Str.ofString "z").cps.toList < (⟨#[cc]⟩ : Str).cps.toList)) = decide (cc ≤ 122) := le_z cc
          have out : nameC cc = false → Q (.bl false) H' := fun e => by
            refine hall false ?_ H' hp.1
            refine (List.all_eq_false.mpr ⟨cc, List.mem_of_getElem? hc, ?_⟩).symm
            rw [e]
            exact Bool.false_ne_true
          refine ⟨rfl, .str ⟨#[cc]⟩, rfl, _, _, rfl, rfl, _, rfl, ?_⟩
          rw [e1]
          by_cases ca : 97 ≤ cc
          · rw [if_pos (decide_eq_true ca)]
            refine ⟨_, _, rfl, rfl, _, rfl, ?_⟩
            rw [e2]
            by_cases cz : cc ≤ 122
            · rw [if_neg (by rw [decide_eq_true cz]; exact fun z => Bool.noConfusion z)]
              refine ⟨hp.1, ?_⟩
              rw [List.take_add_one, hc, List.all_append, hp.2]
              show (true && (nameC cc && true)) = true
              unfold nameC
              rw [decide_eq_true ca, decide_eq_true cz]
              rfl
            · rw [if_pos (decide_eq_false cz)]
              refine out ?_
              unfold nameC
              rw [decide_eq_false cz, Bool.and_false]
          · rw [if_neg (by rw [decide_eq_false ca]; exact Bool.false_ne_true)]
            refine ⟨false, rfl, ?_⟩
            rw [if_pos rfl]
            refine out ?_
            unfold nameC
            rw [decide_eq_false ca, Bool.false_and]
        · refine hall true ?_ H' hp.1
          have := hp.2
          rw [List.take_length] at this
          exact this.symm
      · rw [decide_eq_false h8]
        refine iteT (no ?_)
        unfold isNm
        rw [decide_eq_false (by omega : ¬ z.length ≤ 8), Bool.and_false, Bool.false_and]
    · rw [decide_eq_false h1]
      refine iteF ⟨_, rfl, iteT (no ?_)⟩
      unfold isNm
      rw [decide_eq_false (by omega : ¬ 1 ≤ z.length), Bool.false_and, Bool.false_and]
  · refine ⟨x, rfl, _, U, rfl, ty, U, "str", rfl, rfl, _, rfl, ?_⟩
    rw [decide_eq_false hU]
    exact iteT (iteT q)
end

section
variable {P : Program} {w : World} {K : PySem.W.Frag} {mg : Str → Option Value} {base : Heap}
/-! ### are_unlike_names, is_book -/
def nameV : V → Bool
  | .str z => isNm z
  | _ => false
def bookV (xs : List V) : Bool := xs.all nameV && decide xs.Nodup
theorem nameV_str (x : V) (h : nameV x = true) : ∃ z, x = .str z := by
  cases x with
  | str z => exact ⟨z, rfl⟩
  | _ => cases h
def spUnlike (K : PySem.W.Frag) (T1 T2 : Addr) : Sp := fun vs H Q _ => ∃ x, vs = [x] ∧ TabG H T1 ∧ TabG H T2 ∧
  ((∃ (l : Addr) (xs : List V), x = .ref l ∧ SqL K H l xs ∧ (∀ x ∈ xs, Known K H x) ∧ xs.length ≤ 4000 ∧ ∀ H', Grow [] H H' → Q (.bl (bookV xs)) H') ∨ ∃ U, U ≠ "list" ∧ TyB K H x U ∧ Q (.bl false) H)
theorem ok_are_unlike_names {f c T1 T : Addr} {fd : FuncData} (B : Nb mg) (D : DefIs K "are_unlike_names" "are_unlike_names" st_are_unlike_names f fd (.ref c)) (x_are_unlike_names : TabB base mg c T)
    (c_is_name : Callee P w K mg base CX0 4 "is_name" ["thing"] (spIsName K T1)) : FnG P w K mg base CX0 8 f fd ["thing"] (spUnlike K T1 T) := by
  refine D.ok0 (k := 7) sc_are_unlike_names (fun vs H Q E h => ?_) (fun A outer s H vs Q E g hr h => ?_)
  · obtain ⟨x, rfl, _⟩ := h
    rfl
  obtain ⟨x, rfl, t1, tT, h⟩ := h
  refine ⟨_,
      (pss_cons (ps_if (PW.pt (pw_or (pt_cmpR (op_notTyB) (pe_callTy call_type1 rfl B.n_type (by decide +kernel) (pa_cons (pv 0) pa_nil)) (pe_bltn (v := .ty "list") rfl B.n_list (by decide +kernel) rfl) (nomark _)) (pw_or1 (pt_not (pt_val (pe_allG (own := [("name", 1)]) hr (gx_ok (N := N_are_unlike_names) (dsc := defScope st_are_unlike_names) x_are_unlike_names sc_are_unlike_names.nd (by decide +kernel) (by decide +kernel)) rfl B.n_all (by decide +kernel) (pi_list (pv 0)) (fun _ _ _ _ _ => (pg_name (i := 1) sc_are_unlike_names.nd rfl (.inl rfl))) (fun _ _ _ _ _ => pe_to (pe_g c_is_name g ((room_gx hr).mono (by decide)) pass0 (pa_cons (pv 1) pa_nil))))))))) (
        (pss_one (ps_ret pe_bl))) pss_nil)
      (pss_one (ps_ret (pe_cmpR (op_eq) (pe_lenSetS rfl B.n_len rfl B.n_set hr.hd (pv 0)) (pe_callB call_len_seq rfl B.n_len PySem.boot_len (pa_cons (pv 0) pa_nil)) (nomark _))))), ?_⟩
  rcases h with ⟨l, xs, rfl, hl, hk, hz, q⟩ | ⟨U, hU, ty, q⟩
  · refine ⟨.ref l, rfl, _, "list", rfl, .lst hl, "list", "list", rfl, rfl, _, rfl, iteNS rfl ⟨.ref l, rfl, l, rfl, ⟨xs, hl⟩, tT, ?_⟩⟩
    refine truth_list (xs := xs) (fun i H' => Grow [] H H' ∧ (xs.take i).all nameV = true) (fun H2 t => ⟨grow_tab tT t, rfl⟩) (fun i H' hp => hp.1.seq0 hl) (fun i x H' hx hp => ?_) fun H' hp => ?_
    · refine ⟨rfl, x, rfl, x, rfl, hp.1.tabs _ t1, ?_⟩
      have key : ∀ b, b = nameV x → ∀ H2, Grow [] H' H2 → (b = false → Q (.bl false) H2) ∧ (b = true → Grow [] H H2 ∧ (xs.take (i + 1)).all nameV = true) := fun b e H2 gr => by
        refine ⟨fun hb => ?_, fun hb => ⟨hp.1.trans gr, ?_⟩⟩
        · have eb : bookV xs = false := by
            unfold bookV
            rw [(List.all_eq_false.mpr ⟨x, List.mem_of_getElem? hx, by rw [← e, hb]; exact Bool.false_ne_true⟩ : xs.all nameV = false), Bool.false_and]
          rw [← eb]
          exact q H2 (hp.1.trans gr)
        · rw [List.take_add_one, hx, List.all_append, hp.2]
          show (true && (nameV x && true)) = true
          rw [← e, hb]
          rfl
      rcases (hk x (List.mem_of_getElem? hx)).grow hp.1 with ⟨z, rfl, hz'⟩ | ⟨U, nU, tU⟩
      · refine .inl ⟨z, rfl, hz', fun H2 gr => ?_⟩
        obtain ⟨k1, k2⟩ := key (isNm z) rfl H2 gr
        refine ⟨isNm z, rfl, ?_⟩
        cases hb : isNm z with
        | false =>
          rw [if_pos rfl]
          exact ⟨false, rfl, iteT (k1 hb)⟩
        | true =>
          rw [if_neg (fun z => Bool.noConfusion z)]
          exact k2 hb
      · refine .inr ⟨U, nU, tU, ?_⟩
        have e : nameV x = false := by
          cases hb : nameV x with
          | false => rfl
          | true =>
            obtain ⟨z, rfl⟩ := nameV_str x hb
            cases tU
            exact absurd rfl nU
        refine ⟨false, rfl, ?_⟩
        rw [if_pos rfl]
        exact ⟨false, rfl, iteT ((key false e.symm H' (Grow.refl _ _)).1 rfl)⟩
    · have hall : xs.all nameV = true := by
        have := hp.2
        rwa [List.take_length] at this
      have ex := strs_of nameV_str hall
      refine ⟨true, rfl, iteF ?_⟩
      refine ⟨.ref l, rfl, l, xs.map theStr, rfl, by rw [← ex]; exact hp.1.seq0 hl, by rw [List.length_map]; exact hz, ?_⟩
      refine ⟨.ref l, rfl, l, xs, rfl, .inl (hp.1.seq0 hl), ?_⟩
      have e : decide (V.int ((uq [] (xs.map theStr)).length : Nat) = V.int (xs.length : Nat)) = bookV xs := by
        unfold bookV
        rw [hall, Bool.true_and]
        have e1 : decide (V.int ((uq [] (xs.map theStr)).length : Nat) = V.int (xs.length : Nat)) = decide (((uq [] (xs.map theStr)).length : Int) = ((xs.map theStr).length : Int)) :=
          decide_eq_decide.mpr ⟨fun h => by rw [List.length_map]; exact V.int.inj h, fun h => by rw [List.length_map] at h; rw [h]⟩
        rw [e1, uq_same]
        exact decide_eq_decide.mpr (Iff.trans nodup_str.symm (by rw [← ex]))
      show rEq _ _ _ _
      refine ⟨rfl, ?_⟩
      rw [e]
      exact q H' hp.1
  · refine ⟨x, rfl, _, U, rfl, ty, U, "list", rfl, rfl, _, rfl, ?_⟩
    rw [decide_eq_false hU]
    exact iteT (iteT q)
end

section
variable {K : PySem.W.Frag}
/-! ### books -/
/-- a book -/
structure Bk (zs : List Str) : Prop where
  nm : zs.all isNm = true
  nd : zs.Nodup
  len : zs.length ≤ 200
theorem Bk.perm {zs ws : List Str} (b : Bk zs) (p : zs.Perm ws) : Bk ws :=
  ⟨by rw [List.all_eq_true] at *; exact fun x h => List.all_eq_true.mp b.nm x (p.mem_iff.mpr h), p.nodup_iff.mp b.nd, by rw [← p.length_eq]; exact b.len⟩
theorem Bk.v {zs : List Str} (b : Bk zs) : bookV (zs.map V.str) = true := by
  unfold bookV
  rw [decide_eq_true (nodup_str.mpr b.nd), Bool.and_true, List.all_map]
  exact b.nm
theorem Bk.short {zs : List Str} (b : Bk zs) {z : Str} (h : z ∈ zs) : z.length ≤ 8 := by
  have := List.all_eq_true.mp b.nm z h
  unfold isNm at this
  rw [Bool.and_eq_true, Bool.and_eq_true, decide_eq_true_iff, decide_eq_true_iff] at this
  exact this.1.2
theorem Bk.known {zs : List Str} (b : Bk zs) {H : Hp} : ∀ x ∈ zs.map V.str, Known K H x := fun x h => by
  obtain ⟨z, hz, rfl⟩ := List.mem_map.mp h
  exact .inl ⟨z, rfl, Nat.le_trans (b.short hz) (by decide)⟩
theorem nm_lt {z : Str} (h : isNm z = true) : ∀ c ∈ z.cps.toList, c < 0x110000 := fun c hc => by
  unfold isNm at h
  rw [Bool.and_eq_true] at h
  have := List.all_eq_true.mp h.2 c hc
  unfold nameC at this
  rw [Bool.and_eq_true, decide_eq_true_iff, decide_eq_true_iff] at this
  omega
theorem Bk.fine {zs : List Str} (b : Bk zs) {z : Str} (h : z ∈ zs) : Fine (.str z) 0 8 := .str (nm_lt (List.all_eq_true.mp b.nm z h)) (b.short h)
theorem fine_name {z : Str} (h1 : isNm z = true) : Fine (.str z) 0 8 := by
  refine .str (nm_lt h1) ?_
  unfold isNm at h1
  rw [Bool.and_eq_true, Bool.and_eq_true, decide_eq_true_iff, decide_eq_true_iff] at h1
  exact h1.1.2
theorem fine_names {zs : List Str} (hn : zs.all isNm = true) (hz : zs.length ≤ 200) : Fine (.list (zs.map PyData.str)) 1 1800 := Fine.list (n := 0) (m := 8) (fun d hd => by
  obtain ⟨z, h, rfl⟩ := List.mem_map.mp hd
  have h1 := List.all_eq_true.mp hn z h
  refine .str (nm_lt h1) ?_
  unfold isNm at h1
  rw [Bool.and_eq_true, Bool.and_eq_true, decide_eq_true_iff, decide_eq_true_iff] at h1
  exact h1.1.2) (by rw [List.length_map]; omega)
theorem all_perm {zs ws : List Str} (h : zs.all isNm = true) (p : ws.Perm zs) : ws.all isNm = true := List.all_eq_true.mpr fun x hx => List.all_eq_true.mp h x (p.mem_iff.mp hx)
theorem seqIndex_nat {v : Int} {n : Nat} (h0 : 0 ≤ v) (h : v < n) : seqIndex? v n = some v.toNat := by
  have e : seqIndex? v n = if (decide (0 ≤ (if v < 0 then v + n else v)) && decide ((if v < 0 then v + n else v) < n)) = true then some (if v < 0 then v + n else v).toNat else none := rfl
  rw [e, if_neg (by omega : ¬ v < 0), decide_eq_true h0, decide_eq_true h]
  rfl
end

/-! ### webs -/
/-- two that a road lies between -/
def Adj (roads : List (Str × Str)) (a b : Str) : Prop := (a, b) ∈ roads ∨ (b, a) ∈ roads
theorem Adj.symm {roads : List (Str × Str)} {a b : Str} (h : Adj roads a b) : Adj roads b a := h.elim .inr .inl
/-- the neighbours of a hand, in the roads' order -/
def nbrs (roads : List (Str × Str)) (h : Str) : List Str := roads.flatMap fun r => (if r.1 = h then [r.2] else []) ++ (if r.2 = h then [r.1] else [])
theorem mem_nbrs {roads : List (Str × Str)} {h x : Str} : x ∈ nbrs roads h ↔ Adj roads h x := by
  unfold nbrs Adj
  rw [List.mem_flatMap]
  constructor
  · rintro ⟨⟨a, b⟩, hr, hx⟩
    rcases List.mem_append.mp hx with hx | hx
    · by_cases e : a = h
      · rw [if_pos e] at hx
        rw [List.mem_singleton.mp hx, ← e]
        exact .inl hr
      · rw [if_neg e] at hx
        cases hx
    · by_cases e : b = h
      · rw [if_pos e] at hx
        rw [List.mem_singleton.mp hx, ← e]
        exact .inr hr
      · rw [if_neg e] at hx
        cases hx
  · rintro (hr | hr)
    · exact ⟨_, hr, List.mem_append_left _ (by rw [if_pos rfl]; exact List.mem_singleton.mpr rfl)⟩
    · exact ⟨_, hr, List.mem_append_right _ (by rw [if_pos rfl]; exact List.mem_singleton.mpr rfl)⟩
theorem nbrs_len (roads : List (Str × Str)) (h : Str) : (nbrs roads h).length ≤ 2 * roads.length := by
  induction roads with
  | nil => exact Nat.zero_le _
  | cons r rs ih =>
    have e : nbrs (r :: rs) h = ((if r.1 = h then [r.2] else []) ++ (if r.2 = h then [r.1] else [])) ++ nbrs rs h := List.flatMap_cons ..
    rw [e, List.length_append, List.length_append, List.length_cons]
    have h1 : (if r.1 = h then [r.2] else []).length ≤ 1 := by split <;> simp
    have h2 : (if r.2 = h then [r.1] else []).length ≤ 1 := by split <;> simp
    omega
/-- d tells how many roads lie between each hand and r -/
structure Rooted (hands : List Str) (roads : List (Str × Str)) (r : Str) (d : Str → Nat) : Prop where
  root : r ∈ hands
  zero : d r = 0
  near : ∀ a b, Adj roads a b → d a + 1 = d b ∨ d b + 1 = d a
  up : ∀ h, h ∈ hands → h ≠ r → ∃ p, Adj roads h p ∧ d p + 1 = d h
  one : ∀ h p q, Adj roads h p → Adj roads h q → d p < d h → d q < d h → p = q
theorem Rooted.only {hands : List Str} {roads : List (Str × Str)} {r : Str} {d : Str → Nat} (R : Rooted hands roads r d) {h : Str} (hh : h ∈ hands) (h0 : d h = 0) : h = r := by
  by_cases e : h = r
  · exact e
  · obtain ⟨p, _, hp⟩ := R.up h hh e
    omega
/-- a web -/
structure WebOk (hands : List Str) (roads : List (Str × Str)) : Prop where
  nm : hands.all isNm = true
  nd : hands.Nodup
  len : hands.length ≤ 200
  ne : hands ≠ []
  many : roads.length + 1 = hands.length
  ends : ∀ r ∈ roads, r.1 ∈ hands ∧ r.2 ∈ hands ∧ r.1.cps.toList < r.2.cps.toList
  tree : ∀ r ∈ hands, ∃ d, Rooted hands roads r d
theorem WebOk.adj {hands : List Str} {roads : List (Str × Str)} (w : WebOk hands roads) {a b : Str} (h : Adj roads a b) : a ∈ hands ∧ b ∈ hands := by
  rcases h with h | h
  · exact ⟨(w.ends _ h).1, (w.ends _ h).2.1⟩
  · exact ⟨(w.ends _ h).2.1, (w.ends _ h).1⟩
/-- what hands_ahead tells: each hand with the one ahead of it -/
structure AheadOk (hands : List Str) (roads : List (Str × Str)) (start : Str) (barred : Option Str) (ks : List (Str × Option Str)) : Prop where
  nd : (ks.map Prod.fst).Nodup
  first : ks[0]? = some (start, none)
  each : ∀ j h v, ks[j]? = some (h, v) → h ∈ hands ∧ (j = 0 ∨ (some h ≠ barred ∧ ∃ p i w, v = some p ∧ Adj roads p h ∧ i < j ∧ ks[i]? = some (p, w)))
/-- what is told of a tree: by how many roads, too -/
theorem AheadOk.down {hands : List Str} {roads : List (Str × Str)} {start : Str} {barred : Option Str} {ks : List (Str × Option Str)} {d : Str → Nat} (K : AheadOk hands roads start barred ks) (R : Rooted hands roads start d) :
    ∀ (n j : Nat), j < n → ∀ h p, ks[j]? = some (h, some p) → Adj roads h p ∧ d p + 1 = d h
  | n + 1, j, hj, h, p, e => by
    obtain ⟨hh, hv⟩ := K.each j h _ e
    rcases hv with rfl | ⟨_, p', i, w, ev, ap, hij, ei⟩
    · rw [K.first] at e
      cases e
    · cases ev
      refine ⟨ap.symm, ?_⟩
      rcases R.near _ _ ap with q | q
      · exact q
      · exfalso
        have pz : p ≠ start := fun z => by
          rw [z, R.zero] at q
          omega
        cases w with
        | none =>
          obtain ⟨_, hv2⟩ := K.each i p _ ei
          rcases hv2 with rfl | ⟨_, _, _, _, ev, _⟩
          · rw [K.first] at ei
            cases ei
            exact pz rfl
          · cases ev
        | some g =>
          obtain ⟨a1, a2⟩ := AheadOk.down K R n i (by omega) p g ei
          have eg : g = h := R.one p g h a1 ap (by omega) (by omega)
          obtain ⟨_, hv2⟩ := K.each i p _ ei
          rcases hv2 with rfl | ⟨_, p2, i2, w2, ev, _, hi2, ei2⟩
          · rw [K.first] at ei
            cases ei
          · cases ev
            rw [eg] at ei2
            have c1 : (ks.map Prod.fst)[i2]? = some h := by rw [List.getElem?_map, ei2]; rfl
            have c2 : (ks.map Prod.fst)[j]? = some h := by rw [List.getElem?_map, e]; rfl
            have := (List.getElem?_inj (List.getElem?_eq_some_iff.mp c1).1 K.nd).mp (c1.trans c2.symm)
            omega

section
variable {P : Program} {w : World} {K : PySem.W.Frag} {mg : Str → Option Value} {base : Heap}
/-! ### is_book -/
theorem ok_is_book {f c T1 T : Addr} {fd : FuncData} (D : DefIs K "is_book" "is_book" st_is_book f fd (.ref c))
    (c_are_unlike_names : Callee P w K mg base CX0 8 "are_unlike_names" ["thing"] (spUnlike K T1 T)) : FnG P w K mg base CX0 9 f fd ["thing"] (spUnlike K T1 T) := by
  refine D.ok0 (k := 8) sc_is_book (fun vs H Q E h => ?_) (fun A outer s H vs Q E g hr h => ?_)
  · obtain ⟨x, rfl, _⟩ := h
    rfl
  obtain ⟨x, rfl, t1, tT, h⟩ := h
  refine ⟨_,
      (pss_one (ps_ret (pe_g c_are_unlike_names g (hr.mono (by decide)) pass0 (pa_cons (pv 0) pa_nil)))), ?_⟩
  exact ⟨x, rfl, x, rfl, t1, tT, h⟩
end

end Lw

namespace Lw
open PySem PySem.Spec PyProof.Rows L2 GxR Gx
section
variable {P : Program} {w : World} {K : PySem.W.Frag} {mg : Str → Option Value} {base : Heap}
/-! ### the drawing: _law_pot, _law_dip -/
/-- what is drawn from: a number used up first, then a mixed one; no more than c turns of it -/
def Pot (H : Hp) (p : Addr) (c : Int) : Prop := ∃ a b k : Int, H p = some (.lst [.int a, .int b, .int k]) ∧ 0 ≤ b ∧ b < 2 ^ 160 ∧ 0 ≤ k ∧ k ≤ c
theorem Pot.mono {H : Hp} {p : Addr} {c c' : Int} (h : Pot H p c) (l : c ≤ c') : Pot H p c' := by
  obtain ⟨a, b, k, e, b1, b2, b3, b4⟩ := h
  exact ⟨a, b, k, e, b1, b2, b3, by omega⟩
theorem Pot.new {H : Hp} {p q : Addr} {o : HO} {c : Int} (h : Pot H p c) (n : H q = none) : Pot (upd H q o) p c := by
  obtain ⟨a, b, k, e, r⟩ := h
  exact ⟨a, b, k, by rw [upd_ne (ne_of_none e n)]; exact e, r⟩
theorem Pot.at {H : Hp} {p q : Addr} {o : HO} {c : Int} (h : Pot H p c) (n : p ≠ q) : Pot (upd H q o) p c := by
  obtain ⟨a, b, k, e, r⟩ := h
  exact ⟨a, b, k, by rw [upd_ne n]; exact e, r⟩
theorem Fresh.back {H H2 : Hp} {D p : Addr} {c : Int} (fr : Fresh H2 D) (g : Grow [p] H H2) (h : Pot H2 p c) : Fresh H D := by
  obtain ⟨a, b, k, e, _⟩ := h
  have n := fr.ne e (fun ps z => by cases z)
  exact g.fresh (by simpa using n.symm) fr
def spPot (K : PySem.W.Frag) : Sp := fun vs H Q _ => ∃ (s : Addr) (ns : List Int) (k : Nat), vs = [.ref s, .int k] ∧ SqL K H s (ns.map V.int) ∧ k ≤ 12 ∧ ∀ p H', Fresh H p → Grow [] H H' → Pot H' p 0 → Q (.ref p) H'
theorem ok_law_pot {f c : Addr} {fd : FuncData} (B : Nb mg) (D : DefIs K "_law_pot" "_law_pot" st_law_pot f fd (.ref c)) : FnG P w K mg base CX0 3 f fd ["script", "k"] (spPot K) := by
  refine D.ok0 (k := 2) sc_law_pot (fun vs H Q E h => ?_) (fun A outer s H vs Q E g hr h => ?_)
  · obtain ⟨s, ns, k, rfl, _⟩ := h
    rfl
  obtain ⟨l, ns, k, rfl, hl, hk, q⟩ := h
  refine ⟨_,
      (pss_cons (ps_set (i := 2) sc_law_pot.nd rfl (.inl rfl) pe_int)
      (pss_cons (ps_if (pt_cmpR (op_lt) (pv 1) (pe_callB call_len_seq rfl B.n_len PySem.boot_len (pa_cons (pv 0) pa_nil)) (nomark _)) (
        (pss_one (ps_set (i := 2) sc_law_pot.nd rfl (.inl rfl) (pe_ix ix_list (pv 0) (pv 1) (fun _ _ => rfl))))) pss_nil)
      (pss_one (ps_ret (pe_lst (pa_cons (pe_callB (call_max2 rfl) rfl B.n_max (by decide +kernel) (pa_cons pe_int (pa_cons (pe_op op_sub (pv 2) (pe_op op_powX pe_int pe_int)) pa_nil))) (pa_cons (pe_op op_add (pe_op op_add (pe_op op_mulX (pe_op op_mod (pv 2) (pe_op op_add (pe_op op_powX pe_int pe_int) pe_int)) pe_int) (pv 1)) pe_int) (pa_cons pe_int pa_nil)))))))), ?_⟩
  have M0 : (0 : Int) < 10 ^ (44 : Int).toNat + 57 := by decide
  have M1 : (10 : Int) ^ (44 : Int).toNat + 57 < 2 ^ 147 := by decide
  have xb : ∀ cell : Int, 0 ≤ cell % (10 ^ (44 : Int).toNat + 57) ∧ cell % (10 ^ (44 : Int).toNat + 57) < 2 ^ 147 := fun cell =>
    ⟨Int.emod_nonneg cell (Int.ne_of_gt M0), Int.lt_trans (Int.emod_lt_of_pos cell M0) M1⟩
  have fq : ∀ (cell : Int) p, H p = none → Q (.ref p) (upd H p (.lst [.int (if cell - 10 ^ (18 : Int).toNat > 0 then cell - 10 ^ (18 : Int).toNat else 0), .int (cell % (10 ^ (44 : Int).toNat + 57) * 256 + (k : Int) + 1), .int 0])) := fun cell p np => by
    obtain ⟨h1, h2⟩ := xb cell
    obtain ⟨x, hx⟩ : ∃ x, cell % (10 ^ (44 : Int).toNat + 57) = x := ⟨_, rfl⟩
    rw [hx] at h1 h2 ⊢
    exact q p _ (fresh_none np) (grow_new np) ⟨_, _, _, upd_same, by omega, by omega, Int.le_refl _, Int.le_refl _⟩
  have cp : CPowX 10 18 := ⟨by decide, by decide⟩
  have cp2 : CPowX 10 44 := ⟨by decide, by decide⟩
  have cm : ∀ cell : Int, CMulX (cell % (10 ^ (44 : Int).toNat + 57)) 256 := fun cell => by
    obtain ⟨h1, h2⟩ := xb cell
    obtain ⟨x, hx⟩ : ∃ x, cell % (10 ^ (44 : Int).toNat + 57) = x := ⟨_, rfl⟩
    rw [hx] at h1 h2 ⊢
    have h3 : Builtin.Int.intBits x ≤ 147 := bits_le (by decide) (by omega)
    have h4 : Builtin.Int.intBits 256 ≤ 9 := bits_le (by decide) (by decide)
    unfold CMulX
    omega
  refine ⟨.int k, rfl, .ref l, rfl, l, _, rfl, .inl hl, _, _, rfl, rfl, _, rfl, ite2 (fun hlt => ?_) fun _ => ?_⟩
  · have hi : k < ns.length := by have := of_decide_eq_true hlt; rw [List.length_map] at this; omega
    refine ⟨.ref l, rfl, .int k, rfl, l, _, _, .int (ns[k]), rfl, rfl, hl, ?_, ?_⟩
    · exact atI_nat (by rw [List.getElem?_map, List.getElem?_eq_getElem hi]; rfl)
    · exact ⟨.int (ns[k]), rfl, 10, 18, rfl, rfl, cp, _, _, rfl, rfl, _, _, rfl, .int (ns[k]), rfl, 10, 44, rfl, rfl, cp2, _, _, rfl, rfl, _, _, rfl, rfl, M0, _, _, rfl, rfl, cm _, .int k, rfl, _, _, rfl, rfl, _, _, rfl, rfl, by show 3 ≤ sizeLine; decide, fq _⟩
  · exact ⟨.int 0, rfl, 10, 18, rfl, rfl, cp, _, _, rfl, rfl, _, _, rfl, .int 0, rfl, 10, 44, rfl, rfl, cp2, _, _, rfl, rfl, _, _, rfl, rfl, M0, _, _, rfl, rfl, cm _, .int k, rfl, _, _, rfl, rfl, _, _, rfl, rfl, by show 3 ≤ sizeLine; decide, fq _⟩
def spDip (K : PySem.W.Frag) : Sp := fun vs H Q _ => ∃ (p : Addr) (m c : Int), vs = [.ref p, .int m] ∧ 1 ≤ m ∧ m < 2 ^ 30 ∧ c ≤ 2 ^ 30 ∧ Pot H p c ∧ ∀ v H', 0 ≤ v → v < m → Grow [p] H H' → Pot H' p (c + 1) → Q (.int v) H'
theorem ok_law_dip {f c : Addr} {fd : FuncData} (B : Nb mg) (D : DefIs K "_law_dip" "_law_dip" st_law_dip f fd (.ref c)) : FnG P w K mg base CX0 3 f fd ["pot", "many"] (spDip K) := by
  refine D.ok0 (k := 2) sc_law_dip (fun vs H Q E h => ?_) (fun A outer s H vs Q E g hr h => ?_)
  · obtain ⟨p, m, c, rfl, _⟩ := h
    rfl
  obtain ⟨p, m, c, rfl, m1, m2, c1, ⟨a, b, k, e, b1, b2, k1, k2⟩, q⟩ := h
  refine ⟨_,
      (pss_cons (ps_if (pt_cmpR (op_gt) (pe_ix ix_list (pv 0) pe_int (fun _ _ => rfl)) pe_int (nomark _)) (
        (pss_cons (ps_set (i := 2) sc_law_dip.nd rfl (.inl rfl) (pe_op op_mod (pe_ix ix_list (pv 0) pe_int (fun _ _ => rfl)) (pv 1)))
        (pss_cons (ps_asg (pe_op op_fdiv (pe_ix ix_list (pv 0) pe_int (fun _ _ => rfl)) (pv 1)) (pg_sub (pv 0) pe_int set_list))
        (pss_one (ps_ret (pv 2)))))) pss_nil)
      (pss_cons (ps_asg (pe_op op_add (pe_ix ix_list (pv 0) pe_int (fun _ _ => rfl)) pe_int) (pg_sub (pv 0) pe_int set_list))
      (pss_cons (ps_set (i := 3) sc_law_dip.nd rfl (.inl rfl) (pe_op op_mod (pe_op op_powX (pe_op op_add (pe_ix ix_list (pv 0) pe_int (fun _ _ => rfl)) (pe_op op_mulX pe_int (pe_ix ix_list (pv 0) pe_int (fun _ _ => rfl)))) pe_int) (pe_op op_add (pe_op op_powX pe_int pe_int) pe_int)))
      (pss_cons (ps_set (i := 3) sc_law_dip.nd rfl (.inl rfl) (pe_op op_mod (pe_op op_powX (pe_op op_add (pv 3) (pe_op op_mulX pe_int (pe_ix ix_list (pv 0) pe_int (fun _ _ => rfl)))) pe_int) (pe_op op_add (pe_op op_powX pe_int pe_int) pe_int)))
      (pss_one (ps_ret (pe_op op_mod (pe_op op_fdiv (pv 3) pe_int) (pv 1)))))))), ?_⟩
  have sq : ∀ {H' : Hp} {x y z : Int}, H' p = some (.lst [.int x, .int y, .int z]) → SqL K H' p [.int x, .int y, .int z] := fun h => .inl (.inl h)
  refine ⟨.ref p, rfl, p, _, 0, .int a, rfl, rfl, sq e, rfl, _, _, rfl, rfl, _, rfl, ite2 (fun ha => ?_) fun _ => ?_⟩
  · refine ⟨.ref p, rfl, p, _, 0, .int a, rfl, rfl, sq e, rfl, .int m, rfl, _, _, rfl, rfl, m1, .ref p, rfl, p, _, 0, .int a, rfl, rfl, sq e, rfl, .int m, rfl, _, _, rfl, rfl, ⟨m1, m2⟩, .ref p, rfl, p, _, 0, 0, rfl, rfl, e, rfl, .int (a % m), rfl, ?_⟩
    exact q _ _ (Int.emod_nonneg _ (by omega)) (Int.emod_lt_of_pos _ m1) (grow_at e (fun ps z => by cases z) (by simp)) ⟨_, _, _, upd_same, b1, b2, k1, by omega⟩
  · refine ⟨.ref p, rfl, p, _, 2, .int k, rfl, rfl, sq e, rfl, _, _, rfl, rfl, .ref p, rfl, p, _, 2, 2, rfl, rfl, e, rfl, ?_⟩
    have e2 : upd H p (.lst [.int a, .int b, .int (k + 1)]) p = some (.lst [.int a, .int b, .int (k + 1)]) := upd_same
    have fin : ∀ x : Int, Q (.int (x / 131071 % m)) (upd H p (.lst [.int a, .int b, .int (k + 1)])) := fun x =>
      q _ _ (Int.emod_nonneg _ (by omega)) (Int.emod_lt_of_pos _ m1) (grow_at e (fun ps z => by cases z) (by simp)) ⟨_, _, _, e2, b1, b2, by omega, by omega⟩
    have bk : Builtin.Int.intBits (k + 1) ≤ 31 := bits_le (by decide) (by omega)
    have cm1 : CMulX 613651349 (k + 1) := by
      have : Builtin.Int.intBits 613651349 ≤ 30 := bits_le (by decide) (by decide)
      unfold CMulX
      omega
    have cm2 : CMulX 776531401 (k + 1) := by
      have : Builtin.Int.intBits 776531401 ≤ 30 := bits_le (by decide) (by decide)
      unfold CMulX
      omega
    have cp1 : CPowX (b + 613651349 * (k + 1)) 3 := by
      have : Builtin.Int.intBits (b + 613651349 * (k + 1)) ≤ 161 := bits_le (by decide) (by omega)
      exact ⟨by decide, by omega⟩
    have M0 : (0 : Int) < 10 ^ (41 : Int).toNat + 37 := by decide
    have M1 : (10 : Int) ^ (41 : Int).toNat + 37 < 2 ^ 140 := by decide
    have N0 : (0 : Int) < 10 ^ (42 : Int).toNat + 63 := by decide
    have cp2 : ∀ y : Int, CPowX (y % (10 ^ (41 : Int).toNat + 37) + 776531401 * (k + 1)) 5 := fun y => by
      have h1 := Int.emod_nonneg y (Int.ne_of_gt M0)
      have h2 := Int.lt_trans (Int.emod_lt_of_pos y M0) M1
      obtain ⟨x, hx⟩ : ∃ x, y % (10 ^ (41 : Int).toNat + 37) = x := ⟨_, rfl⟩
      rw [hx] at h1 h2 ⊢
      have : Builtin.Int.intBits (x + 776531401 * (k + 1)) ≤ 141 := bits_le (by decide) (by omega)
      exact ⟨by decide, by omega⟩
    have p41 : CPowX 10 41 := ⟨by decide, by decide⟩
    have p42 : CPowX 10 42 := ⟨by decide, by decide⟩
    refine ⟨.ref p, rfl, p, _, 1, .int b, rfl, rfl, sq e2, rfl, .ref p, rfl, p, _, 2, .int (k + 1), rfl, rfl, sq e2, rfl, _, _, rfl, rfl, cm1, _, _, rfl, rfl, _, _, rfl, rfl, cp1, 10, 41, rfl, rfl, p41, _, _, rfl, rfl, _, _, rfl, rfl, M0, ?_⟩
    exact ⟨.int _, rfl, .ref p, rfl, p, _, 2, .int (k + 1), rfl, rfl, sq e2, rfl, _, _, rfl, rfl, cm2, _, _, rfl, rfl, _, _, rfl, rfl, cp2 _, 10, 42, rfl, rfl, p42, _, _, rfl, rfl, _, _, rfl, rfl, N0, .int _, rfl, _, _, rfl, rfl, (⟨by decide, by decide⟩ : CDiv _ 131071), .int m, rfl, _, _, rfl, rfl, m1, fin _⟩
end

/-! ### is_pair -/
section
variable {P : Program} {w : World} {K : PySem.W.Frag} {mg : Str → Option Value} {base : Heap}
def spIsPair (K : PySem.W.Frag) : Sp := fun vs H Q _ => ∃ x, vs = [x] ∧ ((∃ (a : Addr) (xs : List V), x = .ref a ∧ SqT K H a xs ∧ Q (.bl (decide (xs.length = 2))) H) ∨ ∃ U, U ≠ "tuple" ∧ TyB K H x U ∧ Q (.bl false) H)
theorem ok_is_pair {f c : Addr} {fd : FuncData} (B : Nb mg) (D : DefIs K "is_pair" "is_pair" st_is_pair f fd (.ref c)) : FnG P w K mg base CX0 2 f fd ["thing"] (spIsPair K) := by
  refine D.ok0 (k := 1) sc_is_pair (fun vs H Q E h => ?_) (fun A outer s H vs Q E g hr h => ?_)
  · obtain ⟨x, rfl, _⟩ := h
    rfl
  obtain ⟨x, rfl, h⟩ := h
  refine ⟨_,
      (pss_one (ps_ret (pe_and (pe_cmpR (op_isTyB) (pe_callTy call_type1 rfl B.n_type (by decide +kernel) (pa_cons (pv 0) pa_nil)) (pe_bltn (v := .ty "tuple") rfl B.n_tuple (by decide +kernel) rfl) (nomark _)) (pe_one (pe_cmpR (op_eq) (pe_callB call_len_seq rfl B.n_len PySem.boot_len (pa_cons (pv 0) pa_nil)) pe_int (nomark _)))))), ?_⟩
  rcases h with ⟨a, xs, rfl, ha, q⟩ | ⟨U, hU, ty, q⟩
  · refine ⟨.ref a, rfl, _, "tuple", rfl, .tup ha, "tuple", "tuple", rfl, rfl, _, rfl, iteT ⟨.ref a, rfl, a, _, rfl, .inr ha, rfl, ?_⟩⟩
    rw [show decide (V.int ((xs.length : Nat) : Int) = V.int 2) = decide (xs.length = 2) from decide_eq_decide.mpr ⟨fun h => by have := V.int.inj h; omega, fun h => by rw [h]; rfl⟩]
    exact q
  · refine ⟨x, rfl, _, U, rfl, ty, U, "tuple", rfl, rfl, _, rfl, ?_⟩
    rw [decide_eq_false hU]
    exact iteF q
end

/-! ### is_road -/
def roadB (kvs : List (Key × V)) : V → V → Bool
  | .str a, .str b => (valV kvs (.inr a)).isSome && ((valV kvs (.inr b)).isSome && decide (a.cps.toList < b.cps.toList))
  | _, _ => false
section
variable {P : Program} {w : World} {K : PySem.W.Frag} {mg : Str → Option Value} {base : Heap}
def spIsRoad (K : PySem.W.Frag) : Sp := fun vs H Q _ => ∃ (x : V) (D : Addr) (kvs : List (Key × V)), vs = [x, .ref D] ∧ H D = some (.dK kvs) ∧
  ((∃ (a : Addr) (u v : V), x = .ref a ∧ SqT K H a [u, v] ∧ Known K H u ∧ Known K H v ∧ Q (.bl (roadB kvs u v)) H) ∨ (∃ (a : Addr) (xs : List V), x = .ref a ∧ SqT K H a xs ∧ xs.length ≠ 2 ∧ Q (.bl false) H) ∨ ∃ U, U ≠ "tuple" ∧ TyB K H x U ∧ Q (.bl false) H)
theorem ok_is_road {f c : Addr} {fd : FuncData} (B : Nb mg) (D : DefIs K "is_road" "is_road" st_is_road f fd (.ref c)) (c_is_pair : Callee P w K mg base CX0 2 "is_pair" ["thing"] (spIsPair K)) : FnG P w K mg base CX0 3 f fd ["thing", "hands"] (spIsRoad K) := by
  refine D.ok0 (k := 2) sc_is_road (fun vs H Q E h => ?_) (fun A outer s H vs Q E g hr h => ?_)
  · obtain ⟨x, D, kvs, rfl, _⟩ := h
    rfl
  obtain ⟨x, D, kvs, rfl, eD, h⟩ := h
  refine ⟨_,
      (pss_cons (ps_if (pt_not (pt_val (pe_g c_is_pair g (hr.mono (by decide)) pass0 (pa_cons (pv 0) pa_nil)))) (
        (pss_one (ps_ret pe_bl))) pss_nil)
      (pss_cons (ps_asg (pv 0) (pg_tup rfl (pgs_cons (pg_name (i := 2) sc_is_road.nd rfl (.inl rfl)) (pgs_cons (pg_name (i := 3) sc_is_road.nd rfl (.inl rfl)) pgs_nil))))
      (pss_cons (ps_if (PW.pt (pw_or (pt_cmpR (op_notTyB) (pe_callTy call_type1 rfl B.n_type (by decide +kernel) (pa_cons (pv 2) pa_nil)) (pe_bltn (v := .ty "str") rfl B.n_str (by decide +kernel) rfl) (nomark _)) (pw_or1 (pt_cmpR (op_notTyB) (pe_callTy call_type1 rfl B.n_type (by decide +kernel) (pa_cons (pv 3) pa_nil)) (pe_bltn (v := .ty "str") rfl B.n_str (by decide +kernel) rfl) (nomark _))))) (
        (pss_one (ps_ret pe_bl))) pss_nil)
      (pss_one (ps_ret (pe_and (pe_cmp (pc_din (hu_of hr) (pv 2) (pv 1))) (pe_and (pe_cmp (pc_din (hu_of hr) (pv 3) (pv 1))) (pe_one (pe_cmpR (op_lt_str) (pv 2) (pv 3) (nomark _)))))))))), ?_⟩
  rcases h with ⟨a, u, v, rfl, ha, ku, kv, q⟩ | ⟨a, xs, rfl, ha, h2, q⟩ | ⟨U, hU, ty, q⟩
  · refine ⟨.ref a, rfl, .ref a, rfl, .inl ⟨a, _, rfl, ha, true, rfl, iteF ?_⟩⟩
    refine ⟨.ref a, rfl, a, _, rfl, ha, rfl, _, _, rfl, _, _, rfl, rfl, ?_⟩
    rcases ku with ⟨y, rfl, _⟩ | ⟨U, nU, tU⟩
    · refine ⟨.str y, rfl, _, "str", rfl, .str y, "str", "str", rfl, rfl, _, rfl, iteNS rfl ?_⟩
      rcases kv with ⟨z, rfl, _⟩ | ⟨U, nU, tU⟩
      · refine ⟨.str z, rfl, _, "str", rfl, .str z, "str", "str", rfl, rfl, _, rfl, iteNS rfl ?_⟩
        refine ⟨.str y, rfl, .ref D, rfl, D, _, rfl, DGet.k (k := .inr y) eD, _, rfl, ?_⟩
        replace q : Q (.bl ((valV kvs (.inr y)).isSome && ((valV kvs (.inr z)).isSome && decide (y.cps.toList < z.cps.toList)))) H := q
        cases h1 : (valV kvs (.inr y)).isSome with
        | false =>
          rw [h1] at q
          exact iteF q
        | true =>
          rw [h1] at q
          refine iteT ⟨.str z, rfl, .ref D, rfl, D, _, rfl, DGet.k (k := .inr z) eD, _, rfl, ?_⟩
          cases h2 : (valV kvs (.inr z)).isSome with
          | false =>
            rw [h2] at q
            exact iteF q
          | true =>
            rw [h2] at q
            exact iteT ⟨.str y, rfl, .str z, rfl, _, _, rfl, rfl, q⟩
      · have e : roadB kvs (.str y) v = false := by
          cases tU with
          | str x => exact absurd rfl nU
          | _ => rfl
        rw [e] at q
        refine ⟨v, rfl, _, U, rfl, tU, U, "str", rfl, rfl, _, rfl, ?_⟩
        rw [decide_eq_false nU]
        exact iteT q
    · have e : roadB kvs u v = false := by
        cases tU with
        | str x => exact absurd rfl nU
        | _ => rfl
      rw [e] at q
      refine ⟨u, rfl, _, U, rfl, tU, U, "str", rfl, rfl, _, rfl, ?_⟩
      rw [decide_eq_false nU]
      exact iteT (iteT q)
  · refine ⟨.ref a, rfl, .ref a, rfl, .inl ⟨a, _, rfl, ha, ?_⟩⟩
    rw [decide_eq_false h2]
    exact ⟨false, rfl, iteT q⟩
  · exact ⟨x, rfl, x, rfl, .inr ⟨U, hU, ty, false, rfl, iteT q⟩⟩
end

/-! ### a web in the heap -/
/-- a pair of texts, its object without names of its own -/
def Pr (H : Hp) (a : Addr) (r : Str × Str) : Prop := ∃ o, H a = some (.frz o (.tup [.str r.1, .str r.2])) ∧ o.dict = none
theorem Pr.seq {K : PySem.W.Frag} {H : Hp} {a : Addr} {r : Str × Str} (h : Pr H a r) : SqT K H a [.str r.1, .str r.2] := by
  obtain ⟨o, e, _⟩ := h
  exact .inl (.inr ⟨o, e⟩)
theorem Pr.grow {ex : List Addr} {H H' : Hp} {a : Addr} {r : Str × Str} (h : Pr H a r) (g : Grow ex H H') (n : a ∉ ex) : Pr H' a r := by
  obtain ⟨o, e, d⟩ := h
  exact ⟨o, g.keep a _ n e (fun ps z => by cases z), d⟩
/-- where none such stands -/
def NoFrz (ex : List Addr) (H : Hp) : Prop := ∀ b ∈ ex, ∀ o xs, H b ≠ some (.frz o (.tup xs))
theorem noFrz_nil {H : Hp} : NoFrz [] H := fun b h => by cases h
theorem noFrz_lst {H : Hp} {a : Addr} {xs : List V} (h : H a = some (.lst xs)) : NoFrz [a] H := fun b hb o ys e => by
  rw [List.mem_singleton.mp hb, h] at e
  cases e
inductive Prs (H : Hp) : List V → List (Str × Str) → Prop
  | nil : Prs H [] []
  | cons {a : Addr} {r : Str × Str} {xs : List V} {rs : List (Str × Str)} : Pr H a r → Prs H xs rs → Prs H (.ref a :: xs) (r :: rs)
theorem Prs.grow {ex : List Addr} {H H' : Hp} (g : Grow ex H H') (l : NoFrz ex H) : ∀ {xs : List V} {rs : List (Str × Str)}, Prs H xs rs → Prs H' xs rs
  | _, _, .nil => .nil
  | _, _, .cons h t => .cons (h.grow g fun z => by
      obtain ⟨o, e, _⟩ := h
      exact l _ z o _ e) (t.grow g l)
theorem Prs.length {H : Hp} : ∀ {xs : List V} {rs : List (Str × Str)}, Prs H xs rs → xs.length = rs.length
  | _, _, .nil => rfl
  | _, _, .cons _ t => congrArg (· + 1) t.length
theorem Prs.get {H : Hp} : ∀ {xs : List V} {rs : List (Str × Str)} {i : Nat} {x : V}, Prs H xs rs → xs[i]? = some x → ∃ a r, x = .ref a ∧ rs[i]? = some r ∧ Pr H a r
  | _, _, 0, _, .cons h _, e => by
    cases e
    exact ⟨_, _, rfl, rfl, h⟩
  | _, _, i + 1, _, .cons _ t, e => t.get (i := i) e
theorem Prs.app {H : Hp} : ∀ {xs ys : List V} {rs ss : List (Str × Str)}, Prs H xs rs → Prs H ys ss → Prs H (xs ++ ys) (rs ++ ss)
  | _, _, _, _, .nil, q => q
  | _, _, _, _, .cons h t, q => .cons h (t.app q)
theorem Prs.rev {H : Hp} : ∀ {xs : List V} {rs : List (Str × Str)}, Prs H xs rs → Prs H xs.reverse rs.reverse
  | _, _, .nil => .nil
  | _, _, .cons h t => by
    rw [List.reverse_cons, List.reverse_cons]
    exact t.rev.app (.cons h .nil)
theorem Prs.ins {H : Hp} {a : Addr} {r : Str × Str} (q : Pr H a r) : ∀ {xs : List V} {rs : List (Str × Str)} (i : Nat), Prs H xs rs → Prs H (xs.take i ++ [.ref a] ++ xs.drop i) (rs.take i ++ [r] ++ rs.drop i)
  | _, _, 0, h => by
    rw [List.take_zero, List.take_zero, List.drop_zero, List.drop_zero]
    exact .cons q h
  | [], [], i + 1, .nil => .cons q .nil
  | _ :: _, _ :: _, i + 1, .cons h t => .cons h (Prs.ins q i t)
theorem Prs.dp {K : PySem.W.Frag} {H : Hp} : ∀ {xs : List V} {rs : List (Str × Str)}, Prs H xs rs → DpAll K H xs (rs.map encP)
  | _, _, .nil => .nil
  | _, _, .cons h t => .cons (.tup h.seq (.cons (.str _) (.cons (.str _) .nil))) (Prs.dp t)
/-- a list of such pairs -/
def RdT (H : Hp) (a : Addr) (roads : List (Str × Str)) : Prop := ∃ xs, H a = some (.lst xs) ∧ Prs H xs roads
theorem RdT.grow {ex : List Addr} {H H' : Hp} {a : Addr} {roads : List (Str × Str)} (h : RdT H a roads) (g : Grow ex H H') (l : NoFrz ex H) (n : a ∉ ex) : RdT H' a roads := by
  obtain ⟨xs, e, t⟩ := h
  exact ⟨xs, g.lst n e, t.grow g l⟩
theorem RdT.dp {K : PySem.W.Frag} {H : Hp} {a : Addr} {roads : List (Str × Str)} (h : RdT H a roads) : Dp K H (.ref a) (.list (roads.map encP)) := by
  obtain ⟨xs, e, t⟩ := h
  exact .lst (.inl (.inl e)) t.dp
/-- the web stands at W -/
def WebAt (H : Hp) (W : Addr) (hands : List Str) (roads : List (Str × Str)) : Prop := ∃ hs rs, H W = some (.tup [.ref hs, .ref rs]) ∧ H hs = some (.lst (hands.map V.str)) ∧ RdT H rs roads
theorem WebAt.grow {H H' : Hp} {W : Addr} {hands : List Str} {roads : List (Str × Str)} (h : WebAt H W hands roads) (g : Grow [] H H') : WebAt H' W hands roads := by
  obtain ⟨hs, rs, h1, h2, h3⟩ := h
  exact ⟨hs, rs, g.tup (by simp) h1, g.lst (by simp) h2, h3.grow g noFrz_nil (by simp)⟩

/-! ### lists of lists -/
/-- lists that stand at as -/
structure LL (H : Hp) (as : List Addr) (rs : List (List V)) : Prop where
  len : as.length = rs.length
  at_ : ∀ (i : Nat) (a : Addr) (r : List V), as[i]? = some a → rs[i]? = some r → H a = some (.lst r)
theorem LL.grow {ex : List Addr} {H H' : Hp} {as : List Addr} {rs : List (List V)} (h : LL H as rs) (g : Grow ex H H') (n : ∀ a ∈ as, a ∉ ex) : LL H' as rs :=
  ⟨h.len, fun i a r e q => g.lst (n a (List.mem_of_getElem? e)) (h.at_ i a r e q)⟩
theorem LL.grow0 {H H' : Hp} {as : List Addr} {rs : List (List V)} (h : LL H as rs) (g : Grow [] H H') : LL H' as rs := h.grow g fun _ _ => by simp
theorem LL.set {H : Hp} {as : List Addr} {rs : List (List V)} {j : Nat} {a : Addr} {r : List V} (h : LL H as rs) (nd : as.Nodup) (e : as[j]? = some a) : LL (upd H a (.lst r)) as (rs.set j r) := by
  refine ⟨by rw [List.length_set]; exact h.len, fun i b q e1 e2 => ?_⟩
  rw [List.getElem?_set] at e2
  by_cases hij : j = i
  · subst hij
    rw [e] at e1
    cases e1
    rw [if_pos rfl] at e2
    split at e2
    · cases e2
      exact upd_same
    · cases e2
  · rw [if_neg hij] at e2
    have ne : b ≠ a := fun z => hij ((List.getElem?_inj (List.getElem?_eq_some_iff.mp e).1 nd).mp (by rw [e, e1, z]))
    rw [upd_ne ne]
    exact h.at_ i b q e1 e2
theorem LL.push {H : Hp} {as : List Addr} {rs : List (List V)} {a : Addr} {r : List V} (h : LL H as rs) (e : H a = some (.lst r)) : LL H (as ++ [a]) (rs ++ [r]) := by
  refine ⟨by rw [List.length_append, List.length_append, h.len]; rfl, fun i b q e1 e2 => ?_⟩
  by_cases hi : i < as.length
  · rw [List.getElem?_append_left hi] at e1
    rw [List.getElem?_append_left (by rw [← h.len]; exact hi)] at e2
    exact h.at_ i b q e1 e2
  · rw [List.getElem?_append_right (by omega)] at e1
    rw [List.getElem?_append_right (by rw [← h.len]; omega), ← h.len] at e2
    have hz : i - as.length = 0 := by
      have := (List.getElem?_eq_some_iff.mp e1).1
      rw [List.length_singleton] at this
      omega
    rw [hz] at e1 e2
    cases e1
    cases e2
    exact e
theorem LL.dp {K : PySem.W.Frag} {H : Hp} : ∀ {as : List Addr} {rs : List (List Str)}, LL H as (rs.map fun r => r.map V.str) → DpAll K H (as.map V.ref) (rs.map fun r => PyData.list (r.map PyData.str))
  | [], [], _ => .nil
  | [], _ :: _, h => by have := h.len; simp at this
  | _ :: _, [], h => by have := h.len; simp at this
  | a :: as, r :: rs, h => .cons (dp_book (.inl (.inl (h.at_ 0 a _ rfl rfl)))) (LL.dp ⟨Nat.succ.inj h.len, fun i b q e1 e2 => h.at_ (i + 1) b q e1 e2⟩)

end Lw

namespace Lw
open PySem PySem.Spec PyProof.Rows L2 GxR Gx
/-! ### dicts of lists -/
theorem set_map {α : Type} {hs : List Str} (nd : hs.Nodup) {k : Nat} {a : Str} (hk : hs[k]? = some a) {f g : Str → α} (hg : ∀ h ∈ hs, h ≠ a → g h = f h) : (hs.map f).set k (g a) = hs.map g := by
  refine List.ext_getElem? fun j => ?_
  have kl := (List.getElem?_eq_some_iff.mp hk).1
  rw [List.getElem?_set, List.length_map, List.getElem?_map, List.getElem?_map]
  by_cases e : k = j
  · subst e
    rw [if_pos rfl, if_pos kl, hk]
    rfl
  · rw [if_neg e]
    cases hj : hs[j]? with
    | none => rfl
    | some h =>
      have ne : h ≠ a := fun z => e ((List.getElem?_inj kl nd).mp (by rw [hk, hj, z]))
      exact congrArg some (hg h (List.mem_of_getElem? hj) ne).symm
/-- each hand, with where its list stands -/
def kvL (hands : List Str) (as : List Addr) : List (Key × V) := (hands.zip as).map fun p => (Sum.inr p.1, V.ref p.2)
theorem kvL_keys {hands : List Str} {as : List Addr} (h : as.length = hands.length) : (kvL hands as).map Prod.fst = hands.map Sum.inr := by
  unfold kvL
  have e : (hands.zip as).map Prod.fst = hands := List.map_fst_zip (by omega)
  conv => rhs; rw [← e]
  rw [List.map_map, List.map_map]
  rfl
theorem kvL_nd {hands : List Str} {as : List Addr} (h : as.length = hands.length) (nd : hands.Nodup) : ((kvL hands as).map Prod.fst).Nodup := by
  rw [kvL_keys h]
  exact List.pairwise_map.mpr (nd.imp fun q e => q (Sum.inr.inj e))
theorem kvL_get {hands : List Str} {as : List Addr} (h : as.length = hands.length) (nd : hands.Nodup) {k : Nat} {x : Str} {a : Addr} (e1 : hands[k]? = some x) (e2 : as[k]? = some a) : valV (kvL hands as) (.inr x) = some (.ref a) :=
  valV_some (j := k) (kvL_nd h nd) (by
    unfold kvL
    rw [List.getElem?_map, (List.getElem?_zip_eq_some (z := (x, a))).mpr ⟨e1, e2⟩]
    rfl)
theorem kvL_none {hands : List Str} {as : List Addr} (h : as.length = hands.length) {x : Str} (n : x ∉ hands) : valV (kvL hands as) (.inr x) = none := valV_none (by
  rw [kvL_keys h]
  intro z
  obtain ⟨y, hy, e⟩ := List.mem_map.mp z
  cases e
  exact n hy)
theorem kvL_push {hands : List Str} {as : List Addr} (h : as.length = hands.length) (x : Str) (a : Addr) : kvL (hands ++ [x]) (as ++ [a]) = kvL hands as ++ [(Sum.inr x, V.ref a)] := by
  unfold kvL
  rw [List.zip_append (by omega), List.map_append]
  rfl
theorem nbrs_next (roads : List (Str × Str)) (r : Str × Str) (h : Str) : nbrs (roads ++ [r]) h = nbrs roads h ++ ((if r.1 = h then [r.2] else []) ++ (if r.2 = h then [r.1] else [])) := by
  unfold nbrs
  rw [List.flatMap_append]
  simp

/-! ### neighbours_in -/
section
variable {P : Program} {w : World} {K : PySem.W.Frag} {mg : Str → Option Value} {base : Heap}
def spNear (K : PySem.W.Frag) : Sp := fun vs H Q _ => ∃ (W : Addr) (hands : List Str) (roads : List (Str × Str)), vs = [.ref W] ∧ WebAt H W hands roads ∧ hands.Nodup ∧ hands.length ≤ 4000 ∧ roads.length ≤ 4000 ∧ (∀ r ∈ roads, r.1 ∈ hands ∧ r.2 ∈ hands) ∧
  ∀ (D : Addr) (H' : Hp) (as : List Addr), Fresh H D → Grow [] H H' → H' D = some (.dK (kvL hands as)) → as.Nodup → (∀ a ∈ as, Fresh H a ∧ a ≠ D) → LL H' as (hands.map fun h => (nbrs roads h).map V.str) → Q (.ref D) H'
theorem ok_neighbours_in {f c : Addr} {fd : FuncData} (B : Nb mg) (D : DefIs K "neighbours_in" "neighbours_in" st_neighbours_in f fd (.ref c)) : FnG P w K mg base CX0 2 f fd ["web"] (spNear K) := by
  refine D.ok0 (k := 1) sc_neighbours_in (fun vs H Q E h => ?_) (fun A outer s H vs Q E g hr h => ?_)
  · obtain ⟨W, hands, roads, rfl, _⟩ := h
    rfl
  obtain ⟨W, hands, roads, rfl, hW, nd, hl, rl, ends, q⟩ := h
  obtain ⟨hs, rs, eW, eh, er⟩ := id hW
  refine ⟨_,
      (pss_cons (ps_asg (pv 0) (pg_tup rfl (pgs_cons (pg_name (i := 1) sc_neighbours_in.nd rfl (.inl rfl)) (pgs_cons (pg_name (i := 2) sc_neighbours_in.nd rfl (.inl rfl)) pgs_nil))))
      (pss_cons (ps_setDc (n := 3) (own := [("hand", 4)]) (g := (gName 4)) (tt := tYes) rfl sc_neighbours_in.nd rfl rfl (swD_true rfl rfl rfl (by decide +kernel)) (pi_list (pv 1)) (blkOk_by (N := N_neighbours_in) (sc := defScope st_neighbours_in) (by decide +kernel)) (fun _ _ _ _ _ => (pg_name (i := 4) sc_neighbours_in.nd rfl (.inl rfl))) (fun _ _ _ _ _ => pts_nil) (fun _ _ _ _ _ => pe_to (pv 4)) (fun _ _ _ _ _ => pe_to (pe_lst pa_nil)))
      (pss_cons (ps_for PassesOwn.never rfl (pi_list (pv 2)) (pg_tup rfl (pgs_cons (pg_name (i := 5) sc_neighbours_in.nd rfl (.inl rfl)) (pgs_cons (pg_name (i := 6) sc_neighbours_in.nd rfl (.inl rfl)) pgs_nil))) (
        (pss_cons (ps_expr (pe_bm PySem.F.plainAttrs_list PySem.F.slot_list_append PySem.F.type_list_append mt_append (pe_dget (hu_of hr) (pv 3) (pv 5) (fun _ _ => rfl)) (pa_cons (pv 6) pa_nil)))
        (pss_one (ps_expr (pe_bm PySem.F.plainAttrs_list PySem.F.slot_list_append PySem.F.type_list_append mt_append (pe_dget (hu_of hr) (pv 3) (pv 6) (fun _ _ => rfl)) (pa_cons (pv 5) pa_nil)))))))
      (pss_one (ps_ret (pv 3)))))), ?_⟩
  refine ⟨.ref W, rfl, W, _, rfl, .inl (.inl eW), rfl, _, _, rfl, _, _, rfl, rfl, ?_⟩
  refine ⟨.ref hs, rfl, hs, rfl, ⟨_, .inl (.inl eh)⟩, fun D1 n1 => ?_⟩
  have fD : Fresh H D1 := fresh_none n1
  refine dc_it (walk_list (xs := hands.map V.str)) (fun j H' => Grow [] H H' ∧ ∃ as : List Addr, as.length = (hands.take j).length ∧ H' D1 = some (.dK (kvL (hands.take j) as)) ∧ as.Nodup ∧ ∀ a ∈ as, Fresh H a ∧ a ≠ D1 ∧ H' a = some (.lst [])) ⟨grow_new n1, [], rfl, upd_same, List.nodup_nil, fun a h => by cases h⟩
    (fun j H' _ h => .inl (.inl (h.1.lst (by simp) eh))) (fun j x H2 H3 hj hp hy => ?_) (fun H2 hp => ?_)
  · obtain ⟨gj, as, la, eD, nda, ha⟩ := hp
    obtain ⟨rfl, ex⟩ := hy
    rw [List.length_map] at hj
    rw [List.getElem?_map, List.getElem?_eq_getElem hj] at ex
    cases ex
    have tk : hands.take (j + 1) = hands.take j ++ [hands[j]] := by rw [List.take_add_one, List.getElem?_eq_getElem hj]; rfl
    refine ⟨rfl, yes_if ⟨.str _, rfl, by show 0 ≤ sizeLine; decide, fun p np => ?_⟩⟩
    have eD2 : upd H3 p (.lst []) D1 = some (.dK (kvL (hands.take j) as)) := by rw [upd_ne (ne_of_none eD np)]; exact eD
    have pD : p ≠ D1 := (ne_of_none eD np).symm
    have pa : p ∉ as := fun h => by
      have e := (ha p h).2.2
      rw [np] at e
      cases e
    have new : hands[j] ∉ hands.take j := fun h => by
      obtain ⟨i, hi⟩ := List.mem_iff_getElem?.mp h
      rw [List.getElem?_take] at hi
      by_cases hij : i < j
      · rw [if_pos hij] at hi
        have := (List.getElem?_inj (List.getElem?_eq_some_iff.mp hi).1 nd).mp (hi.trans (List.getElem?_eq_getElem hj).symm)
        omega
      · rw [if_neg hij] at hi
        cases hi
    refine ⟨_, .inr hands[j], rfl, eD2, ?_, (gj.new np).put fD eD2 (fun ps z => by cases z), as ++ [p], ?_, ?_, ?_, fun a h => ?_⟩
    · unfold kvL
      rw [List.length_map, List.length_zip, List.length_take]
      unfold sizeLine
      omega
    · rw [tk, List.length_append, List.length_append, la]
      rfl
    · rw [upd_same, putK_new _ (kvL_none la new), tk, kvL_push la]
    · rw [List.nodup_append]
      refine ⟨nda, by simp, fun a h b hb e => ?_⟩
      rw [List.mem_singleton.mp hb] at e
      exact pa (e ▸ h)
    · rcases List.mem_append.mp h with h | h
      · obtain ⟨h1, h2, h3⟩ := ha a h
        exact ⟨h1, h2, by rw [upd_ne h2, upd_ne (ne_of_none h3 np)]; exact h3⟩
      · rw [List.mem_singleton.mp h]
        exact ⟨gj.fresh0 np, pD, by rw [upd_ne pD]; exact upd_same⟩
  obtain ⟨g2, as, la, eD, nda, ha⟩ := hp
  rw [List.length_map, List.take_length] at la eD
  have hL : LL H2 as (hands.map fun h => (nbrs (roads.take 0) h).map V.str) := by
    refine ⟨by rw [la, List.length_map], fun i a r e1 e2 => ?_⟩
    rw [(ha a (List.mem_of_getElem? e1)).2.2]
    obtain ⟨h, _, rfl⟩ := List.mem_map.mp (List.mem_of_getElem? e2)
    rfl
  obtain ⟨xs, ex0, tx⟩ := id er
  have lx : xs.length = roads.length := tx.length
  refine ⟨.ref rs, rfl, rs, rfl, ⟨_, .inl (.inl (g2.lst (by simp) ex0))⟩, ?_⟩
  refine for_it (walk_list (xs := xs)) (fun i σ H' => ∃ a b c : Option V, σ = [some (.ref W), some (.ref hs), some (.ref rs), some (.ref D1), none, b, c] ∧ Grow [] H H' ∧ H' D1 = some (.dK (kvL hands as)) ∧ LL H' as (hands.map fun h => (nbrs (roads.take i) h).map V.str))
    ⟨none, _, _, rfl, g2, eD, hL⟩ (fun i σ H' _ h => by
      obtain ⟨_, _, _, _, g, _⟩ := h
      exact .inl (.inl (g.lst (by simp) ex0))) (fun i x σ H3 H4 hi hp hy => ?_) (fun σ H3 hp => ?_)
  · obtain ⟨a0, b0, c0, rfl, gr, eD3, hL3⟩ := hp
    obtain ⟨rfl, ex⟩ := hy
    obtain ⟨p, r, rfl, ep, hp0⟩ := tx.get ex
    have hp := hp0.grow gr (by simp)
    obtain ⟨m1, m2⟩ := ends r (List.mem_of_getElem? ep)
    obtain ⟨k1, hk1⟩ := List.mem_iff_getElem?.mp m1
    obtain ⟨k2, hk2⟩ := List.mem_iff_getElem?.mp m2
    have l1 := (List.getElem?_eq_some_iff.mp hk1).1
    have l2 := (List.getElem?_eq_some_iff.mp hk2).1
    have ea1 : as[k1]? = some (as[k1]'(by omega)) := List.getElem?_eq_getElem (by omega)
    have ea2 : as[k2]? = some (as[k2]'(by omega)) := List.getElem?_eq_getElem (by omega)
    obtain ⟨a1, ha1⟩ : ∃ a, as[k1]'(by omega) = a := ⟨_, rfl⟩
    obtain ⟨a2, ha2⟩ : ∃ a, as[k2]'(by omega) = a := ⟨_, rfl⟩
    rw [ha1] at ea1
    rw [ha2] at ea2
    have fa1 := ha a1 (List.mem_of_getElem? ea1)
    have fa2 := ha a2 (List.mem_of_getElem? ea2)
    have tk : roads.take (i + 1) = roads.take i ++ [r] := by rw [List.take_add_one, ep]; rfl
    have nl : ∀ h, (nbrs (roads.take i) h).length ≤ 8000 := fun h => by
      have h1 := nbrs_len (roads.take i) h
      rw [List.length_take] at h1
      omega
    have eA1 := hL3.at_ k1 a1 _ ea1 (by rw [List.getElem?_map, hk1]; rfl)
    refine ⟨p, _, rfl, hp.seq, rfl, _, _, rfl, _, _, rfl, rfl, ?_⟩
    refine ⟨.ref D1, rfl, .str r.1, rfl, D1, _, rfl, by rw [← kvL_get la nd hk1 ea1]; exact DGet.k (k := .inr r.1) eD3, tyl eA1, .str r.2, rfl, a1, _, _, rfl, rfl, eA1, by rw [List.length_map]; have := nl r.1; unfold sizeLine; omega, ?_⟩
    have g5 := gr.put (o := .lst ((nbrs (roads.take i) r.1).map V.str ++ [.str r.2])) fa1.1 eA1 (fun ps z => by cases z)
    have eD5 : upd H4 a1 (.lst ((nbrs (roads.take i) r.1).map V.str ++ [.str r.2])) D1 = some (.dK (kvL hands as)) := by rw [upd_ne fa1.2.1.symm]; exact eD3
    have hL5 : LL (upd H4 a1 (.lst ((nbrs (roads.take i) r.1).map V.str ++ [.str r.2]))) as (hands.map fun h => (nbrs (roads.take i) h ++ (if r.1 = h then [r.2] else [])).map V.str) := by
      have e := set_map nd hk1 (f := fun h => (nbrs (roads.take i) h).map V.str) (g := fun h => (nbrs (roads.take i) h ++ (if r.1 = h then [r.2] else [])).map V.str) fun h _ ne => by
        show (nbrs (roads.take i) h ++ (if r.1 = h then [r.2] else [])).map V.str = _
        rw [if_neg fun z => ne z.symm, List.append_nil]
      rw [← e]
      have := hL3.set (r := (nbrs (roads.take i) r.1 ++ (if r.1 = r.1 then [r.2] else [])).map V.str) nda ea1
      rw [if_pos rfl, List.map_append] at this
      rw [if_pos rfl, List.map_append]
      exact this
    have eA2 := hL5.at_ k2 a2 _ ea2 (by rw [List.getElem?_map, hk2]; rfl)
    refine ⟨.ref D1, rfl, .str r.2, rfl, D1, _, rfl, by rw [← kvL_get la nd hk2 ea2]; exact DGet.k (k := .inr r.2) eD5, tyl eA2, .str r.1, rfl, a2, _, _, rfl, rfl, eA2, ?_, ?_⟩
    · rw [List.length_map, List.length_append]
      have h1 : (if r.1 = r.2 then [r.2] else []).length ≤ 1 := by split <;> simp
      have := nl r.2
      unfold sizeLine
      omega
    · refine ⟨none, _, _, rfl, g5.put fa2.1 eA2 (fun ps z => by cases z), by rw [upd_ne fa2.2.1.symm]; exact eD5, ?_⟩
      have e := set_map nd hk2 (f := fun h => (nbrs (roads.take i) h ++ (if r.1 = h then [r.2] else [])).map V.str) (g := fun h => (nbrs (roads.take (i + 1)) h).map V.str) fun h _ ne => by
        show (nbrs (roads.take (i + 1)) h).map V.str = _
        rw [tk, nbrs_next, if_neg (t := [r.1]) fun z => ne z.symm, List.append_nil]
      rw [← e]
      have := hL5.set (r := (nbrs (roads.take (i + 1)) r.2).map V.str) nda ea2
      rw [tk, nbrs_next, ← List.append_assoc, if_pos (t := [r.1]) rfl, List.map_append] at this
      rw [tk, nbrs_next, ← List.append_assoc, if_pos (t := [r.1]) rfl, List.map_append]
      exact this
  · obtain ⟨a0, b0, c0, rfl, gr, eD3, hL3⟩ := hp
    rw [lx, List.take_length] at hL3
    exact ⟨.ref D1, rfl, q D1 H3 as fD gr eD3 nda (fun a h => ⟨(ha a h).1, (ha a h).2.1⟩) hL3⟩
end

end Lw

namespace Lw
open PySem PySem.Spec PyProof.Rows L2 GxR Gx
/-! ### hands with those ahead of them -/
def optV : Option Str → V
  | none => .non
  | some z => .str z
def kvO (ks : List (Str × Option Str)) : List (Key × V) := ks.map fun p => (Sum.inr p.1, optV p.2)
theorem kvO_keys (ks : List (Str × Option Str)) : (kvO ks).map Prod.fst = (ks.map Prod.fst).map Sum.inr := by
  unfold kvO
  rw [List.map_map, List.map_map]
  rfl
theorem kvO_none {ks : List (Str × Option Str)} {x : Str} (n : x ∉ ks.map Prod.fst) : valV (kvO ks) (.inr x) = none := valV_none (by
  rw [kvO_keys]
  intro z
  obtain ⟨y, hy, e⟩ := List.mem_map.mp z
  cases e
  exact n hy)
theorem kvO_some {ks : List (Str × Option Str)} (nd : (ks.map Prod.fst).Nodup) {j : Nat} {x : Str} {v : Option Str} (e : ks[j]? = some (x, v)) : valV (kvO ks) (.inr x) = some (optV v) :=
  valV_some (j := j) (by rw [kvO_keys]; exact List.pairwise_map.mpr (nd.imp fun q e => q (Sum.inr.inj e))) (by unfold kvO; rw [List.getElem?_map, e]; rfl)
theorem kvO_is {ks : List (Str × Option Str)} (nd : (ks.map Prod.fst).Nodup) (x : Str) : (valV (kvO ks) (.inr x)).isSome = decide (x ∈ ks.map Prod.fst) := by
  by_cases h : x ∈ ks.map Prod.fst
  · obtain ⟨⟨y, v⟩, hy, rfl⟩ := List.mem_map.mp h
    obtain ⟨j, hj⟩ := List.mem_iff_getElem?.mp hy
    rw [kvO_some nd hj, decide_eq_true h]
    rfl
  · rw [kvO_none h, decide_eq_false h]
    rfl
theorem AheadOk.start_ {hands : List Str} {roads : List (Str × Str)} {start : Str} {barred : Option Str} (h : start ∈ hands) : AheadOk hands roads start barred [(start, none)] := by
  refine ⟨by simp, rfl, fun j x v e => ?_⟩
  cases j with
  | zero =>
    cases e
    exact ⟨h, .inl rfl⟩
  | succ j => cases e
theorem AheadOk.push {hands : List Str} {roads : List (Str × Str)} {start : Str} {barred : Option Str} {ks : List (Str × Option Str)} {x p : Str} (K : AheadOk hands roads start barred ks) (n : x ∉ ks.map Prod.fst) (hx : x ∈ hands) (nb : some x ≠ barred)
    (hp : p ∈ ks.map Prod.fst) (ad : Adj roads p x) : AheadOk hands roads start barred (ks ++ [(x, some p)]) := by
  have hl : 0 < ks.length := (List.getElem?_eq_some_iff.mp K.first).1
  refine ⟨?_, by rw [List.getElem?_append_left hl]; exact K.first, fun j h v e => ?_⟩
  · rw [List.map_append, List.nodup_append]
    refine ⟨K.nd, by simp, fun a ha b hb e => ?_⟩
    have hb' : b = x := by simpa using hb
    rw [← hb', ← e] at n
    exact n ha
  · by_cases hj : j < ks.length
    · rw [List.getElem?_append_left hj] at e
      obtain ⟨h1, h2⟩ := K.each j h v e
      refine ⟨h1, ?_⟩
      rcases h2 with h2 | ⟨h2, p', i, w, h3, h4, h5, h6⟩
      · exact .inl h2
      · exact .inr ⟨h2, p', i, w, h3, h4, h5, by rw [List.getElem?_append_left (by omega)]; exact h6⟩
    · have ej : j = ks.length := by
        have := (List.getElem?_eq_some_iff.mp e).1
        rw [List.length_append, List.length_singleton] at this
        omega
      subst ej
      rw [List.getElem?_append_right (Nat.le_refl _), Nat.sub_self] at e
      cases e
      obtain ⟨⟨y, w⟩, hy, rfl⟩ := List.mem_map.mp hp
      obtain ⟨i, hi⟩ := List.mem_iff_getElem?.mp hy
      have il := (List.getElem?_eq_some_iff.mp hi).1
      exact ⟨hx, .inr ⟨nb, y, i, w, rfl, ad, il, by rw [List.getElem?_append_left il]; exact hi⟩⟩
theorem AheadOk.len {hands : List Str} {roads : List (Str × Str)} {start : Str} {barred : Option Str} {ks : List (Str × Option Str)} (K : AheadOk hands roads start barred ks) : ks.length ≤ hands.length := by
  have h : (ks.map Prod.fst).length ≤ hands.length := K.nd.length_le_of_subset fun x hx => by
    obtain ⟨⟨y, v⟩, hy, rfl⟩ := List.mem_map.mp hx
    obtain ⟨j, hj⟩ := List.mem_iff_getElem?.mp hy
    exact (K.each j y v hj).1
  rwa [List.length_map] at h
theorem AheadOk.all {hands : List Str} {roads : List (Str × Str)} {start : Str} {ks : List (Str × Option Str)} {d : Str → Nat} (K : AheadOk hands roads start none ks) (cl : ∀ k ∈ ks.map Prod.fst, ∀ q, Adj roads k q → some q ≠ none → q ∈ ks.map Prod.fst) (R : Rooted hands roads start d)
    (ends : ∀ a b, Adj roads a b → a ∈ hands ∧ b ∈ hands) : ∀ (n : Nat) (h : Str), h ∈ hands → d h ≤ n → h ∈ ks.map Prod.fst
  | n, h, hh, hd => by
    by_cases e : h = start
    · rw [e]
      exact List.mem_map.mpr ⟨_, List.mem_of_getElem? K.first, rfl⟩
    · obtain ⟨p, hp, dp⟩ := R.up h hh e
      cases n with
      | zero => omega
      | succ n => exact cl p (AheadOk.all K cl R ends n p (ends h p hp).2 (by omega)) h hp.symm (fun z => by cases z)
theorem AheadOk.whole {hands : List Str} {roads : List (Str × Str)} {start : Str} {ks : List (Str × Option Str)} (w : WebOk hands roads) (hs : start ∈ hands) (K : AheadOk hands roads start none ks)
    (cl : ∀ k ∈ ks.map Prod.fst, ∀ q, Adj roads k q → some q ≠ none → q ∈ ks.map Prod.fst) : ks.length = hands.length := by
  obtain ⟨d, R⟩ := w.tree start hs
  have h1 : hands.length ≤ (ks.map Prod.fst).length := w.nd.length_le_of_subset fun h hh => K.all cl R (fun a b => w.adj) _ h hh (Nat.le_refl _)
  have h2 := K.len
  rw [List.length_map] at h1
  omega

/-! ### hands_ahead -/
section
variable {P : Program} {w : World} {K : PySem.W.Frag} {mg : Str → Option Value} {base : Heap}
def spAhead (K : PySem.W.Frag) : Sp := fun vs H Q _ => ∃ (W : Addr) (hands : List Str) (roads : List (Str × Str)) (start : Str) (barred : Option Str), vs = [.ref W, .str start, optV barred] ∧ WebAt H W hands roads ∧ hands.Nodup ∧ hands.length ≤ 4000 ∧ roads.length ≤ 4000 ∧ (∀ r ∈ roads, r.1 ∈ hands ∧ r.2 ∈ hands) ∧ start ∈ hands ∧
  ∀ (D : Addr) (H' : Hp) (ks : List (Str × Option Str)), Fresh H D → Grow [] H H' → H' D = some (.dK (kvO ks)) → AheadOk hands roads start barred ks → (∀ k ∈ ks.map Prod.fst, ∀ q, Adj roads k q → some q ≠ barred → q ∈ ks.map Prod.fst) → Q (.ref D) H'
theorem ok_hands_ahead {f c : Addr} {fd : FuncData} (B : Nb mg) (D : DefIs K "hands_ahead" "hands_ahead" st_hands_ahead f fd (.ref c))
    (c_neighbours_in : Callee P w K mg base CX0 2 "neighbours_in" ["web"] (spNear K)) : FnG P w K mg base CX0 3 f fd ["web", "start", "barred"] (spAhead K) := by
  refine D.ok0 (k := 2) sc_hands_ahead (fun vs H Q E h => ?_) (fun A outer s H vs Q E g hr h => ?_)
  · obtain ⟨W, hands, roads, start, barred, rfl, _⟩ := h
    rfl
  obtain ⟨W, hands, roads, start, barred, rfl, hW, nd, hl, rl, ends, hst, q⟩ := h
  refine ⟨_,
      (pss_cons (ps_set (i := 3) sc_hands_ahead.nd rfl (.inl rfl) (pe_g c_neighbours_in g (hr.mono (by decide)) pass0 (pa_cons (pv 0) pa_nil)))
      (pss_cons (ps_set (i := 4) sc_hands_ahead.nd rfl (.inl rfl) (pe_disp (pps_cons (pv 1) pe_non pps_nil) rfl rfl (List.cons_ne_nil _ _) (by decide)))
      (pss_cons (ps_set (i := 5) sc_hands_ahead.nd rfl (.inl rfl) (pe_lst (pa_cons (pv 1) pa_nil)))
      (pss_cons (ps_while PassesOwn.never (pt_truth (pv 5) (fun _ => rfl)) (
        (pss_cons (ps_set (i := 6) sc_hands_ahead.nd rfl (.inl rfl) (pe_bm0 PySem.F.plainAttrs_list PySem.F.slot_list_pop PySem.F.type_list_pop mt_pop (pv 5)))
        (pss_one (ps_for PassesOwn.never rfl (pi_list (pe_dget (hu_of hr) (pv 3) (pv 6) (fun _ _ => rfl))) (pg_name (i := 7) sc_hands_ahead.nd rfl (.inl rfl)) (
          (pss_one (ps_if (PW.pt (pw_and (pt_cmp (pc_dnotin (hu_of hr) (pv 7) (pv 4))) (pw_and1 (pt_cmpR (op_ne) (pv 7) (pv 2) (nomark _))))) (
            (pss_cons (ps_asg (pv 6) (pg_sub (pv 4) (pv 7) (set_dict (hu_of hr))))
            (pss_one (ps_expr (pe_bm PySem.F.plainAttrs_list PySem.F.slot_list_append PySem.F.type_list_append mt_append (pv 5) (pa_cons (pv 7) pa_nil)))))) pss_nil))))))))
      (pss_one (ps_ret (pv 4))))))), ?_⟩
  refine ⟨.ref W, rfl, W, hands, roads, rfl, hW, nd, hl, rl, ends, fun Nr H1 as fN g1 eN nda ha hL => ?_⟩
  refine fun A0 nA => ⟨.str start, rfl, upd_same, [(.inr start, .non)], rfl, by simp, ⟨.str start, rfl, by show 1 ≤ sizeLine; decide, fun W0 nW => ?_⟩⟩
  have eM : mergeK [] [((Sum.inr start : Key), V.non)] = kvO [(start, none)] := rfl
  rw [eM] at nW ⊢
  have fA : Fresh H1 A0 := fresh_none nA
  have gA : Grow [] H1 (upd (upd H1 A0 (.dK [])) A0 (.dK (kvO [(start, none)]))) := (grow_new nA).put fA upd_same (fun ps z => by cases z)
  have fW : Fresh H1 W0 := gA.fresh0 nW
  have WA : W0 ≠ A0 := fun z => by
    rw [z, upd_same] at nW
    cases nW
  have gW := gA.new (o := .lst [.str start]) nW
  have eA : upd (upd (upd H1 A0 (.dK [])) A0 (.dK (kvO [(start, none)]))) W0 (.lst [.str start]) A0 = some (.dK (kvO [(start, none)])) := by rw [upd_ne WA.symm]; exact upd_same
  have la : as.length = hands.length := by rw [hL.len, List.length_map]
  refine ⟨fun n σ H' => ∃ (ks : List (Str × Option Str)) (wl : List Str) (a b : Option V), n = 2 * (hands.length - ks.length) + wl.length ∧ σ = [some (.ref W), some (.str start), some (optV barred), some (.ref Nr), some (.ref A0), some (.ref W0), a, b] ∧ Grow [] H1 H' ∧ H' A0 = some (.dK (kvO ks)) ∧ H' W0 = some (.lst (wl.map V.str)) ∧
      AheadOk hands roads start barred ks ∧ wl.length ≤ ks.length ∧ (∀ x ∈ wl, x ∈ ks.map Prod.fst) ∧ (∀ k ∈ ks.map Prod.fst, k ∉ wl → ∀ y, Adj roads k y → some y ≠ barred → y ∈ ks.map Prod.fst),
    ⟨_, [(start, none)], [start], none, none, rfl, rfl, gW, eA, upd_same, AheadOk.start_ hst, Nat.le_refl _, fun x hx => by simpa using hx, fun k hk hn => absurd (by simpa using hk) (by simpa using hn)⟩, fun n σ H' hw => ?_⟩
  obtain ⟨ks, wl, a0, b0, rfl, rfl, gr, eA, eW, ok, wk, sub, cl⟩ := hw
  refine ⟨.ref W0, rfl, !wl.isEmpty, .inl ⟨_, .inl (.inl eW), by cases wl <;> rfl⟩, ?_⟩
  cases hwl : wl with
  | nil =>
    subst hwl
    exact iteF ⟨.ref A0, rfl, q A0 H' ks (g1.fresh (by simp) fA) (g1.trans gr) eA ok fun k hk => cl k hk (by simp)⟩
  | cons w0 ws0 =>
    have hne : wl ≠ [] := by rw [hwl]; simp
    rw [← hwl]
    obtain ⟨wp, hand, hwp⟩ : ∃ wp hand, wl = wp ++ [hand] := ⟨_, _, (List.dropLast_concat_getLast hne).symm⟩
    clear hwl w0 ws0
    subst hwp
    have hk : hand ∈ ks.map Prod.fst := sub hand (by simp)
    have hh : hand ∈ hands := by
      obtain ⟨⟨y, v⟩, hy, rfl⟩ := List.mem_map.mp hk
      obtain ⟨j, hj⟩ := List.mem_iff_getElem?.mp hy
      exact (ok.each j y v hj).1
    have kl := ok.len
    have et : (!(wp ++ [hand]).isEmpty) = true := by cases wp <;> rfl
    rw [et]
    refine iteT ⟨fun σ' H2 => ∃ (ks2 : List (Str × Option Str)) (wl2 : List Str) (a b : Option V), 2 * (hands.length - ks2.length) + wl2.length < 2 * (hands.length - ks.length) + (wp ++ [hand]).length ∧ σ' = [some (.ref W), some (.str start), some (optV barred), some (.ref Nr), some (.ref A0), some (.ref W0), a, b] ∧ Grow [] H1 H2 ∧ H2 A0 = some (.dK (kvO ks2)) ∧ H2 W0 = some (.lst (wl2.map V.str)) ∧
        AheadOk hands roads start barred ks2 ∧ wl2.length ≤ ks2.length ∧ (∀ x ∈ wl2, x ∈ ks2.map Prod.fst) ∧ (∀ k ∈ ks2.map Prod.fst, k ∉ wl2 → ∀ y, Adj roads k y → some y ≠ barred → y ∈ ks2.map Prod.fst),
      fun σ' H2 h2 => ?_, ?_⟩
    · obtain ⟨ks2, wl2, a, b, l1, r2⟩ := h2
      exact ⟨_, l1, ks2, wl2, a, b, rfl, r2⟩
    have edl : ((wp ++ [hand]).map V.str).dropLast = wp.map V.str := by rw [List.map_append]; exact List.dropLast_concat
    refine ⟨.ref W0, rfl, tyl eW, W0, _, .str hand, rfl, rfl, eW, by simp, ?_⟩
    rw [edl]
    have g2 := gr.put (o := .lst (wp.map V.str)) fW eW (fun ps z => by cases z)
    have eA2 : upd H' W0 (.lst (wp.map V.str)) A0 = some (.dK (kvO ks)) := by rw [upd_ne WA.symm]; exact eA
    have eN2 : upd H' W0 (.lst (wp.map V.str)) Nr = some (.dK (kvL hands as)) := g2.keep Nr _ (by simp) eN fun ps z => by cases z
    obtain ⟨k1, hk1⟩ := List.mem_iff_getElem?.mp hh
    have l1 := (List.getElem?_eq_some_iff.mp hk1).1
    have ea1 : as[k1]? = some (as[k1]'(by omega)) := List.getElem?_eq_getElem (by omega)
    obtain ⟨a1, ha1⟩ : ∃ a, as[k1]'(by omega) = a := ⟨_, rfl⟩
    rw [ha1] at ea1
    have eA1 : H1 a1 = some (.lst ((nbrs roads hand).map V.str)) := hL.at_ k1 a1 _ ea1 (by rw [List.getElem?_map, hk1]; rfl)
    refine ⟨.ref Nr, rfl, .str hand, rfl, Nr, _, rfl, by rw [← kvL_get la nd hk1 ea1]; exact DGet.k (k := .inr hand) eN2, a1, rfl, ⟨_, .inl (.inl (g2.lst (by simp) eA1))⟩, ?_⟩
    refine for_it (walk_list (xs := (nbrs roads hand).map V.str)) (fun j σ H2 => ∃ (ks2 : List (Str × Option Str)) (wl2 : List Str) (b : Option V), 2 * (hands.length - ks2.length) + wl2.length < 2 * (hands.length - ks.length) + (wp ++ [hand]).length ∧ σ = [some (.ref W), some (.str start), some (optV barred), some (.ref Nr), some (.ref A0), some (.ref W0), some (.str hand), b] ∧ Grow [] H1 H2 ∧ H2 A0 = some (.dK (kvO ks2)) ∧ H2 W0 = some (.lst (wl2.map V.str)) ∧
        AheadOk hands roads start barred ks2 ∧ wl2.length ≤ ks2.length ∧ hand ∈ ks2.map Prod.fst ∧ (∀ x ∈ wl2, x ∈ ks2.map Prod.fst) ∧ (∀ k ∈ ks2.map Prod.fst, k ∉ wl2 → k ≠ hand → ∀ y, Adj roads k y → some y ≠ barred → y ∈ ks2.map Prod.fst) ∧ ∀ y ∈ (nbrs roads hand).take j, some y ≠ barred → y ∈ ks2.map Prod.fst)
      ⟨ks, wp, _, by rw [List.length_append]; show _ < _ + (wp.length + 1); omega, rfl, g2, eA2, upd_same, ok, by rw [List.length_append, List.length_singleton] at wk; omega, hk, fun x hx => sub x (List.mem_append_left _ hx), fun k hk hn ne => cl k hk (by simp [hn, ne]), fun y hy => by rw [List.take_zero] at hy; cases hy⟩
      (fun j σ H2 _ h => by
        obtain ⟨_, _, _, _, _, g, _⟩ := h
        exact .inl (.inl (g.lst (by simp) eA1))) (fun j x σ H2 H3 hj hp hy => ?_) (fun σ H2 hp => ?_)
    · obtain ⟨ks2, wl2, b1, lt, rfl, gr2, eA3, eW3, ok2, wk2, hk2, sub2, cl2, did⟩ := hp
      obtain ⟨rfl, ex⟩ := hy
      rw [List.length_map] at hj
      rw [List.getElem?_map, List.getElem?_eq_getElem hj] at ex
      cases ex
      obtain ⟨y, hy⟩ : ∃ y, (nbrs roads hand)[j] = y := ⟨_, rfl⟩
      have ey : (nbrs roads hand)[j]? = some y := by rw [List.getElem?_eq_getElem hj, hy]
      rw [hy]
      have ad : Adj roads hand y := mem_nbrs.mp (List.mem_of_getElem? ey)
      have yh : y ∈ hands := by
        rcases ad with h | h
        · exact (ends _ h).2
        · exact (ends _ h).1
      have tk : (nbrs roads hand).take (j + 1) = (nbrs roads hand).take j ++ [y] := by rw [List.take_add_one, ey]; rfl
      have skip : (some y ≠ barred → y ∈ ks2.map Prod.fst) → ∀ z ∈ (nbrs roads hand).take (j + 1), some z ≠ barred → z ∈ ks2.map Prod.fst := fun h z hz nb => by
        rw [tk] at hz
        rcases List.mem_append.mp hz with hz | hz
        · exact did z hz nb
        · rw [List.mem_singleton.mp hz] at nb ⊢
          exact h nb
      have esc : scal (V.str y) (optV barred) = true := by cases barred <;> rfl
      refine ⟨.str y, rfl, .ref A0, rfl, A0, _, rfl, DGet.k (k := .inr y) eA3, _, rfl, ?_⟩
      rw [kvO_is ok2.nd]
      by_cases hin : y ∈ ks2.map Prod.fst
      · rw [decide_eq_true hin]
        exact iteF (iteF ⟨ks2, wl2, _, lt, rfl, gr2, eA3, eW3, ok2, wk2, hk2, sub2, cl2, skip fun _ => hin⟩)
      · rw [decide_eq_false hin]
        refine iteT ⟨.str y, rfl, optV barred, rfl, esc, _, rfl, ite2 (fun hb => ?_) fun hb => ?_⟩
        · have nb : some y ≠ barred := fun z => by
            rw [← z] at hb
            have : decide (V.str y = optV (some y)) = true := decide_eq_true rfl
            rw [this] at hb
            cases hb
          refine ⟨.str hand, rfl, .ref A0, rfl, .str y, rfl, A0, _, rfl, .inl ⟨_, .inr y, eA3, rfl, ?_, rfl⟩, ?_⟩
          · unfold kvO
            rw [List.length_map]
            have := ok2.len
            unfold sizeLine
            omega
          have eP : putK (kvO ks2) (.inr y) (V.str hand) = kvO (ks2 ++ [(y, some hand)]) := by
            rw [putK_new _ (kvO_none hin)]
            unfold kvO
            rw [List.map_append]
            rfl
          rw [eP]
          have g4 := gr2.put (o := .dK (kvO (ks2 ++ [(y, some hand)]))) fA eA3 (fun ps z => by cases z)
          have eW4 : upd H3 A0 (.dK (kvO (ks2 ++ [(y, some hand)]))) W0 = some (.lst (wl2.map V.str)) := by rw [upd_ne WA]; exact eW3
          have ok3 := ok2.push hin yh nb hk2 ad
          have kl3 := ok3.len
          rw [List.length_append, List.length_singleton] at kl3
          have mono : ∀ z, z ∈ ks2.map Prod.fst → z ∈ (ks2 ++ [(y, some hand)]).map Prod.fst := fun z hz => by rw [List.map_append]; exact List.mem_append_left _ hz
          have ynew : y ∈ (ks2 ++ [(y, some hand)]).map Prod.fst := by rw [List.map_append]; simp
          have wl3 : wl2.length ≤ 4000 := by
            have := ok2.len
            omega
          refine ⟨.ref W0, rfl, tyl eW4, .str y, rfl, W0, _, _, rfl, rfl, eW4, by rw [List.length_map]; unfold sizeLine; omega, ks2 ++ [(y, some hand)], wl2 ++ [y], _, ?_, rfl, g4.put fW eW4 (fun ps z => by cases z), ?_, ?_, ok3, by rw [List.length_append, List.length_append, List.length_singleton, List.length_singleton]; omega, mono _ hk2, ?_, ?_, ?_⟩
          · rw [List.length_append, List.length_append, List.length_singleton, List.length_singleton]
            omega
          · rw [upd_ne WA.symm]
            exact upd_same
          · rw [upd_same, List.map_append]
            rfl
          · intro x hx
            rcases List.mem_append.mp hx with hx | hx
            · exact mono x (sub2 x hx)
            · rw [List.mem_singleton.mp hx]
              exact ynew
          · intro k hk hn ne z az nbz
            rw [List.map_append] at hk
            rcases List.mem_append.mp hk with hk | hk
            · exact mono z (cl2 k hk (fun h => hn (List.mem_append_left _ h)) ne z az nbz)
            · have ek : k = y := by simpa using hk
              exact absurd (by rw [ek]; simp) hn
          · intro z hz nbz
            rw [tk] at hz
            rcases List.mem_append.mp hz with hz | hz
            · exact mono z (did z hz nbz)
            · rw [List.mem_singleton.mp hz]
              exact ynew
        · have eb : some y = barred := by
            cases barred with
            | none =>
              have : decide (V.str y = optV none) = false := decide_eq_false fun z => by cases z
              rw [this] at hb
              exact absurd rfl hb
            | some b =>
              by_cases e : y = b
              · rw [e]
              · have : decide (V.str y = optV (some b)) = false := decide_eq_false fun z => e (V.str.inj z)
                rw [this] at hb
                exact absurd rfl hb
          exact ⟨ks2, wl2, _, lt, rfl, gr2, eA3, eW3, ok2, wk2, hk2, sub2, cl2, skip fun n => absurd eb n⟩
    · obtain ⟨ks2, wl2, b1, lt, rfl, gr2, eA3, eW3, ok2, wk2, hk2, sub2, cl2, did⟩ := hp
      rw [List.length_map, List.take_length] at did
      refine ⟨ks2, wl2, _, _, lt, rfl, gr2, eA3, eW3, ok2, wk2, sub2, fun k hk hn y ay nb => ?_⟩
      by_cases e : k = hand
      · rw [e] at ay
        exact did y (mem_nbrs.mpr ay) nb
      · exact cl2 k hk hn e y ay nb
end

end Lw

namespace Lw
open PySem PySem.Spec PyProof.Rows L2 GxR Gx
/-! ### is_web -/
def kvT (hands : List Str) : List (Key × V) := hands.map fun h => (Sum.inr h, V.bl true)
theorem kvT_keys (hands : List Str) : (kvT hands).map Prod.fst = hands.map Sum.inr := by
  unfold kvT
  rw [List.map_map]
  rfl
theorem kvT_some {hands : List Str} (nd : hands.Nodup) {h : Str} (m : h ∈ hands) : (valV (kvT hands) (.inr h)).isSome = true := by
  obtain ⟨j, hj⟩ := List.mem_iff_getElem?.mp m
  rw [valV_some (kvs := kvT hands) (j := j) (v := .bl true) (by rw [kvT_keys]; exact List.pairwise_map.mpr (nd.imp fun q e => q (Sum.inr.inj e))) (by unfold kvT; rw [List.getElem?_map, hj]; rfl)]
  rfl
section
variable {P : Program} {w : World} {K : PySem.W.Frag} {mg : Str → Option Value} {base : Heap}
def spIsWeb (K : PySem.W.Frag) (T1 T2 T3 : Addr) : Sp := fun vs H Q _ => ∃ (W : Addr) (hands : List Str) (roads : List (Str × Str)), vs = [.ref W] ∧ TabG H T1 ∧ TabG H T2 ∧ TabG H T3 ∧ WebAt H W hands roads ∧ WebOk hands roads ∧ ∀ H', Grow [] H H' → Q (.bl true) H'
theorem ok_is_web {f c T1 T2 T3 : Addr} {fd : FuncData} (B : Nb mg) (D : DefIs K "is_web" "is_web" st_is_web f fd (.ref c)) (x_is_web : TabB base mg c T3)
    (c_is_pair : Callee P w K mg base CX0 2 "is_pair" ["thing"] (spIsPair K)) (c_are_unlike_names : Callee P w K mg base CX0 8 "are_unlike_names" ["thing"] (spUnlike K T1 T2))
    (c_is_road : Callee P w K mg base CX0 3 "is_road" ["thing", "hands"] (spIsRoad K)) (c_hands_ahead : Callee P w K mg base CX0 3 "hands_ahead" ["web", "start", "barred"] (spAhead K)) :
    FnG P w K mg base CX0 9 f fd ["thing"] (spIsWeb K T1 T2 T3) := by
  refine D.ok0 (k := 8) sc_is_web (fun vs H Q E h => ?_) (fun A outer s H vs Q E g hr h => ?_)
  · obtain ⟨W, hands, roads, rfl, _⟩ := h
    rfl
  obtain ⟨W, hands, roads, rfl, t1, t2, t3, hW, wo, q⟩ := h
  obtain ⟨hs, rs, eW, eh, er⟩ := id hW
  refine ⟨_,
      (pss_cons (ps_if (pt_not (pt_val (pe_g c_is_pair g (hr.mono (by decide)) pass0 (pa_cons (pv 0) pa_nil)))) (
        (pss_one (ps_ret pe_bl))) pss_nil)
      (pss_cons (ps_asg (pv 0) (pg_tup rfl (pgs_cons (pg_name (i := 1) sc_is_web.nd rfl (.inl rfl)) (pgs_cons (pg_name (i := 2) sc_is_web.nd rfl (.inl rfl)) pgs_nil))))
      (pss_cons (ps_if (PW.pt (pw_or (pt_not (pt_val (pe_g c_are_unlike_names g (hr.mono (by decide)) pass0 (pa_cons (pv 1) pa_nil)))) (pw_or1 (pt_cmpR (op_eqD hr.units) (pv 1) (pe_lst pa_nil) (nomark _))))) (
        (pss_one (ps_ret pe_bl))) pss_nil)
      (pss_cons (ps_if (PW.pt (pw_or (pt_cmpR (op_notTyB) (pe_callTy call_type1 rfl B.n_type (by decide +kernel) (pa_cons (pv 2) pa_nil)) (pe_bltn (v := .ty "list") rfl B.n_list (by decide +kernel) rfl) (nomark _)) (pw_or1 (pt_cmpR (op_ne) (pe_callB call_len_seq rfl B.n_len PySem.boot_len (pa_cons (pv 2) pa_nil)) (pe_op op_sub (pe_callB call_len_seq rfl B.n_len PySem.boot_len (pa_cons (pv 1) pa_nil)) pe_int) (nomark _))))) (
        (pss_one (ps_ret pe_bl))) pss_nil)
      (pss_cons (ps_set (i := 3) sc_is_web.nd rfl (.inr rfl) (pe_dc (own := [("hand", 4)]) (g := (gName 4)) (tt := tYes) rfl sc_is_web.nd (pi_list (pv 1)) (blkOk_by (N := N_is_web) (sc := defScope st_is_web) (by decide +kernel)) (fun _ _ _ _ _ => (pg_name (i := 4) sc_is_web.nd rfl (.inl rfl))) (fun _ _ _ _ _ => pts_nil) (fun _ _ _ _ _ => pe_to (pv 4)) (fun _ _ _ _ _ => pe_to pe_bl)))
      (pss_cons (ps_if (pt_not (pt_val (pe_allG (own := [("road", 5)]) hr (gx_ok (N := N_is_web) (dsc := defScope st_is_web) x_is_web sc_is_web.nd (by decide +kernel) (by decide +kernel)) rfl B.n_all (by decide +kernel) (pi_list (pv 2)) (fun _ _ _ _ _ => (pg_name (i := 5) sc_is_web.nd rfl (.inl rfl))) (fun _ _ _ _ _ => pe_to (pe_g c_is_road g ((room_gx hr).mono (by decide)) pass0 (pa_cons (pv 5) (pa_cons (pv 3) pa_nil))))))) (
        (pss_one (ps_ret pe_bl))) pss_nil)
      (pss_one (ps_ret (pe_cmpR (op_eq) (pe_callB call_lenD rfl B.n_len PySem.boot_len (pa_cons (pe_g c_hands_ahead g (hr.mono (by decide)) pass0 (pa_cons (pv 0) (pa_cons (pe_ix ix_list (pv 1) pe_int (fun _ _ => rfl)) (pa_cons pe_non pa_nil)))) pa_nil)) (pe_callB call_len_seq rfl B.n_len PySem.boot_len (pa_cons (pv 1) pa_nil)) (nomark _)))))))))), ?_⟩
  refine ⟨.ref W, rfl, .ref W, rfl, .inl ⟨W, _, rfl, .inl (.inl eW), true, rfl, iteF ?_⟩⟩
  refine ⟨.ref W, rfl, W, _, rfl, .inl (.inl eW), rfl, _, _, rfl, _, _, rfl, rfl, ?_⟩
  have bk : Bk hands := ⟨wo.nm, wo.nd, wo.len⟩
  refine ⟨.ref hs, rfl, .ref hs, rfl, t1, t2, .inl ⟨hs, _, rfl, .inl (.inl eh), bk.known, by rw [List.length_map]; have := wo.len; omega, fun H1 g1 => ?_⟩⟩
  rw [bk.v]
  refine ⟨true, rfl, iteF ?_⟩
  obtain ⟨xs, ex, tx⟩ := id er
  have lx : xs.length = roads.length := tx.length
  have many := wo.many
  have hlen := wo.len
  have W1 := hW.grow g1
  refine ⟨.ref hs, rfl, by show 0 ≤ sizeLine; decide, fun Z nZ => ?_⟩
  have g2 := g1.new (o := .lst []) nZ
  have fH := fine_names wo.nm wo.len
  refine ⟨_, _, dp_book (.inl (.inl (g2.lst (by simp) eh))), dp_book (xs := []) (.inl (.inl upd_same)), fH.shaped (by decide), rfl, ?_⟩
  have ene : PyData.eqv (.list (hands.map PyData.str)) (.list (([] : List Str).map PyData.str)) = false := by
    cases hr2 : hands with
    | nil => exact absurd hr2 wo.ne
    | cons _ _ => rfl
  rw [ene]
  refine ⟨false, rfl, iteF ?_⟩
  generalize upd H1 Z (.lst []) = H2 at g2 ⊢
  have ex2 := g2.lst (by simp) ex
  have eh2 := g2.lst (by simp) eh
  refine ⟨.ref rs, rfl, _, "list", rfl, .lst (.inl (.inl ex2)), "list", "list", rfl, rfl, _, rfl, iteNS rfl ?_⟩
  refine ⟨.ref rs, rfl, rs, _, rfl, .inl (.inl (.inl ex2)), .ref hs, rfl, hs, _, rfl, .inl (.inl (.inl eh2)), _, _, rfl, rfl, rfl, ?_⟩
  rw [show decide (V.int ((xs.length : Nat) : Int) = V.int (((hands.map V.str).length : Nat) - 1)) = true from decide_eq_true (by rw [List.length_map, lx]; congr 1; omega)]
  refine ⟨false, rfl, iteF ?_⟩
  refine ⟨.ref hs, rfl, hs, rfl, ⟨_, .inl (.inl eh2)⟩, fun D1 n1 => ?_⟩
  refine dc_it (walk_list (xs := hands.map V.str)) (fun j H' => Grow [] H2 H' ∧ H' D1 = some (.dK (kvT (hands.take j)))) ⟨grow_new n1, upd_same⟩
    (fun j H' _ h => .inl (.inl (h.1.lst (by simp) eh2))) (fun j x H3 H4 hj hp hy => ?_) (fun H3 hp => ?_)
  · obtain ⟨gj, eD⟩ := hp
    obtain ⟨rfl, e⟩ := hy
    rw [List.length_map] at hj
    rw [List.getElem?_map, List.getElem?_eq_getElem hj] at e
    cases e
    have tk : hands.take (j + 1) = hands.take j ++ [hands[j]] := by rw [List.take_add_one, List.getElem?_eq_getElem hj]; rfl
    have new : hands[j] ∉ hands.take j := fun h => by
      obtain ⟨i, hi⟩ := List.mem_iff_getElem?.mp h
      rw [List.getElem?_take] at hi
      by_cases hij : i < j
      · rw [if_pos hij] at hi
        have := (List.getElem?_inj (List.getElem?_eq_some_iff.mp hi).1 wo.nd).mp (hi.trans (List.getElem?_eq_getElem hj).symm)
        omega
      · rw [if_neg hij] at hi
        cases hi
    refine ⟨rfl, yes_if ⟨.str _, rfl, _, .inr hands[j], rfl, eD, ?_, gj.put (fresh_none n1) eD (fun ps z => by cases z), ?_⟩⟩
    · unfold kvT
      rw [List.length_map, List.length_take]
      unfold sizeLine
      omega
    · rw [upd_same, putK_new _ (valV_none (by
        rw [kvT_keys]
        intro z
        obtain ⟨y, hy, e⟩ := List.mem_map.mp z
        cases e
        exact new hy)), tk]
      unfold kvT
      rw [List.map_append]
      rfl
  obtain ⟨g3, eD⟩ := hp
  rw [List.length_map, List.take_length] at eD
  have g13 := g2.trans g3
  have ex3 := g13.lst (by simp) ex
  refine ⟨.ref rs, rfl, rs, rfl, ⟨_, .inl (.inl ex3)⟩, g13.tabs _ t3, ?_⟩
  refine truth_list (xs := xs) (fun i H' => Grow [] H3 H') (fun H' tb => grow_tab (g13.tabs _ t3) tb) (fun i H' hp => .inl (.inl (hp.lst (by simp) ex3))) (fun i x H' hx hp => ?_) fun H4 g4 => ?_
  · obtain ⟨p, r, rfl, ep, hp0⟩ := tx.get hx
    have hp2 := hp0.grow (g13.trans hp) (by simp)
    obtain ⟨m1, m2, lt⟩ := wo.ends r (List.mem_of_getElem? ep)
    have kn : ∀ {z : Str}, z ∈ hands → Known K H' (.str z) := fun {z} hz => bk.known _ (List.mem_map.mpr ⟨z, hz, rfl⟩)
    refine ⟨rfl, .ref p, rfl, .ref D1, rfl, .ref p, D1, _, rfl, hp.keep D1 _ (by simp) eD (fun ps z => by cases z), .inl ⟨p, _, _, rfl, hp2.seq, kn m1, kn m2, true, ?_, ?_⟩⟩
    · show V.bl ((valV (kvT hands) (.inr r.1)).isSome && ((valV (kvT hands) (.inr r.2)).isSome && decide (r.1.cps.toList < r.2.cps.toList))) = V.bl true
      rw [kvT_some wo.nd m1, kvT_some wo.nd m2, decide_eq_true lt]
      rfl
    · rw [if_neg (fun z => Bool.noConfusion z)]
      exact hp
  have g14 := g13.trans g4
  refine ⟨true, rfl, iteF ?_⟩
  have h0 : 0 < hands.length := List.length_pos_iff.mpr wo.ne
  have m0 : hands[0] ∈ hands := List.getElem_mem h0
  refine ⟨.ref W, rfl, .ref hs, rfl, hs, _, 0, .str hands[0], rfl, rfl, .inl (.inl (g14.lst (by simp) eh)), atI_nat (j := 0) (by rw [List.getElem?_map, List.getElem?_eq_getElem h0]; rfl), W, hands, roads, hands[0], none, rfl, hW.grow g14, wo.nd, by omega, by omega, fun r hr => ⟨(wo.ends r hr).1, (wo.ends r hr).2.1⟩, m0, fun D2 H5 ks f2 g5 e2 ok cl => ?_⟩
  refine ⟨D2, _, rfl, e2, .ref hs, rfl, hs, _, rfl, .inl (.inl (.inl ((g14.trans g5).lst (by simp) eh))), rfl, ?_⟩
  rw [show decide (V.int (((kvO ks).length : Nat) : Int) = V.int (((hands.map V.str).length : Nat) : Int)) = true from decide_eq_true (by unfold kvO; rw [List.length_map, List.length_map, ok.whole wo m0 cl])]
  exact q _ (g14.trans g5)
end

end Lw

namespace Lw
open PySem PySem.Spec PyProof.Rows L2 GxR Gx
/-! ### _law_names -/
def poolA : List Str := ["net", "book", "hear", "open", "none", "a", "ab", "abcdefgh", "abcdefgi", "step", "shout", "lie", "zz"]
def poolB (a : Nat) : List Str := ("lmnopqrstu" : Str).cps.toList.map fun b => (⟨#[a]⟩ : Str) ++ ⟨#[b]⟩
def poolTo (i : Nat) : List Str := poolA ++ (("bcdefghijk" : Str).cps.toList.take i).flatMap poolB
theorem pool_nd : (poolTo 10).Nodup := by decide +kernel
theorem pool_nm : (poolTo 10).all isNm = true := by decide +kernel
theorem pool_len : (poolTo 10).length = 113 := by decide +kernel
section
variable {P : Program} {w : World} {K : PySem.W.Frag} {mg : Str → Option Value} {base : Heap}
def spNames (K : PySem.W.Frag) : Sp := fun vs H Q _ => ∃ (p : Addr) (m : Nat) (c : Int), vs = [.ref p, .int m] ∧ m ≤ 100 ∧ Pot H p c ∧ c ≤ 2 ^ 20 ∧
  ∀ (D : Addr) (H' : Hp) (ys : List Str), Fresh H D → Grow [p] H H' → H' D = some (.lst (ys.map V.str)) → ys.Nodup → ys.all isNm = true → ys.length = m → Pot H' p (c + 200) → Q (.ref D) H'
theorem ok_law_names {f c : Addr} {fd : FuncData} (B : Nb mg) (D : DefIs K "_law_names" "_law_names" st_law_names f fd (.ref c))
    (c_law_dip : Callee P w K mg base CX0 3 "_law_dip" ["pot", "many"] (spDip K)) : FnG P w K mg base CX0 4 f fd ["pot", "many"] (spNames K) := by
  refine D.ok0 (k := 3) sc_law_names (fun vs H Q E h => ?_) (fun A outer s H vs Q E g hr h => ?_)
  · obtain ⟨p, m, c, rfl, _⟩ := h
    rfl
  obtain ⟨p, m, c, rfl, hm, hp, hc, q⟩ := h
  refine ⟨_,
      (pss_cons (ps_set (i := 2) sc_law_names.nd rfl (.inr rfl) (pe_lst (pa_cons pe_str (pa_cons pe_str (pa_cons pe_str (pa_cons pe_str (pa_cons pe_str (pa_cons pe_str (pa_cons pe_str (pa_cons pe_str (pa_cons pe_str (pa_cons pe_str (pa_cons pe_str (pa_cons pe_str (pa_cons pe_str pa_nil)))))))))))))))
      (pss_cons (ps_for PassesOwn.never rfl (pi_str pe_str) (pg_name (i := 3) sc_law_names.nd rfl (.inr rfl)) (
        (pss_one (ps_expr (pe_bm PySem.F.plainAttrs_list PySem.F.slot_list_extend PySem.F.type_list_extend mt_extend (pv 2) (pa_cons (pe_lc (own := [("other", 4)]) (tt := tYes) (g := (gName 4)) rfl sc_law_names.nd (pi_str pe_str) (blkOk_by (N := N_law_names) (sc := defScope st_law_names) (by decide +kernel)) (fun _ _ _ _ _ => (pg_name (i := 4) sc_law_names.nd rfl (.inl rfl))) (fun _ _ _ _ _ => pts_nil) (fun _ _ _ _ _ => pe_to (pe_op op_add_str (pv 3) (pv 4)))) pa_nil))))))
      (pss_cons (ps_set (i := 2) sc_law_names.nd rfl (.inr rfl) (pe_slice sl_list (pv 2) po_none (po_some (pe_ix ix_list (pe_lst (pa_cons pe_int (pa_cons pe_int pa_nil))) (pe_callTy call_int1 rfl B.n_int (by decide +kernel) (pa_cons (pe_cmpR (op_gt) (pv 1) pe_int (nomark _)) pa_nil)) (fun _ _ => rfl)))))
      (pss_one (ps_ret (pe_lc (own := [("k", 5)]) (tt := tYes) (g := (gName 5)) rfl sc_law_names.nd (pi_range1 rfl B.n_range (pa_cons (pv 1) pa_nil)) (blkOk_by (N := N_law_names) (sc := defScope st_law_names) (by decide +kernel)) (fun _ _ _ _ _ => (pg_name (i := 5) sc_law_names.nd rfl (.inl rfl))) (fun _ _ _ _ _ => pts_nil) (fun _ _ _ _ _ => pe_to (pe_bm PySem.F.plainAttrs_list PySem.F.slot_list_pop PySem.F.type_list_pop mt_popAt (pv 2) (pa_cons (pe_g c_law_dip g (hr.mono (by decide)) pass0 (pa_cons (pv 0) (pa_cons (pe_callB call_len_seq rfl B.n_len PySem.boot_len (pa_cons (pv 2) pa_nil)) pa_nil))) pa_nil))))))))), ?_⟩
  refine ⟨by show 13 ≤ sizeLine; decide, fun P0 n0 => ?_⟩
  obtain ⟨pa, pb, pk, ep, pr⟩ := id hp
  have f0 : Fresh H P0 := fresh_none n0
  have g0 : Grow [] H (upd H P0 (.lst ((poolTo 0).map V.str))) := grow_new n0
  refine ⟨_, rfl, ?_⟩
  refine for_it walk_str (fun i σ H' => ∃ a : Option V, σ = [some (.ref p), some (.int m), some (.ref P0), a, none, none] ∧ Grow [] H H' ∧ H' P0 = some (.lst ((poolTo i).map V.str))) ⟨none, rfl, g0, upd_same⟩ (fun _ _ _ _ _ => trivial) (fun i x σ H2 H3 hi hw hy => ?_) (fun σ H2 hw => ?_)
  · obtain ⟨a0, rfl, gr, eP⟩ := hw
    obtain ⟨rfl, a, ea, rfl⟩ := hy
    refine ⟨.ref P0, rfl, tyl eP, _, rfl, fun D1 n1 => ?_⟩
    have fD : Fresh H3 D1 := fresh_none n1
    refine lc_it walk_str (fun j H' => Grow [] H3 H' ∧ H' D1 = some (.lst (((("lmnopqrstu" : Str).cps.toList.take j).map fun b => (⟨#[a]⟩ : Str) ++ ⟨#[b]⟩).map V.str))) ⟨grow_new n1, upd_same⟩ (fun _ _ _ _ => trivial) (fun j x H4 H5 hj hw hy => ?_) (fun H4 hw => ?_)
    · obtain ⟨gj, eD⟩ := hw
      obtain ⟨rfl, b, eb, rfl⟩ := hy
      have tk : ("lmnopqrstu" : Str).cps.toList.take (j + 1) = ("lmnopqrstu" : Str).cps.toList.take j ++ [b] := by
        rw [List.take_add_one, Array.getElem?_toList, eb]
        rfl
      refine ⟨rfl, yes_if ⟨.str _, rfl, .str _, rfl, _, _, rfl, rfl, by show 1 + 1 ≤ sizeLine; decide, _, eD, ?_, gj.put fD eD (fun ps z => by cases z), ?_⟩⟩
      · have h10 : ("lmnopqrstu" : Str).cps.size = 10 := by decide +kernel
        rw [List.length_map, List.length_map, List.length_take]
        unfold sizeLine
        omega
      · rw [upd_same, tk, List.map_append, List.map_append]
        rfl
    · obtain ⟨gj, eD⟩ := hw
      have eP4 := gj.lst (by simp) eP
      have et : ("lmnopqrstu" : Str).cps.toList.take ("lmnopqrstu" : Str).cps.size = ("lmnopqrstu" : Str).cps.toList := List.take_of_length_le (by rw [Array.length_toList]; exact Nat.le_refl _)
      rw [et] at eD
      have tk : ("bcdefghijk" : Str).cps.toList.take (i + 1) = ("bcdefghijk" : Str).cps.toList.take i ++ [a] := by
        rw [List.take_add_one, Array.getElem?_toList, ea]
        rfl
      have nx : poolTo (i + 1) = poolTo i ++ poolB a := by
        unfold poolTo
        rw [tk, List.flatMap_append, List.append_assoc]
        simp
      have ln : ∀ k, (poolTo k).length ≤ 13 + 10 * k := fun k => by
        unfold poolTo
        rw [List.length_append]
        have h1 : poolA.length = 13 := rfl
        have h2 : ∀ l : List Nat, (l.flatMap poolB).length = 10 * l.length := fun l => by
          induction l with
          | nil => rfl
          | cons x r ih =>
            rw [List.flatMap_cons, List.length_append, ih, List.length_cons]
            have : (poolB x).length = 10 := by unfold poolB; rw [List.length_map]; decide +kernel
            omega
        rw [h1, h2, List.length_take]
        omega
      have h10 : ("bcdefghijk" : Str).cps.size = 10 := by decide +kernel
      have l1 := ln (i + 1)
      rw [nx, List.length_append] at l1
      refine ⟨P0, D1, _, _, rfl, rfl, eP4, eD, ?_, _, rfl, (gr.trans gj).put f0 eP4 (fun ps z => by cases z), ?_⟩
      · rw [List.length_map, List.length_map]
        show _ + (poolB a).length ≤ _
        unfold sizeLine
        omega
      · rw [upd_same, nx, List.map_append]
        rfl
  · obtain ⟨a0, rfl, gr, eP⟩ := hw
    have h10 : ("bcdefghijk" : Str).cps.size = 10 := by decide +kernel
    rw [h10] at eP
    refine ⟨.ref P0, rfl, by show 2 ≤ sizeLine; decide, fun L nL => ⟨.int m, rfl, _, _, rfl, rfl, .inr ⟨_, rfl, ?_⟩⟩⟩
    obtain ⟨cut, hcut, hc1, hc2⟩ : ∃ cut : Nat, atI [V.int 13, V.int 113] (if (decide ((13 : Int) < (m : Int))) = true then 1 else 0) = some (.int (cut : Int)) ∧ m ≤ cut ∧ cut ≤ 113 := by
      by_cases h : (13 : Int) < (m : Int)
      · rw [decide_eq_true h]
        exact ⟨113, rfl, by omega, Nat.le_refl _⟩
      · rw [decide_eq_false h]
        exact ⟨13, rfl, by omega, by decide⟩
    have gL := gr.new (o := .lst [.int 13, .int 113]) nL
    have ePL : upd H2 L (.lst [.int 13, .int 113]) P0 = some (.lst ((poolTo 10).map V.str)) := by rw [upd_ne (ne_of_none eP nL)]; exact eP
    refine ⟨L, _, _, .int cut, rfl, rfl, .inl (.inl upd_same), hcut, cut, rfl, P0, _, rfl, .inl (.inl ePL), fun P1 n1 => ?_⟩
    rw [cut_hi, ← List.map_take]
    obtain ⟨pl, hpl⟩ : ∃ pl, (poolTo 10).take cut = pl := ⟨_, rfl⟩
    rw [hpl]
    have pnd : pl.Nodup := by rw [← hpl]; exact pool_nd.sublist (List.take_sublist _ _)
    have pnm : pl.all isNm = true := by
      rw [← hpl]
      exact List.all_eq_true.mpr fun x hx => List.all_eq_true.mp pool_nm x (List.mem_of_mem_take hx)
    have pln : pl.length = cut := by rw [← hpl, List.length_take, pool_len]; omega
    have f1 : Fresh H P1 := gL.fresh0 n1
    have g1 := gL.new (o := .lst (pl.map V.str)) n1
    have p1 : P1 ≠ p := (f1.ne ep (fun ps z => by cases z)).symm
    refine ⟨.int m, rfl, m, rfl, by omega, by omega, fun D1 nD => ?_⟩
    have fD : Fresh H D1 := g1.fresh0 nD
    have pD : D1 ≠ p := (fD.ne ep (fun ps z => by cases z)).symm
    have P1D : P1 ≠ D1 := ne_of_none (upd_same (H := upd H2 L (.lst [.int 13, .int 113])) (o := .lst (pl.map V.str))) nD
    have g2 := g1.new (o := .lst []) nD
    have pot2 : Pot (upd (upd (upd H2 L (.lst [.int 13, .int 113])) P1 (.lst (pl.map V.str))) D1 (.lst [])) p c := ⟨pa, pb, pk, g2.lst (by simp) ep, pr⟩
    refine lc_it walk_range (fun k H' => ∃ fs ls : List Str, fs.length = k ∧ (fs ++ ls).Perm pl ∧ H' P1 = some (.lst (ls.map V.str)) ∧ H' D1 = some (.lst (fs.map V.str)) ∧ Pot H' p (c + k) ∧ Grow [p] H H') ⟨[], pl, rfl, .refl _, by rw [upd_ne P1D]; exact upd_same, upd_same, pot2.mono (by omega), g2.any⟩
      (fun _ _ _ _ => trivial) (fun k x H4 H5 hk hw hy => ?_) (fun H4 hw => ?_)
    · obtain ⟨fs, ls, lf, pm, eP1, eD1, pot, gr4⟩ := hw
      obtain ⟨rfl, rfl⟩ := hy
      have ll : fs.length + ls.length = pl.length := by have := pm.length_eq; rwa [List.length_append] at this
      have hk' : k < m := by omega
      refine ⟨rfl, yes_if ⟨.ref P1, rfl, tyl eP1, .ref p, rfl, .ref P1, rfl, P1, _, rfl, .inl (.inl (.inl eP1)), p, _, _, rfl, by rw [List.length_map]; omega, by rw [List.length_map]; omega, by omega, pot, fun v H6 v0 v1 g6 pot6 => ?_⟩⟩
      rw [List.length_map] at v1
      have eP6 := g6.lst (by simpa using p1) eP1
      have eD6 := g6.lst (by simpa using pD) eD1
      have hv : v.toNat < ls.length := by omega
      refine ⟨P1, _, v, v.toNat, .str ls[v.toNat], rfl, rfl, eP6, by omega, by omega, seqIndex_nat v0 (by rw [List.length_map]; exact v1), by rw [List.getElem?_map, List.getElem?_eq_getElem hv]; rfl, ?_⟩
      have g7 := (gr4.trans g6).put (o := .lst ((ls.map V.str).eraseIdx v.toNat)) f1 eP6 (fun ps z => by cases z)
      have eD7 : upd H6 P1 (.lst ((ls.map V.str).eraseIdx v.toNat)) D1 = some (.lst (fs.map V.str)) := by rw [upd_ne P1D.symm]; exact eD6
      refine ⟨_, eD7, by rw [List.length_map]; unfold sizeLine; omega, fs ++ [ls[v.toNat]], ls.eraseIdx v.toNat, by rw [List.length_append, lf]; rfl, ?_, ?_, by rw [upd_same, List.map_append]; rfl, ?_, g7.put fD eD7 (fun ps z => by cases z)⟩
      · rw [List.append_assoc]
        exact (List.Perm.append_left fs (erase_perm ls v.toNat hv)).trans pm
      · rw [upd_ne P1D, upd_same, erase_map]
      · have := ((pot6.at (o := .lst ((ls.map V.str).eraseIdx v.toNat)) p1.symm).at (o := .lst (fs.map V.str ++ [.str ls[v.toNat]])) pD.symm)
        exact this.mono (by omega)
    · obtain ⟨fs, ls, lf, pm, eP1, eD1, pot, gr4⟩ := hw
      refine q D1 H4 fs fD gr4 eD1 ?_ ?_ (by omega) (pot.mono (by omega))
      · exact (List.nodup_append.mp (pm.nodup_iff.mpr pnd)).1
      · exact List.all_eq_true.mpr fun x hx => List.all_eq_true.mp pnm x (pm.mem_iff.mp (List.mem_append_left _ hx))
end

/-! ### trees that grow -/
structure TreeOk (hs : List Str) (roads : List (Str × Str)) : Prop where
  ends : ∀ a b, Adj roads a b → a ∈ hs ∧ b ∈ hs
  tree : ∀ r ∈ hs, ∃ d, Rooted hs roads r d
theorem TreeOk.one (h : Str) : TreeOk [h] [] := by
  have no : ∀ a b, ¬ Adj [] a b := fun a b z => by rcases z with z | z <;> cases z
  refine ⟨fun a b z => (no a b z).elim, fun r hr => ⟨fun _ => 0, hr, rfl, fun a b z => (no a b z).elim, fun x hx ne => ?_, fun x p q z => (no _ _ z).elim⟩⟩
  rw [List.mem_singleton.mp hx, List.mem_singleton.mp hr] at ne
  exact absurd rfl ne
theorem TreeOk.grow {hs : List Str} {roads roads' : List (Str × Str)} {u v : Str} (T : TreeOk hs roads) (hv : v ∉ hs) (hu : u ∈ hs) (adj : ∀ a b, Adj roads' a b ↔ Adj roads a b ∨ (a = u ∧ b = v) ∨ (a = v ∧ b = u)) : TreeOk (hs ++ [v]) roads' := by
  have mo : ∀ {x}, x ∈ hs → x ∈ hs ++ [v] := fun h => List.mem_append_left _ h
  have mv : v ∈ hs ++ [v] := by simp
  have nv : ∀ {x}, x ∈ hs → x ≠ v := fun h z => hv (z ▸ h)
  have uv : u ≠ v := nv hu
  refine ⟨fun a b h => ?_, fun r hr => ?_⟩
  · rcases (adj a b).mp h with h | ⟨rfl, rfl⟩ | ⟨rfl, rfl⟩
    · exact ⟨mo (T.ends a b h).1, mo (T.ends a b h).2⟩
    · exact ⟨mo hu, mv⟩
    · exact ⟨mv, mo hu⟩
  · rcases List.mem_append.mp hr with hr | hr
    · obtain ⟨d, R⟩ := T.tree r hr
      have dv : (if v = v then d u + 1 else d v) = d u + 1 := if_pos rfl
      have dx : ∀ {x}, x ≠ v → (if x = v then d u + 1 else d x) = d x := fun h => if_neg h
      refine ⟨fun x => if x = v then d u + 1 else d x, mo hr, (dx (nv hr)).trans R.zero, fun a b h => ?_, fun h hh ne => ?_, fun h p q hp hq lp lq => ?_⟩
      · show (if a = v then d u + 1 else d a) + 1 = (if b = v then d u + 1 else d b) ∨ (if b = v then d u + 1 else d b) + 1 = (if a = v then d u + 1 else d a)
        rcases (adj a b).mp h with h | ⟨rfl, rfl⟩ | ⟨rfl, rfl⟩
        · rw [dx (nv (T.ends a b h).1), dx (nv (T.ends a b h).2)]
          exact R.near a b h
        · rw [dv, dx uv]
          exact .inl rfl
        · rw [dv, dx uv]
          exact .inr rfl
      · show ∃ p, Adj roads' h p ∧ (if p = v then d u + 1 else d p) + 1 = (if h = v then d u + 1 else d h)
        rcases List.mem_append.mp hh with hh | hh
        · obtain ⟨p, ap, dp⟩ := R.up h hh ne
          exact ⟨p, (adj h p).mpr (.inl ap), by rw [dx (nv hh), dx (nv (T.ends h p ap).2)]; exact dp⟩
        · rw [List.mem_singleton.mp hh]
          exact ⟨u, (adj v u).mpr (.inr (.inr ⟨rfl, rfl⟩)), by rw [dv, dx uv]⟩
      · replace lp : (if p = v then d u + 1 else d p) < (if h = v then d u + 1 else d h) := lp
        replace lq : (if q = v then d u + 1 else d q) < (if h = v then d u + 1 else d h) := lq
        by_cases e : h = v
        · subst e
          have one : ∀ {x}, Adj roads' h x → x = u := fun {x} hx => by
            rcases (adj h x).mp hx with hx | ⟨e1, _⟩ | ⟨_, e2⟩
            · exact absurd (T.ends h x hx).1 hv
            · exact absurd e1.symm uv
            · exact e2
          rw [one hp, one hq]
        · have old : ∀ {x}, Adj roads' h x → (if x = v then d u + 1 else d x) < (if h = v then d u + 1 else d h) → Adj roads h x ∧ d x < d h := fun {x} hx lx => by
            rcases (adj h x).mp hx with hx | ⟨e1, e2⟩ | ⟨e1, _⟩
            · rw [dx e, dx (nv (T.ends h x hx).2)] at lx
              exact ⟨hx, lx⟩
            · rw [e1, e2, dv, dx uv] at lx
              omega
            · exact absurd e1 e
          exact R.one h p q (old hp lp).1 (old hq lq).1 (old hp lp).2 (old hq lq).2
    · have er : r = v := List.mem_singleton.mp hr
      subst er
      obtain ⟨d, R⟩ := T.tree u hu
      have dv : (if r = r then 0 else d r + 1) = 0 := if_pos rfl
      have dx : ∀ {x}, x ≠ r → (if x = r then 0 else d x + 1) = d x + 1 := fun h => if_neg h
      have d0 := R.zero
      refine ⟨fun x => if x = r then 0 else d x + 1, mv, dv, fun a b h => ?_, fun h hh ne => ?_, fun h p q hp hq lp lq => ?_⟩
      · show (if a = r then 0 else d a + 1) + 1 = (if b = r then 0 else d b + 1) ∨ (if b = r then 0 else d b + 1) + 1 = (if a = r then 0 else d a + 1)
        rcases (adj a b).mp h with h | ⟨rfl, rfl⟩ | ⟨rfl, rfl⟩
        · rw [dx (nv (T.ends a b h).1), dx (nv (T.ends a b h).2)]
          have := R.near a b h
          omega
        · rw [dv, dx uv]
          omega
        · rw [dv, dx uv]
          omega
      · show ∃ p, Adj roads' h p ∧ (if p = r then 0 else d p + 1) + 1 = (if h = r then 0 else d h + 1)
        rcases List.mem_append.mp hh with hh | hh
        · by_cases e : h = u
          · subst e
            exact ⟨r, (adj h r).mpr (.inr (.inl ⟨rfl, rfl⟩)), by rw [dv, dx uv]; omega⟩
          · obtain ⟨p, ap, dp⟩ := R.up h hh e
            exact ⟨p, (adj h p).mpr (.inl ap), by rw [dx (nv hh), dx (nv (T.ends h p ap).2)]; omega⟩
        · exact absurd (List.mem_singleton.mp hh) ne
      · replace lp : (if p = r then 0 else d p + 1) < (if h = r then 0 else d h + 1) := lp
        replace lq : (if q = r then 0 else d q + 1) < (if h = r then 0 else d h + 1) := lq
        by_cases e : h = r
        · rw [e, dv] at lp
          omega
        · have old : ∀ {x}, Adj roads' h x → (if x = r then 0 else d x + 1) < (if h = r then 0 else d h + 1) → (Adj roads h x ∧ d x < d h) ∨ (h = u ∧ x = r) := fun {x} hx lx => by
            rcases (adj h x).mp hx with hx | ⟨e1, e2⟩ | ⟨e1, _⟩
            · rw [dx e, dx (nv (T.ends h x hx).2)] at lx
              exact .inl ⟨hx, by omega⟩
            · exact .inr ⟨e1, e2⟩
            · exact absurd e1 e
          rcases old hp lp with ⟨p1, p2⟩ | ⟨p1, p2⟩
          · rcases old hq lq with ⟨q1, q2⟩ | ⟨q1, q2⟩
            · exact R.one h p q p1 q1 p2 q2
            · rw [q1] at p2
              omega
          · rcases old hq lq with ⟨q1, q2⟩ | ⟨q1, q2⟩
            · rw [p1] at q2
              omega
            · rw [p2, q2]
/-- which hands there are is all that matters -/
theorem Rooted.perm {hs hs' : List Str} {roads : List (Str × Str)} {r : Str} {d : Str → Nat} (R : Rooted hs roads r d) (m : ∀ x, x ∈ hs' ↔ x ∈ hs) : Rooted hs' roads r d :=
  ⟨(m r).mpr R.root, R.zero, R.near, fun h hh ne => R.up h ((m h).mp hh) ne, R.one⟩
theorem Rooted.roads {hs : List Str} {roads roads' : List (Str × Str)} {r : Str} {d : Str → Nat} (R : Rooted hs roads r d) (m : ∀ x, x ∈ roads' ↔ x ∈ roads) : Rooted hs roads' r d := by
  have a : ∀ x y, Adj roads' x y ↔ Adj roads x y := fun x y => by unfold Adj; rw [m, m]
  exact ⟨R.root, R.zero, fun x y h => R.near x y ((a x y).mp h), fun h hh ne => by
    obtain ⟨p, h1, h2⟩ := R.up h hh ne
    exact ⟨p, (a h p).mpr h1, h2⟩, fun h p q h1 h2 => R.one h p q ((a h p).mp h1) ((a h q).mp h2)⟩
/-- two unlike texts, sorted -/
theorem sort_two {a b : Str} (ne : a ≠ b) : ∃ x y, [a, b].mergeSort (PySem.W.dataLe false PyData.str) = [x, y] ∧ x.cps.toList < y.cps.toList ∧ ((x = a ∧ y = b) ∨ (x = b ∧ y = a)) := by
  have p := List.mergeSort_perm [a, b] (PySem.W.dataLe false PyData.str)
  have tot := PySem.W.sortLe_total (listOrd itemOrd) false fun b : Str => PySem.W.keyToks (.str b)
  have pw := PySem.W.sort_pairwise tot [a, b]
  have pw' : ([a, b].mergeSort (PySem.W.dataLe false PyData.str)).Pairwise fun x y => PySem.W.dataLe false PyData.str x y = true := pw
  have ln := p.length_eq
  obtain ⟨x, y, e⟩ : ∃ x y, [a, b].mergeSort (PySem.W.dataLe false PyData.str) = [x, y] := by
    match h : [a, b].mergeSort (PySem.W.dataLe false PyData.str), ln with
    | [x, y], _ => exact ⟨x, y, rfl⟩
  rw [e] at p pw'
  have xy : (x = a ∧ y = b) ∨ (x = b ∧ y = a) := by
    have mx : x = a ∨ x = b := by simpa using p.mem_iff.mp (List.mem_cons_self (a := x) (l := [y]))
    have nd : [x, y].Nodup := p.nodup_iff.mpr (by simpa using ne)
    have nxy : x ≠ y := by simpa using nd
    have my : y = a ∨ y = b := by simpa using p.mem_iff.mp (show y ∈ [x, y] by simp)
    rcases mx with h1 | h1 <;> rcases my with h2 | h2
    · exact absurd (h1.trans h2.symm) nxy
    · exact .inl ⟨h1, h2⟩
    · exact .inr ⟨h1, h2⟩
    · exact absurd (h1.trans h2.symm) nxy
  refine ⟨x, y, e, ?_, xy⟩
  have nxy : x ≠ y := by
    rcases xy with ⟨h1, h2⟩ | ⟨h1, h2⟩
    · rw [h1, h2]
      exact ne
    · rw [h1, h2]
      exact ne.symm
  have le := (List.pairwise_cons.mp pw').1 y List.mem_cons_self
  have le2 : (listOrd itemOrd).blt (PySem.W.keyToks (.str y)) (PySem.W.keyToks (.str x)) = false := by
    simpa [PySem.W.dataLe, PySem.W.sortLe] using le
  have c1 : (listOrd itemOrd).blt (PySem.W.keyToks (.str x)) (PySem.W.keyToks (.str y)) = true := by
    cases h : (listOrd itemOrd).blt (PySem.W.keyToks (.str x)) (PySem.W.keyToks (.str y)) with
    | true => rfl
    | false => exact absurd (toks_str ((listOrd itemOrd).total _ _ h le2)) nxy
  simp only [PySem.W.keyToks] at c1
  rcases lex_true.mp c1 with h | ⟨_, h⟩
  · exact of_decide_eq_true (p := x.cps.toList < y.cps.toList) h
  · cases h

end Lw

namespace Lw
open PySem PySem.Spec PyProof.Rows L2 GxR Gx
/-! ### a web beside what is drawn from -/
theorem WebAt.growP {H H' : Hp} {W p : Addr} {c : Int} {hands : List Str} {roads : List (Str × Str)} (h : WebAt H W hands roads) (ne : hands ≠ []) (pot : Pot H p c) (g : Grow [p] H H') : WebAt H' W hands roads := by
  obtain ⟨hs, rs, h1, h2, h3⟩ := h
  obtain ⟨a, b, k, ep, _⟩ := pot
  obtain ⟨xs, e3, t3⟩ := id h3
  have n1 : W ≠ p := fun z => by rw [z, ep] at h1; cases h1
  have n2 : hs ≠ p := fun z => by
    rw [z, ep] at h2
    cases hands with
    | nil => exact ne rfl
    | cons x r => cases h2
  have n3 : rs ≠ p := fun z => by
    rw [z, ep] at e3
    cases e3
    cases roads with
    | nil => cases t3
    | cons r rs => cases t3
  exact ⟨hs, rs, g.tup (by simpa using n1) h1, g.lst (by simpa using n2) h2, h3.grow g (noFrz_lst ep) (by simpa using n3)⟩

/-! ### _law_web -/
section
variable {P : Program} {w : World} {K : PySem.W.Frag} {mg : Str → Option Value} {base : Heap}
def spWeb (K : PySem.W.Frag) : Sp := fun vs H Q _ => ∃ (p : Addr) (m : Nat) (c : Int), vs = [.ref p, .int m] ∧ 1 ≤ m ∧ m ≤ 100 ∧ Pot H p c ∧ c ≤ 2 ^ 19 ∧
  ∀ (W : Addr) (H' : Hp) (hands : List Str) (roads : List (Str × Str)), Fresh H W → Grow [p] H H' → WebAt H' W hands roads → WebOk hands roads → hands.length = m → Pot H' p (c + 1000) → Q (.ref W) H'
theorem ok_law_web {f c : Addr} {fd : FuncData} (B : Nb mg) (D : DefIs K "_law_web" "_law_web" st_law_web f fd (.ref c))
    (c_law_dip : Callee P w K mg base CX0 3 "_law_dip" ["pot", "many"] (spDip K)) (c_law_names : Callee P w K mg base CX0 4 "_law_names" ["pot", "many"] (spNames K)) : FnG P w K mg base CX0 5 f fd ["pot", "many"] (spWeb K) := by
  refine D.ok0 (k := 4) sc_law_web (fun vs H Q E h => ?_) (fun A outer s H vs Q E g hr h => ?_)
  · obtain ⟨p, m, c, rfl, _⟩ := h
    rfl
  obtain ⟨p, m, c, rfl, m1, m2, hp, hc, q⟩ := h
  refine ⟨_,
      (pss_cons (ps_set (i := 2) sc_law_web.nd rfl (.inl rfl) (pe_g c_law_names g (hr.mono (by decide)) pass0 (pa_cons (pv 0) (pa_cons (pv 1) pa_nil))))
      (pss_cons (ps_set (i := 3) sc_law_web.nd rfl (.inl rfl) (pe_g c_law_dip g (hr.mono (by decide)) pass0 (pa_cons (pv 0) (pa_cons pe_int pa_nil))))
      (pss_cons (ps_set (i := 4) sc_law_web.nd rfl (.inl rfl) (pe_lst pa_nil))
      (pss_cons (ps_for PassesOwn.never rfl (pi_range2 rfl B.n_range (pa_cons pe_int (pa_cons (pv 1) pa_nil))) (pg_name (i := 5) sc_law_web.nd rfl (.inl rfl)) (
        (pss_cons (ps_set (i := 6) sc_law_web.nd rfl (.inl rfl) (pe_ix ix_list (pe_lst (pa_cons (pe_op op_sub (pv 5) pe_int) (pa_cons pe_int (pa_cons (pe_g c_law_dip g (hr.mono (by decide)) pass0 (pa_cons (pv 0) (pa_cons (pv 5) pa_nil))) (pa_cons (pe_callB (call_max2 rfl) rfl B.n_max (by decide +kernel) (pa_cons pe_int (pa_cons (pe_op op_sub (pe_op op_sub (pv 5) pe_int) (pe_g c_law_dip g (hr.mono (by decide)) pass0 (pa_cons (pv 0) (pa_cons pe_int pa_nil)))) pa_nil))) pa_nil))))) (pv 3) (fun _ _ => rfl)))
        (pss_one (ps_expr (pe_bm PySem.F.plainAttrs_list PySem.F.slot_list_insert PySem.F.type_list_insert mt_insert (pv 4) (pa_cons (pe_g c_law_dip g (hr.mono (by decide)) pass0 (pa_cons (pv 0) (pa_cons (pv 5) pa_nil))) (pa_cons (pe_callTy call_tupleF rfl B.n_tuple (by decide +kernel) (pa_cons (pe_callB (cr_sortG (val := V.str) (enc := PyData.str) hr.units) rfl B.n_sorted (by decide +kernel) (pa_cons (pe_lst (pa_cons (pe_ix ix_list (pv 2) (pv 5) (fun _ _ => rfl)) (pa_cons (pe_ix ix_list (pv 2) (pv 6) (fun _ _ => rfl)) pa_nil))) pa_nil)) pa_nil)) pa_nil))))))))
      (pss_one (ps_ret (pe_tup (pa_cons (pe_ifExp (pt_cmpR (op_eq) (pe_g c_law_dip g (hr.mono (by decide)) pass0 (pa_cons (pv 0) (pa_cons pe_int pa_nil))) pe_int (nomark _)) (pe_revL (pv 2)) (pe_callB (cr_sortG (val := V.str) (enc := PyData.str) hr.units) rfl B.n_sorted (by decide +kernel) (pa_cons (pv 2) pa_nil))) (pa_cons (pv 4) pa_nil))))))))), ?_⟩
  obtain ⟨pa, pb, pk, ep, pr⟩ := id hp
  refine ⟨.ref p, rfl, .int m, rfl, p, m, c, rfl, m2, hp, by omega, fun Y H1 ys fY g1 eY nd nm ly pot1 => ?_⟩
  have Yp : Y ≠ p := (fY.ne ep (fun ps z => by cases z)).symm
  refine ⟨.ref p, rfl, p, 4, _, rfl, by decide, by decide, by omega, pot1, fun way H2 w0 w1 g2 pot2 => ⟨by show 0 ≤ sizeLine; decide, fun R nR => ?_⟩⟩
  have g02 := (g1.trans g2)
  have fR : Fresh H R := Fresh.back (fresh_none nR) g02 pot2
  have Rp : R ≠ p := (fR.ne ep (fun ps z => by cases z)).symm
  have eY2 : upd H2 R (.lst []) Y = some (.lst (ys.map V.str)) := by
    have e := g2.lst (p := Y) (by simpa using Yp) eY
    rw [upd_ne (ne_of_none e nR)]
    exact e
  have RY : R ≠ Y := fun z => by
    have e := g2.lst (p := Y) (by simpa using Yp) eY
    rw [← z, nR] at e
    cases e
  have y0 : 0 < ys.length := by omega
  have ynd : ∀ {i : Nat} (hi : i < ys.length), ys[i] ∉ ys.take i := fun {i} hi h => by
    obtain ⟨j, hj⟩ := List.mem_iff_getElem?.mp h
    rw [List.getElem?_take] at hj
    by_cases hji : j < i
    · rw [if_pos hji] at hj
      have := (List.getElem?_inj (List.getElem?_eq_some_iff.mp hj).1 nd).mp (hj.trans (List.getElem?_eq_getElem hi).symm)
      omega
    · rw [if_neg hji] at hj
      cases hj
  have tk : ∀ {i : Nat} (hi : i < ys.length), ys.take (i + 1) = ys.take i ++ [ys[i]] := fun {i} hi => by rw [List.take_add_one, List.getElem?_eq_getElem hi]; rfl
  have T0 : TreeOk (ys.take (0 + 1)) [] := by
    rw [tk y0, List.take_zero]
    exact TreeOk.one _
  refine ⟨.int m, rfl, 1, m, rfl, ⟨by decide, by decide, by omega, by omega⟩, ?_⟩
  refine for_it walk_range (fun i σ H' => ∃ (roads : List (Str × Str)) (a b : Option V), σ = [some (.ref p), some (.int m), some (.ref Y), some (.int way), some (.ref R), a, b] ∧ Grow [p] H H' ∧ H' Y = some (.lst (ys.map V.str)) ∧ RdT H' R roads ∧ TreeOk (ys.take (i + 1)) roads ∧ roads.length = i ∧ (∀ r ∈ roads, r.1.cps.toList < r.2.cps.toList) ∧ Pot H' p (c + 201 + 3 * i))
    ⟨[], none, none, rfl, g02.new nR, eY2, ⟨[], upd_same, .nil⟩, T0, rfl, fun r hr => (by cases hr), (pot2.new nR).mono (by omega)⟩ (fun _ _ _ _ _ => trivial) (fun i x σ H3 H4 hi hw hy => ?_) (fun σ H3 hw => ?_)
  · obtain ⟨roads, a0, b0, rfl, gr, eY3, hR, tree, lr, lt, pot⟩ := hw
    obtain ⟨rfl, ex⟩ := hy
    have im : i + 1 < ys.length := by omega
    have ek : (1 : Int) + (i : Nat) = ((i + 1 : Nat) : Int) := by omega
    replace ex : x = V.int ((i + 1 : Nat) : Int) := Eq.trans ex (congrArg V.int ek)
    subst ex
    refine ⟨.int _, rfl, _, _, rfl, rfl, .ref p, rfl, .int _, rfl, p, _, _, rfl, by omega, by omega, by omega, pot, fun v1 H5 a0 a1 g5 pot5 => ?_⟩
    refine ⟨.int _, rfl, _, _, rfl, rfl, .ref p, rfl, p, 3, _, rfl, by decide, by decide, by omega, pot5, fun v2 H6 b0 b1 g6 pot6 => ⟨_, _, rfl, rfl, _, _, rfl, by show 4 ≤ sizeLine; decide, fun L nL => ?_⟩⟩
    obtain ⟨at_, hat, ati⟩ : ∃ at_ : Nat, atI [V.int (((i + 1 : Nat) : Int) - 1), V.int 0, V.int v1, V.int (if ((i + 1 : Nat) : Int) - 1 - v2 > 0 then ((i + 1 : Nat) : Int) - 1 - v2 else 0)] way = some (.int at_) ∧ at_ ≤ i := by
      have : way = 0 ∨ way = 1 ∨ way = 2 ∨ way = 3 := by omega
      rcases this with rfl | rfl | rfl | rfl
      · exact ⟨i, by show some (V.int (((i + 1 : Nat) : Int) - 1)) = _; congr 2; omega, Nat.le_refl _⟩
      · exact ⟨0, rfl, Nat.zero_le _⟩
      · exact ⟨v1.toNat, by show some (V.int v1) = _; congr 2; omega, by omega⟩
      · refine ⟨(if ((i + 1 : Nat) : Int) - 1 - v2 > 0 then ((i + 1 : Nat) : Int) - 1 - v2 else 0).toNat, ?_, ?_⟩
        · show some (V.int _) = some (V.int _)
          congr 2
          split <;> omega
        · split <;> omega
    have g46 := g5.trans g6
    have eY6 : H6 Y = some (.lst (ys.map V.str)) := g46.lst (by simpa using Yp) eY3
    obtain ⟨_, _, _, eqp, _⟩ := id pot
    have hR6 := hR.grow g46 (noFrz_lst eqp) (by simpa using Rp)
    refine ⟨.int way, rfl, L, _, way, .int at_, rfl, rfl, .inl (.inl upd_same), hat, ?_⟩
    have gr6 := gr.trans g46
    have gL := gr6.new (o := .lst [V.int (((i + 1 : Nat) : Int) - 1), V.int 0, V.int v1, V.int (if ((i + 1 : Nat) : Int) - 1 - v2 > 0 then ((i + 1 : Nat) : Int) - 1 - v2 else 0)]) nL
    have gnL : Grow [] H6 (upd H6 L (.lst [V.int (((i + 1 : Nat) : Int) - 1), V.int 0, V.int v1, V.int (if ((i + 1 : Nat) : Int) - 1 - v2 > 0 then ((i + 1 : Nat) : Int) - 1 - v2 else 0)])) := grow_new nL
    have potL := pot6.new (o := .lst [V.int (((i + 1 : Nat) : Int) - 1), V.int 0, V.int v1, V.int (if ((i + 1 : Nat) : Int) - 1 - v2 > 0 then ((i + 1 : Nat) : Int) - 1 - v2 else 0)]) nL
    have eYL := gnL.lst (by simp) eY6
    have hRL := hR6.grow gnL noFrz_nil (by simp)
    generalize upd H6 L (.lst [V.int (((i + 1 : Nat) : Int) - 1), V.int 0, V.int v1, V.int (if ((i + 1 : Nat) : Int) - 1 - v2 > 0 then ((i + 1 : Nat) : Int) - 1 - v2 else 0)]) = H7 at gL potL eYL hRL ⊢
    obtain ⟨xsL, eRL, _⟩ := id hRL
    refine ⟨.ref R, rfl, tyl eRL, .ref p, rfl, .int _, rfl, p, _, _, rfl, by omega, by omega, by omega, potL, fun v3 H8 c0 c1 g8 pot8 => ?_⟩
    have eY8 : H8 Y = some (.lst (ys.map V.str)) := g8.lst (by simpa using Yp) eYL
    obtain ⟨_, _, _, eqL, _⟩ := id potL
    have hR8 := hRL.grow g8 (noFrz_lst eqL) (by simpa using Rp)
    have gr8 := gL.trans g8
    refine ⟨.ref Y, rfl, .int _, rfl, Y, _, _, .str ys[i + 1], rfl, rfl, .inl (.inl eY8), atI_nat (by rw [List.getElem?_map, List.getElem?_eq_getElem im]; rfl), .ref Y, rfl, .int at_, rfl, Y, _, _, .str (ys[at_]'(by omega)), rfl, rfl, .inl (.inl eY8), atI_nat (by rw [List.getElem?_map, List.getElem?_eq_getElem (by omega)]; rfl), by show 2 ≤ sizeLine; decide, fun L2 n2 => ?_⟩
    have nab : ys[i + 1] ≠ ys[at_]'(by omega) := fun z => by
      have := (List.getElem?_inj (j := at_) im nd).mp (by rw [List.getElem?_eq_getElem im, List.getElem?_eq_getElem (show at_ < ys.length by omega), z])
      omega
    obtain ⟨x, y, es, xy, xab⟩ := sort_two nab
    refine ⟨L2, [ys[i + 1], ys[at_]'(by omega)], rfl, .inl (.inl upd_same), fun z hz => ⟨.str z, by show 0 ≤ 60; decide⟩, alike_strs _, sortable_strs _, by show 2 ≤ sizeLine; decide, fun S nS => ?_⟩
    rw [es]
    refine ⟨S, _, rfl, .inl (.inl upd_same), fun T To nT dT0 => ?_⟩
    have gT : Grow [] H8 (upd (upd (upd H8 L2 (.lst [.str ys[i + 1], .str (ys[at_]'(by omega))])) S (.lst ([x, y].map V.str))) T (.frz To (.tup ([x, y].map V.str)))) := ((grow_new n2).new nS).new nT
    have hRT := hR8.grow gT noFrz_nil (by simp)
    have eT : upd (upd (upd H8 L2 (.lst [.str ys[i + 1], .str (ys[at_]'(by omega))])) S (.lst ([x, y].map V.str))) T (.frz To (.tup ([x, y].map V.str))) T = some (.frz To (.tup [.str x, .str y])) := upd_same
    obtain ⟨xs, eRT, tx⟩ := id hRT
    have lxs : xs.length = i := by rw [tx.length, lr]
    have dT := (⟨To, eT, dT0⟩ : Pr _ T (x, y))
    refine ⟨R, xs, v3, .ref T, rfl, rfl, eRT, by rw [lxs]; unfold sizeLine; omega, c0, by omega, ?_⟩
    have grT := gr8.trans gT.any
    have gP := grow_at (ex := [R]) (o := .lst (xs.take v3.toNat ++ [.ref T] ++ xs.drop v3.toNat)) eRT (fun ps z => by cases z) (by simp)
    have mem : ∀ z, z ∈ roads.take v3.toNat ++ [(x, y)] ++ roads.drop v3.toNat ↔ z = (x, y) ∨ z ∈ roads := fun z => by
      have e : roads = roads.take v3.toNat ++ roads.drop v3.toNat := (List.take_append_drop _ _).symm
      constructor
      · intro h
        rcases List.mem_append.mp h with h | h
        · rcases List.mem_append.mp h with h | h
          · exact .inr (List.mem_of_mem_take h)
          · exact .inl (List.mem_singleton.mp h)
        · exact .inr (List.mem_of_mem_drop h)
      · rintro (h | h)
        · rw [h]
          simp
        · rw [e] at h
          rcases List.mem_append.mp h with h | h
          · exact List.mem_append_left _ (List.mem_append_left _ h)
          · exact List.mem_append_right _ h
    refine ⟨roads.take v3.toNat ++ [(x, y)] ++ roads.drop v3.toNat, _, _, rfl, grT.put fR eRT (fun ps z => by cases z), ?_, ?_, ?_, ?_, ?_, ?_⟩
    · rw [upd_ne RY.symm]
      exact gT.lst (by simp) eY8
    · refine ⟨_, upd_same, ?_⟩
      exact (Prs.ins dT v3.toNat tx).grow gP (noFrz_lst eRT)
    · rw [tk im]
      refine tree.grow (u := ys[at_]'(by omega)) (v := ys[i + 1]) (ynd im) ?_ fun a b => ?_
      · exact List.mem_iff_getElem?.mpr ⟨at_, by rw [List.getElem?_take, if_pos (by omega), List.getElem?_eq_getElem]⟩
      · unfold Adj
        rw [mem, mem, Prod.mk.injEq, Prod.mk.injEq]
        rcases xab with ⟨rfl, rfl⟩ | ⟨rfl, rfl⟩
        · constructor
          · rintro ((h | h) | (h | h))
            · exact .inr (.inr h)
            · exact .inl (.inl h)
            · exact .inr (.inl ⟨h.2, h.1⟩)
            · exact .inl (.inr h)
          · rintro ((h | h) | h | h)
            · exact .inl (.inr h)
            · exact .inr (.inr h)
            · exact .inr (.inl ⟨h.2, h.1⟩)
            · exact .inl (.inl h)
        · constructor
          · rintro ((h | h) | (h | h))
            · exact .inr (.inl h)
            · exact .inl (.inl h)
            · exact .inr (.inr ⟨h.2, h.1⟩)
            · exact .inl (.inr h)
          · rintro ((h | h) | h | h)
            · exact .inl (.inr h)
            · exact .inr (.inr h)
            · exact .inl (.inl h)
            · exact .inr (.inl ⟨h.2, h.1⟩)
    · rw [List.length_append, List.length_append, List.length_take, List.length_drop, List.length_singleton]
      omega
    · intro r hr
      rcases (mem r).mp hr with h | h
      · rw [h]
        exact xy
      · exact lt r h
    · exact ((((pot8.new n2).new nS).new nT).at Rp.symm).mono (by omega)
  · obtain ⟨roads, a0, b0, rfl, gr, eY3, hR, tree, lr, lt, pot⟩ := hw
    have e1 : ((m : Int) - 1).toNat + 1 = ys.length := by omega
    rw [e1, List.take_length] at tree
    obtain ⟨qa, qb, qk, eq3, _⟩ := id pot
    refine ⟨.ref p, rfl, p, 2, _, rfl, by decide, by decide, by omega, pot, fun v H4 v0 v1 g4 pot4 => ⟨rfl, _, rfl, ?_⟩⟩
    have gr4 := gr.trans g4
    have eY4 : H4 Y = some (.lst (ys.map V.str)) := g4.lst (by simpa using Yp) eY3
    have hR4 := hR.grow g4 (noFrz_lst eq3) (by simpa using Rp)
    obtain ⟨xs4, eR4, _⟩ := id hR4
    have fin : ∀ (Z : Addr) (zs : List Str), H4 Z = none → zs.Perm ys → ∀ W, upd H4 Z (.lst (zs.map V.str)) W = none → Q (.ref W) (upd (upd H4 Z (.lst (zs.map V.str))) W (.tup [.ref Z, .ref R])) := fun Z zs nZ pm W nW => by
      have gZ : Grow [] H4 (upd (upd H4 Z (.lst (zs.map V.str))) W (.tup [.ref Z, .ref R])) := (grow_new nZ).new nW
      refine q W _ zs roads (Fresh.back (fresh_none (by rwa [upd_ne (show W ≠ Z from fun z => by rw [z, upd_same] at nW; cases nW)] at nW)) gr4 pot4) (gr4.trans gZ.any) ⟨Z, R, upd_same, ?_, hR4.grow gZ noFrz_nil (by simp)⟩ ?_ (by rw [pm.length_eq, ly]) (((pot4.new nZ).new nW).mono (by omega))
      · rw [upd_ne (ne_of_none upd_same nW)]
        exact upd_same
      · have mm : ∀ x, x ∈ zs ↔ x ∈ ys := fun x => pm.mem_iff
        refine ⟨List.all_eq_true.mpr fun x hx => List.all_eq_true.mp nm x ((mm x).mp hx), pm.nodup_iff.mpr nd, by rw [pm.length_eq]; omega, fun z => ?_, by rw [pm.length_eq]; omega, fun r hr => ?_, fun r hr => ?_⟩
        · have := pm.length_eq
          rw [z] at this
          rw [← this] at y0
          exact absurd y0 (by simp)
        · have := tree.ends r.1 r.2 (.inl hr)
          exact ⟨(mm _).mpr this.1, (mm _).mpr this.2, lt r hr⟩
        · obtain ⟨d, R2⟩ := tree.tree r ((mm r).mp hr)
          exact ⟨d, R2.perm mm⟩
    refine ite2 (fun _ => ?_) fun _ => ?_
    · refine ⟨.ref Y, rfl, Y, _, rfl, .inl (.inl eY4), fun Z nZ => ⟨.ref R, rfl, by show 2 ≤ sizeLine; decide, fun W nW => ?_⟩⟩
      rw [← List.map_reverse] at nW ⊢
      exact fin Z ys.reverse nZ (List.reverse_perm ys) W nW
    · refine ⟨.ref Y, rfl, Y, ys, rfl, .inl (.inl eY4), fun z hz => ⟨.str z, by show 0 ≤ 60; decide⟩, alike_strs _, sortable_strs _, by unfold sizeLine; omega, fun Z nZ => ⟨.ref R, rfl, by show 2 ≤ sizeLine; decide, fun W nW => ?_⟩⟩
      exact fin Z _ nZ (List.mergeSort_perm ys _) W nW
end

end Lw

namespace Lw
open PySem PySem.Spec PyProof.Rows L2 GxR Gx
/-! ### names by their signs -/
theorem nm_iff {w : Str} : isNm w = true ↔ 1 ≤ w.length ∧ w.length ≤ 8 ∧ ∀ c ∈ w.cps.toList, 97 ≤ c ∧ c ≤ 122 := by
  unfold isNm nameC
  simp only [Bool.and_eq_true, decide_eq_true_eq, List.all_eq_true]
  constructor
  · rintro ⟨⟨h1, h2⟩, h3⟩
    exact ⟨h1, h2, h3⟩
  · rintro ⟨h1, h2, h3⟩
    exact ⟨⟨h1, h2⟩, h3⟩

/-! ### texts -/
def spS : Str := " "
def nlS : Str := "\n"
def daS : Str := "-"
theorem app_assoc (a b c : Str) : a ++ b ++ c = a ++ (b ++ c) := str_cps (by show ((a.cps ++ b.cps) ++ c.cps).toList = (a.cps ++ (b.cps ++ c.cps)).toList; rw [Array.append_assoc])
theorem app_empty (a : Str) : a ++ Str.empty = a := str_cps (by show (a.cps ++ #[]).toList = a.cps.toList; simp)
theorem empty_app (a : Str) : Str.empty ++ a = a := str_cps (by show (#[] ++ a.cps).toList = a.cps.toList; simp)
theorem app_len (a b : Str) : (a ++ b).length = a.length + b.length := Array.size_append
theorem join_snoc (y : Str) : ∀ {ws : List Str} (w : Str), ws ≠ [] → Str.join y (ws ++ [w]) = Str.join y ws ++ y ++ w
  | [], w, h => absurd rfl h
  | [x], w, _ => rfl
  | x :: z :: r, w, _ => by
    show x ++ y ++ Str.join y ((z :: r) ++ [w]) = x ++ y ++ Str.join y (z :: r) ++ y ++ w
    rw [join_snoc y (ws := z :: r) w (by simp), ← app_assoc, ← app_assoc]
theorem join_len (y : Str) (m : Nat) : ∀ {ws : List Str}, (∀ w ∈ ws, w.length ≤ m) → (Str.join y ws).length ≤ ws.length * (m + y.length)
  | [], _ => Nat.zero_le _
  | [x], h => by
    have := h x List.mem_cons_self
    show x.length ≤ 1 * _
    omega
  | x :: z :: r, h => by
    have h1 := h x List.mem_cons_self
    have h2 := join_len y m (ws := z :: r) fun w hw => h w (List.mem_cons_of_mem _ hw)
    show (x ++ y ++ Str.join y (z :: r)).length ≤ _
    rw [app_len, app_len, List.length_cons, Nat.succ_mul]
    omega
theorem tl_cps (x : Str) : TL.tl x = x.cps.toList := rfl
/-- a text without a sign -/
def Lacks (c : Nat) (x : Str) : Prop := c ∉ x.cps.toList
theorem lacks_app {c : Nat} {x y : Str} (h : Lacks c x) (k : Lacks c y) : Lacks c (x ++ y) := by
  unfold Lacks at *
  show c ∉ (x.cps ++ y.cps).toList
  rw [Array.toList_append, List.mem_append]
  exact fun z => z.elim h k
theorem nm_lacks {x : Str} (h : isNm x = true) {c : Nat} (hc : c < 97 ∨ 122 < c) : Lacks c x := fun z => by
  have := (nm_iff.mp h).2.2 c z
  omega
theorem nm_ne {x : Str} (h : isNm x = true) : x ≠ Str.empty := fun e => by
  have := (nm_iff.mp h).1
  rw [e] at this
  exact absurd this (by decide)
theorem split_sp {parts : List Str} (hne : parts ≠ []) (h : ∀ p ∈ parts, Lacks 32 p) : Txt.split (Str.join spS parts) spS = parts := by
  rw [← TL.join_eq]
  exact TL.split_join (s := 32) (S := []) rfl (by decide +kernel) hne h
theorem split_nl {parts : List Str} (hne : parts ≠ []) (h : ∀ p ∈ parts, Lacks 10 p) : Txt.split (Str.join nlS parts) nlS = parts := by
  rw [← TL.join_eq]
  exact TL.split_join (s := 10) (S := []) rfl (by decide +kernel) hne h
theorem split_da {parts : List Str} (hne : parts ≠ []) (h : ∀ p ∈ parts, Lacks 45 p) : Txt.split (Str.join daS parts) daS = parts := by
  rw [← TL.join_eq]
  exact TL.split_join (s := 45) (S := []) rfl (by decide +kernel) hne h
theorem lacks_join {c : Nat} {y : Str} (hy : Lacks c y) : ∀ {ws : List Str}, (∀ w ∈ ws, Lacks c w) → Lacks c (Str.join y ws)
  | [], _ => fun z => by cases z
  | [x], h => h x List.mem_cons_self
  | x :: z :: r, h => by
    show Lacks c (x ++ y ++ Str.join y (z :: r))
    exact lacks_app (lacks_app (h x List.mem_cons_self) hy) (lacks_join hy (ws := z :: r) fun w hw => h w (List.mem_cons_of_mem _ hw))
theorem join_ne {y : Str} {ws : List Str} (hne : ws ≠ []) (h : ∀ w ∈ ws, w ≠ Str.empty) : Str.join y ws ≠ Str.empty := by
  have l0 : ∀ x : Str, x ≠ Str.empty → 0 < x.length := fun x hx => Nat.pos_of_ne_zero fun z => hx (str_cps (by
    have : x.cps = #[] := Array.size_eq_zero_iff.mp z
    rw [this]
    rfl))
  match ws, hne, h with
  | [x], _, h => exact h x List.mem_cons_self
  | x :: z :: r, _, h =>
    intro e
    have h1 := l0 x (h x List.mem_cons_self)
    have h2 := congrArg Str.length e
    rw [show Str.join y (x :: z :: r) = x ++ y ++ Str.join y (z :: r) from rfl, app_len, app_len] at h2
    have : Str.empty.length = 0 := rfl
    omega
/-! ### webs in order -/
def sortS (l : List Str) : List Str := l.mergeSort (PySem.W.dataLe false PyData.str)
def sortP (l : List (Str × Str)) : List (Str × Str) := l.mergeSort (PySem.W.dataLe false encP)
theorem sortS_perm (l : List Str) : (sortS l).Perm l := List.mergeSort_perm _ _
theorem sortP_perm (l : List (Str × Str)) : (sortP l).Perm l := List.mergeSort_perm _ _
theorem sortS_eq {l m : List Str} (p : l.Perm m) : sortS l = sortS m := sort_same p fun a b => toks_str
theorem sortP_eq {l m : List (Str × Str)} (p : l.Perm m) : sortP l = sortP m := sort_same p fun a b => toks_pair
theorem sortS_twice (l : List Str) : sortS (sortS l) = sortS l := sortS_eq (sortS_perm l)
theorem sortP_twice (l : List (Str × Str)) : sortP (sortP l) = sortP l := sortP_eq (sortP_perm l)
theorem Adj.perm {rs rs' : List (Str × Str)} (p : rs.Perm rs') {a b : Str} : Adj rs a b ↔ Adj rs' a b := by
  unfold Adj
  rw [p.mem_iff, p.mem_iff]
theorem WebOk.perm {hands hands' : List Str} {roads roads' : List (Str × Str)} (w : WebOk hands roads) (p : hands.Perm hands') (r : roads.Perm roads') : WebOk hands' roads' := by
  refine ⟨List.all_eq_true.mpr fun x hx => List.all_eq_true.mp w.nm x (p.mem_iff.mpr hx), p.nodup_iff.mp w.nd, by rw [← p.length_eq]; exact w.len, fun z => ?_, by rw [← r.length_eq, ← p.length_eq]; exact w.many, fun x hx => ?_, fun x hx => ?_⟩
  · have := p.length_eq
    rw [z] at this
    exact w.ne (List.eq_nil_of_length_eq_zero this)
  · have := w.ends x (r.mem_iff.mpr hx)
    exact ⟨p.mem_iff.mp this.1, p.mem_iff.mp this.2.1, this.2.2⟩
  · obtain ⟨d, R⟩ := w.tree x (p.mem_iff.mpr hx)
    refine ⟨d, p.mem_iff.mp R.root, R.zero, fun a b h => R.near a b ((Adj.perm r).mpr h), fun h hh hne => ?_, fun h q s h1 h2 => R.one h q s ((Adj.perm r).mpr h1) ((Adj.perm r).mpr h2)⟩
    obtain ⟨q, q1, q2⟩ := R.up h (p.mem_iff.mpr hh) hne
    exact ⟨q, (Adj.perm r).mp q1, q2⟩
def rdS (r : Str × Str) : Str := r.1 ++ daS ++ r.2
def webRows (hands : List Str) (roads : List (Str × Str)) : List Str := Str.join spS (sortS hands) :: (sortP roads).map rdS
def webText (hands : List Str) (roads : List (Str × Str)) : Str := Str.join nlS (webRows hands roads)
section
variable {hands : List Str} {roads : List (Str × Str)}
theorem WebOk.hand (w : WebOk hands roads) {x : Str} (h : x ∈ hands) : isNm x = true := List.all_eq_true.mp w.nm x h
theorem WebOk.road (w : WebOk hands roads) {r : Str × Str} (h : r ∈ roads) : isNm r.1 = true ∧ isNm r.2 = true := ⟨w.hand (w.ends r h).1, w.hand (w.ends r h).2.1⟩
theorem rdS_len {r : Str × Str} (h : isNm r.1 = true ∧ isNm r.2 = true) : (rdS r).length ≤ 17 := by
  have h1 := (nm_iff.mp h.1).2.1
  have h2 := (nm_iff.mp h.2).2.1
  unfold rdS
  rw [app_len, app_len]
  have : daS.length = 1 := by decide
  omega
theorem webRows_lacks (w : WebOk hands roads) : ∀ x ∈ webRows hands roads, Lacks 10 x ∧ x ≠ Str.empty ∧ x.length ≤ 1800 := by
  intro x hx
  have ls : Lacks 10 spS := by unfold Lacks; decide +kernel
  have ld : Lacks 10 daS := by unfold Lacks; decide +kernel
  rcases List.mem_cons.mp hx with rfl | hx
  · have hs : ∀ y ∈ sortS hands, isNm y = true := fun y hy => w.hand ((sortS_perm hands).mem_iff.mp hy)
    refine ⟨lacks_join ls fun y hy => nm_lacks (hs y hy) (.inl (by decide)), join_ne (fun z => ?_) fun y hy => nm_ne (hs y hy), ?_⟩
    · have := (sortS_perm hands).length_eq
      rw [z] at this
      exact w.ne (List.eq_nil_of_length_eq_zero this.symm)
    · have := join_len spS 8 (ws := sortS hands) fun y hy => (nm_iff.mp (hs y hy)).2.1
      have l1 : spS.length = 1 := by decide
      have l2 := w.len
      rw [(sortS_perm hands).length_eq, l1] at this
      omega
  · obtain ⟨r, hr, rfl⟩ := List.mem_map.mp hx
    have nm := w.road ((sortP_perm roads).mem_iff.mp hr)
    refine ⟨lacks_app (lacks_app (nm_lacks nm.1 (.inl (by decide))) ld) (nm_lacks nm.2 (.inl (by decide))), fun e => ?_, by have := rdS_len nm; omega⟩
    have h1 := (nm_iff.mp nm.1).1
    have h2 := congrArg Str.length e
    unfold rdS at h2
    rw [app_len, app_len] at h2
    have : Str.empty.length = 0 := rfl
    omega
theorem rdS_split {r : Str × Str} (h : isNm r.1 = true ∧ isNm r.2 = true) : Txt.split (rdS r) daS = [r.1, r.2] := by
  have := split_da (parts := [r.1, r.2]) (by simp) fun p hp => by
    rcases List.mem_cons.mp hp with rfl | hp
    · exact nm_lacks h.1 (.inl (by decide))
    · rw [List.mem_singleton.mp hp]
      exact nm_lacks h.2 (.inl (by decide))
  exact this
theorem hands_split (w : WebOk hands roads) : Txt.split (Str.join spS (sortS hands)) spS = sortS hands := by
  refine split_sp (fun z => ?_) fun y hy => nm_lacks (w.hand ((sortS_perm hands).mem_iff.mp hy)) (.inl (by decide))
  have := (sortS_perm hands).length_eq
  rw [z] at this
  exact w.ne (List.eq_nil_of_length_eq_zero this.symm)
theorem web_split (w : WebOk hands roads) : Txt.split (webText hands roads) nlS = webRows hands roads := split_nl (by unfold webRows; simp) fun x hx => (webRows_lacks w x hx).1
theorem webText_len (w : WebOk hands roads) : (webText hands roads).length ≤ 500000 := by
  have := join_len nlS 1800 (ws := webRows hands roads) fun x hx => (webRows_lacks w x hx).2.2
  have l1 : nlS.length = 1 := by decide
  have l2 := w.len
  have l3 := w.many
  have l4 : (webRows hands roads).length = roads.length + 1 := by unfold webRows; rw [List.length_cons, List.length_map, (sortP_perm roads).length_eq]
  rw [l4, l1] at this
  unfold webText
  omega
theorem app_code {a b : Str} (ha : ∀ c ∈ a.cps.toList, c < 0x110000) (hb : ∀ c ∈ b.cps.toList, c < 0x110000) : ∀ c ∈ (a ++ b).cps.toList, c < 0x110000 := fun c hc => by
  have hc : c ∈ (a.cps ++ b.cps).toList := hc
  rw [Array.toList_append, List.mem_append] at hc
  exact hc.elim (ha c) (hb c)
theorem join_code {y : Str} (hy : ∀ c ∈ y.cps.toList, c < 0x110000) : ∀ {ws : List Str}, (∀ w ∈ ws, ∀ c ∈ w.cps.toList, c < 0x110000) → ∀ c ∈ (Str.join y ws).cps.toList, c < 0x110000
  | [], _ => fun c z => by cases z
  | [x], h => h x List.mem_cons_self
  | x :: z :: r, h => by
    show ∀ c ∈ (x ++ y ++ Str.join y (z :: r)).cps.toList, c < 0x110000
    exact app_code (app_code (h x List.mem_cons_self) hy) (join_code hy (ws := z :: r) fun w hw => h w (List.mem_cons_of_mem _ hw))
theorem row_code (w : WebOk hands roads) {x : Str} (hx : x ∈ webRows hands roads) {c : Nat} (hc : c ∈ x.cps.toList) : c < 0x110000 := by
  rcases List.mem_cons.mp hx with rfl | hx
  · exact join_code (y := spS) (by decide +kernel) (fun y hy => nm_lt (w.hand ((sortS_perm hands).mem_iff.mp hy))) c hc
  · obtain ⟨r, hr, rfl⟩ := List.mem_map.mp hx
    have nm := w.road ((sortP_perm roads).mem_iff.mp hr)
    exact app_code (app_code (nm_lt nm.1) (by decide +kernel)) (nm_lt nm.2) c hc
/-- two webs with one text are one, but for the order -/
theorem webText_inj {hands' : List Str} {roads' : List (Str × Str)} (w : WebOk hands roads) (w' : WebOk hands' roads') (e : webText hands roads = webText hands' roads') : sortS hands = sortS hands' ∧ sortP roads = sortP roads' := by
  have h := web_split w
  rw [e, web_split w'] at h
  unfold webRows at h
  obtain ⟨h1, h2⟩ := List.cons.inj h
  refine ⟨?_, ?_⟩
  · rw [← hands_split w, ← h1, hands_split w']
  · have back : ∀ {l : List (Str × Str)}, (∀ r ∈ l, isNm r.1 = true ∧ isNm r.2 = true) → (l.map rdS).map (fun t => Txt.split t daS) = l.map fun r => [r.1, r.2] := fun {l} hl => by
      rw [List.map_map]
      exact List.map_congr_left fun r hr => rdS_split (hl r hr)
    have e1 := back (l := sortP roads) fun r hr => w.road ((sortP_perm roads).mem_iff.mp hr)
    have e2 := back (l := sortP roads') fun r hr => w'.road ((sortP_perm roads').mem_iff.mp hr)
    rw [← h2, e2] at e1
    have inj : ∀ {l m : List (Str × Str)}, (l.map fun r => [r.1, r.2]) = (m.map fun r => [r.1, r.2]) → l = m := by
      intro l
      induction l with
      | nil => intro m h; cases m with
        | nil => rfl
        | cons _ _ => cases h
      | cons x l ih =>
        intro m h
        cases m with
        | nil => cases h
        | cons y m =>
          rw [List.map_cons, List.map_cons] at h
          obtain ⟨a, b⟩ := List.cons.inj h
          have a1 := (List.cons.inj a).1
          have a2 := (List.cons.inj (List.cons.inj a).2).1
          rw [ih b, Prod.ext a1 a2]
    exact (inj e1).symm
end

end Lw

namespace Lw
open PySem PySem.Spec PyProof.Rows L2 GxR Gx
/-! ### rows_of_web -/
theorem Prs.zip {H : Hp} : ∀ {xs : List V} {rs : List (Str × Str)}, Prs H xs rs → ∀ b ∈ xs.zip rs, ∃ a, b.1 = .ref a ∧ Pr H a b.2
  | _, _, .nil, b, hb => by cases hb
  | _, _, .cons h t, b, hb => by
    rcases List.mem_cons.mp hb with rfl | hb
    · exact ⟨_, rfl, h⟩
    · exact t.zip b hb
theorem prs_of {H : Hp} : ∀ {bs : List (V × (Str × Str))}, (∀ b ∈ bs, ∃ a, b.1 = .ref a ∧ Pr H a b.2) → Prs H (bs.map Prod.fst) (bs.map Prod.snd)
  | [], _ => .nil
  | b :: r, h => by
    obtain ⟨a, ea, pa⟩ := h b List.mem_cons_self
    rw [List.map_cons, List.map_cons, ea]
    exact .cons pa (prs_of fun c hc => h c (List.mem_cons_of_mem _ hc))
/-- sorted of the roads: what is asked of them, what comes of it -/
theorem road_parts {K : PySem.W.Frag} {H : Hp} {D : Addr} {rs : List (Str × Str)} (h : RdT H D rs) (hl : rs.length ≤ 1000) : ∃ bs : List (V × (Str × Str)), SqL K H D (bs.map Prod.fst) ∧ (∀ b ∈ bs, Dp K H b.1 (encP b.2) ∧ (encP b.2).depth ≤ 60) ∧
    PySem.W.AllAlike (bs.map fun b => encP b.2) ∧ PySem.W.Sortable (bs.map fun b => encP b.2) ∧ bs.length ≤ sizeLine ∧ ∀ p, H p = none → RdT (upd H p (.lst ((bs.mergeSort (PySem.W.dataLe false fun b : V × (Str × Str) => encP b.2)).map Prod.fst))) p (sortP rs) := by
  obtain ⟨xs, e, t⟩ := h
  have hlen := t.length
  have m1 : (xs.zip rs).map Prod.fst = xs := List.map_fst_zip (Nat.le_of_eq hlen)
  have m2 : (xs.zip rs).map Prod.snd = rs := List.map_snd_zip (Nat.le_of_eq hlen.symm)
  have m3 : (xs.zip rs).map (fun b : V × (Str × Str) => encP b.2) = rs.map encP := by
    have : (fun b : V × (Str × Str) => encP b.2) = encP ∘ Prod.snd := rfl
    rw [this, ← List.map_map, m2]
  refine ⟨xs.zip rs, .inl (.inl (by rw [m1]; exact e)), fun b hb => ⟨?_, ?_⟩, by rw [m3]; exact alike_pairs rs, by rw [m3]; exact sortable_pairs rs, ?_, fun p np => ⟨_, upd_same, ?_⟩⟩
  · obtain ⟨a, ea, pa⟩ := t.zip b hb
    rw [ea]
    exact .tup pa.seq (.cons (.str _) (.cons (.str _) .nil))
  · simp [encP, PyData.depth, PyData.depthAll]
  · rw [List.length_zip, hlen, Nat.min_self]
    unfold sizeLine
    omega
  · have k : ((xs.zip rs).mergeSort (PySem.W.dataLe false fun b : V × (Str × Str) => encP b.2)).map Prod.snd = sortP rs := by
      rw [List.map_mergeSort (f := Prod.snd) (r := PySem.W.dataLe false fun b : V × (Str × Str) => encP b.2) (s := PySem.W.dataLe false encP) fun a _ b _ => rfl, m2]
      rfl
    rw [← k]
    exact (prs_of fun b hb => t.zip b ((List.mergeSort_perm _ _).mem_iff.mp hb)).grow (grow_new (ex := []) np) noFrz_nil
theorem sum_le {m : Nat} : ∀ {ws : List Str}, (∀ w ∈ ws, w.length ≤ m) → (ws.map fun w => w.length).sum ≤ ws.length * m
  | [], _ => Nat.zero_le _
  | x :: r, h => by
    have h1 := h x List.mem_cons_self
    have h2 := sum_le (ws := r) fun w hw => h w (List.mem_cons_of_mem _ hw)
    rw [List.map_cons, List.sum_cons, List.length_cons, Nat.succ_mul]
    omega
section
variable {P : Program} {w : World} {K : PySem.W.Frag} {mg : Str → Option Value} {base : Heap}
def spRowsW (K : PySem.W.Frag) : Sp := fun vs H Q _ => ∃ (W : Addr) (hands : List Str) (roads : List (Str × Str)), vs = [.ref W] ∧ WebAt H W hands roads ∧ WebOk hands roads ∧
  ∀ D H', Fresh H D → Grow [] H H' → H' D = some (.lst ((webRows hands roads).map V.str)) → Q (.ref D) H'
theorem ok_rows_of_web {f c : Addr} {fd : FuncData} (B : Nb mg) (D : DefIs K "rows_of_web" "rows_of_web" st_rows_of_web f fd (.ref c)) : FnG P w K mg base CX0 1 f fd ["web"] (spRowsW K) := by
  refine D.ok0 (k := 0) sc_rows_of_web (fun vs H Q E h => ?_) (fun A outer s H vs Q E g hr h => ?_)
  · obtain ⟨W, hands, roads, rfl, _⟩ := h
    rfl
  obtain ⟨W, hands, roads, rfl, hW, wo, q⟩ := h
  refine ⟨_,
      (pss_cons (ps_asg (pv 0) (pg_tup rfl (pgs_cons (pg_name (i := 1) sc_rows_of_web.nd rfl (.inl rfl)) (pgs_cons (pg_name (i := 2) sc_rows_of_web.nd rfl (.inl rfl)) pgs_nil))))
      (pss_one (ps_ret (pe_op op_cat (pe_lst (pa_cons (pe_bm PySem.F.plainAttrs_str PySem.F.slot_str_join PySem.F.type_str_join mt_join pe_str (pa_cons (pe_callB (cr_sortG (val := V.str) (enc := PyData.str) hr.units) rfl B.n_sorted (by decide +kernel) (pa_cons (pv 1) pa_nil)) pa_nil)) pa_nil)) (pe_lc (own := [("one", 3), ("other", 4)]) (tt := tYes) (g := (gTup _ 2 (gCons (gName 3) (gCons (gName 4) gNil)))) rfl sc_rows_of_web.nd (pi_list (pe_callB (cr_sortG (val := Prod.fst) (enc := fun b : V × (Str × Str) => encP b.2) hr.units) rfl B.n_sorted (by decide +kernel) (pa_cons (pv 2) pa_nil))) (blkOk_by (N := N_rows_of_web) (sc := defScope st_rows_of_web) (by decide +kernel)) (fun _ _ _ _ _ => (pg_tup rfl (pgs_cons (pg_name (i := 3) sc_rows_of_web.nd rfl (.inl rfl)) (pgs_cons (pg_name (i := 4) sc_rows_of_web.nd rfl (.inl rfl)) pgs_nil)))) (fun _ _ _ _ _ => pts_nil) (fun _ _ _ _ _ => pe_to (pe_joinF (PJ.cons (pe_fmt (pv 3)) (PJ.cons pe_str (PJ.cons (pe_fmt (pv 4)) PJ.nil)))))))))), ?_⟩
  obtain ⟨hs, rs, eW, eh, er⟩ := id hW
  have hl := wo.len
  have many := wo.many
  refine ⟨.ref W, rfl, W, _, rfl, .inl (.inl eW), rfl, _, _, rfl, _, _, rfl, rfl, ?_⟩
  refine ⟨rfl, .ref hs, rfl, hs, hands, rfl, .inl (.inl eh), fun z hz => ⟨.str z, by show 0 ≤ 60; decide⟩, alike_strs hands, sortable_strs hands, by unfold sizeLine; omega, fun S nS => ?_⟩
  rw [show hands.mergeSort (PySem.W.dataLe false PyData.str) = sortS hands from rfl]
  have gS : Grow [] H (upd H S (.lst ((sortS hands).map V.str))) := grow_new nS
  have ln : ∀ w ∈ sortS hands, w.length ≤ 8 := fun w hw => (nm_iff.mp (wo.hand ((sortS_perm hands).mem_iff.mp hw))).2.1
  refine ⟨" ", S, sortS hands, rfl, rfl, .inl (.inl (.inl upd_same)), ?_, by show 1 ≤ sizeLine; decide, fun A1 nA1 => ?_⟩
  · have h1 := sum_le ln
    have h2 := (sortS_perm hands).length_eq
    have l1 : Str.length " " = 1 := by decide
    rw [l1]
    omega
  rw [TL.join_eq]
  have gA := gS.new (o := .lst [.str (Str.join " " (sortS hands))]) nA1
  have eA : upd (upd H S (.lst ((sortS hands).map V.str))) A1 (.lst [.str (Str.join " " (sortS hands))]) A1 = some (.lst [.str (Str.join " " (sortS hands))]) := upd_same
  generalize upd (upd H S (HO.lst ((sortS hands).map V.str))) A1 (HO.lst [V.str (Str.join " " (sortS hands))]) = H1 at gA eA ⊢
  obtain ⟨bs, b1, b2, b3, b4, b5, b6⟩ := road_parts (K := K) (er.grow gA noFrz_nil (by simp)) (by omega)
  refine ⟨.ref rs, rfl, rs, bs, rfl, b1, b2, b3, b4, b5, fun S2 nS2 => ?_⟩
  have hS2 := b6 S2 nS2
  have gB := gA.new (o := .lst ((bs.mergeSort (PySem.W.dataLe false fun b : V × (Str × Str) => encP b.2)).map Prod.fst)) nS2
  have eA2 := (grow_new (ex := []) (o := .lst ((bs.mergeSort (PySem.W.dataLe false fun b : V × (Str × Str) => encP b.2)).map Prod.fst)) nS2).lst (by simp) eA
  generalize upd H1 S2 (HO.lst ((bs.mergeSort (PySem.W.dataLe false fun b : V × (Str × Str) => encP b.2)).map Prod.fst)) = H2 at gB eA2 hS2 ⊢
  obtain ⟨xs, eS2, tS⟩ := id hS2
  have lx : xs.length = (sortP roads).length := tS.length
  have lr := (sortP_perm roads).length_eq
  refine ⟨S2, rfl, ⟨xs, .inl (.inl eS2)⟩, fun D1 n1 => ?_⟩
  refine lc_it (walk_list (xs := xs)) (fun j H' => Grow [] H2 H' ∧ H' D1 = some (.lst ((((sortP roads).take j).map rdS).map V.str))) ⟨grow_new n1, upd_same⟩
    (fun j H' _ h => .inl (.inl (h.1.lst (by simp) eS2))) (fun j x H3 H4 hj hp hy => ?_) (fun H3 hp => ?_)
  · obtain ⟨gj, eD⟩ := hp
    obtain ⟨rfl, ex⟩ := hy
    obtain ⟨a, r, rfl, er', pr⟩ := tS.get ex
    have pr4 := pr.grow gj (by simp)
    have nm := wo.road ((sortP_perm roads).mem_iff.mp (List.mem_of_getElem? er'))
    have n1' := (nm_iff.mp nm.1).2.1
    have n2' := (nm_iff.mp nm.2).2.1
    have l1 : Str.length "-" = 1 := by decide
    refine ⟨a, _, rfl, pr4.seq, rfl, _, _, rfl, _, _, rfl, rfl, rfl, yes_if ?_⟩
    refine ⟨.str r.1, rfl, .inl ⟨r.1, rfl, by unfold sizeLine; omega, r.1, rfl, by rw [empty_app]; unfold sizeLine; omega, "-", rfl, by rw [empty_app, app_len, l1]; unfold sizeLine; omega, .str r.2, rfl, .inl ⟨r.2, rfl, by unfold sizeLine; omega, r.2, rfl, by rw [empty_app, app_len, app_len, l1]; unfold sizeLine; omega, _, eD, ?_, gj.put (fresh_none n1) eD (fun ps z => by cases z), ?_⟩⟩⟩
    · rw [List.length_map, List.length_map, List.length_take]
      unfold sizeLine
      omega
    · rw [upd_same, empty_app, List.take_add_one, er', Option.toList_some, List.map_append, List.map_append]
      rfl
  · obtain ⟨gj, eD⟩ := hp
    rw [lx, List.take_length] at eD
    refine ⟨A1, D1, _, _, rfl, rfl, gj.lst (by simp) eA2, eD, by rw [List.length_map, List.length_map]; show 1 + _ ≤ sizeLine; unfold sizeLine; omega, fun Z nZ => ?_⟩
    exact q Z _ ((gB.trans gj).fresh (by simp) (fresh_none nZ)) ((gB.trans gj).new nZ) upd_same
end

end Lw

namespace Lw
open PySem PySem.Spec PyProof.Rows L2 GxR Gx
/-! ### webs written, read -/
section
variable {P : Program} {w : World} {K : PySem.W.Frag} {mg : Str → Option Value} {base : Heap}
def spRowsIn (K : PySem.W.Frag) : Sp := fun vs H Q _ => ∃ (t : Str), vs = [.str t] ∧ t.length ≤ 10000000 ∧ ∀ D, H D = none → Q (.ref D) (upd H D (.lst ((Txt.split t nlS).map V.str)))
theorem ok_rows_in {f c : Addr} {fd : FuncData} (B : Nb mg) (D : DefIs K "rows_in" "rows_in" st_rows_in f fd (.ref c)) : FnG P w K mg base CX0 1 f fd ["text"] (spRowsIn K) := by
  refine D.ok0 (k := 0) sc_rows_in (fun vs H Q E h => ?_) (fun A outer s H vs Q E g hr h => ?_)
  · obtain ⟨t, rfl, _⟩ := h
    rfl
  obtain ⟨t, rfl, ht, q⟩ := h
  refine ⟨_,
      (pss_cons (ps_if (pt_cmpR (op_notTyB) (pe_callTy call_type1 rfl B.n_type (by decide +kernel) (pa_cons (pv 0) pa_nil)) (pe_bltn (v := .ty "str") rfl B.n_str (by decide +kernel) rfl) (nomark _)) (
        (pss_one ps_dead)) pss_nil)
      (pss_one (ps_ret (pe_bm PySem.F.plainAttrs_str PySem.F.slot_str_split PySem.F.type_str_split mt_split (pv 0) (pa_cons pe_str pa_nil))))), ?_⟩
  exact ⟨.str t, rfl, _, "str", rfl, .str t, "str", "str", rfl, rfl, _, rfl, iteF ⟨.str t, rfl, rfl, t, nlS, rfl, rfl, by decide, by unfold sizeLine; omega, fun p np => q p np⟩⟩
/-- a web that is new, with its two lists -/
def WebNew (H H' : Hp) (W : Addr) (hands : List Str) (roads : List (Str × Str)) : Prop := ∃ hs rs, Fresh H hs ∧ Fresh H rs ∧ H' W = some (.tup [.ref hs, .ref rs]) ∧ H' hs = some (.lst (hands.map V.str)) ∧ RdT H' rs roads
theorem WebNew.at_ {H H' : Hp} {W : Addr} {hands : List Str} {roads : List (Str × Str)} (h : WebNew H H' W hands roads) : WebAt H' W hands roads := by
  obtain ⟨hs, rs, _, _, h1, h2, h3⟩ := h
  exact ⟨hs, rs, h1, h2, h3⟩
theorem WebNew.grow {H0 H H1 H' : Hp} {W : Addr} {hands : List Str} {roads : List (Str × Str)} (h : WebNew H H1 W hands roads) (g0 : Grow [] H0 H) (g : Grow [] H1 H') : WebNew H0 H' W hands roads := by
  obtain ⟨hs, rs, f1, f2, h1, h2, h3⟩ := h
  exact ⟨hs, rs, g0.fresh (by simp) f1, g0.fresh (by simp) f2, g.tup (by simp) h1, g.lst (by simp) h2, h3.grow g noFrz_nil (by simp)⟩
def spWebIn (K : PySem.W.Frag) : Sp := fun vs H Q _ => ∃ (R : Addr) (hands : List Str) (roads : List (Str × Str)), vs = [.ref R] ∧ H R = some (.lst ((webRows hands roads).map V.str)) ∧ WebOk hands roads ∧
  ∀ W H', Fresh H W → Grow [] H H' → WebNew H H' W (sortS hands) (sortP roads) → Q (.ref W) H'
theorem ok_web_in {f c : Addr} {fd : FuncData} (B : Nb mg) (D : DefIs K "web_in" "web_in" st_web_in f fd (.ref c)) : FnG P w K mg base CX0 1 f fd ["rows"] (spWebIn K) := by
  refine D.ok0 (k := 0) sc_web_in (fun vs H Q E h => ?_) (fun A outer s H vs Q E g hr h => ?_)
  · obtain ⟨R, hands, roads, rfl, _⟩ := h
    rfl
  obtain ⟨R, hands, roads, rfl, eR, wo, q⟩ := h
  refine ⟨_,
      (pss_one (ps_ret (pe_tup (pa_cons (pe_bm PySem.F.plainAttrs_str PySem.F.slot_str_split PySem.F.type_str_split mt_split (pe_ix ix_list (pv 0) pe_int (fun _ _ => rfl)) (pa_cons pe_str pa_nil)) (pa_cons (pe_lc (own := [("row", 1)]) (tt := tYes) (g := (gName 1)) rfl sc_web_in.nd (pi_list (pe_slice sl_list (pv 0) (po_some pe_int) po_none)) (blkOk_by (N := N_web_in) (sc := defScope st_web_in) (by decide +kernel)) (fun _ _ _ _ _ => (pg_name (i := 1) sc_web_in.nd rfl (.inl rfl))) (fun _ _ _ _ _ => pts_nil) (fun _ _ _ _ _ => pe_to (pe_callTy call_tupleF rfl B.n_tuple (by decide +kernel) (pa_cons (pe_bm PySem.F.plainAttrs_str PySem.F.slot_str_split PySem.F.type_str_split mt_split (pv 1) (pa_cons pe_str pa_nil)) pa_nil)))) pa_nil))))), ?_⟩
  have hl := wo.len
  have many := wo.many
  have lr := (sortP_perm roads).length_eq
  have l0 := (webRows_lacks wo _ (show Str.join spS (sortS hands) ∈ webRows hands roads from List.mem_cons_self)).2.2
  refine ⟨.ref R, rfl, R, _, 0, .str (Str.join spS (sortS hands)), rfl, rfl, .inl (.inl eR), atI_nat (j := 0) rfl, rfl, Str.join spS (sortS hands), spS, rfl, rfl, by decide, by unfold sizeLine; omega, fun S nS => ?_⟩
  rw [hands_split wo]
  have gS : Grow [] H (upd H S (.lst ((sortS hands).map V.str))) := grow_new nS
  have eS : upd H S (.lst ((sortS hands).map V.str)) S = some (.lst ((sortS hands).map V.str)) := upd_same
  generalize upd H S (HO.lst ((sortS hands).map V.str)) = H1 at gS eS ⊢
  refine ⟨.ref R, rfl, 1, rfl, R, _, rfl, .inl (.inl (gS.lst (by simp) eR)), fun L nL => ?_⟩
  have c1 : cutV ((webRows hands roads).map V.str) (some 1) none = ((sortP roads).map rdS).map V.str := by
    rw [show (1 : Int) = ((1 : Nat) : Int) from rfl, cut_lo, ← List.map_drop]
    rfl
  rw [c1]
  have gL := gS.new (o := .lst (((sortP roads).map rdS).map V.str)) nL
  have eL : upd H1 L (.lst (((sortP roads).map rdS).map V.str)) L = some (.lst (((sortP roads).map rdS).map V.str)) := upd_same
  have eS2 := (grow_new (ex := []) (o := .lst (((sortP roads).map rdS).map V.str)) nL).lst (by simp) eS
  generalize upd H1 L (HO.lst (((sortP roads).map rdS).map V.str)) = H2 at gL eL eS2 ⊢
  refine ⟨L, rfl, ⟨_, .inl (.inl eL)⟩, fun D1 n1 => ?_⟩
  refine lc_it (walk_list (xs := ((sortP roads).map rdS).map V.str)) (fun j H' => Grow [] H2 H' ∧ RdT H' D1 ((sortP roads).take j)) ⟨grow_new n1, [], upd_same, .nil⟩
    (fun j H' _ h => .inl (.inl (h.1.lst (by simp) eL))) (fun j x H3 H4 hj hp hy => ?_) (fun H3 hp => ?_)
  · obtain ⟨gj, hD⟩ := hp
    obtain ⟨rfl, ex⟩ := hy
    rw [List.length_map, List.length_map] at hj
    rw [List.getElem?_map, List.getElem?_map] at ex
    cases er : (sortP roads)[j]? with
    | none => rw [er] at ex; cases ex
    | some r =>
      rw [er] at ex
      cases ex
      have nm := wo.road ((sortP_perm roads).mem_iff.mp (List.mem_of_getElem? er))
      have l17 := rdS_len nm
      refine ⟨rfl, yes_if ⟨.str (rdS r), rfl, rfl, rdS r, daS, rfl, rfl, by decide, by unfold sizeLine; omega, fun Z nZ => ?_⟩⟩
      rw [rdS_split nm]
      refine ⟨Z, _, rfl, .inl (.inl upd_same), fun T To nT dT => ?_⟩
      have gk : Grow [] H4 (upd (upd H4 Z (.lst ([r.1, r.2].map V.str))) T (.frz To (.tup ([r.1, r.2].map V.str)))) := (grow_new nZ).new nT
      have pT : Pr (upd (upd H4 Z (.lst ([r.1, r.2].map V.str))) T (.frz To (.tup ([r.1, r.2].map V.str)))) T r := ⟨To, upd_same, dT⟩
      obtain ⟨xs, eD, tD⟩ := hD.grow gk noFrz_nil (by simp)
      have lx : xs.length ≤ 200 := by rw [tD.length, List.length_take]; omega
      have gP := grow_at (ex := [D1]) (o := .lst (xs ++ [.ref T])) eD (fun ps z => by cases z) (by simp)
      refine ⟨xs, eD, by unfold sizeLine; omega, (gj.trans gk).put (fresh_none n1) eD (fun ps z => by cases z), _, upd_same, ?_⟩
      rw [List.take_add_one, er, Option.toList_some]
      exact (tD.app (.cons pT .nil)).grow gP (noFrz_lst eD)
  · obtain ⟨gj, hD⟩ := hp
    rw [List.length_map, List.length_map, List.take_length] at hD
    refine ⟨by show 2 ≤ sizeLine; decide, fun W nW => ?_⟩
    have gW : Grow [] H3 (upd H3 W (.tup [.ref S, .ref D1])) := grow_new nW
    exact q W _ ((gL.trans gj).fresh (by simp) (fresh_none nW)) ((gL.trans gj).trans gW) ⟨S, D1, fresh_none nS, (gL).fresh (by simp) (fresh_none n1), upd_same, (gj.trans gW).lst (by simp) eS2, hD.grow gW noFrz_nil (by simp)⟩
end

/-! ### books written, read -/
def bookText (zs : List Str) : Str := if zs = [] then daS else Str.join spS zs
theorem bookText_len {zs : List Str} (b : Bk zs) : (bookText zs).length ≤ 10000 := by
  unfold bookText
  split
  · decide
  · have this_ := join_len spS 8 (ws := zs) fun x hx => (nm_iff.mp (List.all_eq_true.mp b.nm x hx)).2.1
    have l1 : spS.length = 1 := by decide
    have := b.len
    rw [l1] at this_
    omega
theorem book_split {zs : List Str} (b : Bk zs) (h : zs ≠ []) : Txt.split (Str.join spS zs) spS = zs := split_sp h fun x hx => nm_lacks (List.all_eq_true.mp b.nm x hx) (.inl (by decide))
theorem join_not_da {zs : List Str} (b : Bk zs) (h : zs ≠ []) : Str.join spS zs ≠ daS := fun e => by
  have h1 := book_split b h
  rw [e, show Txt.split daS spS = [daS] from (split_sp (parts := [daS]) (by simp) fun p hp => by rw [List.mem_singleton.mp hp]; unfold Lacks; decide +kernel)] at h1
  have : isNm daS = true := List.all_eq_true.mp b.nm daS (by rw [← h1]; exact List.mem_cons_self)
  exact absurd this (by decide +kernel)
theorem bookText_inj {zs ws : List Str} (b : Bk zs) (b' : Bk ws) (e : bookText zs = bookText ws) : zs = ws := by
  unfold bookText at e
  by_cases h : zs = []
  · by_cases k : ws = []
    · rw [h, k]
    · rw [if_pos h, if_neg k] at e
      exact absurd e.symm (join_not_da b' k)
  · by_cases k : ws = []
    · rw [if_neg h, if_pos k] at e
      exact absurd e (join_not_da b h)
    · rw [if_neg h, if_neg k] at e
      rw [← book_split b h, e, book_split b' k]
section
variable {P : Program} {w : World} {K : PySem.W.Frag} {mg : Str → Option Value} {base : Heap}
def spRowB (K : PySem.W.Frag) : Sp := fun vs H Q _ => ∃ (l : Addr) (zs : List Str), vs = [.ref l] ∧ H l = some (.lst (zs.map V.str)) ∧ Bk zs ∧ Q (.str (bookText zs)) H
theorem ok_row_of_book {f c : Addr} {fd : FuncData} (B : Nb mg) (D : DefIs K "row_of_book" "row_of_book" st_row_of_book f fd (.ref c)) : FnG P w K mg base CX0 1 f fd ["book"] (spRowB K) := by
  refine D.ok0 (k := 0) sc_row_of_book (fun vs H Q E h => ?_) (fun A outer s H vs Q E g hr h => ?_)
  · obtain ⟨l, zs, rfl, _⟩ := h
    rfl
  obtain ⟨l, zs, rfl, el, bz, q⟩ := h
  refine ⟨_,
      (pss_one (ps_ret (pe_ifExp (pt_truth (pv 0) (fun _ => rfl)) (pe_bm PySem.F.plainAttrs_str PySem.F.slot_str_join PySem.F.type_str_join mt_join pe_str (pa_cons (pv 0) pa_nil)) pe_str))), ?_⟩
  have hl := bz.len
  unfold bookText at q
  cases zs with
  | nil => exact ⟨.ref l, rfl, false, .inl ⟨_, .inl (.inl el), rfl⟩, iteF q⟩
  | cons z zs =>
    rw [if_neg (by simp)] at q
    refine ⟨.ref l, rfl, true, .inl ⟨_, .inl (.inl el), rfl⟩, iteT ⟨rfl, .ref l, rfl, spS, l, z :: zs, rfl, rfl, .inl (.inl (.inl el)), ?_, ?_⟩⟩
    · have h1 := sum_le (m := 8) (ws := z :: zs) fun x hx => (nm_iff.mp (List.all_eq_true.mp bz.nm x hx)).2.1
      have l1 : spS.length = 1 := by decide
      rw [l1]
      omega
    · rw [TL.join_eq]
      exact q
def spBookIn (K : PySem.W.Frag) : Sp := fun vs H Q _ => ∃ (zs : List Str), vs = [.str (bookText zs)] ∧ Bk zs ∧ ∀ D, H D = none → Q (.ref D) (upd H D (.lst (zs.map V.str)))
theorem ok_book_in {f c : Addr} {fd : FuncData} (B : Nb mg) (D : DefIs K "book_in" "book_in" st_book_in f fd (.ref c)) : FnG P w K mg base CX0 1 f fd ["row"] (spBookIn K) := by
  refine D.ok0 (k := 0) sc_book_in (fun vs H Q E h => ?_) (fun A outer s H vs Q E g hr h => ?_)
  · obtain ⟨zs, rfl, _⟩ := h
    rfl
  obtain ⟨zs, rfl, bz, q⟩ := h
  refine ⟨_,
      (pss_one (ps_ret (pe_ifExp (pt_cmpR (op_eq) (pv 0) pe_str (nomark _)) (pe_lst pa_nil) (pe_bm PySem.F.plainAttrs_str PySem.F.slot_str_split PySem.F.type_str_split mt_split (pv 0) (pa_cons pe_str pa_nil))))), ?_⟩
  have tl := bookText_len bz
  refine ⟨.str (bookText zs), rfl, rfl, _, rfl, ?_⟩
  by_cases h : zs = []
  · subst h
    refine iteT ⟨by show 0 ≤ sizeLine; decide, fun p np => q p np⟩
  · have e : bookText zs = Str.join spS zs := if_neg h
    rw [show decide (V.str (bookText zs) = V.str "-") = false from decide_eq_false fun z => join_not_da bz h (by rw [← e]; exact V.str.inj z)]
    refine iteF ⟨.str (bookText zs), rfl, rfl, bookText zs, spS, rfl, rfl, by decide, by unfold sizeLine; omega, fun p np => ?_⟩
    rw [e, book_split bz h]
    exact q p np
end

end Lw

namespace Lw
open PySem PySem.Spec PyProof.Rows L2 GxR Gx
/-! ### what is drawn from, beside other objects -/
theorem Pot.other {H : Hp} {p D : Addr} {c : Int} (h : Pot H p c) (f : Fresh H D) : D ≠ p := by
  obtain ⟨a, b, k, e, _⟩ := h
  exact (f.ne e (fun ps z => by cases z)).symm
theorem Pot.lists {H : Hp} {p : Addr} {c : Int} (h : Pot H p c) : Lists [p] H := by
  obtain ⟨a, b, k, e, _⟩ := h
  exact lists_one e

section
variable {P : Program} {w : World} {K : PySem.W.Frag} {mg : Str → Option Value} {base : Heap}
theorem line_at {ws : List Str} {b w : Str} {i : Nat} (nw : ∀ x ∈ ws, x ≠ Str.empty) (e : ws[i]? = some w) :
    ∃ z : Str, atI [V.str b, V.str ""] (if decide (V.str (Str.join b (ws.take i)) = V.str "") = true then 1 else 0) = some (.str z) ∧ z.length ≤ b.length ∧ (Str.join b (ws.take i) ++ z) ++ w = Str.join b (ws.take (i + 1)) := by
  cases i with
  | zero =>
    refine ⟨Str.empty, rfl, Nat.zero_le _, ?_⟩
    rw [List.take_add_one, e]
    show (Str.empty ++ Str.empty) ++ w = w
    rw [app_empty, empty_app]
  | succ i =>
    have hi := (List.getElem?_eq_some_iff.mp e).1
    have ne : ws.take (i + 1) ≠ [] := fun z => by
      have := congrArg List.length z
      rw [List.length_take, List.length_nil] at this
      omega
    have nj : Str.join b (ws.take (i + 1)) ≠ Str.empty := join_ne ne fun x hx => nw x (List.mem_of_mem_take hx)
    refine ⟨b, ?_, Nat.le_refl _, ?_⟩
    · have e0 : decide (V.str (Str.join b (ws.take (i + 1))) = V.str "") = false := decide_eq_false fun z => nj (V.str.inj z)
      rw [e0]
      rfl
    · rw [List.take_add_one (i := i + 1), e, Option.toList_some, join_snoc b w ne]
def spLine (K : PySem.W.Frag) : Sp := fun vs H Q _ => ∃ (a : Addr) (ws : List Str) (b : Str), vs = [.ref a, .str b] ∧ (SqL K H a (ws.map V.str) ∨ SqT K H a (ws.map V.str)) ∧ ws.length ≤ 200 ∧ (∀ x ∈ ws, x ≠ Str.empty ∧ x.length ≤ 10000) ∧ b.length ≤ 10 ∧ ∀ H', Grow [] H H' → Q (.str (Str.join b ws)) H'
theorem ok_law_line {f c : Addr} {fd : FuncData} (B : Nb mg) (D : DefIs K "_law_line" "_law_line" st_law_line f fd (.ref c)) : FnG P w K mg base CX0 1 f fd ["words", "between"] (spLine K) := by
  refine D.ok0 (k := 0) sc_law_line (fun vs H Q E h => ?_) (fun A outer s H vs Q E g hr h => ?_)
  · obtain ⟨a, ws, b, rfl, _⟩ := h
    rfl
  obtain ⟨a, ws, b, rfl, sq, lw, nw, lb, q⟩ := h
  rcases sq with sq | sq
  · refine ⟨_,
      (pss_cons (ps_set (i := 2) sc_law_line.nd rfl (.inl rfl) pe_str)
      (pss_cons (ps_for PassesOwn.never rfl (pi_list (pv 0)) (pg_name (i := 3) sc_law_line.nd rfl (.inl rfl)) (
        (pss_one (ps_set (i := 2) sc_law_line.nd rfl (.inl rfl) (pe_op op_add_str (pe_op op_add_str (pv 2) (pe_ix ix_list (pe_lst (pa_cons (pv 1) (pa_cons pe_str pa_nil))) (pe_callTy call_int1 rfl B.n_int (by decide +kernel) (pa_cons (pe_cmpR (op_eq) (pv 2) pe_str (nomark _)) pa_nil)) (fun _ _ => rfl))) (pv 3))))))
      (pss_one (ps_ret (pv 2))))), ?_⟩
    refine ⟨.ref a, rfl, a, rfl, ⟨_, sq⟩, ?_⟩
    refine for_it (walk_list (xs := ws.map V.str)) (fun i σ H' => ∃ x : Option V, σ = [some (.ref a), some (.str b), some (.str (Str.join b (ws.take i))), x] ∧ Grow [] H H') ⟨none, rfl, Grow.refl _ _⟩ (fun i σ H' _ h => by obtain ⟨_, _, g2⟩ := h; exact g2.seq0 sq) (fun i x σ H2 H3 hi hp hy => ?_) (fun σ H2 hp => ?_)
    · obtain ⟨x0, rfl, g2⟩ := hp
      obtain ⟨rfl, ex⟩ := hy
      rw [List.getElem?_map] at ex
      cases er : ws[i]? with
      | none => rw [er] at ex; cases ex
      | some w =>
        rw [er] at ex
        cases ex
        obtain ⟨z, ez, lz, ej⟩ := line_at (b := b) (fun x hx => (nw x hx).1) er
        have lj := join_len b 10000 (ws := ws.take i) fun x hx => (nw x (List.mem_of_mem_take hx)).2
        have lt : (ws.take i).length ≤ 200 := by rw [List.length_take]; omega
        have lj2 : (Str.join b (ws.take i)).length ≤ 3000000 := by
          have := Nat.mul_le_mul lt (show 10000 + b.length ≤ 10010 by omega)
          omega
        have lw1 := (nw w (List.mem_of_getElem? er)).2
        refine ⟨.str (Str.join b (ws.take i)), rfl, .str b, rfl, by show 2 ≤ sizeLine; decide, fun L nL => ?_⟩
        refine ⟨.str (Str.join b (ws.take i)), rfl, rfl, .inr ⟨_, rfl, L, _, _, _, rfl, rfl, .inl (.inl upd_same), ez, _, _, rfl, rfl, by unfold sizeLine; omega, .str w, rfl, _, _, rfl, rfl, by rw [app_len]; unfold sizeLine; omega, ?_⟩⟩
        rw [ej]
        exact ⟨_, rfl, g2.new nL⟩
    · obtain ⟨x0, rfl, g2⟩ := hp
      rw [List.length_map, List.take_length]
      exact ⟨_, rfl, q H2 g2⟩
  · refine ⟨_,
      (pss_cons (ps_set (i := 2) sc_law_line.nd rfl (.inl rfl) pe_str)
      (pss_cons (ps_for PassesOwn.never rfl (pi_tup (pv 0)) (pg_name (i := 3) sc_law_line.nd rfl (.inl rfl)) (
        (pss_one (ps_set (i := 2) sc_law_line.nd rfl (.inl rfl) (pe_op op_add_str (pe_op op_add_str (pv 2) (pe_ix ix_list (pe_lst (pa_cons (pv 1) (pa_cons pe_str pa_nil))) (pe_callTy call_int1 rfl B.n_int (by decide +kernel) (pa_cons (pe_cmpR (op_eq) (pv 2) pe_str (nomark _)) pa_nil)) (fun _ _ => rfl))) (pv 3))))))
      (pss_one (ps_ret (pv 2))))), ?_⟩
    have sqT : ∀ {H2 : Hp}, Grow [] H H2 → SqT K H2 a (ws.map V.str) := fun g2 => by
      rcases sq with e | o
      · exact .inl (e.elim (fun e => .inl (g2.tup (by simp) e)) fun ⟨o, e⟩ => .inr ⟨o, g2.keep _ _ (by simp) e fun ps z => by cases z⟩)
      · exact .inr o
    refine ⟨.ref a, rfl, a, rfl, ⟨_, sq⟩, ?_⟩
    refine for_it (walk_tup (xs := ws.map V.str)) (fun i σ H' => ∃ x : Option V, σ = [some (.ref a), some (.str b), some (.str (Str.join b (ws.take i))), x] ∧ Grow [] H H') ⟨none, rfl, Grow.refl _ _⟩ (fun i σ H' _ h => by obtain ⟨_, _, g2⟩ := h; exact sqT g2) (fun i x σ H2 H3 hi hp hy => ?_) (fun σ H2 hp => ?_)
    · obtain ⟨x0, rfl, g2⟩ := hp
      obtain ⟨rfl, ex⟩ := hy
      rw [List.getElem?_map] at ex
      cases er : ws[i]? with
      | none => rw [er] at ex; cases ex
      | some w =>
        rw [er] at ex
        cases ex
        obtain ⟨z, ez, lz, ej⟩ := line_at (b := b) (fun x hx => (nw x hx).1) er
        have lj := join_len b 10000 (ws := ws.take i) fun x hx => (nw x (List.mem_of_mem_take hx)).2
        have lt : (ws.take i).length ≤ 200 := by rw [List.length_take]; omega
        have lj2 : (Str.join b (ws.take i)).length ≤ 3000000 := by
          have := Nat.mul_le_mul lt (show 10000 + b.length ≤ 10010 by omega)
          omega
        have lw1 := (nw w (List.mem_of_getElem? er)).2
        refine ⟨.str (Str.join b (ws.take i)), rfl, .str b, rfl, by show 2 ≤ sizeLine; decide, fun L nL => ?_⟩
        refine ⟨.str (Str.join b (ws.take i)), rfl, rfl, .inr ⟨_, rfl, L, _, _, _, rfl, rfl, .inl (.inl upd_same), ez, _, _, rfl, rfl, by unfold sizeLine; omega, .str w, rfl, _, _, rfl, rfl, by rw [app_len]; unfold sizeLine; omega, ?_⟩⟩
        rw [ej]
        exact ⟨_, rfl, g2.new nL⟩
    · obtain ⟨x0, rfl, g2⟩ := hp
      rw [List.length_map, List.take_length]
      exact ⟨_, rfl, q H2 g2⟩
def spBookT (K : PySem.W.Frag) : Sp := fun vs H Q _ => ∃ (l : Addr) (zs : List Str), vs = [.ref l] ∧ H l = some (.lst (zs.map V.str)) ∧ Bk zs ∧ ∀ H', Grow [] H H' → Q (.str (bookText zs)) H'
theorem ok_law_book_text {f c : Addr} {fd : FuncData} (D : DefIs K "_law_book_text" "_law_book_text" st_law_book_text f fd (.ref c))
    (c_law_line : Callee P w K mg base CX0 1 "_law_line" ["words", "between"] (spLine K)) : FnG P w K mg base CX0 2 f fd ["book"] (spBookT K) := by
  refine D.ok0 (k := 1) sc_law_book_text (fun vs H Q E h => ?_) (fun A outer s H vs Q E g hr h => ?_)
  · obtain ⟨l, zs, rfl, _⟩ := h
    rfl
  obtain ⟨l, zs, rfl, el, bz, q⟩ := h
  refine ⟨_,
      (pss_one (ps_ret (pe_ifExp (pt_cmpR (op_eqD hr.units) (pv 0) (pe_lst pa_nil) (nomark _)) pe_str (pe_g c_law_line g (hr.mono (by decide)) pass0 (pa_cons (pv 0) (pa_cons pe_str pa_nil)))))), ?_⟩
  refine ⟨.ref l, rfl, by show 0 ≤ sizeLine; decide, fun p np => ?_⟩
  have g1 : Grow [] H (upd H p (.lst [])) := grow_new np
  have ep : upd H p (.lst []) p = some (.lst []) := upd_same
  generalize upd H p (HO.lst []) = H1 at g1 ep ⊢
  have f : Fine (.list (zs.map PyData.str)) 1 2000 := Fine.list (n := 0) (m := 8) (fun x hx => by
    obtain ⟨z, hz, rfl⟩ := List.mem_map.mp hx
    exact bz.fine hz) (by rw [List.length_map]; have := bz.len; omega)
  refine ⟨_, _, dp_book (.inl (.inl (g1.lst (by simp) el))), dp_book (xs := []) (.inl (.inl ep)), f.shaped (by decide), by decide, _, rfl, ?_⟩
  cases zs with
  | nil =>
    rw [show PyData.eqv (.list (([] : List Str).map PyData.str)) (.list (([] : List Str).map PyData.str)) = true from by simp [PyData.eqv, PyData.eqvAll]]
    exact iteT (q H1 g1)
  | cons z zs =>
    rw [show PyData.eqv (.list ((z :: zs).map PyData.str)) (.list (([] : List Str).map PyData.str)) = false from by simp [PyData.eqv, PyData.eqvAll]]
    refine iteF ⟨.ref l, rfl, l, z :: zs, spS, rfl, .inl (.inl (.inl (g1.lst (by simp) el))), bz.len, fun x hx => ?_, by decide, fun H2 g2 => ?_⟩
    · have nx := List.all_eq_true.mp bz.nm x hx
      exact ⟨nm_ne nx, by have := (nm_iff.mp nx).2.1; omega⟩
    · have q2 := q H2 (g1.trans g2)
      unfold bookText at q2
      rw [if_neg (by simp)] at q2
      exact q2
end

/-! ### webs as data -/
theorem fine_mono {d : PyData} {n m n' m' : Nat} (f : Fine d n m) (h1 : n ≤ n') (h2 : m ≤ m') : Fine d n' m' := ⟨f.lay, f.show_, f.nod, f.leaves, Nat.le_trans f.deep h1, Nat.le_trans f.bulk h2⟩
theorem fine_roads {hs : List Str} {roads : List (Str × Str)} (w : WebOk hs roads) : Fine (.list (roads.map encP)) 2 3800 := Fine.list (n := 1) (m := 18) (fun d hd => by
  obtain ⟨r, hr, rfl⟩ := List.mem_map.mp hd
  obtain ⟨h1, h2, _⟩ := w.ends r hr
  refine Fine.tuple (n := 0) (m := 8) (fun d hd => ?_) (Nat.le_refl _)
  rcases List.mem_cons.mp hd with rfl | hd
  · exact fine_name (List.all_eq_true.mp w.nm _ h1)
  · rw [List.mem_singleton.mp hd]
    exact fine_name (List.all_eq_true.mp w.nm _ h2)) (by
  rw [List.length_map]
  have := w.many
  have := w.len
  omega)
def webD (hs : List Str) (roads : List (Str × Str)) : PyData := .tuple [.list (hs.map PyData.str), .list (roads.map encP)]
theorem fine_web {hs : List Str} {roads : List (Str × Str)} (w : WebOk hs roads) : Fine (webD hs roads) 3 8000 := Fine.tuple (n := 2) (m := 3800) (fun d hd => by
  rcases List.mem_cons.mp hd with rfl | hd
  · exact fine_mono (fine_names w.nm w.len) (by decide) (by decide)
  · rw [List.mem_singleton.mp hd]
    exact fine_roads w) (by show 2 * 3801 ≤ 8000; decide)
theorem WebAt.dp {K : PySem.W.Frag} {H : Hp} {W : Addr} {hs : List Str} {roads : List (Str × Str)} (h : WebAt H W hs roads) : Dp K H (.ref W) (webD hs roads) := by
  obtain ⟨a, b, h1, h2, h3⟩ := h
  exact .tup (.inl (.inl h1)) (.cons (dp_book (.inl (.inl h2))) (.cons h3.dp .nil))
/-! ### equal data -/
theorem eqvAll_map {α : Type} [DecidableEq α] {e : α → PyData} (h : ∀ a b, PyData.eqv (e a) (e b) = decide (a = b)) : ∀ xs ys : List α, PyData.eqvAll (xs.map e) (ys.map e) = decide (xs = ys)
  | [], [] => rfl
  | [], _ :: _ => rfl
  | _ :: _, [] => rfl
  | x :: xs, y :: ys => by
    show (PyData.eqv (e x) (e y) && PyData.eqvAll (xs.map e) (ys.map e)) = _
    rw [h, eqvAll_map h xs ys, ← Bool.decide_and]
    exact decide_eq_decide.mpr ⟨fun z => by rw [z.1, z.2], fun z => by cases z; exact ⟨rfl, rfl⟩⟩
theorem eqv_str (a b : Str) : PyData.eqv (.str a) (.str b) = decide (a = b) := by
  show (a == b) = decide (a = b)
  by_cases h : a = b
  · rw [h, decide_eq_true rfl]
    exact beq_self_eq_true b
  · rw [decide_eq_false h]
    exact beq_eq_false_iff_ne.mpr h
theorem eqv_pair (a b : Str × Str) : PyData.eqv (encP a) (encP b) = decide (a = b) := by
  show (PyData.eqv (.str a.1) (.str b.1) && (PyData.eqv (.str a.2) (.str b.2) && true)) = _
  rw [eqv_str, eqv_str, Bool.and_true, ← Bool.decide_and]
  exact decide_eq_decide.mpr ⟨fun z => Prod.ext z.1 z.2, fun z => by rw [z]; exact ⟨rfl, rfl⟩⟩
theorem eqv_web (a c : List Str) (b d : List (Str × Str)) : PyData.eqv (webD a b) (webD c d) = decide (a = c ∧ b = d) := by
  show (PyData.eqvAll (a.map PyData.str) (c.map PyData.str) && (PyData.eqvAll (b.map encP) (d.map encP) && true)) = _
  rw [eqvAll_map eqv_str, eqvAll_map eqv_pair, Bool.and_true, ← Bool.decide_and]

section
variable {P : Program} {w : World} {K : PySem.W.Frag} {mg : Str → Option Value} {base : Heap}
def spRowsL (K : PySem.W.Frag) : Sp := fun vs H Q _ => ∃ (W : Addr) (hands : List Str) (roads : List (Str × Str)), vs = [.ref W] ∧ WebAt H W hands roads ∧ WebOk hands roads ∧
  ∀ D H', Fresh H D → Grow [] H H' → H' D = some (.lst ((webRows hands roads).map V.str)) → Q (.ref D) H'
theorem ok_law_web_rows {f c : Addr} {fd : FuncData} (B : Nb mg) (D : DefIs K "_law_web_rows" "_law_web_rows" st_law_web_rows f fd (.ref c))
    (c_law_line : Callee P w K mg base CX0 1 "_law_line" ["words", "between"] (spLine K)) : FnG P w K mg base CX0 2 f fd ["web"] (spRowsL K) := by
  refine D.ok0 (k := 1) sc_law_web_rows (fun vs H Q E h => ?_) (fun A outer s H vs Q E g hr h => ?_)
  · obtain ⟨W, hands, roads, rfl, _⟩ := h
    rfl
  obtain ⟨W, hands, roads, rfl, hW, wo, q⟩ := h
  refine ⟨_,
      (pss_one (ps_ret (pe_op op_cat (pe_lst (pa_cons (pe_g c_law_line g (hr.mono (by decide)) pass0 (pa_cons (pe_callB (cr_sortG (val := V.str) (enc := PyData.str) hr.units) rfl B.n_sorted (by decide +kernel) (pa_cons (pe_ix ix_tup (pv 0) pe_int (fun _ _ => rfl)) pa_nil)) (pa_cons pe_str pa_nil))) pa_nil)) (pe_lc (own := [("one", 1), ("other", 2)]) (tt := tYes) (g := (gTup _ 2 (gCons (gName 1) (gCons (gName 2) gNil)))) rfl sc_law_web_rows.nd (pi_list (pe_callB (cr_sortG (val := Prod.fst) (enc := fun b : V × (Str × Str) => encP b.2) hr.units) rfl B.n_sorted (by decide +kernel) (pa_cons (pe_ix ix_tup (pv 0) pe_int (fun _ _ => rfl)) pa_nil))) (blkOk_by (N := N_law_web_rows) (sc := defScope st_law_web_rows) (by decide +kernel)) (fun _ _ _ _ _ => (pg_tup rfl (pgs_cons (pg_name (i := 1) sc_law_web_rows.nd rfl (.inl rfl)) (pgs_cons (pg_name (i := 2) sc_law_web_rows.nd rfl (.inl rfl)) pgs_nil)))) (fun _ _ _ _ _ => pts_nil) (fun _ _ _ _ _ => pe_to (pe_op op_add_str (pe_op op_add_str (pv 1) pe_str) (pv 2))))))), ?_⟩
  obtain ⟨hs, rs, eW, eh, er⟩ := id hW
  have hl := wo.len
  have many := wo.many
  refine ⟨.ref W, rfl, W, _, 0, .ref hs, rfl, rfl, .inl (.inl eW), rfl, ?_⟩
  refine ⟨hs, hands, rfl, .inl (.inl eh), fun z hz => ⟨.str z, by show 0 ≤ 60; decide⟩, alike_strs hands, sortable_strs hands, by unfold sizeLine; omega, fun S nS => ?_⟩
  rw [show hands.mergeSort (PySem.W.dataLe false PyData.str) = sortS hands from rfl]
  have gS : Grow [] H (upd H S (.lst ((sortS hands).map V.str))) := grow_new nS
  have eS : upd H S (.lst ((sortS hands).map V.str)) S = some (.lst ((sortS hands).map V.str)) := upd_same
  generalize upd H S (HO.lst ((sortS hands).map V.str)) = H1 at gS eS ⊢
  have ln : ∀ w ∈ sortS hands, w ≠ Str.empty ∧ w.length ≤ 10000 := fun w hw => by
    have nm := wo.hand ((sortS_perm hands).mem_iff.mp hw)
    exact ⟨nm_ne nm, by have := (nm_iff.mp nm).2.1; omega⟩
  refine ⟨S, sortS hands, spS, rfl, .inl (.inl (.inl eS)), by rw [(sortS_perm hands).length_eq]; exact hl, ln, by decide, fun H2 g2 => ?_⟩
  refine ⟨by show 1 ≤ sizeLine; decide, fun A1 nA1 => ?_⟩
  have gA := (gS.trans g2).new (o := .lst [.str (Str.join spS (sortS hands))]) nA1
  have eA : upd H2 A1 (.lst [.str (Str.join spS (sortS hands))]) A1 = some (.lst [.str (Str.join spS (sortS hands))]) := upd_same
  generalize upd H2 A1 (HO.lst [V.str (Str.join spS (sortS hands))]) = H3 at gA eA ⊢
  obtain ⟨bs, b1, b2, b3, b4, b5, b6⟩ := road_parts (K := K) (er.grow gA noFrz_nil (by simp)) (by omega)
  refine ⟨.ref W, rfl, W, _, 1, .ref rs, rfl, rfl, .inl (.inl (gA.tup (by simp) eW)), rfl, rs, bs, rfl, b1, b2, b3, b4, b5, fun S2 nS2 => ?_⟩
  have hS2 := b6 S2 nS2
  have gB := gA.new (o := .lst ((bs.mergeSort (PySem.W.dataLe false fun b : V × (Str × Str) => encP b.2)).map Prod.fst)) nS2
  have eA2 := (grow_new (ex := []) (o := .lst ((bs.mergeSort (PySem.W.dataLe false fun b : V × (Str × Str) => encP b.2)).map Prod.fst)) nS2).lst (by simp) eA
  generalize upd H3 S2 (HO.lst ((bs.mergeSort (PySem.W.dataLe false fun b : V × (Str × Str) => encP b.2)).map Prod.fst)) = H4 at gB eA2 hS2 ⊢
  obtain ⟨xs, eS2, tS⟩ := id hS2
  have lx : xs.length = (sortP roads).length := tS.length
  have lr := (sortP_perm roads).length_eq
  refine ⟨S2, rfl, ⟨xs, .inl (.inl eS2)⟩, fun D1 n1 => ?_⟩
  refine lc_it (walk_list (xs := xs)) (fun j H' => Grow [] H4 H' ∧ H' D1 = some (.lst ((((sortP roads).take j).map rdS).map V.str))) ⟨grow_new n1, upd_same⟩
    (fun j H' _ h => .inl (.inl (h.1.lst (by simp) eS2))) (fun j x H5 H6 hj hp hy => ?_) (fun H5 hp => ?_)
  · obtain ⟨gj, eD⟩ := hp
    obtain ⟨rfl, ex⟩ := hy
    obtain ⟨a, r, rfl, er', pr⟩ := tS.get ex
    have pr4 := pr.grow gj (by simp)
    have nm := wo.road ((sortP_perm roads).mem_iff.mp (List.mem_of_getElem? er'))
    have n1' := (nm_iff.mp nm.1).2.1
    have n2' := (nm_iff.mp nm.2).2.1
    have l1 : Str.length "-" = 1 := by decide
    refine ⟨a, _, rfl, pr4.seq, rfl, _, _, rfl, _, _, rfl, rfl, rfl, yes_if ?_⟩
    refine ⟨.str r.1, rfl, r.1, "-", rfl, rfl, by rw [l1]; unfold sizeLine; omega, .str r.2, rfl, _, r.2, rfl, rfl, by rw [app_len, l1]; unfold sizeLine; omega, _, eD, ?_, gj.put (fresh_none n1) eD (fun ps z => by cases z), ?_⟩
    · rw [List.length_map, List.length_map, List.length_take]
      unfold sizeLine
      omega
    · rw [upd_same, List.take_add_one, er', Option.toList_some, List.map_append, List.map_append]
      rfl
  · obtain ⟨gj, eD⟩ := hp
    rw [lx, List.take_length] at eD
    refine ⟨A1, D1, _, _, rfl, rfl, gj.lst (by simp) eA2, eD, by rw [List.length_map, List.length_map]; show 1 + _ ≤ sizeLine; unfold sizeLine; omega, fun Z nZ => ?_⟩
    exact q Z _ ((gB.trans gj).fresh (by simp) (fresh_none nZ)) ((gB.trans gj).new nZ) upd_same
end

end Lw

namespace Lw
open PySem PySem.Spec PyProof.Rows L2 GxR Gx
/-! ### a dict that is walked -/
theorem truth_keys {P : Addr} {H1 : Hp} {sb : Bool} {g : TG} {te : TE} {vs : List Nat} {σ : L2.St} {Q : VK} {d : Addr} {o : Obj} {kvs : List (Key × V)} (Pv : Nat → Hp → Prop) (h0 : ∀ H2, Tabbed P H1 H2 → Pv 0 H2) (hl : ∀ i H, Pv i H → H d = some (.frz o (.dK kvs)))
    (step : ∀ i x H, (kvs.map fun q => kV q.1)[i]? = some x → Pv i H → g x (wipe σ vs) H fun σ2 H2 => wipe σ2 vs = wipe σ vs ∧ te σ2 H2 fun y H4 => ∃ b, y = .bl b ∧ if b = sb then Q (.bl sb) H4 else Pv (i + 1) H4)
    (fin : ∀ H, Pv kvs.length H → Q (.bl (!sb)) H) : rTruth P sb g te vs σ Q (Itk d o kvs) H1 := by
  have el : (kvs.map fun q => kV q.1).length = kvs.length := List.length_map _
  refine truth_by (items := kvs.map fun q => kV q.1) Pv h0 (fun i H x H' hp hy => ?_) (fun i H hi hp => ?_) (fun H hp => ?_) step fun H hp => fin H (by rw [← el]; exact hp)
  · obtain ⟨e, k, v, hk, rfl⟩ := hy
    exact ⟨e, by rw [List.getElem?_map, hk]; rfl⟩
  · exact ⟨hl i H hp, by rw [← el]; exact hi⟩
  · exact ⟨hl _ H hp, by rw [el]; exact Nat.le_refl _⟩
theorem truth_vals {P : Addr} {H1 : Hp} {sb : Bool} {g : TG} {te : TE} {vs : List Nat} {σ : L2.St} {Q : VK} {d : Addr} {o : Obj} {kvs : List (Key × V)} (Pv : Nat → Hp → Prop) (h0 : ∀ H2, Tabbed P H1 H2 → Pv 0 H2) (hl : ∀ i H, Pv i H → H d = some (.frz o (.dK kvs)))
    (step : ∀ i x H, (kvs.map fun q => q.2)[i]? = some x → Pv i H → g x (wipe σ vs) H fun σ2 H2 => wipe σ2 vs = wipe σ vs ∧ te σ2 H2 fun y H4 => ∃ b, y = .bl b ∧ if b = sb then Q (.bl sb) H4 else Pv (i + 1) H4)
    (fin : ∀ H, Pv kvs.length H → Q (.bl (!sb)) H) : rTruth P sb g te vs σ Q (Itd d o kvs) H1 := by
  have el : (kvs.map fun q => q.2).length = kvs.length := List.length_map _
  refine truth_by (items := kvs.map fun q => q.2) Pv h0 (fun i H x H' hp hy => ?_) (fun i H hi hp => ?_) (fun H hp => ?_) step fun H hp => fin H (by rw [← el]; exact hp)
  · obtain ⟨e, k, hk⟩ := hy
    exact ⟨e, by rw [List.getElem?_map, hk]; rfl⟩
  · exact ⟨hl i H hp, by rw [← el]; exact hi⟩
  · exact ⟨hl _ H hp, by rw [el]; exact Nat.le_refl _⟩
theorem tab_lock {H : Hp} {p T : Addr} {u o : HO} (t : TabG H T) (e : H p = some u) (hu : ∀ ps, u ≠ .tbl ps) : TabG (upd H p o) T := (grow_at (ex := [p]) e hu (by simp)).tabs T t
theorem grow_unlock {H H' : Hp} {p : Addr} {u : HO} {od : Obj} (e : H p = some u) (hu : ∀ ps, u ≠ .tbl ps) (g : Grow [] (upd H p (.frz od u)) H') (h' : H' p = some (.frz od u)) : Grow [] H (upd H' p u) := by
  refine ⟨fun b o n eb t => ?_, fun b t => ?_⟩
  · by_cases hb : b = p
    · rw [hb, e] at eb
      rw [hb, upd_same]
      exact eb
    · rw [upd_ne hb]
      exact g.keep b o n (by rw [upd_ne hb]; exact eb) t
  · exact (grow_at (ex := [p]) h' (fun ps z => by cases z) (by simp)).tabs b (g.tabs b (tab_lock t e hu))

/-! ### moments -/
structure Mom where
  hands : List Str
  roads : List (Str × Str)
  mouths : List (Str × Str)
  books : List (Str × List Str)
structure Mom.Ok (m : Mom) : Prop where
  web : WebOk m.hands m.roads
  mnd : (m.mouths.map Prod.fst).Nodup
  mnm : ∀ p ∈ m.mouths, isNm p.1 = true ∧ p.2 ∈ m.hands
  mlen : m.mouths.length ≤ 100
  bperm : (m.books.map Prod.fst).Perm m.hands
  bok : ∀ p ∈ m.books, Bk p.2 ∧ ∀ x ∈ p.2, x ∈ m.mouths.map Prod.fst
def kvM (ms : List (Str × Str)) : List (Key × V) := ms.map fun p => (Sum.inr p.1, V.str p.2)
def kvB (bs : List (Addr × (Str × List Str))) : List (Key × V) := bs.map fun p => (Sum.inr p.2.1, V.ref p.1)
def LsAt (H : Hp) (bs : List (Addr × (Str × List Str))) : Prop := ∀ p ∈ bs, H p.1 = some (.lst (p.2.2.map V.str))
theorem LsAt.grow {ex : List Addr} {H H' : Hp} {bs : List (Addr × (Str × List Str))} (h : LsAt H bs) (g : Grow ex H H') (n : ∀ p ∈ bs, p.1 ∉ ex) : LsAt H' bs := fun p hp => g.lst (n p hp) (h p hp)
theorem LsAt.grow0 {H H' : Hp} {bs : List (Addr × (Str × List Str))} (h : LsAt H bs) (g : Grow [] H H') : LsAt H' bs := h.grow g fun _ _ => by simp
def MomAt (H : Hp) (T : Addr) (m : Mom) : Prop := ∃ W M B bs, H T = some (.tup [.ref W, .ref M, .ref B]) ∧ WebAt H W m.hands m.roads ∧ H M = some (.dK (kvM m.mouths)) ∧ H B = some (.dK (kvB bs)) ∧ LsAt H bs ∧ bs.map Prod.snd = m.books
theorem Grow.dK {H H' : Hp} (g : Grow [] H H') {p : Addr} {kvs : List (Key × V)} (h : H p = some (.dK kvs)) : H' p = some (.dK kvs) := g.keep p _ (by simp) h fun ps z => by cases z
theorem MomAt.grow {H H' : Hp} {T : Addr} {m : Mom} (h : MomAt H T m) (g : Grow [] H H') : MomAt H' T m := by
  obtain ⟨W, M, B, bs, h1, h2, h3, h4, h5, h6⟩ := h
  exact ⟨W, M, B, bs, g.tup (by simp) h1, h2.grow g, Grow.dK g h3, Grow.dK g h4, h5.grow0 g, h6⟩
theorem kvB_len (bs : List (Addr × (Str × List Str))) : (kvB bs).length = bs.length := List.length_map _
theorem Mom.Ok.blen {m : Mom} (h : m.Ok) : m.books.length = m.hands.length := by
  have := h.bperm.length_eq
  rwa [List.length_map] at this
theorem Mom.Ok.hand {m : Mom} (h : m.Ok) {p : Str × List Str} (hp : p ∈ m.books) : p.1 ∈ m.hands := h.bperm.mem_iff.mp (List.mem_map.mpr ⟨p, hp, rfl⟩)
theorem kvM_some {ms : List (Str × Str)} {x : Str} (h : x ∈ ms.map Prod.fst) : (valV (kvM ms) (.inr x)).isSome = true := by
  cases e : valV (kvM ms) (.inr x) with
  | some v => rfl
  | none =>
    obtain ⟨p, hp, rfl⟩ := List.mem_map.mp h
    unfold valV at e
    rw [Option.map_eq_none_iff, List.find?_eq_none] at e
    exact absurd (decide_eq_true rfl) (e (Sum.inr p.1, V.str p.2) (List.mem_map.mpr ⟨p, hp, rfl⟩))

end Lw

namespace Lw
open PySem PySem.Spec PyProof.Rows L2 GxR Gx
section
variable {P : Program} {w : World} {K : PySem.W.Frag} {mg : Str → Option Value} {base : Heap}
/-! ### has_mouths, are_mouths, are_books -/
def spHasM (T : Addr) : Sp := fun vs H Q _ => ∃ (l M : Addr) (zs : List Str) (ms : List (Str × Str)), vs = [.ref l, .ref M] ∧ TabG H T ∧ H l = some (.lst (zs.map V.str)) ∧ H M = some (.dK (kvM ms)) ∧ (∀ x ∈ zs, x ∈ ms.map Prod.fst) ∧ ∀ H', Grow [] H H' → Q (.bl true) H'
theorem ok_has_mouths {f c T : Addr} {fd : FuncData} (B : Nb mg) (D : DefIs K "has_mouths" "has_mouths" st_has_mouths f fd (.ref c)) (x_has_mouths : TabB base mg c T) : FnG P w K mg base CX0 5 f fd ["book", "mouths"] (spHasM T) := by
  refine D.ok0 (k := 4) sc_has_mouths (fun vs H Q E h => ?_) (fun A outer s H vs Q E g hr h => ?_)
  · obtain ⟨l, M, zs, ms, rfl, _⟩ := h
    rfl
  obtain ⟨l, M, zs, ms, rfl, tT, el, eM, hm, q⟩ := h
  refine ⟨_,
      (pss_one (ps_ret (pe_allG (own := [("word", 2)]) hr (gx_ok (N := N_has_mouths) (dsc := defScope st_has_mouths) x_has_mouths sc_has_mouths.nd (by decide +kernel) (by decide +kernel)) rfl B.n_all (by decide +kernel) (pi_list (pv 0)) (fun _ _ _ _ _ => (pg_name (i := 2) sc_has_mouths.nd rfl (.inl rfl))) (fun _ _ _ _ _ => pe_to (pe_cmp (pc_din (hu_of (room_gx hr)) (pv 2) (pv 1))))))), ?_⟩
  refine ⟨.ref l, rfl, l, rfl, ⟨_, .inl (.inl el)⟩, tT, ?_⟩
  refine truth_list (xs := zs.map V.str) (fun i H' => Grow [] H H') (fun H2 t => grow_tab tT t) (fun i H' hp => .inl (.inl (hp.lst (by simp) el))) (fun i x H' hx hp => ?_) fun H' hp => q H' hp
  rw [List.getElem?_map] at hx
  cases ez : zs[i]? with
  | none => rw [ez] at hx; cases hx
  | some z =>
    rw [ez] at hx
    cases hx
    refine ⟨rfl, .str z, rfl, .ref M, rfl, M, valV (kvM ms) (.inr z), rfl, DGet.k (k := .inr z) (Grow.dK hp eM), _, rfl, ?_⟩
    rw [kvM_some (hm z (List.mem_of_getElem? ez)), if_neg (fun z => Bool.noConfusion z)]
    exact hp
def spAreM (K : PySem.W.Frag) (T1 T : Addr) : Sp := fun vs H Q _ => ∃ (M D : Addr) (ms : List (Str × Str)) (hands : List Str), vs = [.ref M, .ref D] ∧ TabG H T1 ∧ TabG H T ∧ M ≠ D ∧ H M = some (.dK (kvM ms)) ∧ H D = some (.dK (kvT hands)) ∧ hands.Nodup ∧ (∀ p ∈ ms, isNm p.1 = true ∧ p.2 ∈ hands) ∧
  ∀ H', Grow [] H H' → Q (.bl true) H'
theorem ok_are_mouths {f c T1 T : Addr} {fd : FuncData} (B : Nb mg) (D : DefIs K "are_mouths" "are_mouths" st_are_mouths f fd (.ref c)) (x_are_mouths : TabB base mg c T)
    (c_is_name : Callee P w K mg base CX0 4 "is_name" ["thing"] (spIsName K T1)) : FnG P w K mg base CX0 8 f fd ["thing", "hands"] (spAreM K T1 T) := by
  refine D.ok0 (k := 7) sc_are_mouths (fun vs H Q E h => ?_) (fun A outer s H vs Q E g hr h => ?_)
  · obtain ⟨M, D, ms, hands, rfl, _⟩ := h
    rfl
  obtain ⟨M, D, ms, hands, rfl, t1, tT, ne, eM, eD, nd, hm, q⟩ := h
  refine ⟨_,
      (pss_cons (ps_if (PW.pt (pw_or (pt_cmpR (op_notTyB) (pe_callTy call_type1 rfl B.n_type (by decide +kernel) (pa_cons (pv 0) pa_nil)) (pe_bltn (v := .ty "dict") rfl B.n_dict (by decide +kernel) rfl) (nomark _)) (pw_or1 (pt_not (pt_val (pe_lock (pe_allG (own := [("word", 2)]) hr (gx_ok (N := N_are_mouths) (dsc := defScope st_are_mouths) x_are_mouths sc_are_mouths.nd (by decide +kernel) (by decide +kernel)) rfl B.n_all (by decide +kernel) (pi_keys (pv 0)) (fun _ _ _ _ _ => (pg_name (i := 2) sc_are_mouths.nd rfl (.inl rfl))) (fun _ _ _ _ _ => pe_to (pe_g c_is_name g ((room_gx hr).mono (by decide)) pass0 (pa_cons (pv 2) pa_nil)))))))))) (
        (pss_one (ps_ret pe_bl))) pss_nil)
      (pss_one (ps_ret (pe_lock (pe_allG (own := [("hand", 3)]) hr (gx_ok (N := N_are_mouths) (dsc := defScope st_are_mouths) x_are_mouths sc_are_mouths.nd (by decide +kernel) (by decide +kernel)) rfl B.n_all (by decide +kernel) (pi_values (pv 0)) (fun _ _ _ _ _ => (pg_name (i := 3) sc_are_mouths.nd rfl (.inl rfl))) (fun _ _ _ _ _ => pe_to (pe_and (pe_cmpR (op_isTyB) (pe_callTy call_type1 rfl B.n_type (by decide +kernel) (pa_cons (pv 3) pa_nil)) (pe_bltn (v := .ty "str") rfl B.n_str (by decide +kernel) rfl) (nomark _)) (pe_one (pe_cmp (pc_din (hu_of (room_gx hr)) (pv 3) (pv 1))))))))))), ?_⟩
  obtain ⟨kvs, hkv⟩ : ∃ kvs, kvM ms = kvs := ⟨_, rfl⟩
  rw [hkv] at eM
  have nt : ∀ ps, HO.dK kvs ≠ .tbl ps := fun ps z => by cases z
  refine ⟨.ref M, rfl, _, "dict", rfl, .dK eM, "dict", "dict", rfl, rfl, _, rfl, iteF ?_⟩
  refine ⟨M, .dK kvs, eM, trivial, fun od => ⟨.ref M, rfl, M, od, rfl, .inl ⟨kvs, upd_same, tab_lock tT eM nt, ?_⟩⟩⟩
  have fM : Grow [M] H (upd H M (.frz od (.dK kvs))) := grow_at eM nt (by simp)
  refine truth_keys (kvs := kvs) (fun i H' => Grow [] (upd H M (.frz od (.dK kvs))) H') (fun H2 t => grow_tab (tab_lock tT eM nt) t) (fun i H' hp => hp.keep M _ (by simp) upd_same fun ps z => by cases z) (fun i x H' hx hp => ?_) fun H' hp => ?_
  · rw [← hkv] at hx
    unfold kvM at hx
    rw [List.map_map, List.getElem?_map] at hx
    cases ek : ms[i]? with
    | none => rw [ek] at hx; cases hx
    | some z =>
      rw [ek] at hx
      cases hx
      have nz := (hm z (List.mem_of_getElem? ek)).1
      have lz := (nm_iff.mp nz).2.1
      refine ⟨rfl, .str z.1, rfl, _, rfl, hp.tabs _ (tab_lock t1 eM nt), .inl ⟨z.1, rfl, by unfold sizeLine; omega, fun H3 g3 => ⟨_, rfl, ?_⟩⟩⟩
      rw [nz, if_neg (fun z => Bool.noConfusion z)]
      exact hp.trans g3
  · have eM3 := hp.keep M _ (by simp) upd_same fun ps z => by cases z
    have g3 := grow_unlock eM nt hp eM3
    refine ⟨eM3, true, rfl, iteF ?_⟩
    have eM4 : upd H' M (.dK kvs) M = some (.dK kvs) := upd_same
    generalize upd H' M (.dK kvs) = H3 at g3 eM4 ⊢
    have eD3 := Grow.dK g3 eD
    refine ⟨M, .dK kvs, eM4, trivial, fun od => ⟨.ref M, rfl, M, od, kvs, rfl, upd_same, tab_lock (g3.tabs _ tT) eM4 nt, ?_⟩⟩
    refine truth_vals (kvs := kvs) (fun i H' => Grow [] (upd H3 M (.frz od (.dK kvs))) H') (fun H2 t => grow_tab (tab_lock (g3.tabs _ tT) eM4 nt) t) (fun i H' hp => hp.keep M _ (by simp) upd_same fun ps z => by cases z) (fun i x H4 hx hp => ?_) fun H4 hp => ?_
    · rw [← hkv] at hx
      unfold kvM at hx
      rw [List.map_map, List.getElem?_map] at hx
      cases ek : ms[i]? with
      | none => rw [ek] at hx; cases hx
      | some z =>
        rw [ek] at hx
        cases hx
        have mz := (hm z (List.mem_of_getElem? ek)).2
        have eD4 : H4 D = some (.dK (kvT hands)) := Grow.dK hp (by rw [upd_ne (Ne.symm ne)]; exact eD3)
        refine ⟨rfl, .str z.2, rfl, _, "str", rfl, .str z.2, "str", "str", rfl, rfl, true, rfl, ?_⟩
        rw [if_pos rfl]
        refine ⟨.str z.2, rfl, .ref D, rfl, D, valV (kvT hands) (.inr z.2), rfl, DGet.k (k := .inr z.2) eD4, _, rfl, ?_⟩
        rw [kvT_some nd mz, if_neg (fun z => Bool.noConfusion z)]
        exact hp
    · have eM5 := hp.keep M _ (by simp) upd_same fun ps z => by cases z
      exact ⟨eM5, q _ (g3.trans (grow_unlock eM4 nt hp eM5))⟩
def spAreB (K : PySem.W.Frag) (T1 T2 T3 T : Addr) : Sp := fun vs H Q _ => ∃ (B D M : Addr) (bs : List (Addr × (Str × List Str))) (ms : List (Str × Str)) (hands : List Str), vs = [.ref B, .ref D, .ref M] ∧ TabG H T1 ∧ TabG H T2 ∧ TabG H T3 ∧ TabG H T ∧ B ≠ D ∧ B ≠ M ∧
  H B = some (.dK (kvB bs)) ∧ LsAt H bs ∧ H D = some (.dK (kvT hands)) ∧ H M = some (.dK (kvM ms)) ∧ hands.Nodup ∧ bs.length = hands.length ∧ (∀ p ∈ bs, p.2.1 ∈ hands ∧ Bk p.2.2 ∧ ∀ x ∈ p.2.2, x ∈ ms.map Prod.fst) ∧
  ∀ H', Grow [] H H' → Q (.bl true) H'
theorem ok_are_books {f c T1 T2 T3 T : Addr} {fd : FuncData} (B : Nb mg) (D : DefIs K "are_books" "are_books" st_are_books f fd (.ref c)) (x_are_books : TabB base mg c T)
    (c_is_book : Callee P w K mg base CX0 9 "is_book" ["thing"] (spUnlike K T1 T2)) (c_has_mouths : Callee P w K mg base CX0 5 "has_mouths" ["book", "mouths"] (spHasM T3)) : FnG P w K mg base CX0 13 f fd ["thing", "hands", "mouths"] (spAreB K T1 T2 T3 T) := by
  refine D.ok0 (k := 12) sc_are_books (fun vs H Q E h => ?_) (fun A outer s H vs Q E g hr h => ?_)
  · obtain ⟨B, D, M, bs, ms, hands, rfl, _⟩ := h
    rfl
  obtain ⟨Bo, Dh, M, bs, ms, hands, rfl, t1, t2, t3, tT, ne1, ne2, eB, ls, eD, eM, nd, len, hb, q⟩ := h
  refine ⟨_,
      (pss_cons (ps_if (PW.pt (pw_or (pt_cmpR (op_notTyB) (pe_callTy call_type1 rfl B.n_type (by decide +kernel) (pa_cons (pv 0) pa_nil)) (pe_bltn (v := .ty "dict") rfl B.n_dict (by decide +kernel) rfl) (nomark _)) (pw_or1 (pt_cmpR (op_ne) (pe_callB call_lenD rfl B.n_len PySem.boot_len (pa_cons (pv 0) pa_nil)) (pe_callB call_lenD rfl B.n_len PySem.boot_len (pa_cons (pv 1) pa_nil)) (nomark _))))) (
        (pss_one (ps_ret pe_bl))) pss_nil)
      (pss_cons (ps_if (pt_not (pt_val (pe_lock (pe_allG (own := [("hand", 3)]) hr (gx_ok (N := N_are_books) (dsc := defScope st_are_books) x_are_books sc_are_books.nd (by decide +kernel) (by decide +kernel)) rfl B.n_all (by decide +kernel) (pi_keys (pv 0)) (fun _ _ _ _ _ => (pg_name (i := 3) sc_are_books.nd rfl (.inl rfl))) (fun _ _ _ _ _ => pe_to (pe_and (pe_cmpR (op_isTyB) (pe_callTy call_type1 rfl B.n_type (by decide +kernel) (pa_cons (pv 3) pa_nil)) (pe_bltn (v := .ty "str") rfl B.n_str (by decide +kernel) rfl) (nomark _)) (pe_one (pe_cmp (pc_din (hu_of (room_gx hr)) (pv 3) (pv 1)))))))))) (
        (pss_one (ps_ret pe_bl))) pss_nil)
      (pss_one (ps_ret (pe_lock (pe_allG (own := [("book", 4)]) hr (gx_ok (N := N_are_books) (dsc := defScope st_are_books) x_are_books sc_are_books.nd (by decide +kernel) (by decide +kernel)) rfl B.n_all (by decide +kernel) (pi_values (pv 0)) (fun _ _ _ _ _ => (pg_name (i := 4) sc_are_books.nd rfl (.inl rfl))) (fun _ _ _ _ _ => pe_to (pe_and (pe_g c_is_book g ((room_gx hr).mono (by decide)) pass0 (pa_cons (pv 4) pa_nil)) (pe_one (pe_g c_has_mouths g ((room_gx hr).mono (by decide)) pass0 (pa_cons (pv 4) (pa_cons (pv 2) pa_nil)))))))))))), ?_⟩
  obtain ⟨kvs, hkv⟩ : ∃ kvs, kvB bs = kvs := ⟨_, rfl⟩
  rw [hkv] at eB
  have lk : kvs.length = bs.length := by rw [← hkv]; exact kvB_len bs
  have nt : ∀ ps, HO.dK kvs ≠ .tbl ps := fun ps z => by cases z
  refine ⟨.ref Bo, rfl, _, "dict", rfl, .dK eB, "dict", "dict", rfl, rfl, _, rfl, iteF ?_⟩
  refine ⟨.ref Bo, rfl, Bo, kvs, rfl, eB, .ref Dh, rfl, Dh, kvT hands, rfl, eD, rfl, _, rfl, ?_⟩
  rw [show decide (V.int ((kvs.length : Nat) : Int) = V.int (((kvT hands).length : Nat) : Int)) = true from decide_eq_true (by rw [lk, len]; unfold kvT; rw [List.length_map])]
  refine iteF ⟨Bo, .dK kvs, eB, trivial, fun od => ⟨.ref Bo, rfl, Bo, od, rfl, .inl ⟨kvs, upd_same, tab_lock tT eB nt, ?_⟩⟩⟩
  refine truth_keys (kvs := kvs) (fun i H' => Grow [] (upd H Bo (.frz od (.dK kvs))) H') (fun H2 t => grow_tab (tab_lock tT eB nt) t) (fun i H' hp => hp.keep Bo _ (by simp) upd_same fun ps z => by cases z) (fun i x H' hx hp => ?_) fun H' hp => ?_
  · rw [← hkv] at hx
    unfold kvB at hx
    rw [List.map_map, List.getElem?_map] at hx
    cases ek : bs[i]? with
    | none => rw [ek] at hx; cases hx
    | some z =>
      rw [ek] at hx
      cases hx
      have mz := (hb z (List.mem_of_getElem? ek)).1
      have eD4 : H' Dh = some (.dK (kvT hands)) := Grow.dK hp (by rw [upd_ne (Ne.symm ne1)]; exact eD)
      refine ⟨rfl, .str z.2.1, rfl, _, "str", rfl, .str z.2.1, "str", "str", rfl, rfl, true, rfl, ?_⟩
      rw [if_pos rfl]
      refine ⟨.str z.2.1, rfl, .ref Dh, rfl, Dh, valV (kvT hands) (.inr z.2.1), rfl, DGet.k (k := .inr z.2.1) eD4, _, rfl, ?_⟩
      rw [kvT_some nd mz, if_neg (fun z => Bool.noConfusion z)]
      exact hp
  · have eB3 := hp.keep Bo _ (by simp) upd_same fun ps z => by cases z
    have g3 := grow_unlock eB nt hp eB3
    refine ⟨eB3, true, rfl, iteF ?_⟩
    have eB4 : upd H' Bo (.dK kvs) Bo = some (.dK kvs) := upd_same
    generalize upd H' Bo (.dK kvs) = H3 at g3 eB4 ⊢
    have lock4 : ∀ {T0 : Addr} (od : Obj), TabG H T0 → TabG (upd H3 Bo (.frz od (.dK kvs))) T0 := fun od t => tab_lock (g3.tabs _ t) eB4 nt
    refine ⟨Bo, .dK kvs, eB4, trivial, fun od => ⟨.ref Bo, rfl, Bo, od, kvs, rfl, upd_same, lock4 od tT, ?_⟩⟩
    refine truth_vals (kvs := kvs) (fun i H' => Grow [] (upd H3 Bo (.frz od (.dK kvs))) H') (fun H2 t => grow_tab (lock4 od tT) t) (fun i H' hp => hp.keep Bo _ (by simp) upd_same fun ps z => by cases z) (fun i x H4 hx hp => ?_) fun H4 hp => ?_
    · rw [← hkv] at hx
      unfold kvB at hx
      rw [List.map_map, List.getElem?_map] at hx
      cases ek : bs[i]? with
      | none => rw [ek] at hx; cases hx
      | some z =>
        rw [ek] at hx
        cases hx
        have mem := List.mem_of_getElem? ek
        obtain ⟨_, bz, mz⟩ := hb z mem
        have zB : z.1 ≠ Bo := fun e => by
          have := g3.lst (by simp) (ls z mem)
          rw [e, eB4] at this
          cases this
        have ez0 : upd H3 Bo (.frz od (.dK kvs)) z.1 = some (.lst (z.2.2.map V.str)) := by rw [upd_ne zB]; exact g3.lst (by simp) (ls z mem)
        have eM0 : upd H3 Bo (.frz od (.dK kvs)) M = some (.dK (kvM ms)) := by rw [upd_ne (Ne.symm ne2)]; exact Grow.dK g3 eM
        refine ⟨rfl, .ref z.1, rfl, .ref z.1, rfl, hp.tabs _ (lock4 od t1), hp.tabs _ (lock4 od t2), .inl ⟨z.1, _, rfl, .inl (.inl (hp.lst (by simp) ez0)), bz.known, by rw [List.length_map]; have := bz.len; omega, fun H5 g5 => ?_⟩⟩
        rw [bz.v]
        refine ⟨true, rfl, ?_⟩
        rw [if_pos rfl]
        have hp5 := hp.trans g5
        refine ⟨.ref z.1, rfl, .ref M, rfl, z.1, M, z.2.2, ms, rfl, hp5.tabs _ (lock4 od t3), hp5.lst (by simp) ez0, Grow.dK hp5 eM0, mz, fun H6 g6 => ⟨true, rfl, ?_⟩⟩
        rw [if_neg (fun z => Bool.noConfusion z)]
        exact hp5.trans g6
    · have eB5 := hp.keep Bo _ (by simp) upd_same fun ps z => by cases z
      exact ⟨eB5, q _ (g3.trans (grow_unlock eB4 nt hp eB5))⟩
end

end Lw

namespace Lw
open PySem PySem.Spec PyProof.Rows L2 GxR Gx
section
variable {P : Program} {w : World} {K : PySem.W.Frag} {mg : Str → Option Value} {base : Heap}
/-! ### is_moment -/
theorem books_ne {H : Hp} {M B : Addr} {bs : List (Addr × (Str × List Str))} {ms : List (Str × Str)} (hB : H B = some (.dK (kvB bs))) (hM : H M = some (.dK (kvM ms))) (ne : bs ≠ []) : B ≠ M := fun z => by
  rw [z, hM] at hB
  cases bs with
  | nil => exact ne rfl
  | cons b r =>
    cases ms with
    | nil => cases hB
    | cons p t =>
      have := congrArg (fun l : List (Key × V) => l.map Prod.snd) (HO.dK.inj (Option.some.inj hB))
      cases this
def spIsMom (K : PySem.W.Frag) (T1 T2 T3 T4 T5 T6 : Addr) : Sp := fun vs H Q _ => ∃ (T : Addr) (m : Mom), vs = [.ref T] ∧ TabG H T1 ∧ TabG H T2 ∧ TabG H T3 ∧ TabG H T4 ∧ TabG H T5 ∧ TabG H T6 ∧ MomAt H T m ∧ m.Ok ∧ ∀ H', Grow [] H H' → Q (.bl true) H'
theorem ok_is_moment {f c T1 T2 T3 T4 T5 T6 : Addr} {fd : FuncData} (B : Nb mg) (D : DefIs K "is_moment" "is_moment" st_is_moment f fd (.ref c))
    (c_is_web : Callee P w K mg base CX0 9 "is_web" ["thing"] (spIsWeb K T1 T2 T3)) (c_are_mouths : Callee P w K mg base CX0 8 "are_mouths" ["thing", "hands"] (spAreM K T1 T4))
    (c_are_books : Callee P w K mg base CX0 13 "are_books" ["thing", "hands", "mouths"] (spAreB K T1 T2 T6 T5)) : FnG P w K mg base CX0 14 f fd ["thing"] (spIsMom K T1 T2 T3 T4 T5 T6) := by
  refine D.ok0 (k := 13) sc_is_moment (fun vs H Q E h => ?_) (fun A outer s H vs Q E g hr h => ?_)
  · obtain ⟨T, m, rfl, _⟩ := h
    rfl
  obtain ⟨T, m, rfl, t1, t2, t3, t4, t5, t6, ⟨W, M, Bo, bs, eT, hW, eM, eB, ls, eb⟩, ok, q⟩ := h
  refine ⟨_,
      (pss_cons (ps_if (PW.pt (pw_or (pt_cmpR (op_notTyB) (pe_callTy call_type1 rfl B.n_type (by decide +kernel) (pa_cons (pv 0) pa_nil)) (pe_bltn (v := .ty "tuple") rfl B.n_tuple (by decide +kernel) rfl) (nomark _)) (pw_or1 (pt_cmpR (op_ne) (pe_callB call_len_seq rfl B.n_len PySem.boot_len (pa_cons (pv 0) pa_nil)) pe_int (nomark _))))) (
        (pss_one (ps_ret pe_bl))) pss_nil)
      (pss_cons (ps_asg (pv 0) (pg_tup rfl (pgs_cons (pg_name (i := 1) sc_is_moment.nd rfl (.inl rfl)) (pgs_cons (pg_name (i := 2) sc_is_moment.nd rfl (.inl rfl)) (pgs_cons (pg_name (i := 3) sc_is_moment.nd rfl (.inl rfl)) pgs_nil)))))
      (pss_cons (ps_if (pt_not (pt_val (pe_g c_is_web g (hr.mono (by decide)) pass0 (pa_cons (pv 1) pa_nil)))) (
        (pss_one (ps_ret pe_bl))) pss_nil)
      (pss_cons (ps_setDc (n := 4) (own := [("hand", 5)]) (g := (gName 5)) (tt := tYes) rfl sc_is_moment.nd rfl rfl (swD_true rfl rfl rfl (by decide +kernel)) (pi_list (pe_ix ix_tup (pv 1) pe_int (fun _ _ => rfl))) (blkOk_by (N := N_is_moment) (sc := defScope st_is_moment) (by decide +kernel)) (fun _ _ _ _ _ => (pg_name (i := 5) sc_is_moment.nd rfl (.inl rfl))) (fun _ _ _ _ _ => pts_nil) (fun _ _ _ _ _ => pe_to (pv 5)) (fun _ _ _ _ _ => pe_to pe_bl))
      (pss_one (ps_ret (pe_and (pe_g c_are_mouths g (hr.mono (by decide)) pass0 (pa_cons (pv 2) (pa_cons (pv 4) pa_nil))) (pe_one (pe_g c_are_books g (hr.mono (by decide)) pass0 (pa_cons (pv 3) (pa_cons (pv 4) (pa_cons (pv 2) pa_nil)))))))))))), ?_⟩
  have sq : ∀ {H1 : Hp}, Grow [] H H1 → SqT K H1 T [.ref W, .ref M, .ref Bo] := fun g1 => .inl (.inl (g1.tup (by simp) eT))
  refine ⟨.ref T, rfl, _, "tuple", rfl, .tup (sq (Grow.refl _ _)), "tuple", "tuple", rfl, rfl, _, rfl, iteF ⟨.ref T, rfl, T, _, rfl, .inr (sq (Grow.refl _ _)), rfl, _, rfl, iteF ?_⟩⟩
  refine ⟨.ref T, rfl, T, _, rfl, sq (Grow.refl _ _), rfl, _, _, rfl, _, _, rfl, _, _, rfl, rfl, ?_⟩
  refine ⟨.ref W, rfl, W, m.hands, m.roads, rfl, t1, t2, t3, hW, ok.web, fun H1 g1 => ⟨true, rfl, iteF ?_⟩⟩
  obtain ⟨hs, rs, eW, eh, er⟩ := hW.grow g1
  have wo := ok.web
  refine ⟨.ref W, rfl, W, _, 0, .ref hs, rfl, rfl, .inl (.inl eW), rfl, hs, rfl, ⟨_, .inl (.inl eh)⟩, fun D1 n1 => ?_⟩
  refine dc_it (walk_list (xs := m.hands.map V.str)) (fun j H' => Grow [] H1 H' ∧ H' D1 = some (.dK (kvT (m.hands.take j)))) ⟨grow_new n1, upd_same⟩
    (fun j H' _ h => .inl (.inl (h.1.lst (by simp) eh))) (fun j x H3 H4 hj hp hy => ?_) (fun H3 hp => ?_)
  · obtain ⟨gj, eD⟩ := hp
    obtain ⟨rfl, e⟩ := hy
    rw [List.length_map] at hj
    rw [List.getElem?_map, List.getElem?_eq_getElem hj] at e
    cases e
    have tk : m.hands.take (j + 1) = m.hands.take j ++ [m.hands[j]] := by rw [List.take_add_one, List.getElem?_eq_getElem hj]; rfl
    have new : m.hands[j] ∉ m.hands.take j := fun h => by
      obtain ⟨i, hi⟩ := List.mem_iff_getElem?.mp h
      rw [List.getElem?_take] at hi
      by_cases hij : i < j
      · rw [if_pos hij] at hi
        have := (List.getElem?_inj (List.getElem?_eq_some_iff.mp hi).1 wo.nd).mp (hi.trans (List.getElem?_eq_getElem hj).symm)
        omega
      · rw [if_neg hij] at hi
        cases hi
    refine ⟨rfl, yes_if ⟨.str _, rfl, _, .inr m.hands[j], rfl, eD, ?_, gj.put (fresh_none n1) eD (fun ps z => by cases z), ?_⟩⟩
    · unfold kvT
      rw [List.length_map, List.length_take]
      have := wo.len
      unfold sizeLine
      omega
    · rw [upd_same, putK_new _ (valV_none (by
        rw [kvT_keys]
        intro z
        obtain ⟨y, hy, e⟩ := List.mem_map.mp z
        cases e
        exact new hy)), tk]
      unfold kvT
      rw [List.map_append]
      rfl
  · obtain ⟨g3, eD⟩ := hp
    rw [List.length_map, List.take_length] at eD
    have g13 := g1.trans g3
    have MD : M ≠ D1 := fun z => by
      have := Grow.dK g1 eM
      rw [z, n1] at this
      cases this
    have BD : Bo ≠ D1 := fun z => by
      have := Grow.dK g1 eB
      rw [z, n1] at this
      cases this
    have lb : bs.length = m.hands.length := by rw [← ok.blen, ← eb, List.length_map]
    have bne : bs ≠ [] := fun z => by
      rw [z] at lb
      exact wo.ne (List.eq_nil_of_length_eq_zero lb.symm)
    refine ⟨.ref M, rfl, .ref D1, rfl, M, D1, m.mouths, m.hands, rfl, g13.tabs _ t1, g13.tabs _ t4, MD, Grow.dK g13 eM, eD, wo.nd, ok.mnm, fun H4 g4 => ⟨true, rfl, ?_⟩⟩
    rw [if_pos rfl]
    have g14 := g13.trans g4
    refine ⟨.ref Bo, rfl, .ref D1, rfl, .ref M, rfl, Bo, D1, M, bs, m.mouths, m.hands, rfl, g14.tabs _ t1, g14.tabs _ t2, g14.tabs _ t6, g14.tabs _ t5, BD, books_ne eB eM bne, Grow.dK g14 eB, ls.grow0 g14, Grow.dK g4 eD, Grow.dK g14 eM, wo.nd, lb, fun p hp => ?_, fun H5 g5 => q H5 (g14.trans g5)⟩
    have mem : p.2 ∈ m.books := by rw [← eb]; exact List.mem_map.mpr ⟨p, hp, rfl⟩
    exact ⟨ok.hand mem, ok.bok _ mem⟩
end

end Lw

namespace Lw
open PySem PySem.Spec PyProof.Rows L2 GxR Gx
/-! ### a moment written -/
def look {α : Type} (l : List (Str × α)) (x : Str) : Option α := (l.find? fun p => decide (p.1 = x)).map (·.2)
theorem look_mem {α : Type} : ∀ {l : List (Str × α)} {p : Str × α}, (l.map Prod.fst).Nodup → p ∈ l → look l p.1 = some p.2
  | q :: r, p, nd, h => by
    unfold look
    by_cases e : q.1 = p.1
    · rw [List.find?_cons_of_pos (by exact decide_eq_true e)]
      rcases List.mem_cons.mp h with rfl | h
      · rfl
      · have := (List.nodup_cons.mp nd).1
        exact absurd (List.mem_map.mpr ⟨p, h, e.symm⟩) this
    · rw [List.find?_cons_of_neg (by simpa using e)]
      rcases List.mem_cons.mp h with rfl | h
      · exact absurd rfl e
      · exact look_mem (List.nodup_cons.mp nd).2 h
def bookOf (m : Mom) (h : Str) : List Str := (look m.books h).getD []
def mouthOf (m : Mom) (x : Str) : Str := (look m.mouths x).getD Str.empty
def coS : Str := ": "
def atS : Str := "@"
def bookRow (m : Mom) (h : Str) : Str := h ++ coS ++ bookText (bookOf m h)
def mouthRow (m : Mom) (x : Str) : Str := x ++ atS ++ mouthOf m x
def momRows (m : Mom) : List Str := webRows m.hands m.roads ++ (sortS (m.books.map Prod.fst)).map (bookRow m) ++ (sortS (m.mouths.map Prod.fst)).map (mouthRow m)
def momText (m : Mom) : Str := Str.join nlS (momRows m)
theorem valB {bs : List (Addr × (Str × List Str))} {p : Addr × (Str × List Str)} (nd : (bs.map fun p => p.2.1).Nodup) (h : p ∈ bs) : valV (kvB bs) (.inr p.2.1) = some (.ref p.1) := by
  obtain ⟨j, hj⟩ := List.mem_iff_getElem?.mp h
  refine valV_some (kvs := kvB bs) (j := j) (v := .ref p.1) ?_ (by unfold kvB; rw [List.getElem?_map, hj]; rfl)
  unfold kvB
  rw [List.map_map]
  have : (Prod.fst ∘ fun p : Addr × (Str × List Str) => ((Sum.inr p.2.1 : Key), V.ref p.1)) = Sum.inr ∘ fun p => p.2.1 := rfl
  rw [this, ← List.map_map]
  exact List.pairwise_map.mpr (nd.imp fun q e => q (Sum.inr.inj e))
theorem valM {ms : List (Str × Str)} {p : Str × Str} (nd : (ms.map Prod.fst).Nodup) (h : p ∈ ms) : valV (kvM ms) (.inr p.1) = some (.str p.2) := by
  obtain ⟨j, hj⟩ := List.mem_iff_getElem?.mp h
  refine valV_some (kvs := kvM ms) (j := j) (v := .str p.2) ?_ (by unfold kvM; rw [List.getElem?_map, hj]; rfl)
  unfold kvM
  rw [List.map_map]
  have : (Prod.fst ∘ fun p : Str × Str => ((Sum.inr p.1 : Key), V.str p.2)) = Sum.inr ∘ Prod.fst := rfl
  rw [this, ← List.map_map]
  exact List.pairwise_map.mpr (nd.imp fun q e => q (Sum.inr.inj e))
theorem Mom.Ok.bnd {m : Mom} (h : m.Ok) : (m.books.map Prod.fst).Nodup := h.bperm.nodup_iff.mpr h.web.nd
theorem Mom.Ok.book {m : Mom} (h : m.Ok) {x : Str} (hx : x ∈ m.books.map Prod.fst) : (x, bookOf m x) ∈ m.books := by
  obtain ⟨p, hp, rfl⟩ := List.mem_map.mp hx
  unfold bookOf
  rw [look_mem h.bnd hp]
  exact hp
theorem Mom.Ok.mouth {m : Mom} (h : m.Ok) {x : Str} (hx : x ∈ m.mouths.map Prod.fst) : (x, mouthOf m x) ∈ m.mouths := by
  obtain ⟨p, hp, rfl⟩ := List.mem_map.mp hx
  unfold mouthOf
  rw [look_mem h.mnd hp]
  exact hp
section
variable {P : Program} {w : World} {K : PySem.W.Frag} {mg : Str → Option Value} {base : Heap}
def spRowsM (K : PySem.W.Frag) : Sp := fun vs H Q _ => ∃ (T : Addr) (m : Mom), vs = [.ref T] ∧ MomAt H T m ∧ m.Ok ∧ ∀ D H', Fresh H D → Grow [] H H' → H' D = some (.lst ((momRows m).map V.str)) → Q (.ref D) H'
theorem ok_rows_of_moment {f c : Addr} {fd : FuncData} (B : Nb mg) (D : DefIs K "rows_of_moment" "rows_of_moment" st_rows_of_moment f fd (.ref c))
    (c_rows_of_web : Callee P w K mg base CX0 1 "rows_of_web" ["web"] (spRowsW K)) (c_row_of_book : Callee P w K mg base CX0 1 "row_of_book" ["book"] (spRowB K)) : FnG P w K mg base CX0 2 f fd ["moment"] (spRowsM K) := by
  refine D.ok0 (k := 1) sc_rows_of_moment (fun vs H Q E h => ?_) (fun A outer s H vs Q E g hr h => ?_)
  · obtain ⟨T, m, rfl, _⟩ := h
    rfl
  obtain ⟨T, m, rfl, ⟨W, M, Bo, bs, eT, hW, eM, eB, ls, eb⟩, ok, q⟩ := h
  refine ⟨_,
      (pss_cons (ps_asg (pv 0) (pg_tup rfl (pgs_cons (pg_name (i := 1) sc_rows_of_moment.nd rfl (.inl rfl)) (pgs_cons (pg_name (i := 2) sc_rows_of_moment.nd rfl (.inr rfl)) (pgs_cons (pg_name (i := 3) sc_rows_of_moment.nd rfl (.inr rfl)) pgs_nil)))))
      (pss_cons (ps_setLc (i := 4) (own := [("hand", 5)]) (tt := tYes) (g := (gName 5)) rfl sc_rows_of_moment.nd rfl rfl (sw_true rfl rfl rfl (by decide +kernel)) (pi_list (pe_callB (cr_sortD rfl hr.units) rfl B.n_sorted (by decide +kernel) (pa_cons (pv 3) pa_nil))) (blkOk_by (N := N_rows_of_moment) (sc := defScope st_rows_of_moment) (by decide +kernel)) (fun _ _ _ _ _ => (pg_name (i := 5) sc_rows_of_moment.nd rfl (.inl rfl))) (fun _ _ _ _ _ => pts_nil) (fun _ _ _ _ _ => pe_to (pe_joinF (PJ.cons (pe_fmt (pv 5)) (PJ.cons pe_str (PJ.cons (pe_fmt (pe_g c_row_of_book g (hr.mono (by decide)) pass0 (pa_cons (pe_dget (hu_of hr) (pv 3) (pv 5) (fun _ _ => rfl)) pa_nil))) PJ.nil))))))
      (pss_one (ps_ret (pe_op op_cat (pe_op op_cat (pe_g c_rows_of_web g (hr.mono (by decide)) pass0 (pa_cons (pv 1) pa_nil)) (pv 4)) (pe_lc (own := [("word", 6)]) (tt := tYes) (g := (gName 6)) rfl sc_rows_of_moment.nd (pi_list (pe_callB (cr_sortD rfl hr.units) rfl B.n_sorted (by decide +kernel) (pa_cons (pv 2) pa_nil))) (blkOk_by (N := N_rows_of_moment) (sc := defScope st_rows_of_moment) (by decide +kernel)) (fun _ _ _ _ _ => (pg_name (i := 6) sc_rows_of_moment.nd rfl (.inl rfl))) (fun _ _ _ _ _ => pts_nil) (fun _ _ _ _ _ => pe_to (pe_joinF (PJ.cons (pe_fmt (pv 6)) (PJ.cons pe_str (PJ.cons (pe_fmt (pe_dget (hu_of hr) (pv 2) (pv 6) (fun _ _ => rfl))) PJ.nil))))))))))), ?_⟩
  refine ⟨.ref T, rfl, T, _, rfl, .inl (.inl eT), rfl, _, _, rfl, _, _, rfl, _, _, rfl, rfl, ?_⟩
  have l2 : Str.length ": " = 2 := by decide
  have l1 : Str.length "@" = 1 := by decide
  have nb : (bs.map fun p => p.2.1).Nodup := by
    have := ok.bnd
    rw [← eb, List.map_map] at this
    exact this
  have lb : m.books.length ≤ 200 := by rw [ok.blen]; exact ok.web.len
  refine ⟨.ref Bo, rfl, Bo, kvB bs, m.books.map Prod.fst, rfl, .inl eB, by unfold kvB; rw [← eb, List.map_map, List.map_map, List.map_map]; rfl, by rw [List.length_map]; unfold sizeLine; omega, fun S1 n1 => ?_⟩
  rw [show (m.books.map Prod.fst).mergeSort (PySem.W.dataLe false PyData.str) = sortS (m.books.map Prod.fst) from rfl]
  have g1 : Grow [] H (upd H S1 (.lst ((sortS (m.books.map Prod.fst)).map V.str))) := grow_new n1
  have e1 : upd H S1 (.lst ((sortS (m.books.map Prod.fst)).map V.str)) S1 = some (.lst ((sortS (m.books.map Prod.fst)).map V.str)) := upd_same
  generalize upd H S1 (HO.lst ((sortS (m.books.map Prod.fst)).map V.str)) = H1 at g1 e1 ⊢
  obtain ⟨ks, hks⟩ : ∃ ks, sortS (m.books.map Prod.fst) = ks := ⟨_, rfl⟩
  have kmem : ∀ x ∈ ks, x ∈ m.books.map Prod.fst := fun x hx => by rw [← hks] at hx; exact (sortS_perm _).mem_iff.mp hx
  have lk : ks.length = m.books.length := by rw [← hks, (sortS_perm _).length_eq, List.length_map]
  rw [hks] at e1
  refine ⟨S1, rfl, ⟨_, .inl (.inl e1)⟩, fun D1 nD1 => ?_⟩
  refine lc_it (walk_list (xs := ks.map V.str)) (fun j H' => Grow [] H1 H' ∧ H' D1 = some (.lst (((ks.take j).map (bookRow m)).map V.str))) ⟨grow_new nD1, upd_same⟩
    (fun j H' _ h => .inl (.inl (h.1.lst (by simp) e1))) (fun j x H3 H4 hj hp hy => ?_) (fun H3 hp => ?_)
  · obtain ⟨gj, eD⟩ := hp
    obtain ⟨rfl, ex⟩ := hy
    rw [List.getElem?_map] at ex
    cases er : ks[j]? with
    | none => rw [er] at ex; cases ex
    | some h =>
      rw [er] at ex
      cases ex
      have hk := kmem h (List.mem_of_getElem? er)
      have hb := ok.book hk
      have bz := (ok.bok _ hb).1
      have nh := nm_iff.mp (ok.web.hand (ok.hand hb))
      have h8 : h.length ≤ 8 := nh.2.1
      have t4 : (bookText (bookOf m h)).length ≤ 10000 := bookText_len bz
      obtain ⟨p, hp, ep⟩ : ∃ p ∈ bs, p.2 = (h, bookOf m h) := by
        rw [← eb] at hb
        obtain ⟨p, hp, e⟩ := List.mem_map.mp hb
        exact ⟨p, hp, e⟩
      have g14 := g1.trans gj
      have el : H4 p.1 = some (.lst ((bookOf m h).map V.str)) := by
        have := g14.lst (by simp) (ls p hp)
        rw [ep] at this
        exact this
      have dg : DGet H4 Bo (.str h) (some (.ref p.1)) := by
        have e2 := valB nb hp
        rw [ep] at e2
        have : (h, bookOf m h).fst = h := rfl
        rw [← e2]
        exact DGet.k (k := .inr h) (Grow.dK g14 eB)
      refine ⟨rfl, yes_if ?_⟩
      refine ⟨.str h, rfl, .inl ⟨h, rfl, by unfold sizeLine; omega, h, rfl, by rw [empty_app]; unfold sizeLine; omega, ": ", rfl, by rw [empty_app, app_len, l2]; unfold sizeLine; omega,
        .ref Bo, rfl, .str h, rfl, Bo, .ref p.1, rfl, dg, p.1, bookOf m h, rfl, el, bz, .inl ⟨bookText (bookOf m h), rfl, by unfold sizeLine; omega, bookText (bookOf m h), rfl, by rw [empty_app, app_len, app_len, l2]; unfold sizeLine; omega, _, eD, ?_, gj.put (fresh_none nD1) eD (fun ps z => by cases z), ?_⟩⟩⟩
      · rw [List.length_map, List.length_map, List.length_take]
        unfold sizeLine
        omega
      · rw [upd_same, empty_app, List.take_add_one, er, Option.toList_some, List.map_append, List.map_append]
        rfl
  · obtain ⟨gj, eD⟩ := hp
    rw [List.length_map, List.take_length] at eD
    have g13 := g1.trans gj
    refine ⟨.ref W, rfl, W, m.hands, m.roads, rfl, hW.grow g13, ok.web, fun R H4 fR g4 eR => ?_⟩
    have g14 := g13.trans g4
    have eD4 := g4.lst (by simp) eD
    refine ⟨.ref D1, rfl, R, D1, _, _, rfl, rfl, eR, eD4, ?_, fun C nC => ?_⟩
    · have lw : (webRows m.hands m.roads).length = m.roads.length + 1 := by unfold webRows; rw [List.length_cons, List.length_map, (sortP_perm m.roads).length_eq]
      have := ok.web.many
      have := ok.web.len
      rw [List.length_map, List.length_map, List.length_map, lw]
      unfold sizeLine
      omega
    have g15 := g14.new (o := .lst ((webRows m.hands m.roads).map V.str ++ (ks.map (bookRow m)).map V.str)) nC
    have eC : upd H4 C (.lst ((webRows m.hands m.roads).map V.str ++ (ks.map (bookRow m)).map V.str)) C = some (.lst ((webRows m.hands m.roads).map V.str ++ (ks.map (bookRow m)).map V.str)) := upd_same
    generalize upd H4 C (HO.lst ((webRows m.hands m.roads).map V.str ++ (ks.map (bookRow m)).map V.str)) = H5 at g15 eC ⊢
    have lm := ok.mlen
    refine ⟨.ref M, rfl, M, kvM m.mouths, m.mouths.map Prod.fst, rfl, .inl (Grow.dK g15 eM), by unfold kvM; rw [List.map_map, List.map_map]; rfl, by rw [List.length_map]; unfold sizeLine; omega, fun S3 n3 => ?_⟩
    rw [show (m.mouths.map Prod.fst).mergeSort (PySem.W.dataLe false PyData.str) = sortS (m.mouths.map Prod.fst) from rfl]
    have g16 := g15.new (o := .lst ((sortS (m.mouths.map Prod.fst)).map V.str)) n3
    have e3 : upd H5 S3 (.lst ((sortS (m.mouths.map Prod.fst)).map V.str)) S3 = some (.lst ((sortS (m.mouths.map Prod.fst)).map V.str)) := upd_same
    have eC6 := (grow_new (ex := []) (o := .lst ((sortS (m.mouths.map Prod.fst)).map V.str)) n3).lst (by simp) eC
    generalize upd H5 S3 (HO.lst ((sortS (m.mouths.map Prod.fst)).map V.str)) = H6 at g16 e3 eC6 ⊢
    obtain ⟨ws, hws⟩ : ∃ ws, sortS (m.mouths.map Prod.fst) = ws := ⟨_, rfl⟩
    have wmem : ∀ x ∈ ws, x ∈ m.mouths.map Prod.fst := fun x hx => by rw [← hws] at hx; exact (sortS_perm _).mem_iff.mp hx
    have lws : ws.length = m.mouths.length := by rw [← hws, (sortS_perm _).length_eq, List.length_map]
    rw [hws] at e3
    refine ⟨S3, rfl, ⟨_, .inl (.inl e3)⟩, fun D2 nD2 => ?_⟩
    refine lc_it (walk_list (xs := ws.map V.str)) (fun j H' => Grow [] H6 H' ∧ H' D2 = some (.lst (((ws.take j).map (mouthRow m)).map V.str))) ⟨grow_new nD2, upd_same⟩
      (fun j H' _ h => .inl (.inl (h.1.lst (by simp) e3))) (fun j x H7 H8 hj hp hy => ?_) (fun H7 hp => ?_)
    · obtain ⟨gk, eE⟩ := hp
      obtain ⟨rfl, ex⟩ := hy
      rw [List.getElem?_map] at ex
      cases er : ws[j]? with
      | none => rw [er] at ex; cases ex
      | some x =>
        rw [er] at ex
        cases ex
        have hb := ok.mouth (wmem x (List.mem_of_getElem? er))
        obtain ⟨n1', n2'⟩ := ok.mnm _ hb
        have x8 : x.length ≤ 8 := (nm_iff.mp n1').2.1
        have y8 : (mouthOf m x).length ≤ 8 := (nm_iff.mp (ok.web.hand n2')).2.1
        have dg : DGet H8 M (.str x) (some (.str (mouthOf m x))) := by
          have e2 := valM ok.mnd hb
          rw [← e2]
          exact DGet.k (k := .inr x) (Grow.dK (g16.trans gk) eM)
        refine ⟨rfl, yes_if ?_⟩
        refine ⟨.str x, rfl, .inl ⟨x, rfl, by unfold sizeLine; omega, x, rfl, by rw [empty_app]; unfold sizeLine; omega, "@", rfl, by rw [empty_app, app_len, l1]; unfold sizeLine; omega,
          .ref M, rfl, .str x, rfl, M, .str (mouthOf m x), rfl, dg, .inl ⟨mouthOf m x, rfl, by unfold sizeLine; omega, mouthOf m x, rfl, by rw [empty_app, app_len, app_len, l1]; unfold sizeLine; omega, _, eE, ?_, gk.put (fresh_none nD2) eE (fun ps z => by cases z), ?_⟩⟩⟩
        · rw [List.length_map, List.length_map, List.length_take]
          unfold sizeLine
          omega
        · rw [upd_same, empty_app, List.take_add_one, er, Option.toList_some, List.map_append, List.map_append]
          rfl
    · obtain ⟨gk, eE⟩ := hp
      rw [List.length_map, List.take_length] at eE
      have lw : (webRows m.hands m.roads).length = m.roads.length + 1 := by unfold webRows; rw [List.length_cons, List.length_map, (sortP_perm m.roads).length_eq]
      have := ok.web.many
      have := ok.web.len
      refine ⟨C, D2, _, _, rfl, rfl, gk.lst (by simp) eC6, eE, by rw [List.length_append, List.length_map, List.length_map, List.length_map, List.length_map, List.length_map, lw]; unfold sizeLine; omega, fun Z nZ => ?_⟩
      have e9 : upd H7 Z (.lst ((webRows m.hands m.roads).map V.str ++ (ks.map (bookRow m)).map V.str ++ (ws.map (mouthRow m)).map V.str)) Z = some (.lst ((momRows m).map V.str)) := by
        rw [upd_same]
        unfold momRows
        rw [hks, hws, List.map_append, List.map_append]
      exact q Z _ ((g16.trans gk).fresh (by simp) (fresh_none nZ)) ((g16.trans gk).new nZ) e9
end

end Lw

namespace Lw
open PySem PySem.Spec PyProof.Rows L2 GxR Gx
/-! ### a moment read -/
def Mom.rd (m : Mom) : Mom := ⟨sortS m.hands, sortP m.roads, (sortS (m.mouths.map Prod.fst)).map fun x => (x, mouthOf m x), (sortS (m.books.map Prod.fst)).map fun h => (h, bookOf m h)⟩
theorem fst_pair {α : Type} (f : Str → α) (l : List Str) : (l.map fun x => (x, f x)).map Prod.fst = l := by
  rw [List.map_map]
  exact List.map_id l
theorem rd_mouths (m : Mom) : m.rd.mouths.map Prod.fst = sortS (m.mouths.map Prod.fst) := fst_pair _ _
theorem rd_books (m : Mom) : m.rd.books.map Prod.fst = sortS (m.books.map Prod.fst) := fst_pair _ _
theorem Mom.Ok.rd {m : Mom} (h : m.Ok) : m.rd.Ok := by
  refine ⟨h.web.perm (sortS_perm _).symm (sortP_perm _).symm, ?_, fun p hp => ?_, ?_, ?_, fun p hp => ?_⟩
  · rw [rd_mouths]
    exact (sortS_perm _).nodup_iff.mpr h.mnd
  · obtain ⟨x, hx, rfl⟩ := List.mem_map.mp hp
    have := h.mnm _ (h.mouth ((sortS_perm _).mem_iff.mp hx))
    exact ⟨this.1, (sortS_perm _).mem_iff.mpr this.2⟩
  · show ((sortS (m.mouths.map Prod.fst)).map fun x => (x, mouthOf m x)).length ≤ 100
    rw [List.length_map, (sortS_perm _).length_eq, List.length_map]
    exact h.mlen
  · rw [rd_books]
    exact (sortS_perm _).trans (h.bperm.trans (sortS_perm _).symm)
  · obtain ⟨x, hx, rfl⟩ := List.mem_map.mp hp
    have := h.bok _ (h.book ((sortS_perm _).mem_iff.mp hx))
    refine ⟨this.1, fun y hy => ?_⟩
    rw [rd_mouths]
    exact (sortS_perm _).mem_iff.mpr (this.2 y hy)
theorem rd_book {m : Mom} (h : m.Ok) {x : Str} (hx : x ∈ m.books.map Prod.fst) : bookOf m.rd x = bookOf m x := by
  unfold bookOf
  rw [look_mem (l := m.rd.books) (p := (x, bookOf m x)) h.rd.bnd (List.mem_map.mpr ⟨x, (sortS_perm _).mem_iff.mpr hx, rfl⟩)]
  rfl
theorem rd_mouth {m : Mom} (h : m.Ok) {x : Str} (hx : x ∈ m.mouths.map Prod.fst) : mouthOf m.rd x = mouthOf m x := by
  unfold mouthOf
  rw [look_mem (l := m.rd.mouths) (p := (x, mouthOf m x)) h.rd.mnd (List.mem_map.mpr ⟨x, (sortS_perm _).mem_iff.mpr hx, rfl⟩)]
  rfl
theorem rd_rows {m : Mom} (h : m.Ok) : momRows m.rd = momRows m := by
  unfold momRows
  rw [rd_books, rd_mouths, sortS_twice, sortS_twice]
  have e1 : webRows m.rd.hands m.rd.roads = webRows m.hands m.roads := by
    show webRows (sortS m.hands) (sortP m.roads) = _
    unfold webRows
    rw [sortS_twice, sortP_twice]
  have e2 : (sortS (m.books.map Prod.fst)).map (bookRow m.rd) = (sortS (m.books.map Prod.fst)).map (bookRow m) := List.map_congr_left fun x hx => by
    unfold bookRow
    rw [rd_book h ((sortS_perm _).mem_iff.mp hx)]
  have e3 : (sortS (m.mouths.map Prod.fst)).map (mouthRow m.rd) = (sortS (m.mouths.map Prod.fst)).map (mouthRow m) := List.map_congr_left fun x hx => by
    unfold mouthRow
    rw [rd_mouth h ((sortS_perm _).mem_iff.mp hx)]
  rw [e1, e2, e3]
theorem webRows_len {m : Mom} (h : m.Ok) : (webRows m.hands m.roads).length = m.hands.length := by
  unfold webRows
  rw [List.length_cons, List.length_map, (sortP_perm m.roads).length_eq]
  exact h.web.many
theorem bookRow_facts {m : Mom} (h : m.Ok) {x : Str} (hx : x ∈ m.books.map Prod.fst) : Lacks 10 (bookRow m x) ∧ bookRow m x ≠ Str.empty ∧ (bookRow m x).length ≤ 10010 ∧ Txt.partition (bookRow m x) coS = (x, coS, bookText (bookOf m x)) ∧ ∀ c ∈ (bookRow m x).cps.toList, c < 0x110000 := by
  have hb := h.book hx
  have bz : Bk (bookOf m x) := (h.bok _ hb).1
  have nx : isNm x = true := h.web.hand (h.hand hb)
  have lx : x.length ≤ 8 := (nm_iff.mp nx).2.1
  have lt := bookText_len bz
  have l2 : coS.length = 2 := by decide
  have lk : Lacks 10 (bookText (bookOf m x)) := by
    unfold bookText
    split
    · unfold Lacks
      decide +kernel
    · exact lacks_join (by unfold Lacks; decide +kernel) fun y hy => nm_lacks (List.all_eq_true.mp bz.nm y hy) (.inl (by decide))
  refine ⟨lacks_app (lacks_app (nm_lacks nx (.inl (by decide))) (by unfold Lacks; decide +kernel)) lk, fun e => ?_, ?_, ?_, ?_⟩
  · have := congrArg Str.length e
    unfold bookRow at this
    rw [app_len, app_len, l2] at this
    have z : Str.empty.length = 0 := rfl
    omega
  · unfold bookRow
    rw [app_len, app_len, l2]
    omega
  · exact TL.partition_app (s := 58) (S := [32]) rfl (nm_lacks nx (.inl (by decide)))
  · refine app_code (app_code (nm_lt nx) (by decide +kernel)) ?_
    unfold bookText
    split
    · decide +kernel
    · exact join_code (by decide +kernel) fun y hy => nm_lt (List.all_eq_true.mp bz.nm y hy)
theorem mouthRow_facts {m : Mom} (h : m.Ok) {x : Str} (hx : x ∈ m.mouths.map Prod.fst) : Lacks 10 (mouthRow m x) ∧ mouthRow m x ≠ Str.empty ∧ (mouthRow m x).length ≤ 17 ∧ Txt.partition (mouthRow m x) atS = (x, atS, mouthOf m x) ∧ ∀ c ∈ (mouthRow m x).cps.toList, c < 0x110000 := by
  obtain ⟨nx, hy⟩ := h.mnm _ (h.mouth hx)
  have nx : isNm x = true := nx
  have ny : isNm (mouthOf m x) = true := h.web.hand hy
  have lx : x.length ≤ 8 := (nm_iff.mp nx).2.1
  have ly : (mouthOf m x).length ≤ 8 := (nm_iff.mp ny).2.1
  have l2 : atS.length = 1 := by decide
  refine ⟨lacks_app (lacks_app (nm_lacks nx (.inl (by decide))) (by unfold Lacks; decide +kernel)) (nm_lacks ny (.inl (by decide))), fun e => ?_, ?_, ?_, app_code (app_code (nm_lt nx) (by decide +kernel)) (nm_lt ny)⟩
  · have := congrArg Str.length e
    unfold mouthRow at this
    rw [app_len, app_len, l2] at this
    have z : Str.empty.length = 0 := rfl
    omega
  · unfold mouthRow
    rw [app_len, app_len, l2]
    omega
  · exact TL.partition_app (s := 64) (S := []) rfl (nm_lacks nx (.inl (by decide)))
theorem momRow_facts {m : Mom} (h : m.Ok) {x : Str} (hx : x ∈ momRows m) : Lacks 10 x ∧ x ≠ Str.empty ∧ x.length ≤ 10010 ∧ ∀ c ∈ x.cps.toList, c < 0x110000 := by
  unfold momRows at hx
  rcases List.mem_append.mp hx with hx | hx
  · rcases List.mem_append.mp hx with hx | hx
    · have := webRows_lacks h.web x hx
      exact ⟨this.1, this.2.1, by omega, fun c hc => row_code h.web hx hc⟩
    · obtain ⟨y, hy, rfl⟩ := List.mem_map.mp hx
      have := bookRow_facts h ((sortS_perm _).mem_iff.mp hy)
      exact ⟨this.1, this.2.1, this.2.2.1, this.2.2.2.2⟩
  · obtain ⟨y, hy, rfl⟩ := List.mem_map.mp hx
    have := mouthRow_facts h ((sortS_perm _).mem_iff.mp hy)
    exact ⟨this.1, this.2.1, by omega, this.2.2.2.2⟩
theorem momRows_len {m : Mom} (h : m.Ok) : (momRows m).length = m.hands.length + m.hands.length + m.mouths.length := by
  unfold momRows
  rw [List.length_append, List.length_append, webRows_len h, List.length_map, List.length_map, (sortS_perm _).length_eq, (sortS_perm _).length_eq, List.length_map, List.length_map, h.blen]
theorem momText_split {m : Mom} (h : m.Ok) : Txt.split (momText m) nlS = momRows m := split_nl (by unfold momRows webRows; simp) fun x hx => (momRow_facts h hx).1
theorem momText_len {m : Mom} (h : m.Ok) : (momText m).length ≤ 6000000 := by
  have h1 := join_len nlS 10010 (ws := momRows m) fun x hx => (momRow_facts h hx).2.2.1
  have l1 : nlS.length = 1 := by decide
  have := momRows_len h
  have := h.web.len
  have := h.mlen
  have l3 : (momRows m).length ≤ 500 := by omega
  rw [l1] at h1
  have := Nat.mul_le_mul l3 (Nat.le_refl (10010 + 1))
  unfold momText
  omega
/-- a moment that is new throughout -/
def MomNew (H H' : Hp) (T : Addr) (m : Mom) : Prop := ∃ W M B bs, Fresh H M ∧ Fresh H B ∧ (∀ p ∈ bs, Fresh H p.1) ∧ (bs.map Prod.fst).Nodup ∧ H' T = some (.tup [.ref W, .ref M, .ref B]) ∧ WebNew H H' W m.hands m.roads ∧ H' M = some (.dK (kvM m.mouths)) ∧ H' B = some (.dK (kvB bs)) ∧ LsAt H' bs ∧ bs.map Prod.snd = m.books
theorem MomNew.at_ {H H' : Hp} {T : Addr} {m : Mom} (h : MomNew H H' T m) : MomAt H' T m := by
  obtain ⟨W, M, B, bs, _, _, _, _, h1, h2, h3, h4, h5, h6⟩ := h
  exact ⟨W, M, B, bs, h1, h2.at_, h3, h4, h5, h6⟩
theorem MomNew.grow {H0 H H1 H' : Hp} {T : Addr} {m : Mom} (h : MomNew H H1 T m) (g0 : Grow [] H0 H) (g : Grow [] H1 H') : MomNew H0 H' T m := by
  obtain ⟨W, M, B, bs, f1, f2, f3, nd, h1, h2, h3, h4, h5, h6⟩ := h
  exact ⟨W, M, B, bs, g0.fresh (by simp) f1, g0.fresh (by simp) f2, fun p hp => g0.fresh (by simp) (f3 p hp), nd, g.tup (by simp) h1, h2.grow g0 g, Grow.dK g h3, Grow.dK g h4, h5.grow0 g, h6⟩
theorem cut_mid {xs : List V} {i k : Nat} (hi : i ≤ xs.length) (hk : k ≤ xs.length) : cutV xs (some (i : Int)) (some (k : Int)) = (xs.drop i).take (k - i) := by
  unfold cutV
  rw [HT.sIx_nat, HT.sIx_nat, Nat.min_eq_left hi, Nat.min_eq_left hk]
section
variable {P : Program} {w : World} {K : PySem.W.Frag} {mg : Str → Option Value} {base : Heap}
def spMomIn (K : PySem.W.Frag) : Sp := fun vs H Q _ => ∃ (R : Addr) (m : Mom), vs = [.ref R] ∧ H R = some (.lst ((momRows m).map V.str)) ∧ m.Ok ∧ ∀ T H', Fresh H T → Grow [] H H' → MomNew H H' T m.rd → Q (.ref T) H'
theorem ok_moment_in {f c : Addr} {fd : FuncData} (B : Nb mg) (D : DefIs K "moment_in" "moment_in" st_moment_in f fd (.ref c))
    (c_web_in : Callee P w K mg base CX0 1 "web_in" ["rows"] (spWebIn K)) (c_book_in : Callee P w K mg base CX0 1 "book_in" ["row"] (spBookIn K)) : FnG P w K mg base CX0 2 f fd ["rows"] (spMomIn K) := by
  refine D.ok0 (k := 1) sc_moment_in (fun vs H Q E h => ?_) (fun A outer s H vs Q E g hr h => ?_)
  · obtain ⟨R, m, rfl, _⟩ := h
    rfl
  obtain ⟨R, m, rfl, eR, ok, q⟩ := h
  refine ⟨_,
      (pss_cons (ps_set (i := 1) sc_moment_in.nd rfl (.inl rfl) (pe_callB call_len_seq rfl B.n_len PySem.boot_len (pa_cons (pe_bm PySem.F.plainAttrs_str PySem.F.slot_str_split PySem.F.type_str_split mt_split (pe_ix ix_list (pv 0) pe_int (fun _ _ => rfl)) (pa_cons pe_str pa_nil)) pa_nil)))
      (pss_cons (ps_set (i := 2) sc_moment_in.nd rfl (.inl rfl) pe_dnewK)
      (pss_cons (ps_for PassesOwn.never rfl (pi_list (pe_slice sl_list (pv 0) (po_some (pv 1)) (po_some (pe_op op_mulX pe_int (pv 1))))) (pg_name (i := 3) sc_moment_in.nd rfl (.inl rfl)) (
        (pss_cons (ps_asg (pe_bm PySem.F.plainAttrs_str PySem.F.slot_str_partition PySem.F.type_str_partition mt_partition (pv 3) (pa_cons pe_str pa_nil)) (pg_tup rfl (pgs_cons (pg_name (i := 4) sc_moment_in.nd rfl (.inl rfl)) (pgs_cons (pg_name (i := 5) sc_moment_in.nd rfl (.inl rfl)) (pgs_cons (pg_name (i := 6) sc_moment_in.nd rfl (.inl rfl)) pgs_nil)))))
        (pss_one (ps_asg (pe_g c_book_in g (hr.mono (by decide)) pass0 (pa_cons (pv 6) pa_nil)) (pg_sub (pv 2) (pv 4) (set_dict (hu_of hr))))))))
      (pss_cons (ps_set (i := 7) sc_moment_in.nd rfl (.inl rfl) pe_dnewK)
      (pss_cons (ps_for PassesOwn.never rfl (pi_list (pe_slice sl_list (pv 0) (po_some (pe_op op_mulX pe_int (pv 1))) po_none)) (pg_name (i := 3) sc_moment_in.nd rfl (.inl rfl)) (
        (pss_cons (ps_asg (pe_bm PySem.F.plainAttrs_str PySem.F.slot_str_partition PySem.F.type_str_partition mt_partition (pv 3) (pa_cons pe_str pa_nil)) (pg_tup rfl (pgs_cons (pg_name (i := 8) sc_moment_in.nd rfl (.inl rfl)) (pgs_cons (pg_name (i := 5) sc_moment_in.nd rfl (.inl rfl)) (pgs_cons (pg_name (i := 4) sc_moment_in.nd rfl (.inl rfl)) pgs_nil)))))
        (pss_one (ps_asg (pv 4) (pg_sub (pv 7) (pv 8) (set_dict (hu_of hr))))))))
      (pss_one (ps_ret (pe_tup (pa_cons (pe_g c_web_in g (hr.mono (by decide)) pass0 (pa_cons (pe_slice sl_list (pv 0) po_none (po_some (pv 1))) pa_nil)) (pa_cons (pv 7) (pa_cons (pv 2) pa_nil))))))))))), ?_⟩
  have hl := ok.web.len
  have hne : 0 < m.hands.length := List.length_pos_iff.mpr ok.web.ne
  have ml := ok.mlen
  obtain ⟨n, hn⟩ : ∃ n, m.hands.length = n := ⟨_, rfl⟩
  have rl := momRows_len ok
  rw [hn] at rl hl hne
  obtain ⟨ws, hws⟩ : ∃ ws, webRows m.hands m.roads = ws := ⟨_, rfl⟩
  obtain ⟨ks, hks⟩ : ∃ ks, sortS (m.books.map Prod.fst) = ks := ⟨_, rfl⟩
  obtain ⟨ys, hys⟩ : ∃ ys, sortS (m.mouths.map Prod.fst) = ys := ⟨_, rfl⟩
  have lws : ws.length = n := by rw [← hws, webRows_len ok, hn]
  have lks : ks.length = n := by rw [← hks, (sortS_perm _).length_eq, List.length_map, ok.blen, hn]
  have lys : ys.length = m.mouths.length := by rw [← hys, (sortS_perm _).length_eq, List.length_map]
  have kmem : ∀ x ∈ ks, x ∈ m.books.map Prod.fst := fun x hx => by rw [← hks] at hx; exact (sortS_perm _).mem_iff.mp hx
  have ymem : ∀ x ∈ ys, x ∈ m.mouths.map Prod.fst := fun x hx => by rw [← hys] at hx; exact (sortS_perm _).mem_iff.mp hx
  have knd : ks.Nodup := by rw [← hks]; exact (sortS_perm _).nodup_iff.mpr ok.bnd
  have ynd : ys.Nodup := by rw [← hys]; exact (sortS_perm _).nodup_iff.mpr ok.mnd
  have er : (momRows m).map V.str = ws.map V.str ++ (ks.map (bookRow m)).map V.str ++ (ys.map (mouthRow m)).map V.str := by
    unfold momRows
    rw [hws, hks, hys, List.map_append, List.map_append]
  have l0 : (Str.join spS (sortS m.hands)).length ≤ 1800 := (webRows_lacks ok.web _ (show Str.join spS (sortS m.hands) ∈ webRows m.hands m.roads from List.mem_cons_self)).2.2
  have rl2 : ((momRows m).map V.str).length = n + n + m.mouths.length := by rw [List.length_map]; exact rl
  refine ⟨.ref R, rfl, R, _, 0, .str (Str.join spS (sortS m.hands)), rfl, rfl, .inl (.inl eR), atI_nat (j := 0) rfl, rfl, Str.join spS (sortS m.hands), spS, rfl, rfl, by decide, by unfold sizeLine; omega, fun S nS => ?_⟩
  rw [hands_split ok.web]
  have gS : Grow [] H (upd H S (.lst ((sortS m.hands).map V.str))) := grow_new nS
  have eS : upd H S (.lst ((sortS m.hands).map V.str)) S = some (.lst ((sortS m.hands).map V.str)) := upd_same
  generalize upd H S (HO.lst ((sortS m.hands).map V.str)) = H1 at gS eS ⊢
  refine ⟨S, _, rfl, .inl (.inl (.inl eS)), ?_⟩
  rw [show (((sortS m.hands).map V.str).length : Int) = ((n : Nat) : Int) from by rw [List.length_map, (sortS_perm _).length_eq, hn]]
  refine fun Bo nB => ?_
  have fB : Fresh H Bo := gS.fresh (by simp) (fresh_none nB)
  have gB := gS.new (o := .dK []) nB
  have eB0 : upd H1 Bo (.dK []) Bo = some (.dK (kvB [])) := upd_same
  generalize upd H1 Bo (HO.dK []) = H2 at gB eB0 ⊢
  have cm : CMulX 2 (n : Nat) := by
    have h1 : Builtin.Int.intBits 2 ≤ 3 := bits_le (by decide) (by decide)
    have h2 : Builtin.Int.intBits ((n : Nat) : Int) ≤ 10 := bits_le (by omega) (by omega)
    unfold CMulX
    omega
  have two : (2 : Int) * ((n : Nat) : Int) = ((2 * n : Nat) : Int) := by omega
  refine ⟨.ref R, rfl, .int (n : Nat), rfl, _, rfl, .int (n : Nat), rfl, _, _, rfl, rfl, cm, _, rfl, R, _, rfl, .inl (.inl (gB.lst (by simp) eR)), fun L1 nL1 => ?_⟩
  have c1 : cutV ((momRows m).map V.str) (some ((n : Nat) : Int)) (some (2 * ((n : Nat) : Int))) = (ks.map (bookRow m)).map V.str := by
    rw [two, cut_mid (by omega) (by omega), er, List.append_assoc, List.drop_append_of_le_length (by rw [List.length_map]; omega), List.drop_of_length_le (by rw [List.length_map]; omega), List.nil_append, List.take_append_of_le_length (by rw [List.length_map, List.length_map]; omega), List.take_of_length_le (by rw [List.length_map, List.length_map]; omega)]
  rw [c1]
  have gL := gB.new (o := .lst ((ks.map (bookRow m)).map V.str)) nL1
  have eL1 : upd H2 L1 (.lst ((ks.map (bookRow m)).map V.str)) L1 = some (.lst ((ks.map (bookRow m)).map V.str)) := upd_same
  have eB1 : upd H2 L1 (.lst ((ks.map (bookRow m)).map V.str)) Bo = some (.dK (kvB [])) := by rw [upd_ne (ne_of_none eB0 nL1)]; exact eB0
  generalize upd H2 L1 (HO.lst ((ks.map (bookRow m)).map V.str)) = H3 at gL eL1 eB1 ⊢
  refine ⟨L1, rfl, ⟨_, .inl (.inl eL1)⟩, ?_⟩
  refine for_it (walk_list (xs := (ks.map (bookRow m)).map V.str)) (fun j σ H' => ∃ (x3 x4 x5 x6 : Option V) (bs : List (Addr × (Str × List Str))), σ = [some (.ref R), some (.int (n : Nat)), some (.ref Bo), x3, x4, x5, x6, none, none] ∧ Grow [] H H' ∧ H' L1 = some (.lst ((ks.map (bookRow m)).map V.str)) ∧
      H' Bo = some (.dK (kvB bs)) ∧ LsAt H' bs ∧ bs.map Prod.snd = (ks.take j).map (fun h => (h, bookOf m h)) ∧ (∀ p ∈ bs, Fresh H p.1) ∧ (bs.map Prod.fst).Nodup)
    ⟨none, none, none, none, [], rfl, gL, eL1, eB1, fun p hp => (by cases hp), rfl, fun p hp => (by cases hp), List.Pairwise.nil⟩ (fun i σ H' _ h => by obtain ⟨_, _, _, _, _, _, _, e, _⟩ := h; exact .inl (.inl e)) (fun j x σ H4 H5 hj hp hy => ?_) (fun σ H4 hp => ?_)
  · obtain ⟨x3, x4, x5, x6, bs, rfl, g4, eL4, eB4, ls4, eb4, fr4, nd4⟩ := hp
    obtain ⟨rfl, ex⟩ := hy
    rw [List.getElem?_map, List.getElem?_map] at ex
    cases ek : ks[j]? with
    | none => rw [ek] at ex; cases ex
    | some h =>
      rw [ek] at ex
      cases ex
      have mh := kmem h (List.mem_of_getElem? ek)
      obtain ⟨_, _, blen, bpar, _⟩ := bookRow_facts ok mh
      have bz : Bk (bookOf m h) := (ok.bok _ (ok.book mh)).1
      refine ⟨.str (bookRow m h), rfl, rfl, bookRow m h, coS, rfl, rfl, by decide, by unfold sizeLine; omega, fun T1 nT1 => ?_⟩
      rw [bpar]
      have gT := g4.new (o := .tup [.str h, .str coS, .str (bookText (bookOf m h))]) nT1
      have gT0 : Grow [] H5 (upd H5 T1 (.tup [.str h, .str coS, .str (bookText (bookOf m h))])) := grow_new nT1
      have eT : upd H5 T1 (.tup [.str h, .str coS, .str (bookText (bookOf m h))]) T1 = some (.tup [.str h, .str coS, .str (bookText (bookOf m h))]) := upd_same
      have eB5 := Grow.dK gT0 eB4
      have ls5 := ls4.grow0 gT0
      have eL5 := gT0.lst (by simp) eL4
      have room6 : upd H5 T1 (.tup [.str h, .str coS, .str (bookText (bookOf m h))]) T1 = _ := upd_same
      generalize upd H5 T1 (HO.tup [V.str h, V.str coS, V.str (bookText (bookOf m h))]) = H6 at gT eT eB5 ls5 eL5 room6 ⊢
      refine ⟨T1, _, rfl, .inl (.inl eT), rfl, _, _, rfl, _, _, rfl, _, _, rfl, rfl, ?_⟩
      refine ⟨.str (bookText (bookOf m h)), rfl, bookOf m h, rfl, bz, fun L nL => ?_⟩
      have g7 := gT.new (o := .lst ((bookOf m h).map V.str)) nL
      have g70 : Grow [] H6 (upd H6 L (.lst ((bookOf m h).map V.str))) := grow_new nL
      have eL7 : upd H6 L (.lst ((bookOf m h).map V.str)) L = some (.lst ((bookOf m h).map V.str)) := upd_same
      have eB7 := Grow.dK g70 eB5
      have ls7 := ls5.grow0 g70
      have eR7 := g70.lst (by simp) eL5
      have fL : Fresh H L := gT.fresh (by simp) (fresh_none nL)
      have out : L ∉ bs.map Prod.fst := fun z => by
        obtain ⟨p, hp, e⟩ := List.mem_map.mp z
        have := ls5 p hp
        rw [e, nL] at this
        cases this
      generalize upd H6 L (HO.lst ((bookOf m h).map V.str)) = H7 at g7 eL7 eB7 ls7 eR7 ⊢
      have lbs : bs.length = (ks.take j).length := by
        have := congrArg List.length eb4
        rwa [List.length_map, List.length_map] at this
      have ltk : (ks.take j).length ≤ 200 := by rw [List.length_take]; omega
      refine ⟨.ref Bo, rfl, .str h, rfl, Bo, _, rfl, .inl ⟨kvB bs, .inr h, eB7, rfl, by rw [kvB_len]; unfold sizeLine; omega, rfl⟩, ?_⟩
      have hnew : h ∉ ks.take j := fun z => by
        obtain ⟨i, hi⟩ := List.mem_iff_getElem?.mp z
        rw [List.getElem?_take] at hi
        by_cases hij : i < j
        · rw [if_pos hij] at hi
          have := (List.getElem?_inj (List.getElem?_eq_some_iff.mp hi).1 knd).mp (hi.trans ek.symm)
          omega
        · rw [if_neg hij] at hi
          cases hi
      have eP : putK (kvB bs) (.inr h) (V.ref L) = kvB (bs ++ [(L, (h, bookOf m h))]) := by
        rw [putK_new _ (valV_none (by
          intro z
          unfold kvB at z
          rw [List.map_map] at z
          obtain ⟨p, hp, e⟩ := List.mem_map.mp z
          have e : Sum.inr p.2.1 = (Sum.inr h : Key) := e
          have h1 : p.2 ∈ (ks.take j).map fun h => (h, bookOf m h) := by rw [← eb4]; exact List.mem_map.mpr ⟨p, hp, rfl⟩
          obtain ⟨y, hy, e2⟩ := List.mem_map.mp h1
          have e3 : y = p.2.1 := congrArg Prod.fst e2
          rw [← Sum.inr.inj e, ← e3] at hnew
          exact hnew hy))]
        unfold kvB
        rw [List.map_append]
        rfl
      rw [eP]
      have Bne : ∀ p ∈ bs ++ [(L, (h, bookOf m h))], p.1 ≠ Bo := fun p hp z => by
        rcases List.mem_append.mp hp with hp | hp
        · have := ls7 p hp
          rw [z, eB7] at this
          cases this
        · rw [List.mem_singleton.mp hp] at z
          have z : L = Bo := z
          rw [z, eB7] at eL7
          cases eL7
      refine ⟨_, _, _, _, bs ++ [(L, (h, bookOf m h))], rfl, g7.put fB eB7 (fun ps z => by cases z), by rw [upd_ne (fun z => by rw [z, eB7] at eR7; cases eR7)]; exact eR7, upd_same, fun p hp => ?_, ?_, fun p hp => ?_, ?_⟩
      · rw [upd_ne (Bne p hp)]
        rcases List.mem_append.mp hp with hp | hp
        · exact ls7 p hp
        · rw [List.mem_singleton.mp hp]
          exact eL7
      · rw [List.map_append, eb4, List.take_add_one, ek, Option.toList_some, List.map_append]
        rfl
      · rcases List.mem_append.mp hp with hp | hp
        · exact fr4 p hp
        · rw [List.mem_singleton.mp hp]
          exact fL
      · rw [List.map_append]
        exact List.nodup_append.mpr ⟨nd4, List.nodup_cons.mpr ⟨(by simp), List.Pairwise.nil⟩, fun a ha b hb z => out (by
          have hb : b = L := List.mem_singleton.mp hb
          rw [← hb, ← z]
          exact ha)⟩
  · obtain ⟨x3, x4, x5, x6, bs, rfl, g4, _, eB4, ls4, eb4, fr4, nd4⟩ := hp
    rw [List.length_map, List.length_map, List.take_length] at eb4
    refine fun Mo nM => ?_
    have fM : Fresh H Mo := g4.fresh (by simp) (fresh_none nM)
    have gM : Grow [] H4 (upd H4 Mo (.dK [])) := grow_new nM
    have eM0 : upd H4 Mo (.dK []) Mo = some (.dK (kvM [])) := upd_same
    generalize upd H4 Mo (HO.dK []) = H5 at gM eM0 ⊢
    refine ⟨.ref R, rfl, .int (n : Nat), rfl, _, _, rfl, rfl, cm, _, rfl, R, _, rfl, .inl (.inl ((g4.trans gM).lst (by simp) eR)), fun L2 nL2 => ?_⟩
    have c2 : cutV ((momRows m).map V.str) (some (2 * ((n : Nat) : Int))) none = (ys.map (mouthRow m)).map V.str := by
      rw [two, cut_lo, er, List.drop_append_of_le_length (by rw [List.length_append, List.length_map, List.length_map, List.length_map]; omega), List.drop_of_length_le (by rw [List.length_append, List.length_map, List.length_map, List.length_map]; omega), List.nil_append]
    rw [c2]
    have gL2 := gM.new (o := .lst ((ys.map (mouthRow m)).map V.str)) nL2
    have eL2 : upd H5 L2 (.lst ((ys.map (mouthRow m)).map V.str)) L2 = some (.lst ((ys.map (mouthRow m)).map V.str)) := upd_same
    have eM1 : upd H5 L2 (.lst ((ys.map (mouthRow m)).map V.str)) Mo = some (.dK (kvM [])) := by rw [upd_ne (ne_of_none eM0 nL2)]; exact eM0
    generalize upd H5 L2 (HO.lst ((ys.map (mouthRow m)).map V.str)) = H6 at gL2 eL2 eM1 ⊢
    refine ⟨L2, rfl, ⟨_, .inl (.inl eL2)⟩, ?_⟩
    refine for_it (walk_list (xs := (ys.map (mouthRow m)).map V.str)) (fun j σ H' => ∃ (x3 x4 x5 x6 x8 : Option V), σ = [some (.ref R), some (.int (n : Nat)), some (.ref Bo), x3, x4, x5, x6, some (.ref Mo), x8] ∧ Grow [] H4 H' ∧ H' L2 = some (.lst ((ys.map (mouthRow m)).map V.str)) ∧
        H' Mo = some (.dK (kvM ((ys.take j).map fun x => (x, mouthOf m x)))))
      ⟨_, _, _, _, none, rfl, gL2, eL2, eM1⟩ (fun i σ H' _ h => by obtain ⟨_, _, _, _, _, _, _, e, _⟩ := h; exact .inl (.inl e)) (fun j x σ H7 H8 hj hp hy => ?_) (fun σ H7 hp => ?_)
    · obtain ⟨x3, x4, x5, x6, x8, rfl, g7, eL7, eM7⟩ := hp
      obtain ⟨rfl, ex⟩ := hy
      rw [List.getElem?_map, List.getElem?_map] at ex
      cases ek : ys[j]? with
      | none => rw [ek] at ex; cases ex
      | some h =>
        rw [ek] at ex
        cases ex
        have mh := ymem h (List.mem_of_getElem? ek)
        obtain ⟨_, _, blen, bpar, _⟩ := mouthRow_facts ok mh
        refine ⟨.str (mouthRow m h), rfl, rfl, mouthRow m h, atS, rfl, rfl, by decide, by unfold sizeLine; omega, fun T1 nT1 => ?_⟩
        rw [bpar]
        have gT0 : Grow [] H8 (upd H8 T1 (.tup [.str h, .str atS, .str (mouthOf m h)])) := grow_new nT1
        have eT : upd H8 T1 (.tup [.str h, .str atS, .str (mouthOf m h)]) T1 = some (.tup [.str h, .str atS, .str (mouthOf m h)]) := upd_same
        have eM8 := Grow.dK gT0 eM7
        have eL8 := gT0.lst (by simp) eL7
        have g8 := g7.trans gT0
        generalize upd H8 T1 (HO.tup [V.str h, V.str atS, V.str (mouthOf m h)]) = H9 at gT0 eT eM8 eL8 g8 ⊢
        refine ⟨T1, _, rfl, .inl (.inl eT), rfl, _, _, rfl, _, _, rfl, _, _, rfl, rfl, ?_⟩
        have ltk : (ys.take j).length ≤ 200 := by rw [List.length_take]; omega
        refine ⟨.str (mouthOf m h), rfl, .ref Mo, rfl, .str h, rfl, Mo, _, rfl, .inl ⟨kvM ((ys.take j).map fun x => (x, mouthOf m x)), .inr h, eM8, rfl, by unfold kvM; rw [List.length_map, List.length_map]; unfold sizeLine; omega, rfl⟩, ?_⟩
        have hnew : h ∉ ys.take j := fun z => by
          obtain ⟨i, hi⟩ := List.mem_iff_getElem?.mp z
          rw [List.getElem?_take] at hi
          by_cases hij : i < j
          · rw [if_pos hij] at hi
            have := (List.getElem?_inj (List.getElem?_eq_some_iff.mp hi).1 ynd).mp (hi.trans ek.symm)
            omega
          · rw [if_neg hij] at hi
            cases hi
        have eP : putK (kvM ((ys.take j).map fun x => (x, mouthOf m x))) (.inr h) (V.str (mouthOf m h)) = kvM ((ys.take (j + 1)).map fun x => (x, mouthOf m x)) := by
          rw [putK_new _ (valV_none (by
            intro z
            unfold kvM at z
            rw [List.map_map, List.map_map] at z
            obtain ⟨y, hy, e⟩ := List.mem_map.mp z
            have e : Sum.inr y = (Sum.inr h : Key) := e
            rw [Sum.inr.inj e] at hy
            exact hnew hy)), List.take_add_one, ek, Option.toList_some, List.map_append]
          unfold kvM
          rw [List.map_append]
          rfl
        rw [eP]
        exact ⟨_, _, _, _, _, rfl, g8.put (fresh_none nM) eM8 (fun ps z => by cases z), by rw [upd_ne (fun z => by rw [z, eM8] at eL8; cases eL8)]; exact eL8, upd_same⟩
    · obtain ⟨x3, x4, x5, x6, x8, rfl, g7, _, eM7⟩ := hp
      rw [List.length_map, List.length_map, List.take_length] at eM7
      have g47 := g4.trans g7
      refine ⟨.ref R, rfl, .int (n : Nat), rfl, _, rfl, R, _, rfl, .inl (.inl (g47.lst (by simp) eR)), fun L3 nL3 => ?_⟩
      have c3 : cutV ((momRows m).map V.str) none (some ((n : Nat) : Int)) = (webRows m.hands m.roads).map V.str := by
        rw [cut_hi, er, hws, List.append_assoc, List.take_append_of_le_length (by rw [List.length_map]; omega), List.take_of_length_le (by rw [List.length_map]; omega)]
      rw [c3]
      have g8 := g7.new (o := .lst ((webRows m.hands m.roads).map V.str)) nL3
      have g80 : Grow [] H7 (upd H7 L3 (.lst ((webRows m.hands m.roads).map V.str))) := grow_new nL3
      have eL3 : upd H7 L3 (.lst ((webRows m.hands m.roads).map V.str)) L3 = some (.lst ((webRows m.hands m.roads).map V.str)) := upd_same
      have eM8 := Grow.dK g80 eM7
      generalize upd H7 L3 (HO.lst ((webRows m.hands m.roads).map V.str)) = H8 at g8 g80 eL3 eM8 ⊢
      refine ⟨L3, m.hands, m.roads, rfl, eL3, ok.web, fun W H9 fW g9 nW => ?_⟩
      have g49 := g8.trans g9
      refine ⟨.ref Mo, rfl, .ref Bo, rfl, by show 3 ≤ sizeLine; decide, fun T nT => ?_⟩
      have gT : Grow [] H9 (upd H9 T (.tup [.ref W, .ref Mo, .ref Bo])) := grow_new nT
      have all := (g4.trans g49).trans gT
      refine q T _ ((g4.trans g49).fresh (by simp) (fresh_none nT)) all ⟨W, Mo, Bo, bs, fM, fB, fr4, nd4, upd_same, nW.grow (g4.trans g8) gT, ?_, ?_, ls4.grow0 (g49.trans gT), ?_⟩
      · show upd H9 T _ Mo = some (.dK (kvM ((sortS (m.mouths.map Prod.fst)).map fun x => (x, mouthOf m x))))
        rw [hys]
        exact Grow.dK (g9.trans gT) eM8
      · exact Grow.dK (g49.trans gT) eB4
      · rw [eb4]
        show _ = (sortS (m.books.map Prod.fst)).map fun h => (h, bookOf m h)
        rw [hks]
end

end Lw

namespace Lw
open PySem PySem.Spec PyProof.Rows L2 GxR Gx
section
variable {P : Program} {w : World} {K : PySem.W.Frag} {mg : Str → Option Value} {base : Heap}
/-! ### show_moment, read_moment -/
def spShowM (K : PySem.W.Frag) (T1 T2 T3 T4 T5 T6 : Addr) : Sp := fun vs H Q _ => ∃ (T : Addr) (m : Mom), vs = [.ref T] ∧ TabG H T1 ∧ TabG H T2 ∧ TabG H T3 ∧ TabG H T4 ∧ TabG H T5 ∧ TabG H T6 ∧ MomAt H T m ∧ m.Ok ∧ ∀ H', Grow [] H H' → Q (.str (momText m)) H'
theorem ok_show_moment {f c T1 T2 T3 T4 T5 T6 : Addr} {fd : FuncData} (D : DefIs K "show_moment" "show_moment" st_show_moment f fd (.ref c))
    (c_is_moment : Callee P w K mg base CX0 14 "is_moment" ["thing"] (spIsMom K T1 T2 T3 T4 T5 T6)) (c_rows_of_moment : Callee P w K mg base CX0 2 "rows_of_moment" ["moment"] (spRowsM K)) : FnG P w K mg base CX0 15 f fd ["moment"] (spShowM K T1 T2 T3 T4 T5 T6) := by
  refine D.ok0 (k := 14) sc_show_moment (fun vs H Q E h => ?_) (fun A outer s H vs Q E g hr h => ?_)
  · obtain ⟨T, m, rfl, _⟩ := h
    rfl
  obtain ⟨T, m, rfl, t1, t2, t3, t4, t5, t6, hT, ok, q⟩ := h
  refine ⟨_,
      (pss_cons (ps_if (pt_not (pt_val (pe_g c_is_moment g (hr.mono (by decide)) pass0 (pa_cons (pv 0) pa_nil)))) (
        (pss_one ps_dead)) pss_nil)
      (pss_one (ps_ret (pe_bm PySem.F.plainAttrs_str PySem.F.slot_str_join PySem.F.type_str_join mt_join pe_str (pa_cons (pe_g c_rows_of_moment g (hr.mono (by decide)) pass0 (pa_cons (pv 0) pa_nil)) pa_nil))))), ?_⟩
  refine ⟨.ref T, rfl, T, m, rfl, t1, t2, t3, t4, t5, t6, hT, ok, fun H1 g1 => ⟨true, rfl, iteF ?_⟩⟩
  refine ⟨rfl, .ref T, rfl, T, m, rfl, hT.grow g1, ok, fun R H2 fR g2 eR => ?_⟩
  refine ⟨nlS, R, momRows m, rfl, rfl, .inl (.inl (.inl eR)), ?_, ?_⟩
  · have h1 := sum_le (m := 10010) (ws := momRows m) fun x hx => (momRow_facts ok hx).2.2.1
    have l1 : nlS.length = 1 := by decide
    have := momRows_len ok
    have := ok.web.len
    have := ok.mlen
    have l3 : (momRows m).length ≤ 500 := by omega
    have := Nat.mul_le_mul l3 (Nat.le_refl 10010)
    rw [l1]
    omega
  · rw [TL.join_eq]
    exact q H2 (g1.trans g2)
def spReadM (K : PySem.W.Frag) (T1 T2 T3 T4 T5 T6 : Addr) : Sp := fun vs H Q _ => ∃ (m : Mom), vs = [.str (momText m)] ∧ TabG H T1 ∧ TabG H T2 ∧ TabG H T3 ∧ TabG H T4 ∧ TabG H T5 ∧ TabG H T6 ∧ m.Ok ∧ ∀ T H', Fresh H T → Grow [] H H' → MomNew H H' T m.rd → Q (.ref T) H'
theorem ok_read_moment {f c T1 T2 T3 T4 T5 T6 : Addr} {fd : FuncData} (D : DefIs K "read_moment" "read_moment" st_read_moment f fd (.ref c))
    (c_is_moment : Callee P w K mg base CX0 14 "is_moment" ["thing"] (spIsMom K T1 T2 T3 T4 T5 T6)) (c_rows_of_moment : Callee P w K mg base CX0 2 "rows_of_moment" ["moment"] (spRowsM K))
    (c_rows_in : Callee P w K mg base CX0 1 "rows_in" ["text"] (spRowsIn K)) (c_moment_in : Callee P w K mg base CX0 2 "moment_in" ["rows"] (spMomIn K)) : FnG P w K mg base CX0 15 f fd ["text"] (spReadM K T1 T2 T3 T4 T5 T6) := by
  refine D.ok0 (k := 14) sc_read_moment (fun vs H Q E h => ?_) (fun A outer s H vs Q E g hr h => ?_)
  · obtain ⟨m, rfl, _⟩ := h
    rfl
  obtain ⟨m, rfl, t1, t2, t3, t4, t5, t6, ok, q⟩ := h
  refine ⟨_,
      (pss_cons (ps_set (i := 1) sc_read_moment.nd rfl (.inl rfl) (pe_g c_rows_in g (hr.mono (by decide)) pass0 (pa_cons (pv 0) pa_nil)))
      (pss_cons (ps_set (i := 2) sc_read_moment.nd rfl (.inl rfl) (pe_g c_moment_in g (hr.mono (by decide)) pass0 (pa_cons (pv 1) pa_nil)))
      (pss_cons (ps_if (PW.pt (pw_or (pt_not (pt_val (pe_g c_is_moment g (hr.mono (by decide)) pass0 (pa_cons (pv 2) pa_nil)))) (pw_or1 (pt_cmpR (op_neD hr.units) (pe_g c_rows_of_moment g (hr.mono (by decide)) pass0 (pa_cons (pv 2) pa_nil)) (pv 1) (nomark _))))) (
        (pss_one ps_dead)) pss_nil)
      (pss_one (ps_ret (pv 2)))))), ?_⟩
  have tl := momText_len ok
  refine ⟨.str (momText m), rfl, momText m, rfl, by omega, fun R nR => ?_⟩
  rw [momText_split ok]
  have gR : Grow [] H (upd H R (.lst ((momRows m).map V.str))) := grow_new nR
  have eR : upd H R (.lst ((momRows m).map V.str)) R = some (.lst ((momRows m).map V.str)) := upd_same
  generalize upd H R (HO.lst ((momRows m).map V.str)) = H1 at gR eR ⊢
  refine ⟨.ref R, rfl, R, m, rfl, eR, ok, fun T H2 fT g2 nT => ?_⟩
  have g02 := gR.trans g2
  refine ⟨.ref T, rfl, T, m.rd, rfl, g02.tabs _ t1, g02.tabs _ t2, g02.tabs _ t3, g02.tabs _ t4, g02.tabs _ t5, g02.tabs _ t6, nT.at_, ok.rd, fun H3 g3 => ⟨true, rfl, iteF ?_⟩⟩
  refine ⟨.ref T, rfl, T, m.rd, rfl, nT.at_.grow g3, ok.rd, fun R2 H4 fR2 g4 eR2 => ?_⟩
  rw [rd_rows ok] at eR2
  have eR4 := ((g2.trans g3).trans g4).lst (by simp) eR
  have f : Fine (.list ((momRows m).map PyData.str)) 1 6000000 := Fine.list (n := 0) (m := 10010) (fun d hd => by
    obtain ⟨x, hx, rfl⟩ := List.mem_map.mp hd
    exact .str (momRow_facts ok hx).2.2.2 (momRow_facts ok hx).2.2.1) (by
    have := momRows_len ok
    have := ok.web.len
    have := ok.mlen
    have l3 : (momRows m).length ≤ 500 := by omega
    have := Nat.mul_le_mul l3 (Nat.le_refl (10010 + 1))
    rw [List.length_map]
    omega)
  refine ⟨.ref R, rfl, _, _, dp_book (.inl (.inl eR2)), dp_book (.inl (.inl eR4)), f.shaped (by decide), f.shaped (by decide), ?_⟩
  rw [f.eqv]
  refine ⟨false, rfl, iteF ⟨.ref T, rfl, ?_⟩⟩
  exact q T H4 (gR.fresh (by simp) fT) ((g02.trans g3).trans g4) (nT.grow gR (g3.trans g4))
end

end Lw

namespace Lw
open PySem PySem.Spec PyProof.Rows L2 GxR Gx
section
variable {P : Program} {w : World} {K : PySem.W.Frag} {mg : Str → Option Value} {base : Heap}
/-! ### _law_moment -/
theorem merge_all : ∀ (kvs acc : List (Key × V)), ((acc ++ kvs).map Prod.fst).Nodup → mergeK acc kvs = acc ++ kvs
  | [], acc, _ => (List.append_nil acc).symm
  | kv :: kvs, acc, nd => by
    have e : putK acc kv.1 kv.2 = acc ++ [kv] := by
      rw [putK_new _ (valV_none fun z => ?_)]
      rw [List.map_append, List.map_cons] at nd
      exact (List.nodup_append.mp nd).2.2 _ z _ List.mem_cons_self rfl
    show mergeK (putK acc kv.1 kv.2) kvs = _
    rw [e, merge_all kvs (acc ++ [kv]) (by rw [List.append_assoc]; exact nd), List.append_assoc]
    rfl
theorem merge_nd {kvs : List (Key × V)} (nd : (kvs.map Prod.fst).Nodup) : mergeK [] kvs = kvs := merge_all kvs [] nd
theorem kvM_keys (ms : List (Str × Str)) : (kvM ms).map Prod.fst = (ms.map Prod.fst).map Sum.inr := by
  unfold kvM
  rw [List.map_map, List.map_map]
  rfl
theorem inr_nodup {l : List Str} (nd : l.Nodup) : (l.map (Sum.inr : Str → Key)).Nodup := List.pairwise_map.mpr (nd.imp fun q e => q (Sum.inr.inj e))
theorem kvM_nd {ms : List (Str × Str)} (nd : (ms.map Prod.fst).Nodup) : ((kvM ms).map Prod.fst).Nodup := by
  rw [kvM_keys]
  exact inr_nodup nd
/-- a list of pairs, each a tuple -/
def TupsAt (H : Hp) (ps : List Addr) (kvs : List (Key × V)) : Prop := Paired (fun a kv => H a = some (.tup [kV kv.1, kv.2])) ps kvs
theorem paired_map {α β : Type} {F G : α → β → Prop} (h : ∀ a b, F a b → G a b) : ∀ {xs : List α} {ys : List β}, Paired F xs ys → Paired G xs ys
  | _, _, .nil => .nil
  | _, _, .cons r t => .cons (h _ _ r) (paired_map h t)
theorem paired_snoc {α β : Type} {F : α → β → Prop} {a : α} {b : β} (h : F a b) : ∀ {xs : List α} {ys : List β}, Paired F xs ys → Paired F (xs ++ [a]) (ys ++ [b])
  | _, _, .nil => .cons h .nil
  | _, _, .cons r t => .cons r (paired_snoc h t)
theorem TupsAt.grow {ex : List Addr} {H H' : Hp} {ps : List Addr} {kvs : List (Key × V)} (h : TupsAt H ps kvs) (g : Grow ex H H') (l : Lists ex H) : TupsAt H' ps kvs := paired_map (fun a kv e => g.tup (fun z => l a z _ e) e) h
def spMoment (K : PySem.W.Frag) : Sp := fun vs H Q _ => ∃ (p W : Addr) (c : Int) (hands : List Str) (roads : List (Str × Str)), vs = [.ref p, .ref W] ∧ Pot H p c ∧ c ≤ 2 ^ 18 ∧ WebAt H W hands roads ∧ WebOk hands roads ∧
  ∀ T H' (m : Mom), Fresh H T → Grow [p] H H' → MomAt H' T m → m.Ok → m.hands.length = hands.length → Pot H' p (c + 5000) → Q (.ref T) H'
theorem ok_law_moment {f c : Addr} {fd : FuncData} (B : Nb mg) (D : DefIs K "_law_moment" "_law_moment" st_law_moment f fd (.ref c))
    (c_law_dip : Callee P w K mg base CX0 3 "_law_dip" ["pot", "many"] (spDip K)) (c_law_names : Callee P w K mg base CX0 4 "_law_names" ["pot", "many"] (spNames K)) : FnG P w K mg base CX0 5 f fd ["pot", "web"] (spMoment K) := by
  refine D.ok0 (k := 4) sc_law_moment (fun vs H Q E h => ?_) (fun A outer s H vs Q E g hr h => ?_)
  · obtain ⟨p, W, c, hands, roads, rfl, _⟩ := h
    rfl
  obtain ⟨p, W, c, hands, roads, rfl, pt, hc, hW, wo, q⟩ := h
  refine ⟨_,
      (pss_cons (ps_set (i := 2) sc_law_moment.nd rfl (.inl rfl) (pe_g c_law_names g (hr.mono (by decide)) pass0 (pa_cons (pv 0) (pa_cons (pe_g c_law_dip g (hr.mono (by decide)) pass0 (pa_cons (pv 0) (pa_cons pe_int pa_nil))) pa_nil))))
      (pss_cons (ps_set (i := 3) sc_law_moment.nd rfl (.inl rfl) (pe_callTy (call_dictP rfl) rfl B.n_dict (by decide +kernel) (pa_cons (pe_lc (own := [("word", 4)]) (tt := tYes) (g := (gName 4)) rfl sc_law_moment.nd (pi_list (pv 2)) (blkOk_by (N := N_law_moment) (sc := defScope st_law_moment) (by decide +kernel)) (fun _ _ _ _ _ => (pg_name (i := 4) sc_law_moment.nd rfl (.inl rfl))) (fun _ _ _ _ _ => pts_nil) (fun _ _ _ _ _ => pe_to (pe_tup (pa_cons (pv 4) (pa_cons (pe_ix ix_list (pe_ix ix_tup (pv 1) pe_int (fun _ _ => rfl)) (pe_g c_law_dip g (hr.mono (by decide)) pass0 (pa_cons (pv 0) (pa_cons (pe_callB call_len_seq rfl B.n_len PySem.boot_len (pa_cons (pe_ix ix_tup (pv 1) pe_int (fun _ _ => rfl)) pa_nil)) pa_nil))) (fun _ _ => rfl)) pa_nil))))) pa_nil)))
      (pss_cons (ps_set (i := 5) sc_law_moment.nd rfl (.inl rfl) pe_dnewK)
      (pss_cons (ps_for PassesOwn.never rfl (pi_list (pe_revL (pe_ix ix_tup (pv 1) pe_int (fun _ _ => rfl)))) (pg_name (i := 6) sc_law_moment.nd rfl (.inl rfl)) (
        (pss_cons (ps_set (i := 7) sc_law_moment.nd rfl (.inr rfl) (pe_callTy call_list_of rfl B.n_list (by decide +kernel) (pa_cons (pv 2) pa_nil)))
        (pss_one (ps_asg (pe_lc (own := [("turn", 8)]) (tt := tYes) (g := (gName 8)) rfl sc_law_moment.nd (pi_range1 rfl B.n_range (pa_cons (pe_g c_law_dip g (hr.mono (by decide)) pass0 (pa_cons (pv 0) (pa_cons (pe_op op_add (pe_callB call_len_seq rfl B.n_len PySem.boot_len (pa_cons (pv 2) pa_nil)) pe_int) pa_nil))) pa_nil)) (blkOk_by (N := N_law_moment) (sc := defScope st_law_moment) (by decide +kernel)) (fun _ _ _ _ _ => (pg_name (i := 8) sc_law_moment.nd rfl (.inl rfl))) (fun _ _ _ _ _ => pts_nil) (fun _ _ _ _ _ => pe_to (pe_bm PySem.F.plainAttrs_list PySem.F.slot_list_pop PySem.F.type_list_pop mt_popAt (pv 7) (pa_cons (pe_g c_law_dip g (hr.mono (by decide)) pass0 (pa_cons (pv 0) (pa_cons (pe_callB call_len_seq rfl B.n_len PySem.boot_len (pa_cons (pv 7) pa_nil)) pa_nil))) pa_nil)))) (pg_sub (pv 5) (pv 6) (set_dict (hu_of hr))))))))
      (pss_one (ps_ret (pe_tup (pa_cons (pv 1) (pa_cons (pv 3) (pa_cons (pv 5) pa_nil)))))))))), ?_⟩
  have hne := wo.ne
  have hl := wo.len
  refine ⟨.ref p, rfl, .ref p, rfl, p, 8, c, rfl, by decide, by decide, by omega, pt, fun v H1 a0 a1 g1 pt1 => ?_⟩
  obtain ⟨k, rfl⟩ : ∃ k : Nat, v = (k : Int) := ⟨v.toNat, (Int.toNat_of_nonneg a0).symm⟩
  refine ⟨p, k, _, rfl, by omega, pt1, by omega, fun Wd H2 words fW g2 eWd wnd wnm wl pt2 => ?_⟩
  have g02 := g1.trans g2
  have fWd : Fresh H Wd := Fresh.back fW g1 pt1
  have Wdp : Wd ≠ p := pt1.other fW
  have hW2 := hW.growP hne pt g02
  have web : ∀ {H' : Hp}, Grow [p] H2 H' → ∃ hs, H' W = some (.tup [.ref hs, .ref (Classical.choose (Classical.choose_spec hW2))]) ∧ H' hs = some (.lst (hands.map V.str)) := fun {H'} g => by
    obtain ⟨h1, h2, _⟩ := Classical.choose_spec (Classical.choose_spec hW2)
    have ep := pt2.lists
    obtain ⟨pa, pb, pk, epp, _⟩ := pt2
    refine ⟨_, g.tup (fun z => ep _ z _ h1) h1, g.lst (fun z => ?_) h2⟩
    rw [List.mem_singleton.mp z, epp] at h2
    cases hands with
    | nil => exact hne rfl
    | cons x r => cases h2
  refine ⟨.ref Wd, rfl, Wd, rfl, ⟨_, .inl (.inl eWd)⟩, fun D1 n1 => ?_⟩
  have f1 : Fresh H2 D1 := fresh_none n1
  have D1p : D1 ≠ p := pt2.other f1
  refine lc_it (walk_list (xs := words.map V.str)) (fun j H' => ∃ (ps : List Addr) (ms : List (Str × Str)), Grow [p] H2 H' ∧ Pot H' p (c + 201 + j) ∧ H' D1 = some (.lst (ps.map V.ref)) ∧ TupsAt H' ps (kvM ms) ∧ ms.map Prod.fst = words.take j ∧ ∀ q ∈ ms, q.2 ∈ hands)
    ⟨[], [], (grow_new n1).any, (pt2.new n1).mono (by omega), upd_same, .nil, rfl, fun q hq => (by cases hq)⟩ (fun j H' _ h => by obtain ⟨_, _, g, _⟩ := h; exact .inl (.inl (g.lst (by simpa using Wdp) eWd))) (fun j x H3 H4 hj hp hy => ?_) (fun H3 hp => ?_)
  · obtain ⟨ps, ms, g3, pt3, eD, tp, em, mh⟩ := hp
    obtain ⟨rfl, ex⟩ := hy
    rw [List.length_map] at hj
    rw [List.getElem?_map] at ex
    cases ew : words[j]? with
    | none => rw [ew] at ex; cases ex
    | some x =>
      rw [ew] at ex
      cases ex
      obtain ⟨hs, eW4, eh4⟩ := web g3
      refine ⟨rfl, yes_if ⟨.str x, rfl, .ref W, rfl, W, _, 0, .ref hs, rfl, rfl, .inl (.inl eW4), rfl, .ref p, rfl, .ref W, rfl, W, _, 0, .ref hs, rfl, rfl, .inl (.inl eW4), rfl, hs, _, rfl, .inl (.inl (.inl eh4)), ?_⟩⟩
      have hpos : 0 < hands.length := List.length_pos_iff.mpr hne
      refine ⟨p, _, _, rfl, by rw [List.length_map]; omega, by rw [List.length_map]; omega, by omega, pt3, fun v H5 b0 b1 g5 pt5 => ?_⟩
      rw [List.length_map] at b1
      have hv : v.toNat < hands.length := by omega
      obtain ⟨hs5, eW5, eh5⟩ := web (g3.trans g5)
      have e54 : hs5 = hs := by
        have e1 := eW5
        rw [g5.tup (fun z => pt3.lists _ z _ eW4) eW4] at e1
        cases e1
        rfl
      subst e54
      have at_ : atI (hands.map V.str) v = some (.str hands[v.toNat]) := at_of (j := v.toNat) (by omega) (by rw [List.getElem?_map, List.getElem?_eq_getElem hv]; rfl)
      refine ⟨hs5, _, v, .str hands[v.toNat], rfl, rfl, .inl (.inl eh5), at_, by show 2 ≤ sizeLine; decide, fun T nT => ?_⟩
      have g6 := (g3.trans g5).new (o := .tup [.str x, .str hands[v.toNat]]) nT
      have g60 : Grow [] H5 (upd H5 T (.tup [.str x, .str hands[v.toNat]])) := grow_new nT
      have pt6 := pt5.new (o := .tup [.str x, .str hands[v.toNat]]) nT
      have eT : upd H5 T (.tup [.str x, .str hands[v.toNat]]) T = some (.tup [kV (Sum.inr x : Key), .str hands[v.toNat]]) := upd_same
      have eD6 := g60.lst (by simp) (g5.lst (p := D1) (by simpa using D1p) eD)
      have tp6 := (tp.grow g5 pt3.lists).grow g60 (lists_none _)
      generalize upd H5 T (HO.tup [V.str x, V.str hands[v.toNat]]) = H6 at g6 pt6 eT eD6 tp6 ⊢
      have lps : ps.length = j := by
        have h1 := congrArg List.length em
        have h2 := Paired.length tp
        unfold kvM at h2
        rw [List.length_map] at h1 h2
        rw [List.length_take] at h1
        omega
      have gP := grow_at (ex := [D1]) (o := .lst (ps.map V.ref ++ [.ref T])) eD6 (fun ps z => by cases z) (by simp)
      refine ⟨_, eD6, by rw [List.length_map]; unfold sizeLine; omega, ps ++ [T], ms ++ [(x, hands[v.toNat])], g6.put f1 eD6 (fun ps z => by cases z), (pt6.at (Ne.symm D1p)).mono (by omega), by rw [List.map_append]; exact upd_same, ?_, ?_, fun q hq => ?_⟩
      · unfold kvM
        rw [List.map_append]
        have tp7 : TupsAt H6 (ps ++ [T]) (kvM ms ++ [((Sum.inr x : Key), V.str hands[v.toNat])]) := by
          have pr : (fun (a : Addr) (kv : Key × V) => H6 a = some (HO.tup [kV kv.1, kv.2])) T ((Sum.inr x : Key), V.str hands[v.toNat]) := eT
          exact @paired_snoc Addr (Key × V) (fun a kv => H6 a = some (HO.tup [kV kv.1, kv.2])) T ((Sum.inr x : Key), V.str hands[v.toNat]) pr ps (kvM ms) tp6
        exact tp7.grow gP (lists_one eD6)
      · rw [List.map_append, em, List.take_add_one, ew]
        rfl
      · rcases List.mem_append.mp hq with hq | hq
        · exact mh q hq
        · rw [List.mem_singleton.mp hq]
          exact List.getElem_mem hv
  · obtain ⟨ps, ms, g3, pt3, eD, tp, em, mh⟩ := hp
    rw [List.length_map, List.take_length] at em
    have mnd : (ms.map Prod.fst).Nodup := by rw [em]; exact wnd
    refine ⟨D1, ps, kvM ms, rfl, .inl (.inl eD), paired_map (fun a kv e => .inl (.inl e)) tp, fun Mo nM => ?_⟩
    rw [merge_nd (kvM_nd mnd)]
    have gM := g3.new (o := .dK (kvM ms)) nM
    have ptM := pt3.new (o := .dK (kvM ms)) nM
    have eM : upd H3 Mo (.dK (kvM ms)) Mo = some (.dK (kvM ms)) := upd_same
    generalize upd H3 Mo (HO.dK (kvM ms)) = H4 at gM ptM eM ⊢
    refine fun Bo nB => ?_
    have g5 := gM.new (o := .dK []) nB
    have pt5 := ptM.new (o := .dK []) nB
    have eB5 : upd H4 Bo (.dK []) Bo = some (.dK (kvB [])) := upd_same
    have eM5 := Grow.dK (grow_new (ex := []) (o := .dK []) nB) eM
    have fB2 : Fresh H2 Bo := Fresh.back (fresh_none nB) gM ptM
    have fM2 : Fresh H2 Mo := Fresh.back (fresh_none nM) g3 pt3
    have Bp : Bo ≠ p := pt2.other fB2
    have Mp : Mo ≠ p := pt2.other fM2
    generalize upd H4 Bo (HO.dK []) = H5 at g5 pt5 eB5 eM5 ⊢
    obtain ⟨hs, eW5, eh5⟩ := web g5
    refine ⟨.ref W, rfl, W, _, 0, .ref hs, rfl, rfl, .inl (.inl eW5), rfl, hs, _, rfl, .inl (.inl eh5), fun Rv nRv => ?_⟩
    rw [← List.map_reverse]
    have g6 := g5.new (o := .lst (hands.reverse.map V.str)) nRv
    have pt6 := pt5.new (o := .lst (hands.reverse.map V.str)) nRv
    have gR0 : Grow [] H5 (upd H5 Rv (.lst (hands.reverse.map V.str))) := grow_new nRv
    have eRv : upd H5 Rv (.lst (hands.reverse.map V.str)) Rv = some (.lst (hands.reverse.map V.str)) := upd_same
    have Rp : Rv ≠ p := pt5.other (fresh_none nRv)
    have eB6 := Grow.dK gR0 eB5
    have eM6 := Grow.dK gR0 eM5
    generalize upd H5 Rv (HO.lst (hands.reverse.map V.str)) = H6 at g6 pt6 eRv eB6 eM6 ⊢
    refine ⟨Rv, rfl, ⟨_, .inl (.inl eRv)⟩, ?_⟩
    rw [List.length_map] at pt6
    refine for_it (walk_list (xs := hands.reverse.map V.str)) (fun j σ H' => ∃ (x6 x7 : Option V) (bs : List (Addr × (Str × List Str))), σ = [some (.ref p), some (.ref W), some (.ref Wd), some (.ref Mo), none, some (.ref Bo), x6, x7, none] ∧ Grow [p] H2 H' ∧ Pot H' p (c + 210 + 20 * j) ∧
        H' Rv = some (.lst (hands.reverse.map V.str)) ∧ H' Mo = some (.dK (kvM ms)) ∧ H' Bo = some (.dK (kvB bs)) ∧ LsAt H' bs ∧ (bs.map fun q => q.2.1) = hands.reverse.take j ∧ ∀ q ∈ bs, Bk q.2.2 ∧ ∀ x ∈ q.2.2, x ∈ words)
      ⟨none, none, [], rfl, g6, pt6.mono (by omega), eRv, eM6, eB6, fun q hq => (by cases hq), rfl, fun q hq => (by cases hq)⟩ (fun j σ H' _ h => by obtain ⟨_, _, _, _, _, _, e, _⟩ := h; exact .inl (.inl e)) (fun j x σ H7 H8 hj hp hy => ?_) (fun σ H7 hp => ?_)
    · obtain ⟨x6, x7, bs, rfl, g7, pt7, eRv7, eM7, eB7, ls7, eb7, bk7⟩ := hp
      obtain ⟨rfl, ex⟩ := hy
      rw [List.length_map, List.length_reverse] at hj
      rw [List.getElem?_map] at ex
      cases eh : hands.reverse[j]? with
      | none => rw [eh] at ex; cases ex
      | some h =>
        rw [eh] at ex
        cases ex
        have eWd8 := g7.lst (by simpa using Wdp) eWd
        refine ⟨.ref Wd, rfl, Wd, _, rfl, .inl (.inl (.inl eWd8)), fun Lf nLf => ?_⟩
        have gL0 : Grow [] H8 (upd H8 Lf (.lst (words.map V.str))) := grow_new nLf
        have fLf : Fresh H8 Lf := fresh_none nLf
        have Lfp : Lf ≠ p := pt7.other fLf
        have pt9 := pt7.new (o := .lst (words.map V.str)) nLf
        have eLf : upd H8 Lf (.lst (words.map V.str)) Lf = some (.lst (words.map V.str)) := upd_same
        have eWd9 := gL0.lst (by simp) eWd8
        generalize upd H8 Lf (HO.lst (words.map V.str)) = H9 at gL0 pt9 eLf eWd9 ⊢
        refine ⟨.ref p, rfl, .ref Wd, rfl, Wd, _, rfl, .inl (.inl (.inl eWd9)), _, _, rfl, rfl, p, _, _, rfl, by rw [List.length_map]; omega, by rw [List.length_map]; omega, by omega, pt9, fun v H10 b0 b1 g10 pt10 => ?_⟩
        rw [List.length_map] at b1
        have eLf10 := g10.lst (p := Lf) (by simpa using Lfp) eLf
        refine ⟨v, rfl, by omega, by omega, fun D2 nD2 => ?_⟩
        have fD2 : Fresh H8 D2 := gL0.fresh (by simp) (Fresh.back (fresh_none nD2) g10 pt10)
        have D2p : D2 ≠ p := pt7.other fD2
        have LD : Lf ≠ D2 := ne_of_none eLf10 nD2
        have gD := ((gL0.any (ex := [p])).trans g10).new (o := .lst []) nD2
        refine lc_it walk_range (fun k H' => ∃ fs rs : List Str, fs.length = k ∧ (fs ++ rs).Perm words ∧ H' Lf = some (.lst (rs.map V.str)) ∧ H' D2 = some (.lst (fs.map V.str)) ∧ Pot H' p (c + 211 + 20 * j + k) ∧ Grow [p] H8 H')
          ⟨[], words, rfl, .refl _, by rw [upd_ne LD]; exact eLf10, upd_same, (pt10.new nD2).mono (by omega), gD⟩ (fun _ _ _ _ => trivial) (fun k x H11 H12 hk hw hy => ?_) (fun H11 hw => ?_)
        · obtain ⟨fs, rs, lf, pm, eL, eD, pot, gr⟩ := hw
          obtain ⟨rfl, rfl⟩ := hy
          have ll : fs.length + rs.length = words.length := by have := pm.length_eq; rwa [List.length_append] at this
          have hk' : (k : Int) < v := by omega
          refine ⟨rfl, yes_if ⟨.ref Lf, rfl, tyl eL, .ref p, rfl, .ref Lf, rfl, Lf, _, rfl, .inl (.inl (.inl eL)), p, _, _, rfl, by rw [List.length_map]; omega, by rw [List.length_map]; omega, by omega, pot, fun u H13 u0 u1 g13 pot13 => ?_⟩⟩
          rw [List.length_map] at u1
          have eL13 := g13.lst (by simpa using Lfp) eL
          have eD13 := g13.lst (by simpa using D2p) eD
          have hu : u.toNat < rs.length := by omega
          refine ⟨Lf, _, u, u.toNat, .str rs[u.toNat], rfl, rfl, eL13, by omega, by omega, seqIndex_nat u0 (by rw [List.length_map]; exact u1), by rw [List.getElem?_map, List.getElem?_eq_getElem hu]; rfl, ?_⟩
          have g14 := (gr.trans g13).put (o := .lst ((rs.map V.str).eraseIdx u.toNat)) fLf eL13 (fun ps z => by cases z)
          have eD14 : upd H13 Lf (.lst ((rs.map V.str).eraseIdx u.toNat)) D2 = some (.lst (fs.map V.str)) := by rw [upd_ne LD.symm]; exact eD13
          refine ⟨_, eD14, by rw [List.length_map]; unfold sizeLine; omega, fs ++ [rs[u.toNat]], rs.eraseIdx u.toNat, by rw [List.length_append, lf]; rfl, ?_, ?_, by rw [upd_same, List.map_append]; rfl, ?_, g14.put fD2 eD14 (fun ps z => by cases z)⟩
          · rw [List.append_assoc]
            exact (List.Perm.append_left fs (erase_perm rs u.toNat hu)).trans pm
          · rw [upd_ne LD, upd_same, erase_map]
          · have := ((pot13.at (o := .lst ((rs.map V.str).eraseIdx u.toNat)) Lfp.symm).at (o := .lst (fs.map V.str ++ [.str rs[u.toNat]])) D2p.symm)
            exact this.mono (by omega)
        · obtain ⟨fs, rs, lf, pm, eL, eD, pot, gr⟩ := hw
          have stay : ∀ q ∈ bs, q.1 ∉ [p] := fun q hq z => by
            have e1 := ls7 q hq
            rw [List.mem_singleton.mp z] at e1
            obtain ⟨pa, pb, pk, e2, _⟩ := pt7
            rw [e2] at e1
            cases hz : q.2.2 with
            | nil => rw [hz] at e1; cases e1
            | cons y r => rw [hz] at e1; cases e1
          have ls11 := ls7.grow gr stay
          have eB11 : H11 Bo = some (.dK (kvB bs)) := gr.keep Bo _ (by simpa using Bp) eB7 fun ps z => by cases z
          have eM11 : H11 Mo = some (.dK (kvM ms)) := gr.keep Mo _ (by simpa using Mp) eM7 fun ps z => by cases z
          have lbs : bs.length = (hands.reverse.take j).length := by
            have := congrArg List.length eb7
            rwa [List.length_map] at this
          have ltk : (hands.reverse.take j).length ≤ 200 := by rw [List.length_take, List.length_reverse]; omega
          refine ⟨.ref Bo, rfl, .str h, rfl, Bo, _, rfl, .inl ⟨kvB bs, .inr h, eB11, rfl, by rw [kvB_len]; unfold sizeLine; omega, rfl⟩, ?_⟩
          have rnd : hands.reverse.Nodup := (List.reverse_perm hands).nodup_iff.mpr wo.nd
          have hnew : h ∉ hands.reverse.take j := fun z => by
            obtain ⟨i, hi⟩ := List.mem_iff_getElem?.mp z
            rw [List.getElem?_take] at hi
            by_cases hij : i < j
            · rw [if_pos hij] at hi
              have := (List.getElem?_inj (List.getElem?_eq_some_iff.mp hi).1 rnd).mp (hi.trans eh.symm)
              omega
            · rw [if_neg hij] at hi
              cases hi
          have eP : putK (kvB bs) (.inr h) (V.ref D2) = kvB (bs ++ [(D2, (h, fs))]) := by
            rw [putK_new _ (valV_none (by
              intro z
              unfold kvB at z
              rw [List.map_map] at z
              obtain ⟨q, hq, e⟩ := List.mem_map.mp z
              have e : Sum.inr q.2.1 = (Sum.inr h : Key) := e
              have h1 : q.2.1 ∈ hands.reverse.take j := by rw [← eb7]; exact List.mem_map.mpr ⟨q, hq, rfl⟩
              rw [Sum.inr.inj e] at h1
              exact hnew h1))]
            unfold kvB
            rw [List.map_append]
            rfl
          rw [eP]
          have Bne : ∀ q ∈ bs ++ [(D2, (h, fs))], q.1 ≠ Bo := fun q hq z => by
            rcases List.mem_append.mp hq with hq | hq
            · have := ls11 q hq
              rw [z, eB11] at this
              cases this
            · rw [List.mem_singleton.mp hq] at z
              have z : D2 = Bo := z
              rw [z, eB11] at eD
              cases eD
          have fbk : Bk fs ∧ ∀ x ∈ fs, x ∈ words := ⟨⟨List.all_eq_true.mpr fun x hx => List.all_eq_true.mp wnm x (pm.mem_iff.mp (List.mem_append_left _ hx)), (List.nodup_append.mp (pm.nodup_iff.mpr wnd)).1, by
            have := pm.length_eq
            rw [List.length_append] at this
            omega⟩, fun x hx => pm.mem_iff.mp (List.mem_append_left _ hx)⟩
          refine ⟨_, _, bs ++ [(D2, (h, fs))], rfl, (g7.trans gr).put fB2 eB11 (fun ps z => by cases z), (pot.at (Ne.symm Bp)).mono (by omega), by rw [upd_ne (fun z => by rw [z, eB7] at eRv7; cases eRv7)]; exact gr.lst (by simpa using Rp) eRv7, ?_, upd_same, fun q hq => ?_, ?_, fun q hq => ?_⟩
          · by_cases z : Mo = Bo
            · rw [z, nB] at eM
              cases eM
            · rw [upd_ne z]
              exact eM11
          · rw [upd_ne (Bne q hq)]
            rcases List.mem_append.mp hq with hq | hq
            · exact ls11 q hq
            · rw [List.mem_singleton.mp hq]
              exact eD
          · rw [List.map_append, eb7, List.take_add_one, eh]
            rfl
          · rcases List.mem_append.mp hq with hq | hq
            · exact bk7 q hq
            · rw [List.mem_singleton.mp hq]
              exact fbk
    · obtain ⟨x6, x7, bs, rfl, g7, pt7, _, eM7, eB7, ls7, eb7, bk7⟩ := hp
      rw [List.length_map, List.take_length] at eb7
      rw [List.length_map, List.length_reverse] at pt7
      refine ⟨.ref W, rfl, .ref Mo, rfl, .ref Bo, rfl, by show 3 ≤ sizeLine; decide, fun T nT => ?_⟩
      have gT : Grow [] H7 (upd H7 T (.tup [.ref W, .ref Mo, .ref Bo])) := grow_new nT
      have gAll := g02.trans g7
      refine q T _ ⟨hands, roads, ms, bs.map Prod.snd⟩ (Fresh.back (fresh_none nT) gAll pt7) (gAll.new nT) ⟨W, Mo, Bo, bs, upd_same, (hW.growP hne pt gAll).grow gT, Grow.dK gT eM7, Grow.dK gT eB7, ls7.grow0 gT, rfl⟩ ⟨wo, mnd, fun q hq => ?_, ?_, ?_, fun q hq => ?_⟩ rfl ((pt7.new nT).mono (by omega))
      · have h1 : q.1 ∈ words := by rw [← em]; exact List.mem_map.mpr ⟨q, hq, rfl⟩
        exact ⟨List.all_eq_true.mp wnm _ h1, mh q hq⟩
      · have := congrArg List.length em
        rw [List.length_map] at this
        show ms.length ≤ 100
        omega
      · show ((bs.map Prod.snd).map Prod.fst).Perm hands
        rw [List.map_map, show (Prod.fst ∘ Prod.snd : Addr × (Str × List Str) → Str) = (fun q => q.2.1) from rfl, eb7]
        exact List.reverse_perm hands
      · obtain ⟨b, hb, rfl⟩ := List.mem_map.mp hq
        have := bk7 b hb
        refine ⟨this.1, fun x hx => ?_⟩
        show x ∈ ms.map Prod.fst
        rw [em]
        exact this.2 x hx
end

end Lw

namespace Lw
open PySem PySem.Spec PyProof.Rows L2 GxR Gx
section
variable {P : Program} {w : World} {K : PySem.W.Frag} {mg : Str → Option Value} {base : Heap}
/-! ### _law_moment_rows, _law_ordered -/
theorem ok_law_moment_rows {f c : Addr} {fd : FuncData} (B : Nb mg) (D : DefIs K "_law_moment_rows" "_law_moment_rows" st_law_moment_rows f fd (.ref c))
    (c_law_web_rows : Callee P w K mg base CX0 2 "_law_web_rows" ["web"] (spRowsL K)) (c_law_book_text : Callee P w K mg base CX0 2 "_law_book_text" ["book"] (spBookT K)) : FnG P w K mg base CX0 3 f fd ["moment"] (spRowsM K) := by
  refine D.ok0 (k := 2) sc_law_moment_rows (fun vs H Q E h => ?_) (fun A outer s H vs Q E g hr h => ?_)
  · obtain ⟨T, m, rfl, _⟩ := h
    rfl
  obtain ⟨T, m, rfl, ⟨W, M, Bo, bs, eT, hW, eM, eB, ls, eb⟩, ok, q⟩ := h
  refine ⟨_,
      (pss_cons (ps_asg (pv 0) (pg_tup rfl (pgs_cons (pg_name (i := 1) sc_law_moment_rows.nd rfl (.inl rfl)) (pgs_cons (pg_name (i := 2) sc_law_moment_rows.nd rfl (.inr rfl)) (pgs_cons (pg_name (i := 3) sc_law_moment_rows.nd rfl (.inr rfl)) pgs_nil)))))
      (pss_cons (ps_set (i := 4) sc_law_moment_rows.nd rfl (.inl rfl) (pe_op op_cat (pe_g c_law_web_rows g (hr.mono (by decide)) pass0 (pa_cons (pv 1) pa_nil)) (pe_lc (own := [("hand", 5)]) (tt := tYes) (g := (gName 5)) rfl sc_law_moment_rows.nd (pi_list (pe_callB (cr_sortD rfl hr.units) rfl B.n_sorted (by decide +kernel) (pa_cons (pv 3) pa_nil))) (blkOk_by (N := N_law_moment_rows) (sc := defScope st_law_moment_rows) (by decide +kernel)) (fun _ _ _ _ _ => (pg_name (i := 5) sc_law_moment_rows.nd rfl (.inl rfl))) (fun _ _ _ _ _ => pts_nil) (fun _ _ _ _ _ => pe_to (pe_op op_add_str (pe_op op_add_str (pv 5) pe_str) (pe_g c_law_book_text g (hr.mono (by decide)) pass0 (pa_cons (pe_dget (hu_of hr) (pv 3) (pv 5) (fun _ _ => rfl)) pa_nil)))))))
      (pss_one (ps_ret (pe_op op_cat (pv 4) (pe_lc (own := [("word", 6)]) (tt := tYes) (g := (gName 6)) rfl sc_law_moment_rows.nd (pi_list (pe_callB (cr_sortD rfl hr.units) rfl B.n_sorted (by decide +kernel) (pa_cons (pv 2) pa_nil))) (blkOk_by (N := N_law_moment_rows) (sc := defScope st_law_moment_rows) (by decide +kernel)) (fun _ _ _ _ _ => (pg_name (i := 6) sc_law_moment_rows.nd rfl (.inl rfl))) (fun _ _ _ _ _ => pts_nil) (fun _ _ _ _ _ => pe_to (pe_op op_add_str (pe_op op_add_str (pv 6) pe_str) (pe_dget (hu_of hr) (pv 2) (pv 6) (fun _ _ => rfl)))))))))), ?_⟩
  refine ⟨.ref T, rfl, T, _, rfl, .inl (.inl eT), rfl, _, _, rfl, _, _, rfl, _, _, rfl, rfl, ?_⟩
  have l2 : Str.length ": " = 2 := by decide
  have l1 : Str.length "@" = 1 := by decide
  have nb : (bs.map fun p => p.2.1).Nodup := by
    have := ok.bnd
    rw [← eb, List.map_map] at this
    exact this
  have lb : m.books.length ≤ 200 := by rw [ok.blen]; exact ok.web.len
  refine ⟨.ref W, rfl, W, m.hands, m.roads, rfl, hW, ok.web, fun R H0 fR g0 eR => ?_⟩
  refine ⟨.ref Bo, rfl, Bo, kvB bs, m.books.map Prod.fst, rfl, .inl (Grow.dK g0 eB), by unfold kvB; rw [← eb, List.map_map, List.map_map, List.map_map]; rfl, by rw [List.length_map]; unfold sizeLine; omega, fun S1 n1 => ?_⟩
  rw [show (m.books.map Prod.fst).mergeSort (PySem.W.dataLe false PyData.str) = sortS (m.books.map Prod.fst) from rfl]
  have g1 := g0.new (o := .lst ((sortS (m.books.map Prod.fst)).map V.str)) n1
  have eR1 := (grow_new (ex := []) (o := .lst ((sortS (m.books.map Prod.fst)).map V.str)) n1).lst (by simp) eR
  have e1 : upd H0 S1 (.lst ((sortS (m.books.map Prod.fst)).map V.str)) S1 = some (.lst ((sortS (m.books.map Prod.fst)).map V.str)) := upd_same
  generalize upd H0 S1 (HO.lst ((sortS (m.books.map Prod.fst)).map V.str)) = H1 at g1 e1 eR1 ⊢
  obtain ⟨ks, hks⟩ : ∃ ks, sortS (m.books.map Prod.fst) = ks := ⟨_, rfl⟩
  have kmem : ∀ x ∈ ks, x ∈ m.books.map Prod.fst := fun x hx => by rw [← hks] at hx; exact (sortS_perm _).mem_iff.mp hx
  have lk : ks.length = m.books.length := by rw [← hks, (sortS_perm _).length_eq, List.length_map]
  rw [hks] at e1
  refine ⟨S1, rfl, ⟨_, .inl (.inl e1)⟩, fun D1 nD1 => ?_⟩
  refine lc_it (walk_list (xs := ks.map V.str)) (fun j H' => Grow [] H1 H' ∧ H' D1 = some (.lst (((ks.take j).map (bookRow m)).map V.str))) ⟨grow_new nD1, upd_same⟩
    (fun j H' _ h => .inl (.inl (h.1.lst (by simp) e1))) (fun j x H3 H4 hj hp hy => ?_) (fun H3 hp => ?_)
  · obtain ⟨gj, eD⟩ := hp
    obtain ⟨rfl, ex⟩ := hy
    rw [List.getElem?_map] at ex
    cases er : ks[j]? with
    | none => rw [er] at ex; cases ex
    | some h =>
      rw [er] at ex
      cases ex
      have hk := kmem h (List.mem_of_getElem? er)
      have hb := ok.book hk
      have bz := (ok.bok _ hb).1
      have nh := nm_iff.mp (ok.web.hand (ok.hand hb))
      have h8 : h.length ≤ 8 := nh.2.1
      have t4 : (bookText (bookOf m h)).length ≤ 10000 := bookText_len bz
      obtain ⟨p, hp, ep⟩ : ∃ p ∈ bs, p.2 = (h, bookOf m h) := by
        rw [← eb] at hb
        obtain ⟨p, hp, e⟩ := List.mem_map.mp hb
        exact ⟨p, hp, e⟩
      have g14 := g1.trans gj
      have el : H4 p.1 = some (.lst ((bookOf m h).map V.str)) := by
        have := g14.lst (by simp) (ls p hp)
        rw [ep] at this
        exact this
      have dg : DGet H4 Bo (.str h) (some (.ref p.1)) := by
        have e2 := valB nb hp
        rw [ep] at e2
        have : (h, bookOf m h).fst = h := rfl
        rw [← e2]
        exact DGet.k (k := .inr h) (Grow.dK g14 eB)
      refine ⟨rfl, yes_if ?_⟩
      refine ⟨.str h, rfl, h, ": ", rfl, rfl, by rw [l2]; unfold sizeLine; omega, .ref Bo, rfl, .str h, rfl, Bo, .ref p.1, rfl, dg, p.1, bookOf m h, rfl, el, bz, fun H5 g5 => ?_⟩
      have eD5 := g5.lst (by simp) eD
      refine ⟨_, bookText (bookOf m h), rfl, rfl, by rw [app_len, l2]; unfold sizeLine; omega, _, eD5, ?_, (gj.trans g5).put (fresh_none nD1) eD5 (fun ps z => by cases z), ?_⟩
      · rw [List.length_map, List.length_map, List.length_take]
        unfold sizeLine
        omega
      · rw [upd_same, List.take_add_one, er, Option.toList_some, List.map_append, List.map_append]
        rfl
  · obtain ⟨gj, eD⟩ := hp
    rw [List.length_map, List.take_length] at eD
    have g14 := g1.trans gj
    have eR4 := gj.lst (by simp) eR1
    refine ⟨R, D1, _, _, rfl, rfl, eR4, eD, ?_, fun C nC => ?_⟩
    · have lw : (webRows m.hands m.roads).length = m.roads.length + 1 := by unfold webRows; rw [List.length_cons, List.length_map, (sortP_perm m.roads).length_eq]
      have := ok.web.many
      have := ok.web.len
      rw [List.length_map, List.length_map, List.length_map, lw]
      unfold sizeLine
      omega
    have g15 := g14.new (o := .lst ((webRows m.hands m.roads).map V.str ++ (ks.map (bookRow m)).map V.str)) nC
    have eC : upd H3 C (.lst ((webRows m.hands m.roads).map V.str ++ (ks.map (bookRow m)).map V.str)) C = some (.lst ((webRows m.hands m.roads).map V.str ++ (ks.map (bookRow m)).map V.str)) := upd_same
    generalize upd H3 C (HO.lst ((webRows m.hands m.roads).map V.str ++ (ks.map (bookRow m)).map V.str)) = H5 at g15 eC ⊢
    have lm := ok.mlen
    refine ⟨.ref C, rfl, .ref M, rfl, M, kvM m.mouths, m.mouths.map Prod.fst, rfl, .inl (Grow.dK g15 eM), by unfold kvM; rw [List.map_map, List.map_map]; rfl, by rw [List.length_map]; unfold sizeLine; omega, fun S3 n3 => ?_⟩
    rw [show (m.mouths.map Prod.fst).mergeSort (PySem.W.dataLe false PyData.str) = sortS (m.mouths.map Prod.fst) from rfl]
    have g16 := g15.new (o := .lst ((sortS (m.mouths.map Prod.fst)).map V.str)) n3
    have e3 : upd H5 S3 (.lst ((sortS (m.mouths.map Prod.fst)).map V.str)) S3 = some (.lst ((sortS (m.mouths.map Prod.fst)).map V.str)) := upd_same
    have eC6 := (grow_new (ex := []) (o := .lst ((sortS (m.mouths.map Prod.fst)).map V.str)) n3).lst (by simp) eC
    generalize upd H5 S3 (HO.lst ((sortS (m.mouths.map Prod.fst)).map V.str)) = H6 at g16 e3 eC6 ⊢
    obtain ⟨ws, hws⟩ : ∃ ws, sortS (m.mouths.map Prod.fst) = ws := ⟨_, rfl⟩
    have wmem : ∀ x ∈ ws, x ∈ m.mouths.map Prod.fst := fun x hx => by rw [← hws] at hx; exact (sortS_perm _).mem_iff.mp hx
    have lws : ws.length = m.mouths.length := by rw [← hws, (sortS_perm _).length_eq, List.length_map]
    rw [hws] at e3
    refine ⟨S3, rfl, ⟨_, .inl (.inl e3)⟩, fun D2 nD2 => ?_⟩
    refine lc_it (walk_list (xs := ws.map V.str)) (fun j H' => Grow [] H6 H' ∧ H' D2 = some (.lst (((ws.take j).map (mouthRow m)).map V.str))) ⟨grow_new nD2, upd_same⟩
      (fun j H' _ h => .inl (.inl (h.1.lst (by simp) e3))) (fun j x H7 H8 hj hp hy => ?_) (fun H7 hp => ?_)
    · obtain ⟨gk, eE⟩ := hp
      obtain ⟨rfl, ex⟩ := hy
      rw [List.getElem?_map] at ex
      cases er : ws[j]? with
      | none => rw [er] at ex; cases ex
      | some x =>
        rw [er] at ex
        cases ex
        have hb := ok.mouth (wmem x (List.mem_of_getElem? er))
        obtain ⟨n1', n2'⟩ := ok.mnm _ hb
        have x8 : x.length ≤ 8 := (nm_iff.mp n1').2.1
        have y8 : (mouthOf m x).length ≤ 8 := (nm_iff.mp (ok.web.hand n2')).2.1
        have dg : DGet H8 M (.str x) (some (.str (mouthOf m x))) := by
          have e2 := valM ok.mnd hb
          rw [← e2]
          exact DGet.k (k := .inr x) (Grow.dK (g16.trans gk) eM)
        refine ⟨rfl, yes_if ?_⟩
        refine ⟨.str x, rfl, x, "@", rfl, rfl, by rw [l1]; unfold sizeLine; omega, .ref M, rfl, .str x, rfl, M, .str (mouthOf m x), rfl, dg, _, mouthOf m x, rfl, rfl, by rw [app_len, l1]; unfold sizeLine; omega, _, eE, ?_, gk.put (fresh_none nD2) eE (fun ps z => by cases z), ?_⟩
        · rw [List.length_map, List.length_map, List.length_take]
          unfold sizeLine
          omega
        · rw [upd_same, List.take_add_one, er, Option.toList_some, List.map_append, List.map_append]
          rfl
    · obtain ⟨gk, eE⟩ := hp
      rw [List.length_map, List.take_length] at eE
      have lw : (webRows m.hands m.roads).length = m.roads.length + 1 := by unfold webRows; rw [List.length_cons, List.length_map, (sortP_perm m.roads).length_eq]
      have := ok.web.many
      have := ok.web.len
      refine ⟨C, D2, _, _, rfl, rfl, gk.lst (by simp) eC6, eE, by rw [List.length_append, List.length_map, List.length_map, List.length_map, List.length_map, List.length_map, lw]; unfold sizeLine; omega, fun Z nZ => ?_⟩
      have e9 : upd H7 Z (.lst ((webRows m.hands m.roads).map V.str ++ (ks.map (bookRow m)).map V.str ++ (ws.map (mouthRow m)).map V.str)) Z = some (.lst ((momRows m).map V.str)) := by
        rw [upd_same]
        unfold momRows
        rw [hks, hws, List.map_append, List.map_append]
      exact q Z _ ((g16.trans gk).fresh (by simp) (fresh_none nZ)) ((g16.trans gk).new nZ) e9
def spOrdM (K : PySem.W.Frag) : Sp := fun vs H Q _ => ∃ (T W M Bo : Addr) (hands : List Str) (roads : List (Str × Str)), vs = [.ref T] ∧ H T = some (.tup [.ref W, .ref M, .ref Bo]) ∧ WebAt H W hands roads ∧ WebOk hands roads ∧
  ∀ T2 W2 H', Fresh H T2 → Grow [] H H' → H' T2 = some (.tup [.ref W2, .ref M, .ref Bo]) → WebAt H' W2 (sortS hands) (sortP roads) → Q (.ref T2) H'
theorem ok_law_ordered {f c : Addr} {fd : FuncData} (B : Nb mg) (D : DefIs K "_law_ordered" "_law_ordered" st_law_ordered f fd (.ref c)) : FnG P w K mg base CX0 1 f fd ["moment"] (spOrdM K) := by
  refine D.ok0 (k := 0) sc_law_ordered (fun vs H Q E h => ?_) (fun A outer s H vs Q E g hr h => ?_)
  · obtain ⟨T, W, M, Bo, hands, roads, rfl, _⟩ := h
    rfl
  obtain ⟨T, W, M, Bo, hands, roads, rfl, eT, hW, wo, q⟩ := h
  refine ⟨_,
      (pss_cons (ps_asg (pv 0) (pg_tup rfl (pgs_cons (pg_name (i := 1) sc_law_ordered.nd rfl (.inl rfl)) (pgs_cons (pg_name (i := 2) sc_law_ordered.nd rfl (.inl rfl)) (pgs_cons (pg_name (i := 3) sc_law_ordered.nd rfl (.inl rfl)) pgs_nil)))))
      (pss_one (ps_ret (pe_tup (pa_cons (pe_tup (pa_cons (pe_callB (cr_sortG (val := V.str) (enc := PyData.str) hr.units) rfl B.n_sorted (by decide +kernel) (pa_cons (pe_ix ix_tup (pv 1) pe_int (fun _ _ => rfl)) pa_nil)) (pa_cons (pe_callB (cr_sortG (val := Prod.fst) (enc := fun b : V × (Str × Str) => encP b.2) hr.units) rfl B.n_sorted (by decide +kernel) (pa_cons (pe_ix ix_tup (pv 1) pe_int (fun _ _ => rfl)) pa_nil)) pa_nil))) (pa_cons (pv 2) (pa_cons (pv 3) pa_nil))))))), ?_⟩
  obtain ⟨hs, rs, eW, eh, er⟩ := id hW
  have hl := wo.len
  have many := wo.many
  refine ⟨.ref T, rfl, T, _, rfl, .inl (.inl eT), rfl, _, _, rfl, _, _, rfl, _, _, rfl, rfl, ?_⟩
  refine ⟨.ref W, rfl, W, _, 0, .ref hs, rfl, rfl, .inl (.inl eW), rfl, ?_⟩
  refine ⟨hs, hands, rfl, .inl (.inl eh), fun z hz => ⟨.str z, by show 0 ≤ 60; decide⟩, alike_strs hands, sortable_strs hands, by unfold sizeLine; omega, fun S1 n1 => ?_⟩
  rw [show hands.mergeSort (PySem.W.dataLe false PyData.str) = sortS hands from rfl]
  have g1 : Grow [] H (upd H S1 (.lst ((sortS hands).map V.str))) := grow_new n1
  have e1 : upd H S1 (.lst ((sortS hands).map V.str)) S1 = some (.lst ((sortS hands).map V.str)) := upd_same
  generalize upd H S1 (HO.lst ((sortS hands).map V.str)) = H1 at g1 e1 ⊢
  obtain ⟨bs, b1, b2, b3, b4, b5, b6⟩ := road_parts (K := K) (er.grow g1 noFrz_nil (by simp)) (by omega)
  refine ⟨.ref W, rfl, W, _, 1, .ref rs, rfl, rfl, .inl (.inl (g1.tup (by simp) eW)), rfl, ?_⟩
  refine ⟨rs, bs, rfl, b1, b2, b3, b4, b5, fun S2 n2 => ?_⟩
  have h2 := b6 S2 n2
  have g2 := g1.new (o := .lst ((bs.mergeSort (PySem.W.dataLe false fun b : V × (Str × Str) => encP b.2)).map Prod.fst)) n2
  have e2 := (grow_new (ex := []) (o := .lst ((bs.mergeSort (PySem.W.dataLe false fun b : V × (Str × Str) => encP b.2)).map Prod.fst)) n2).lst (by simp) e1
  generalize upd H1 S2 (HO.lst ((bs.mergeSort (PySem.W.dataLe false fun b : V × (Str × Str) => encP b.2)).map Prod.fst)) = H2 at g2 e2 h2 ⊢
  refine ⟨by show 2 ≤ sizeLine; decide, fun W2 nW => ?_⟩
  have gW : Grow [] H2 (upd H2 W2 (.tup [.ref S1, .ref S2])) := grow_new nW
  have hT : WebAt (upd H2 W2 (.tup [.ref S1, .ref S2])) W2 (sortS hands) (sortP roads) := ⟨S1, S2, upd_same, gW.lst (by simp) e2, h2.grow gW noFrz_nil (by simp)⟩
  have g3 := g2.trans gW
  generalize upd H2 W2 (HO.tup [V.ref S1, V.ref S2]) = H3 at g3 hT ⊢
  refine ⟨.ref M, rfl, .ref Bo, rfl, by show 3 ≤ sizeLine; decide, fun T2 nT => ?_⟩
  exact q T2 W2 _ (g3.fresh (by simp) (fresh_none nT)) (g3.new nT) upd_same (hT.grow (grow_new nT))
end

end Lw

namespace Lw
open PySem PySem.Spec PyProof.Rows L2 GxR Gx
section
variable {P : Program} {w : World} {K : PySem.W.Frag} {mg : Str → Option Value} {base : Heap}
/-! ### _law_otherwise -/
/-- a moment on a web that stands, its dicts new -/
def MateAt (H H' : Hp) (T W : Addr) (m : Mom) : Prop := ∃ M B bs, Fresh H M ∧ Fresh H B ∧ H' T = some (.tup [.ref W, .ref M, .ref B]) ∧ H' M = some (.dK (kvM m.mouths)) ∧ H' B = some (.dK (kvB bs)) ∧ LsAt H' bs ∧ bs.map Prod.snd = m.books
theorem putK_same {ms : List (Str × Str)} {x h : Str} (hx : x ∈ ms.map Prod.fst) : putK (kvM ms) (.inr x) (.str h) = kvM (ms.map fun q => if q.1 = x then (q.1, h) else q) := by
  unfold putK
  rw [valV_any, kvM_some hx, if_pos rfl]
  unfold kvM
  rw [List.map_map, List.map_map]
  refine List.map_congr_left fun q _ => ?_
  show (if (Sum.inr q.1 : Key) = Sum.inr x then _ else _) = _
  by_cases e : q.1 = x
  · rw [if_pos (by rw [e])]
    show _ = (Sum.inr (if q.1 = x then (q.1, h) else q).1, V.str (if q.1 = x then (q.1, h) else q).2)
    rw [if_pos e]
  · rw [if_neg (fun z => e (Sum.inr.inj z))]
    show _ = (Sum.inr (if q.1 = x then (q.1, h) else q).1, V.str (if q.1 = x then (q.1, h) else q).2)
    rw [if_neg e]
theorem fresh_unlock {H : Hp} {p q : Addr} {u : HO} {od : Obj} (f : Fresh (upd H p (.frz od u)) q) : Fresh H q := fun o e => by
  by_cases z : q = p
  · obtain ⟨ps, e2⟩ := f (.frz od u) (by rw [z]; exact upd_same)
    cases e2
  · exact f o (by rw [upd_ne z]; exact e)
theorem kvB_nd {bs : List (Addr × (Str × List Str))} (nd : (bs.map fun q => q.2.1).Nodup) : ((kvB bs).map Prod.fst).Nodup := by
  have : (kvB bs).map Prod.fst = (bs.map fun q => q.2.1).map Sum.inr := by
    unfold kvB
    rw [List.map_map, List.map_map]
    rfl
  rw [this]
  exact inr_nodup nd
theorem set_fst (ms : List (Str × Str)) (x h : Str) : (ms.map fun q => if q.1 = x then (q.1, h) else q).map Prod.fst = ms.map Prod.fst := by
  rw [List.map_map]
  refine List.map_congr_left fun q _ => ?_
  show (if q.1 = x then (q.1, h) else q).1 = q.1
  split <;> rfl
/-- a hand's book is another -/
def setB (bs : List (Addr × (Str × List Str))) (h : Str) (zs : List Str) : List (Addr × (Str × List Str)) := bs.map fun q => if q.2.1 = h then (q.1, (q.2.1, zs)) else q
theorem setB_kv (bs : List (Addr × (Str × List Str))) (h : Str) (zs : List Str) : kvB (setB bs h zs) = kvB bs := by
  unfold kvB setB
  rw [List.map_map]
  refine List.map_congr_left fun q _ => ?_
  show (Sum.inr (if q.2.1 = h then (q.1, (q.2.1, zs)) else q).2.1, V.ref (if q.2.1 = h then (q.1, (q.2.1, zs)) else q).1) = _
  split <;> rfl
theorem setB_names (bs : List (Addr × (Str × List Str))) (h : Str) (zs : List Str) : (setB bs h zs).map (fun q => q.2.1) = bs.map (fun q => q.2.1) := by
  unfold setB
  rw [List.map_map]
  refine List.map_congr_left fun q _ => ?_
  show (if q.2.1 = h then (q.1, (q.2.1, zs)) else q).2.1 = q.2.1
  split <;> rfl
theorem same_of {α β : Type} {f : α → β} {l : List α} (nd : (l.map f).Nodup) {x y : α} (hx : x ∈ l) (hy : y ∈ l) (e : f x = f y) : x = y := by
  obtain ⟨i, hi⟩ := List.mem_iff_getElem?.mp hx
  obtain ⟨j, hj⟩ := List.mem_iff_getElem?.mp hy
  have lt : i < (l.map f).length := by rw [List.length_map]; exact (List.getElem?_eq_some_iff.mp hi).1
  have := (List.getElem?_inj (i := i) (j := j) lt nd).mp (by rw [List.getElem?_map, List.getElem?_map, hi, hj]; exact congrArg some e)
  subst this
  rw [hi] at hj
  exact Option.some.inj hj
theorem setB_at {H : Hp} {bs : List (Addr × (Str × List Str))} {b : Addr × (Str × List Str)} {zs : List Str} (h : LsAt H bs) (hb : b ∈ bs) (nd : (bs.map Prod.fst).Nodup) (nn : (bs.map fun q => q.2.1).Nodup) : LsAt (upd H b.1 (.lst (zs.map V.str))) (setB bs b.2.1 zs) := fun q hq => by
  obtain ⟨q0, h0, rfl⟩ := List.mem_map.mp hq
  by_cases e : q0.2.1 = b.2.1
  · have e2 := same_of nn h0 hb e
    subst e2
    rw [if_pos rfl]
    exact upd_same
  · rw [if_neg e]
    have : q0.1 ≠ b.1 := fun z => e (by rw [same_of nd h0 hb z])
    rw [upd_ne this]
    exact h q0 h0
def spMate (K : PySem.W.Frag) : Sp := fun vs H Q _ => ∃ (p T W M Bo : Addr) (bs : List (Addr × (Str × List Str))) (c : Int) (m : Mom), vs = [.ref p, .ref T] ∧ Pot H p c ∧ c ≤ 2 ^ 18 ∧ H T = some (.tup [.ref W, .ref M, .ref Bo]) ∧ WebAt H W m.hands m.roads ∧ H M = some (.dK (kvM m.mouths)) ∧ H Bo = some (.dK (kvB bs)) ∧ LsAt H bs ∧ bs.map Prod.snd = m.books ∧ m.Ok ∧
  ∀ T2 H' (m2 : Mom), Fresh H T2 → Grow [p] H H' → MateAt H H' T2 W m2 → m2.Ok → m2.hands = m.hands → m2.roads = m.roads → Q (.ref T2) H'
theorem ok_law_otherwise {f c : Addr} {fd : FuncData} (B : Nb mg) (D : DefIs K "_law_otherwise" "_law_otherwise" st_law_otherwise f fd (.ref c))
    (c_law_dip : Callee P w K mg base CX0 3 "_law_dip" ["pot", "many"] (spDip K)) : FnG P w K mg base CX0 5 f fd ["pot", "moment"] (spMate K) := by
  refine D.ok0 (k := 4) sc_law_otherwise (fun vs H Q E h => ?_) (fun A outer s H vs Q E g hr h => ?_)
  · obtain ⟨p, T, W, M, Bo, bs, c, m, rfl, _⟩ := h
    rfl
  obtain ⟨p, T, W, M, Bo, bs, c, m, rfl, pt, hc, eT, hW, eM, eB, ls, eb, ok, q⟩ := h
  refine ⟨_,
      (pss_cons (ps_asg (pv 1) (pg_tup rfl (pgs_cons (pg_name (i := 2) sc_law_otherwise.nd rfl (.inl rfl)) (pgs_cons (pg_name (i := 3) sc_law_otherwise.nd rfl (.inr rfl)) (pgs_cons (pg_name (i := 4) sc_law_otherwise.nd rfl (.inr rfl)) pgs_nil)))))
      (pss_cons (ps_set (i := 5) sc_law_otherwise.nd rfl (.inl rfl) (pe_callTy (call_dictP rfl) rfl B.n_dict (by decide +kernel) (pa_cons (pe_lock (pe_lc (own := [("word", 6)]) (tt := tYes) (g := (gName 6)) rfl sc_law_otherwise.nd (pi_keys (pv 3)) (blkOk_by (N := N_law_otherwise) (sc := defScope st_law_otherwise) (by decide +kernel)) (fun _ _ _ _ _ => (pg_name (i := 6) sc_law_otherwise.nd rfl (.inl rfl))) (fun _ _ _ _ _ => pts_nil) (fun _ _ _ _ _ => pe_to (pe_tup (pa_cons (pv 6) (pa_cons (pe_dget (hu_of hr) (pv 3) (pv 6) (fun _ _ => rfl)) pa_nil)))))) pa_nil)))
      (pss_cons (ps_set (i := 7) sc_law_otherwise.nd rfl (.inl rfl) (pe_callTy (call_dictP rfl) rfl B.n_dict (by decide +kernel) (pa_cons (pe_lock (pe_lc (own := [("hand", 8)]) (tt := tYes) (g := (gName 8)) rfl sc_law_otherwise.nd (pi_keys (pv 4)) (blkOk_by (N := N_law_otherwise) (sc := defScope st_law_otherwise) (by decide +kernel)) (fun _ _ _ _ _ => (pg_name (i := 8) sc_law_otherwise.nd rfl (.inl rfl))) (fun _ _ _ _ _ => pts_nil) (fun _ _ _ _ _ => pe_to (pe_tup (pa_cons (pv 8) (pa_cons (pe_callTy call_list_of rfl B.n_list (by decide +kernel) (pa_cons (pe_dget (hu_of hr) (pv 4) (pv 8) (fun _ _ => rfl)) pa_nil)) pa_nil)))))) pa_nil)))
      (pss_cons (ps_set (i := 8) sc_law_otherwise.nd rfl (.inl rfl) (pe_ix ix_list (pe_ix ix_tup (pv 2) pe_int (fun _ _ => rfl)) (pe_g c_law_dip g (hr.mono (by decide)) pass0 (pa_cons (pv 0) (pa_cons (pe_callB call_len_seq rfl B.n_len PySem.boot_len (pa_cons (pe_ix ix_tup (pv 2) pe_int (fun _ _ => rfl)) pa_nil)) pa_nil))) (fun _ _ => rfl)))
      (pss_cons (ps_set (i := 9) sc_law_otherwise.nd rfl (.inl rfl) (pe_g c_law_dip g (hr.mono (by decide)) pass0 (pa_cons (pv 0) (pa_cons pe_int pa_nil))))
      (pss_cons (ps_if (PW.pt (pw_and (pt_cmpR (op_eq) (pv 9) pe_int (nomark _)) (pw_and1 (pt_cmpR (op_neD0 (Nat.lt_of_succ_lt (hu_of hr))) (pv 5) pe_dnewK (nomark _))))) (
        (pss_one (ps_asg (pv 8) (pg_sub (pv 5) (pe_ix ix_list (pe_callB (cr_sortD rfl hr.units) rfl B.n_sorted (by decide +kernel) (pa_cons (pv 5) pa_nil)) pe_int (fun _ _ => rfl)) (set_dict (hu_of hr)))))) (
        (pss_one (ps_if (pt_cmpR (op_eq) (pv 9) pe_int (nomark _)) (
          (pss_one (ps_expr (pe_bm0 PySem.F.plainAttrs_list PySem.F.slot_list_reverse PySem.F.type_list_reverse mt_reverse (pe_dget (hu_of hr) (pv 7) (pv 8) (fun _ _ => rfl)))))) (
          (pss_one (ps_if (pt_cmpR (op_neD hr.units) (pe_dget (hu_of hr) (pv 7) (pv 8) (fun _ _ => rfl)) (pe_lst pa_nil) (nomark _)) (
            (pss_one (ps_expr (pe_bm PySem.F.plainAttrs_list PySem.F.slot_list_pop PySem.F.type_list_pop mt_popAt (pe_dget (hu_of hr) (pv 7) (pv 8) (fun _ _ => rfl)) (pa_cons (pe_g c_law_dip g (hr.mono (by decide)) pass0 (pa_cons (pv 0) (pa_cons (pe_callB call_len_seq rfl B.n_len PySem.boot_len (pa_cons (pe_dget (hu_of hr) (pv 7) (pv 8) (fun _ _ => rfl)) pa_nil)) pa_nil))) pa_nil))))) pss_nil)))))))
      (pss_one (ps_ret (pe_tup (pa_cons (pv 2) (pa_cons (pv 5) (pa_cons (pv 7) pa_nil)))))))))))), ?_⟩
  have lm := ok.mlen
  have lb : bs.length ≤ 200 := by
    have h1 := ok.blen
    have h2 := ok.web.len
    rw [← eb, List.length_map] at h1
    omega
  have nn : (bs.map fun q => q.2.1).Nodup := by
    have := ok.bnd
    rw [← eb, List.map_map] at this
    exact this
  refine ⟨.ref T, rfl, T, _, rfl, .inl (.inl eT), rfl, _, _, rfl, _, _, rfl, _, _, rfl, rfl, ?_⟩
  have ntM : ∀ ps, HO.dK (kvM m.mouths) ≠ .tbl ps := fun ps z => by cases z
  refine ⟨M, .dK (kvM m.mouths), eM, trivial, fun od => ⟨.ref M, rfl, M, od, rfl, .inl ⟨kvM m.mouths, upd_same, fun D1 n1 => ?_⟩⟩⟩
  have D1M : D1 ≠ M := fun z => by rw [z, upd_same] at n1; cases n1
  refine lc_it (walk_keys (kvs := kvM m.mouths)) (fun j H' => ∃ ps : List Addr, Grow [] (upd H M (.frz od (.dK (kvM m.mouths)))) H' ∧ H' D1 = some (.lst (ps.map V.ref)) ∧ TupsAt H' ps (kvM (m.mouths.take j)))
    ⟨[], grow_new n1, upd_same, .nil⟩ (fun j H' _ h => by obtain ⟨_, g1, _⟩ := h; exact g1.keep M _ (by simp) upd_same fun ps z => by cases z) (fun j x H3 H4 hj hp hy => ?_) (fun H3 hp => ?_)
  · obtain ⟨ps, g3, eD, tp⟩ := hp
    obtain ⟨rfl, k, v, ek, rfl⟩ := hy
    unfold kvM at ek
    rw [List.getElem?_map] at ek
    cases em : m.mouths[j]? with
    | none => rw [em] at ek; cases ek
    | some q =>
      rw [em] at ek
      cases ek
      have eF : H4 M = some (.frz od (.dK (kvM m.mouths))) := g3.keep M _ (by simp) upd_same fun ps z => by cases z
      have dg : DGet H4 M (.str q.1) (some (.str q.2)) := by
        rw [← valM ok.mnd (List.mem_of_getElem? em)]
        exact .inl ⟨kvM m.mouths, .inr q.1, .inr ⟨od, eF⟩, rfl, rfl⟩
      refine ⟨rfl, yes_if ⟨.str q.1, rfl, .ref M, rfl, .str q.1, rfl, M, .str q.2, rfl, dg, by show 2 ≤ sizeLine; decide, fun T1 nT => ?_⟩⟩
      have gT0 : Grow [] H4 (upd H4 T1 (.tup [.str q.1, .str q.2])) := grow_new nT
      have pr : (fun (a : Addr) (kv : Key × V) => upd H4 T1 (.tup [.str q.1, .str q.2]) a = some (HO.tup [kV kv.1, kv.2])) T1 ((Sum.inr q.1 : Key), V.str q.2) := upd_same
      have tp2 : TupsAt (upd H4 T1 (.tup [.str q.1, .str q.2])) (ps ++ [T1]) (kvM (m.mouths.take (j + 1))) := by
        rw [List.take_add_one, em]
        unfold kvM
        rw [Option.toList_some, List.map_append]
        exact @paired_snoc Addr (Key × V) (fun a kv => upd H4 T1 (.tup [.str q.1, .str q.2]) a = some (HO.tup [kV kv.1, kv.2])) T1 ((Sum.inr q.1 : Key), V.str q.2) pr ps (kvM (m.mouths.take j)) (tp.grow gT0 (lists_none _))
      have eD5 := gT0.lst (by simp) eD
      have g4 := g3.trans gT0
      generalize upd H4 T1 (HO.tup [V.str q.1, V.str q.2]) = H5 at gT0 tp2 eD5 g4 ⊢
      have lps : ps.length = (m.mouths.take j).length := by
        have := Paired.length tp
        unfold kvM at this
        rwa [List.length_map] at this
      have ltk : (m.mouths.take j).length ≤ 100 := by rw [List.length_take]; omega
      have gP := grow_at (ex := [D1]) (o := .lst (ps.map V.ref ++ [.ref T1])) eD5 (fun ps z => by cases z) (by simp)
      exact ⟨_, eD5, by rw [List.length_map]; unfold sizeLine; omega, ps ++ [T1], g4.put (fresh_none n1) eD5 (fun ps z => by cases z), by rw [List.map_append]; exact upd_same, tp2.grow gP (lists_one eD5)⟩
  obtain ⟨ps, g3, eD, tp⟩ := hp
  rw [show (kvM m.mouths).length = m.mouths.length from List.length_map _, List.take_length] at tp
  have eF : H3 M = some (.frz od (.dK (kvM m.mouths))) := g3.keep M _ (by simp) upd_same fun ps z => by cases z
  have gU := grow_unlock eM ntM g3 eF
  refine ⟨eF, ?_⟩
  have eD4 : upd H3 M (.dK (kvM m.mouths)) D1 = some (.lst (ps.map V.ref)) := by rw [upd_ne D1M]; exact eD
  have tp4 : TupsAt (upd H3 M (.dK (kvM m.mouths))) ps (kvM m.mouths) := paired_map (fun a kv e => by rw [upd_ne (fun z => by rw [z, eF] at e; cases e)]; exact e) tp
  generalize upd H3 M (HO.dK (kvM m.mouths)) = H4 at gU eD4 tp4 ⊢
  refine ⟨D1, ps, kvM m.mouths, rfl, .inl (.inl eD4), paired_map (fun a kv e => .inl (.inl e)) tp4, fun M2 nM2 => ?_⟩
  rw [merge_nd (kvM_nd ok.mnd)]
  have fM2 : Fresh H M2 := gU.fresh (by simp) (fresh_none nM2)
  have g5 := gU.new (o := .dK (kvM m.mouths)) nM2
  have eM2 : upd H4 M2 (.dK (kvM m.mouths)) M2 = some (.dK (kvM m.mouths)) := upd_same
  generalize upd H4 M2 (HO.dK (kvM m.mouths)) = H5 at g5 eM2 ⊢
  have eB5 := Grow.dK g5 eB
  have ls5 := ls.grow0 g5
  have ntB : ∀ ps, HO.dK (kvB bs) ≠ .tbl ps := fun ps z => by cases z
  refine ⟨Bo, .dK (kvB bs), eB5, trivial, fun od2 => ⟨.ref Bo, rfl, Bo, od2, rfl, .inl ⟨kvB bs, upd_same, fun D2 n2 => ?_⟩⟩⟩
  have D2B : D2 ≠ Bo := fun z => by rw [z, upd_same] at n2; cases n2
  have lsL : LsAt (upd H5 Bo (.frz od2 (.dK (kvB bs)))) bs := fun q hq => by
    rw [upd_ne (fun z => by have := ls5 q hq; rw [z, eB5] at this; cases this)]
    exact ls5 q hq
  refine lc_it (walk_keys (kvs := kvB bs)) (fun j H' => ∃ (ps : List Addr) (cs : List (Addr × (Str × List Str))), Grow [] (upd H5 Bo (.frz od2 (.dK (kvB bs)))) H' ∧ H' D2 = some (.lst (ps.map V.ref)) ∧ TupsAt H' ps (kvB cs) ∧ LsAt H' cs ∧ cs.map Prod.snd = (bs.take j).map Prod.snd ∧
      (∀ q ∈ cs, Fresh (upd H5 Bo (.frz od2 (.dK (kvB bs)))) q.1 ∧ q.1 ≠ D2) ∧ (cs.map Prod.fst).Nodup)
    ⟨[], [], grow_new n2, upd_same, .nil, fun q hq => (by cases hq), rfl, fun q hq => (by cases hq), List.Pairwise.nil⟩ (fun j H' _ h => by obtain ⟨_, _, g1, _⟩ := h; exact g1.keep Bo _ (by simp) upd_same fun ps z => by cases z) (fun j x H6 H7 hj hp hy => ?_) (fun H6 hp => ?_)
  · obtain ⟨ps, cs, g6, eD, tp, lc, ec, fc, nc⟩ := hp
    obtain ⟨rfl, k, v, ek, rfl⟩ := hy
    unfold kvB at ek
    rw [List.getElem?_map] at ek
    cases em : bs[j]? with
    | none => rw [em] at ek; cases ek
    | some b =>
      rw [em] at ek
      cases ek
      have mb := List.mem_of_getElem? em
      have eF : H7 Bo = some (.frz od2 (.dK (kvB bs))) := g6.keep Bo _ (by simp) upd_same fun ps z => by cases z
      have el := g6.lst (by simp) (lsL b mb)
      have dg : DGet H7 Bo (.str b.2.1) (some (.ref b.1)) := by
        rw [← valB nn mb]
        exact .inl ⟨kvB bs, .inr b.2.1, .inr ⟨od2, eF⟩, rfl, rfl⟩
      refine ⟨rfl, yes_if ⟨.str b.2.1, rfl, .ref Bo, rfl, .str b.2.1, rfl, Bo, .ref b.1, rfl, dg, b.1, _, rfl, .inl (.inl (.inl el)), fun L nL => ?_⟩⟩
      have gL0 : Grow [] H7 (upd H7 L (.lst (b.2.2.map V.str))) := grow_new nL
      have eL : upd H7 L (.lst (b.2.2.map V.str)) L = some (.lst (b.2.2.map V.str)) := upd_same
      have fL : Fresh (upd H5 Bo (.frz od2 (.dK (kvB bs)))) L := g6.fresh (by simp) (fresh_none nL)
      have out : L ∉ cs.map Prod.fst := fun z => by
        obtain ⟨q, hq, e⟩ := List.mem_map.mp z
        have := lc q hq
        rw [e, nL] at this
        cases this
      have lc8 := lc.grow0 gL0
      have tp8 := tp.grow gL0 (lists_none _)
      have eD8 := gL0.lst (by simp) eD
      have g8 := g6.trans gL0
      generalize upd H7 L (HO.lst (b.2.2.map V.str)) = H8 at gL0 eL lc8 tp8 eD8 g8 ⊢
      refine ⟨by show 2 ≤ sizeLine; decide, fun T1 nT => ?_⟩
      have gT0 : Grow [] H8 (upd H8 T1 (.tup [.str b.2.1, .ref L])) := grow_new nT
      have pr : (fun (a : Addr) (kv : Key × V) => upd H8 T1 (.tup [.str b.2.1, .ref L]) a = some (HO.tup [kV kv.1, kv.2])) T1 ((Sum.inr b.2.1 : Key), V.ref L) := upd_same
      have tp2 : TupsAt (upd H8 T1 (.tup [.str b.2.1, .ref L])) (ps ++ [T1]) (kvB (cs ++ [(L, b.2)])) := by
        unfold kvB
        rw [List.map_append]
        exact @paired_snoc Addr (Key × V) (fun a kv => upd H8 T1 (.tup [.str b.2.1, .ref L]) a = some (HO.tup [kV kv.1, kv.2])) T1 ((Sum.inr b.2.1 : Key), V.ref L) pr ps (kvB cs) (tp8.grow gT0 (lists_none _))
      have eL9 := gT0.lst (by simp) eL
      have lc9 := lc8.grow0 gT0
      have eD9 := gT0.lst (by simp) eD8
      have g9 := g8.trans gT0
      generalize upd H8 T1 (HO.tup [V.str b.2.1, V.ref L]) = H9 at gT0 tp2 eL9 lc9 eD9 g9 ⊢
      have lcs : cs.length = (bs.take j).length := by
        have := congrArg List.length ec
        rwa [List.length_map, List.length_map] at this
      have lps : ps.length = cs.length := by
        have := Paired.length tp
        rwa [kvB_len] at this
      have ltk : (bs.take j).length ≤ 200 := by rw [List.length_take]; omega
      have gP := grow_at (ex := [D2]) (o := .lst (ps.map V.ref ++ [.ref T1])) eD9 (fun ps z => by cases z) (by simp)
      have LD : L ≠ D2 := (ne_of_none eD nL).symm
      have nD : ∀ q ∈ cs ++ [(L, b.2)], q.1 ≠ D2 := fun q hq => by
        rcases List.mem_append.mp hq with hq | hq
        · exact (fc q hq).2
        · rw [List.mem_singleton.mp hq]
          exact LD
      exact ⟨_, eD9, by rw [List.length_map]; unfold sizeLine; omega, ps ++ [T1], cs ++ [(L, b.2)], g9.put (fresh_none n2) eD9 (fun ps z => by cases z), by rw [List.map_append]; exact upd_same, tp2.grow gP (lists_one eD9), fun q hq => by
        rw [upd_ne (nD q hq)]
        rcases List.mem_append.mp hq with hq | hq
        · exact lc9 q hq
        · rw [List.mem_singleton.mp hq]
          exact eL9, by
        rw [List.map_append, ec, List.take_add_one, em, Option.toList_some, List.map_append]
        rfl, fun q hq => by
        refine ⟨?_, nD q hq⟩
        rcases List.mem_append.mp hq with hq | hq
        · exact (fc q hq).1
        · rw [List.mem_singleton.mp hq]
          exact fL, by
        rw [List.map_append]
        exact List.nodup_append.mpr ⟨nc, List.nodup_cons.mpr ⟨(by simp), List.Pairwise.nil⟩, fun x hx y hy z => out (by
          have hy : y = L := List.mem_singleton.mp hy
          rw [← hy, ← z]
          exact hx)⟩⟩
  obtain ⟨ps2, cs, g6, eD6, tp6, lc6, ec, fc, nc⟩ := hp
  rw [kvB_len, List.take_length] at ec
  have eF6 : H6 Bo = some (.frz od2 (.dK (kvB bs))) := g6.keep Bo _ (by simp) upd_same fun ps z => by cases z
  have gU2 := grow_unlock eB5 ntB g6 eF6
  refine ⟨eF6, ?_⟩
  have eD7 : upd H6 Bo (.dK (kvB bs)) D2 = some (.lst (ps2.map V.ref)) := by rw [upd_ne D2B]; exact eD6
  have tp7 : TupsAt (upd H6 Bo (.dK (kvB bs))) ps2 (kvB cs) := paired_map (fun a kv e => by rw [upd_ne (fun z => by rw [z, eF6] at e; cases e)]; exact e) tp6
  have lc7 : LsAt (upd H6 Bo (.dK (kvB bs))) cs := fun q hq => by
    rw [upd_ne (fun z => by have := lc6 q hq; rw [z, eF6] at this; cases this)]
    exact lc6 q hq
  have eM7 := Grow.dK gU2 eM2
  have g7 := g5.trans gU2
  generalize upd H6 Bo (HO.dK (kvB bs)) = H7 at gU2 eD7 tp7 lc7 eM7 g7 ⊢
  have frc : ∀ q ∈ cs, Fresh H q.1 := fun q hq => g5.fresh (by simp) (fresh_unlock (fc q hq).1)
  have names : (cs.map fun q => q.2.1) = bs.map fun q => q.2.1 := by
    have := congrArg (List.map Prod.fst) ec
    rw [List.map_map, List.map_map] at this
    exact this
  have ncn : (cs.map fun q => q.2.1).Nodup := by rw [names]; exact nn
  have cbk : cs.map Prod.snd = m.books := by rw [ec, eb]
  refine ⟨D2, ps2, kvB cs, rfl, .inl (.inl eD7), paired_map (fun a kv e => .inl (.inl e)) tp7, fun B2 nB2 => ?_⟩
  rw [merge_nd (kvB_nd ncn)]
  have fB2 : Fresh H B2 := g7.fresh (by simp) (fresh_none nB2)
  have g8 := g7.new (o := .dK (kvB cs)) nB2
  have gB0 : Grow [] H7 (upd H7 B2 (.dK (kvB cs))) := grow_new nB2
  have eB8 : upd H7 B2 (.dK (kvB cs)) B2 = some (.dK (kvB cs)) := upd_same
  have eM8 := Grow.dK gB0 eM7
  have lc8 := lc7.grow0 gB0
  generalize upd H7 B2 (HO.dK (kvB cs)) = H8 at g8 gB0 eB8 eM8 lc8 ⊢
  have pt8 : Pot H8 p c := by
    obtain ⟨pa, pb, pk, e, r⟩ := pt
    exact ⟨pa, pb, pk, g8.lst (by simp) e, r⟩
  have hW8 := hW.grow g8
  obtain ⟨hs, rs, eW8, eh8, er8⟩ := id hW8
  have hpos : 0 < m.hands.length := List.length_pos_iff.mpr ok.web.ne
  have hl := ok.web.len
  refine ⟨.ref W, rfl, W, _, 0, .ref hs, rfl, rfl, .inl (.inl eW8), rfl, .ref p, rfl, .ref W, rfl, W, _, 0, .ref hs, rfl, rfl, .inl (.inl eW8), rfl, hs, _, rfl, .inl (.inl (.inl eh8)), p, _, _, rfl, by rw [List.length_map]; omega, by rw [List.length_map]; omega, by omega, pt8, fun v H9 v0 v1 g9 pt9 => ?_⟩
  rw [List.length_map] at v1
  have hv : v.toNat < m.hands.length := by omega
  obtain ⟨hs9, rs9, eW9, eh9, _⟩ := hW8.growP ok.web.ne pt8 g9
  have e99 : hs9 = hs := by
    have e1 := eW9
    rw [g9.tup (fun z => pt8.lists _ z _ eW8) eW8] at e1
    cases e1
    rfl
  subst e99
  obtain ⟨hd, hhd⟩ : ∃ hd, m.hands[v.toNat] = hd := ⟨_, rfl⟩
  have hdm : hd ∈ m.hands := by rw [← hhd]; exact List.getElem_mem hv
  refine ⟨hs9, _, v, .str hd, rfl, rfl, .inl (.inl eh9), at_of (j := v.toNat) (by omega) (by rw [List.getElem?_map, List.getElem?_eq_getElem hv, hhd]; rfl), ?_⟩
  refine ⟨.ref p, rfl, p, 3, _, rfl, by decide, by decide, by omega, pt9, fun way H10 w0 w1 g10 pt10 => ?_⟩
  have gx : Grow [p] H H10 := (g8.any (ex := [p])).trans (g9.trans g10)
  have g810 := g9.trans g10
  have eMx : H10 M2 = some (.dK (kvM m.mouths)) := g810.keep M2 _ (by simpa using pt.other fM2) eM8 fun ps z => by cases z
  have eBx : H10 B2 = some (.dK (kvB cs)) := g810.keep B2 _ (by simpa using pt.other fB2) eB8 fun ps z => by cases z
  have lcx : LsAt H10 cs := lc8.grow g810 fun q hq => by simpa using pt.other (frc q hq)
  have ptx := pt10
  obtain ⟨b, mb, ebn⟩ : ∃ b ∈ cs, b.2.1 = hd := by
    have : hd ∈ cs.map fun q => q.2.1 := by
      rw [names]
      have h1 := ok.bperm.mem_iff.mpr hdm
      rw [← eb, List.map_map] at h1
      exact h1
    obtain ⟨b, hb, e⟩ := List.mem_map.mp this
    exact ⟨b, hb, e⟩
  subst ebn
  have bin : b.2 ∈ m.books := by rw [← cbk]; exact List.mem_map.mpr ⟨b, mb, rfl⟩
  obtain ⟨bz, bw⟩ := ok.bok _ bin
  have fz : Fine (.list (b.2.2.map PyData.str)) 1 2000 := Fine.list (n := 0) (m := 8) (fun x hx => by
    obtain ⟨z, hz, rfl⟩ := List.mem_map.mp hx
    exact bz.fine hz) (by rw [List.length_map]; have := bz.len; omega)
  have dgx : ∀ {Hx : Hp}, Hx B2 = some (.dK (kvB cs)) → DGet Hx B2 (.str b.2.1) (some (.ref b.1)) := fun e => by
    rw [← valB ncn mb]
    exact DGet.k (k := .inr b.2.1) e
  have okC : (Mom.mk m.hands m.roads m.mouths (cs.map Prod.snd)).Ok := by
    rw [cbk]
    exact ok
  have setOk : ∀ {zs : List Str}, Bk zs → (∀ x ∈ zs, x ∈ b.2.2) → (Mom.mk m.hands m.roads m.mouths ((setB cs b.2.1 zs).map Prod.snd)).Ok := fun {zs} bk sub => by
    refine ⟨ok.web, ok.mnd, ok.mnm, ok.mlen, ?_, fun q hq => ?_⟩
    · show (((setB cs b.2.1 zs).map Prod.snd).map Prod.fst).Perm m.hands
      rw [List.map_map]
      have e1 : (setB cs b.2.1 zs).map (Prod.fst ∘ Prod.snd) = (setB cs b.2.1 zs).map (fun q => q.2.1) := rfl
      rw [e1, setB_names, names]
      have h1 := ok.bperm
      rw [← eb, List.map_map] at h1
      exact h1
    · obtain ⟨q0, h0, rfl⟩ := List.mem_map.mp hq
      obtain ⟨q1, h1, rfl⟩ := List.mem_map.mp h0
      by_cases e : q1.2.1 = b.2.1
      · rw [if_pos e]
        exact ⟨bk, fun x hx => bw x (sub x hx)⟩
      · rw [if_neg e]
        exact ok.bok q1.2 (by rw [← cbk]; exact List.mem_map.mpr ⟨q1, h1, rfl⟩)
  have fin : ∀ {ms' : List (Str × Str)} {cs' : List (Addr × (Str × List Str))} {Hx : Hp} {cx : Int}, Grow [p] H Hx → Hx M2 = some (.dK (kvM ms')) → Hx B2 = some (.dK (kvB cs')) → LsAt Hx cs' → Pot Hx p cx → (Mom.mk m.hands m.roads ms' (cs'.map Prod.snd)).Ok →
      ∀ {way : Int}, tRet (tTup (tCons (tVar 2) (tCons (tVar 5) (tCons (tVar 7) tNil)))) { nx := fun x H' => Q V.non H', rt := Q } [some (.ref p), some (.ref T), some (.ref W), some (.ref M), some (.ref Bo), some (.ref M2), none, some (.ref B2), some (.str b.2.1), some (.int way)] Hx := fun {ms' cs' Hx cx} gq e1 e2 l3 pq o3 way => by
    refine ⟨.ref W, rfl, .ref M2, rfl, .ref B2, rfl, by show 3 ≤ sizeLine; decide, fun T2 nT => ?_⟩
    have gT : Grow [] Hx (upd Hx T2 (.tup [.ref W, .ref M2, .ref B2])) := grow_new nT
    exact q T2 _ ⟨m.hands, m.roads, ms', cs'.map Prod.snd⟩ (Fresh.back (fresh_none nT) gq pq) (gq.new nT) ⟨M2, B2, cs', fM2, fB2, upd_same, Grow.dK gT e1, Grow.dK gT e2, l3.grow0 gT, rfl⟩ o3 rfl rfl
  refine ⟨.int way, rfl, rfl, _, rfl, ?_⟩
  by_cases h0 : way = 0
  · rw [show decide (V.int way = V.int 0) = true from decide_eq_true (by rw [h0])]
    refine iteT ⟨.ref M2, rfl, fun Z0 nZ0 => ?_⟩
    have gZ1 : Grow [] H10 (upd H10 Z0 (.dK [])) := grow_new nZ0
    have eZ0 : upd H10 Z0 (.dK []) Z0 = some (.dK []) := upd_same
    have gx := gx.trans (gZ1.any (ex := [p]))
    have eMx := Grow.dK gZ1 eMx
    have eBx := Grow.dK gZ1 eBx
    have lcx := lcx.grow0 gZ1
    have ptx := ptx.new (o := .dK []) nZ0
    generalize upd H10 Z0 (HO.dK []) = H11 at gx eMx eBx lcx ptx eZ0 ⊢
    refine ⟨M2, Z0, kvM m.mouths, rfl, rfl, eMx, eZ0, _, rfl, ?_⟩
    by_cases hm : m.mouths = []
    · rw [show decide (kvM m.mouths ≠ []) = false from by rw [hm]; rfl]
      refine iteF ?_
      refine ⟨.int way, rfl, rfl, _, rfl, ?_⟩
      by_cases h1 : way = 1
      · rw [show decide (V.int way = V.int 1) = true from decide_eq_true (by rw [h1])]
        refine iteT ⟨.ref B2, rfl, .str b.2.1, rfl, B2, .ref b.1, rfl, dgx eBx, tyl (lcx b mb), b.1, _, rfl, rfl, lcx b mb, ?_⟩
        rw [← List.map_reverse]
        exact fin (gx.put (frc b mb) (lcx b mb) (fun ps z => by cases z)) (by rw [upd_ne (fun z => by have := lcx b mb; rw [← z, eMx] at this; cases this)]; exact eMx) (by rw [setB_kv, upd_ne (fun z => by have := lcx b mb; rw [← z, eBx] at this; cases this)]; exact eBx) (setB_at lcx mb nc ncn) (ptx.at (fun z => pt.other (frc b mb) z.symm)) (setOk ⟨List.all_eq_true.mpr fun x hx => List.all_eq_true.mp bz.nm x (List.mem_reverse.mp hx), (List.reverse_perm _).nodup_iff.mpr bz.nd, by rw [List.length_reverse]; exact bz.len⟩ fun x hx => List.mem_reverse.mp hx)
      · rw [show decide (V.int way = V.int 1) = false from decide_eq_false fun z => h1 (V.int.inj z)]
        refine iteF ⟨.ref B2, rfl, .str b.2.1, rfl, B2, .ref b.1, rfl, dgx eBx, by show 0 ≤ sizeLine; decide, fun Z nZ => ?_⟩
        have gZ0 : Grow [] H11 (upd H11 Z (.lst [])) := grow_new nZ
        have gz := gx.trans (gZ0.any (ex := [p]))
        have eMz := Grow.dK gZ0 eMx
        have eBz := Grow.dK gZ0 eBx
        have lcz := lcx.grow0 gZ0
        have ptz := ptx.new (o := .lst []) nZ
        have eZ : upd H11 Z (.lst []) Z = some (.lst []) := upd_same
        generalize upd H11 Z (HO.lst []) = HZ at gz eMz eBz lcz ptz eZ ⊢
        refine ⟨_, _, dp_book (.inl (.inl (lcz b mb))), dp_book (xs := []) (.inl (.inl eZ)), fz.shaped (by decide), by decide, _, rfl, ?_⟩
        by_cases he : b.2.2 = []
        · rw [show (!PyData.eqv (.list (b.2.2.map PyData.str)) (.list (([] : List Str).map PyData.str))) = false from by rw [he]; simp [PyData.eqv, PyData.eqvAll]]
          exact iteF (fin gz eMz eBz lcz ptz okC)
        · rw [show (!PyData.eqv (.list (b.2.2.map PyData.str)) (.list (([] : List Str).map PyData.str))) = true from by cases hq : b.2.2 with | nil => exact absurd hq he | cons y r => simp [PyData.eqv, PyData.eqvAll]]
          have lpos : 0 < b.2.2.length := List.length_pos_iff.mpr he; have bl200 := bz.len
          refine iteT ⟨.ref B2, rfl, .str b.2.1, rfl, B2, .ref b.1, rfl, dgx eBz, tyl (lcz b mb), .ref p, rfl, .ref B2, rfl, .str b.2.1, rfl, B2, .ref b.1, rfl, dgx eBz, b.1, _, rfl, .inl (.inl (.inl (lcz b mb))), p, _, _, rfl, by rw [List.length_map]; omega, by rw [List.length_map]; have := bz.len; omega, by omega, ptz, fun u Hy u0 u1 gy pty => ?_⟩
          rw [List.length_map] at u1
          have hu : u.toNat < b.2.2.length := by omega
          have eMy : Hy M2 = some (.dK (kvM m.mouths)) := gy.keep M2 _ (by simpa using pt.other fM2) eMz fun ps z => by cases z
          have eBy : Hy B2 = some (.dK (kvB cs)) := gy.keep B2 _ (by simpa using pt.other fB2) eBz fun ps z => by cases z
          have lcy := lcz.grow gy fun q hq => by simpa using pt.other (frc q hq)
          refine ⟨b.1, _, u, u.toNat, .str b.2.2[u.toNat], rfl, rfl, lcy b mb, by omega, by omega, seqIndex_nat u0 (by rw [List.length_map]; exact u1), by rw [List.getElem?_map, List.getElem?_eq_getElem hu]; rfl, ?_⟩
          rw [erase_map]
          exact fin ((gz.trans gy).put (frc b mb) (lcy b mb) (fun ps z => by cases z)) (by rw [upd_ne (fun z => by have := lcy b mb; rw [← z, eMy] at this; cases this)]; exact eMy) (by rw [setB_kv, upd_ne (fun z => by have := lcy b mb; rw [← z, eBy] at this; cases this)]; exact eBy) (setB_at lcy mb nc ncn) (pty.at (fun z => pt.other (frc b mb) z.symm)) (setOk ⟨List.all_eq_true.mpr fun x hx => List.all_eq_true.mp bz.nm x (List.mem_of_mem_eraseIdx hx), bz.nd.sublist (List.eraseIdx_sublist _ _), Nat.le_trans (List.eraseIdx_sublist _ _).length_le bz.len⟩ fun x hx => List.mem_of_mem_eraseIdx hx)

    · have kne : kvM m.mouths ≠ [] := fun z => hm (by unfold kvM at z; exact List.map_eq_nil_iff.mp z)
      rw [decide_eq_true kne]
      refine iteT ⟨.str b.2.1, rfl, .ref M2, rfl, .ref M2, rfl, M2, kvM m.mouths, m.mouths.map Prod.fst, rfl, .inl eMx, by rw [kvM_keys], by rw [List.length_map]; unfold sizeLine; omega, fun S nS => ?_⟩
      rw [show (m.mouths.map Prod.fst).mergeSort (PySem.W.dataLe false PyData.str) = sortS (m.mouths.map Prod.fst) from rfl]
      have lss : (sortS (m.mouths.map Prod.fst)).length = m.mouths.length := by rw [(sortS_perm _).length_eq, List.length_map]
      have mpos : 0 < m.mouths.length := List.length_pos_iff.mpr hm
      have h00 : 0 < (sortS (m.mouths.map Prod.fst)).length := by omega
      obtain ⟨x0, hx0⟩ : ∃ x0, (sortS (m.mouths.map Prod.fst))[0] = x0 := ⟨_, rfl⟩
      have x0m : x0 ∈ m.mouths.map Prod.fst := (sortS_perm _).mem_iff.mp (by rw [← hx0]; exact List.getElem_mem h00)
      have gS0 : Grow [] H11 (upd H11 S (.lst ((sortS (m.mouths.map Prod.fst)).map V.str))) := grow_new nS
      have eS : upd H11 S (.lst ((sortS (m.mouths.map Prod.fst)).map V.str)) S = some (.lst ((sortS (m.mouths.map Prod.fst)).map V.str)) := upd_same
      have gx := gx.trans (gS0.any (ex := [p]))
      have eMx := Grow.dK gS0 eMx
      have eBx := Grow.dK gS0 eBx
      have lcx := lcx.grow0 gS0
      have ptx := ptx.new (o := .lst ((sortS (m.mouths.map Prod.fst)).map V.str)) nS
      generalize upd H11 S (HO.lst ((sortS (m.mouths.map Prod.fst)).map V.str)) = H12 at gx eMx eBx lcx ptx eS ⊢
      refine ⟨S, _, 0, .str x0, rfl, rfl, .inl (.inl eS), at_of (j := 0) rfl (by rw [List.getElem?_map, List.getElem?_eq_getElem h00, hx0]; rfl), M2, _, rfl, .inl ⟨kvM m.mouths, .inr x0, eMx, rfl, by unfold kvM; rw [List.length_map]; unfold sizeLine; omega, rfl⟩, ?_⟩
      rw [putK_same x0m]
      have MB : B2 ≠ M2 := fun z => by rw [z, eMx] at eBx; have := congrArg (fun l : List (Key × V) => l.map Prod.snd) (HO.dK.inj (Option.some.inj eBx)); cases hmm : m.mouths with | nil => exact hm hmm | cons a r => (rw [hmm] at this; cases hcs : cs with | nil => (rw [hcs] at mb; cases mb) | cons a2 r2 => (rw [hcs] at this; cases this))
      refine fin (ms' := m.mouths.map fun q => if q.1 = x0 then (q.1, b.2.1) else q) (gx.put fM2 eMx (fun ps z => by cases z)) upd_same (by rw [upd_ne MB]; exact eBx) (fun q hq => by rw [upd_ne (fun z => by have := lcx q hq; rw [z, eMx] at this; cases this)]; exact lcx q hq) (ptx.at (fun z => pt.other fM2 z.symm)) ⟨ok.web, by rw [show (Mom.mk m.hands m.roads (m.mouths.map fun q => if q.1 = x0 then (q.1, b.2.1) else q) (cs.map Prod.snd)).mouths.map Prod.fst = m.mouths.map Prod.fst from set_fst _ _ _]; exact ok.mnd, fun q hq => ?_, by show (m.mouths.map _).length ≤ 100; rw [List.length_map]; exact lm, okC.bperm, fun q hq => ?_⟩
      · obtain ⟨q0, h0q, rfl⟩ := List.mem_map.mp hq
        have := ok.mnm q0 h0q
        by_cases e : q0.1 = x0
        · rw [if_pos e]
          exact ⟨this.1, hdm⟩
        · rw [if_neg e]
          exact this
      · have := okC.bok q hq
        refine ⟨this.1, fun x hx => ?_⟩
        rw [show (Mom.mk m.hands m.roads (m.mouths.map fun q => if q.1 = x0 then (q.1, b.2.1) else q) (cs.map Prod.snd)).mouths.map Prod.fst = m.mouths.map Prod.fst from set_fst _ _ _]
        exact this.2 x hx
  · rw [show decide (V.int way = V.int 0) = false from decide_eq_false fun z => h0 (V.int.inj z)]
    refine iteF ?_
    refine ⟨.int way, rfl, rfl, _, rfl, ?_⟩
    by_cases h1 : way = 1
    · rw [show decide (V.int way = V.int 1) = true from decide_eq_true (by rw [h1])]
      refine iteT ⟨.ref B2, rfl, .str b.2.1, rfl, B2, .ref b.1, rfl, dgx eBx, tyl (lcx b mb), b.1, _, rfl, rfl, lcx b mb, ?_⟩
      rw [← List.map_reverse]
      exact fin (gx.put (frc b mb) (lcx b mb) (fun ps z => by cases z)) (by rw [upd_ne (fun z => by have := lcx b mb; rw [← z, eMx] at this; cases this)]; exact eMx) (by rw [setB_kv, upd_ne (fun z => by have := lcx b mb; rw [← z, eBx] at this; cases this)]; exact eBx) (setB_at lcx mb nc ncn) (ptx.at (fun z => pt.other (frc b mb) z.symm)) (setOk ⟨List.all_eq_true.mpr fun x hx => List.all_eq_true.mp bz.nm x (List.mem_reverse.mp hx), (List.reverse_perm _).nodup_iff.mpr bz.nd, by rw [List.length_reverse]; exact bz.len⟩ fun x hx => List.mem_reverse.mp hx)
    · rw [show decide (V.int way = V.int 1) = false from decide_eq_false fun z => h1 (V.int.inj z)]
      refine iteF ⟨.ref B2, rfl, .str b.2.1, rfl, B2, .ref b.1, rfl, dgx eBx, by show 0 ≤ sizeLine; decide, fun Z nZ => ?_⟩
      have gZ0 : Grow [] H10 (upd H10 Z (.lst [])) := grow_new nZ
      have gz := gx.trans (gZ0.any (ex := [p]))
      have eMz := Grow.dK gZ0 eMx
      have eBz := Grow.dK gZ0 eBx
      have lcz := lcx.grow0 gZ0
      have ptz := ptx.new (o := .lst []) nZ
      have eZ : upd H10 Z (.lst []) Z = some (.lst []) := upd_same
      generalize upd H10 Z (HO.lst []) = HZ at gz eMz eBz lcz ptz eZ ⊢
      refine ⟨_, _, dp_book (.inl (.inl (lcz b mb))), dp_book (xs := []) (.inl (.inl eZ)), fz.shaped (by decide), by decide, _, rfl, ?_⟩
      by_cases he : b.2.2 = []
      · rw [show (!PyData.eqv (.list (b.2.2.map PyData.str)) (.list (([] : List Str).map PyData.str))) = false from by rw [he]; simp [PyData.eqv, PyData.eqvAll]]
        exact iteF (fin gz eMz eBz lcz ptz okC)
      · rw [show (!PyData.eqv (.list (b.2.2.map PyData.str)) (.list (([] : List Str).map PyData.str))) = true from by cases hq : b.2.2 with | nil => exact absurd hq he | cons y r => simp [PyData.eqv, PyData.eqvAll]]
        have lpos : 0 < b.2.2.length := List.length_pos_iff.mpr he; have bl200 := bz.len
        refine iteT ⟨.ref B2, rfl, .str b.2.1, rfl, B2, .ref b.1, rfl, dgx eBz, tyl (lcz b mb), .ref p, rfl, .ref B2, rfl, .str b.2.1, rfl, B2, .ref b.1, rfl, dgx eBz, b.1, _, rfl, .inl (.inl (.inl (lcz b mb))), p, _, _, rfl, by rw [List.length_map]; omega, by rw [List.length_map]; have := bz.len; omega, by omega, ptz, fun u Hy u0 u1 gy pty => ?_⟩
        rw [List.length_map] at u1
        have hu : u.toNat < b.2.2.length := by omega
        have eMy : Hy M2 = some (.dK (kvM m.mouths)) := gy.keep M2 _ (by simpa using pt.other fM2) eMz fun ps z => by cases z
        have eBy : Hy B2 = some (.dK (kvB cs)) := gy.keep B2 _ (by simpa using pt.other fB2) eBz fun ps z => by cases z
        have lcy := lcz.grow gy fun q hq => by simpa using pt.other (frc q hq)
        refine ⟨b.1, _, u, u.toNat, .str b.2.2[u.toNat], rfl, rfl, lcy b mb, by omega, by omega, seqIndex_nat u0 (by rw [List.length_map]; exact u1), by rw [List.getElem?_map, List.getElem?_eq_getElem hu]; rfl, ?_⟩
        rw [erase_map]
        exact fin ((gz.trans gy).put (frc b mb) (lcy b mb) (fun ps z => by cases z)) (by rw [upd_ne (fun z => by have := lcy b mb; rw [← z, eMy] at this; cases this)]; exact eMy) (by rw [setB_kv, upd_ne (fun z => by have := lcy b mb; rw [← z, eBy] at this; cases this)]; exact eBy) (setB_at lcy mb nc ncn) (pty.at (fun z => pt.other (frc b mb) z.symm)) (setOk ⟨List.all_eq_true.mpr fun x hx => List.all_eq_true.mp bz.nm x (List.mem_of_mem_eraseIdx hx), bz.nd.sublist (List.eraseIdx_sublist _ _), Nat.le_trans (List.eraseIdx_sublist _ _).length_le bz.len⟩ fun x hx => List.mem_of_mem_eraseIdx hx)

end

end Lw

namespace Lw
open PySem PySem.Spec PyProof.Rows L2 GxR Gx
/-! ### equal moments, equal texts -/
def eM (a b : Mom) : Key → Bool
  | .inr x => decide (mouthOf a x = mouthOf b x)
  | .inl _ => false
def eB (a b : Mom) : Key → Bool
  | .inr x => decide (bookOf a x = bookOf b x)
  | .inl _ => false
theorem mouthOf_mem {a : Mom} (ha : a.Ok) {q : Str × Str} (h : q ∈ a.mouths) : mouthOf a q.1 = q.2 := by
  unfold mouthOf
  rw [look_mem ha.mnd h]
  rfl
theorem bookOf_mem {a : Mom} (ha : a.Ok) {q : Str × List Str} (h : q ∈ a.books) : bookOf a q.1 = q.2 := by
  unfold bookOf
  rw [look_mem ha.bnd h]
  rfl
theorem valM_of {ms : List (Str × Str)} {k : Key} {w : V} (h : valV (kvM ms) k = some w) : ∃ q ∈ ms, k = .inr q.1 ∧ w = .str q.2 := by
  unfold valV at h
  cases e : (kvM ms).find? (fun kv => decide (kv.1 = k)) with
  | none => rw [e] at h; cases h
  | some kv =>
    rw [e] at h
    cases h
    obtain ⟨q, hq, rfl⟩ := List.mem_map.mp (List.mem_of_find?_eq_some e)
    exact ⟨q, hq, (of_decide_eq_true (List.find?_some (p := fun kv : Key × V => decide (kv.1 = k)) e)).symm, rfl⟩
theorem valB_of {bs : List (Addr × (Str × List Str))} {k : Key} {w : V} (h : valV (kvB bs) k = some w) : ∃ q ∈ bs, k = .inr q.2.1 ∧ w = .ref q.1 := by
  unfold valV at h
  cases e : (kvB bs).find? (fun kv => decide (kv.1 = k)) with
  | none => rw [e] at h; cases h
  | some kv =>
    rw [e] at h
    cases h
    obtain ⟨q, hq, rfl⟩ := List.mem_map.mp (List.mem_of_find?_eq_some e)
    exact ⟨q, hq, (of_decide_eq_true (List.find?_some (p := fun kv : Key × V => decide (kv.1 = k)) e)).symm, rfl⟩
theorem hitsM {K : PySem.W.Frag} {H : Hp} {a b : Mom} (ha : a.Ok) (hb : b.Ok) : Hits K H (kvM a.mouths) (kvM b.mouths) (eM a b) := fun k v w hk hw => by
  obtain ⟨q, hq, e⟩ := List.mem_map.mp hk
  cases e
  obtain ⟨r, hr, e1, rfl⟩ := valM_of hw
  have e1 : q.1 = r.1 := Sum.inr.inj e1
  have nq : isNm q.2 = true := ha.web.hand (ha.mnm q hq).2
  have nr : isNm r.2 = true := hb.web.hand (hb.mnm r hr).2
  refine ⟨.str q.2, .str r.2, .str _, .str _, (fine_name nq).shaped (by decide), (fine_name nr).shaped (by decide), ?_⟩
  show decide (mouthOf a q.1 = mouthOf b q.1) = _
  rw [eqv_str, mouthOf_mem ha hq, e1, mouthOf_mem hb hr]
theorem hitsB {K : PySem.W.Frag} {H : Hp} {a b : Mom} {as bs : List (Addr × (Str × List Str))} (ha : a.Ok) (hb : b.Ok) (la : LsAt H as) (lb : LsAt H bs) (ea : as.map Prod.snd = a.books) (eb : bs.map Prod.snd = b.books) : Hits K H (kvB as) (kvB bs) (eB a b) := fun k v w hk hw => by
  obtain ⟨q, hq, e⟩ := List.mem_map.mp hk
  cases e
  obtain ⟨r, hr, e1, rfl⟩ := valB_of hw
  have e1 : q.2.1 = r.2.1 := Sum.inr.inj e1
  have mq : q.2 ∈ a.books := by rw [← ea]; exact List.mem_map.mpr ⟨q, hq, rfl⟩
  have mr : r.2 ∈ b.books := by rw [← eb]; exact List.mem_map.mpr ⟨r, hr, rfl⟩
  have bq := (ha.bok _ mq).1
  have br := (hb.bok _ mr).1
  refine ⟨.list (q.2.2.map PyData.str), .list (r.2.2.map PyData.str), dp_book (.inl (.inl (la q hq))), dp_book (.inl (.inl (lb r hr))), (fine_names bq.nm bq.len).shaped (by decide), (fine_names br.nm br.len).shaped (by decide), ?_⟩
  show decide (bookOf a q.2.1 = bookOf b q.2.1) = PyData.eqvAll _ _
  rw [eqvAll_map eqv_str, bookOf_mem ha mq, e1, bookOf_mem hb mr]
def sameM (a b : Mom) : Prop := a.mouths.length = b.mouths.length ∧ ∀ x ∈ a.mouths.map Prod.fst, x ∈ b.mouths.map Prod.fst ∧ mouthOf a x = mouthOf b x
def sameBk (a b : Mom) : Prop := a.books.length = b.books.length ∧ ∀ x ∈ a.books.map Prod.fst, x ∈ b.books.map Prod.fst ∧ bookOf a x = bookOf b x
theorem mem_kvM {ms : List (Str × Str)} {x : Str} (h : (valV (kvM ms) (.inr x)).isSome = true) : x ∈ ms.map Prod.fst := by
  cases e : valV (kvM ms) (.inr x) with
  | none => rw [e] at h; cases h
  | some w =>
    obtain ⟨q, hq, e1, _⟩ := valM_of e
    exact List.mem_map.mpr ⟨q, hq, (Sum.inr.inj e1).symm⟩
theorem mem_kvB {bs : List (Addr × (Str × List Str))} {x : Str} : (valV (kvB bs) (.inr x)).isSome = true ↔ x ∈ (bs.map Prod.snd).map Prod.fst := by
  constructor
  · intro h
    cases e : valV (kvB bs) (.inr x) with
    | none => rw [e] at h; cases h
    | some w =>
      obtain ⟨q, hq, e1, _⟩ := valB_of e
      exact List.mem_map.mpr ⟨q.2, List.mem_map.mpr ⟨q, hq, rfl⟩, (Sum.inr.inj e1).symm⟩
  · intro h
    obtain ⟨p, hp, rfl⟩ := List.mem_map.mp h
    obtain ⟨q, hq, rfl⟩ := List.mem_map.mp hp
    cases e : valV (kvB bs) (.inr q.2.1) with
    | some v => rfl
    | none =>
      unfold valV at e
      rw [Option.map_eq_none_iff, List.find?_eq_none] at e
      exact absurd (decide_eq_true rfl) (e (Sum.inr q.2.1, V.ref q.1) (List.mem_map.mpr ⟨q, hq, rfl⟩))
theorem dicM_iff {a b : Mom} : dicE (kvM a.mouths) (kvM b.mouths) (eM a b) = true ↔ sameM a b := by
  unfold dicE sameM
  rw [Bool.and_eq_true, beq_iff_eq, List.all_eq_true, show (kvM a.mouths).length = a.mouths.length from List.length_map _, show (kvM b.mouths).length = b.mouths.length from List.length_map _]
  refine and_congr_right fun _ => ⟨fun h x hx => ?_, fun h p hp => ?_⟩
  · obtain ⟨q, hq, rfl⟩ := List.mem_map.mp hx
    have := h _ (List.mem_map.mpr ⟨q, hq, rfl⟩)
    rw [Bool.and_eq_true] at this
    exact ⟨mem_kvM this.1, of_decide_eq_true this.2⟩
  · obtain ⟨q, hq, rfl⟩ := List.mem_map.mp hp
    have := h q.1 (List.mem_map.mpr ⟨q, hq, rfl⟩)
    rw [Bool.and_eq_true]
    exact ⟨kvM_some this.1, decide_eq_true this.2⟩
theorem dicB_iff {a b : Mom} {as bs : List (Addr × (Str × List Str))} (ea : as.map Prod.snd = a.books) (eb : bs.map Prod.snd = b.books) : dicE (kvB as) (kvB bs) (eB a b) = true ↔ sameBk a b := by
  unfold dicE sameBk
  rw [Bool.and_eq_true, beq_iff_eq, List.all_eq_true, kvB_len, kvB_len, ← ea, ← eb, List.length_map, List.length_map]
  refine and_congr_right fun _ => ⟨fun h x hx => ?_, fun h p hp => ?_⟩
  · obtain ⟨p, hp, rfl⟩ := List.mem_map.mp hx
    obtain ⟨q, hq, rfl⟩ := List.mem_map.mp hp
    have := h _ (List.mem_map.mpr ⟨q, hq, rfl⟩)
    rw [Bool.and_eq_true] at this
    exact ⟨mem_kvB.mp this.1, of_decide_eq_true this.2⟩
  · obtain ⟨q, hq, rfl⟩ := List.mem_map.mp hp
    have := h q.2.1 (List.mem_map.mpr ⟨q.2, List.mem_map.mpr ⟨q, hq, rfl⟩, rfl⟩)
    rw [Bool.and_eq_true]
    exact ⟨mem_kvB.mpr this.1, decide_eq_true this.2⟩
theorem sub_perm {xs ys : List Str} (nx : xs.Nodup) (ny : ys.Nodup) (l : xs.length = ys.length) (h : ∀ x ∈ xs, x ∈ ys) : xs.Perm ys := by
  refine (List.perm_ext_iff_of_nodup nx ny).mpr fun x => ⟨h x, fun hx => ?_⟩
  exact Classical.byContradiction fun z => by
    have : (x :: xs).length ≤ ys.length := (List.nodup_cons.mpr ⟨z, nx⟩).length_le_of_subset fun y hy => by
      rcases List.mem_cons.mp hy with rfl | hy
      · exact hx
      · exact h y hy
    rw [List.length_cons] at this
    omega
/-- one web: the texts are alike just if the mouths and the books are -/
theorem text_iff {a b : Mom} (ha : a.Ok) (hb : b.Ok) (hh : a.hands = b.hands) (hr : a.roads = b.roads) : momText a = momText b ↔ sameM a b ∧ sameBk a b := by
  have kb : sortS (a.books.map Prod.fst) = sortS (b.books.map Prod.fst) := sortS_eq (ha.bperm.trans (by rw [hh]; exact hb.bperm.symm))
  have hw : webRows a.hands a.roads = webRows b.hands b.roads := by rw [hh, hr]
  constructor
  · intro e
    have er : momRows a = momRows b := by rw [← momText_split ha, e, momText_split hb]
    unfold momRows at er
    rw [hw, kb, List.append_assoc, List.append_assoc] at er
    have e2 := List.append_cancel_left er
    obtain ⟨e3, e4⟩ := List.append_inj e2 (by rw [List.length_map, List.length_map])
    have ek : sortS (a.mouths.map Prod.fst) = sortS (b.mouths.map Prod.fst) := by
      have := congrArg (List.map fun t => (Txt.partition t atS).1) e4
      rw [List.map_map, List.map_map] at this
      have ia : (sortS (a.mouths.map Prod.fst)).map ((fun t => (Txt.partition t atS).1) ∘ mouthRow a) = (sortS (a.mouths.map Prod.fst)).map id := List.map_congr_left fun x hx => by
        show (Txt.partition (mouthRow a x) atS).1 = x
        rw [(mouthRow_facts ha ((sortS_perm _).mem_iff.mp hx)).2.2.2.1]
      have ib : (sortS (b.mouths.map Prod.fst)).map ((fun t => (Txt.partition t atS).1) ∘ mouthRow b) = (sortS (b.mouths.map Prod.fst)).map id := List.map_congr_left fun x hx => by
        show (Txt.partition (mouthRow b x) atS).1 = x
        rw [(mouthRow_facts hb ((sortS_perm _).mem_iff.mp hx)).2.2.2.1]
      rw [ia, ib, List.map_id, List.map_id] at this
      exact this
    have kp : (a.mouths.map Prod.fst).Perm (b.mouths.map Prod.fst) := (sortS_perm _).symm.trans (by rw [ek]; exact sortS_perm _)
    refine ⟨⟨by have := kp.length_eq; rwa [List.length_map, List.length_map] at this, fun x hx => ⟨kp.mem_iff.mp hx, ?_⟩⟩, ?_, fun x hx => ⟨?_, ?_⟩⟩
    · rw [ek] at e4
      have := List.map_inj_left.mp e4 x ((sortS_perm _).mem_iff.mpr (kp.mem_iff.mp hx))
      have e5 := congrArg (fun t => (Txt.partition t atS).2.2) this
      have e5 : (Txt.partition (mouthRow a x) atS).2.2 = (Txt.partition (mouthRow b x) atS).2.2 := e5
      rw [(mouthRow_facts ha hx).2.2.2.1, (mouthRow_facts hb (kp.mem_iff.mp hx)).2.2.2.1] at e5
      exact e5
    · rw [ha.blen, hb.blen, hh]
    · exact hb.bperm.mem_iff.mpr (by rw [← hh]; exact ha.bperm.mem_iff.mp hx)
    · have hx2 : x ∈ b.books.map Prod.fst := hb.bperm.mem_iff.mpr (by rw [← hh]; exact ha.bperm.mem_iff.mp hx)
      have := List.map_inj_left.mp e3 x ((sortS_perm _).mem_iff.mpr hx2)
      have e5 := congrArg (fun t => (Txt.partition t coS).2.2) this
      have e5 : (Txt.partition (bookRow a x) coS).2.2 = (Txt.partition (bookRow b x) coS).2.2 := e5
      rw [(bookRow_facts ha hx).2.2.2.1, (bookRow_facts hb hx2).2.2.2.1] at e5
      exact bookText_inj (ha.bok _ (ha.book hx)).1 (hb.bok _ (hb.book hx2)).1 e5
  · rintro ⟨⟨l1, s1⟩, l2, s2⟩
    have ek : sortS (a.mouths.map Prod.fst) = sortS (b.mouths.map Prod.fst) := sortS_eq (sub_perm ha.mnd hb.mnd (by rw [List.length_map, List.length_map]; exact l1) fun x hx => (s1 x hx).1)
    unfold momText momRows
    rw [hw, kb, ek]
    have e1 : (sortS (b.books.map Prod.fst)).map (bookRow a) = (sortS (b.books.map Prod.fst)).map (bookRow b) := List.map_congr_left fun x hx => by
      unfold bookRow
      rw [(s2 x (ha.bperm.mem_iff.mpr (by rw [hh]; exact hb.bperm.mem_iff.mp ((sortS_perm _).mem_iff.mp hx)))).2]
    have e2 : (sortS (b.mouths.map Prod.fst)).map (mouthRow a) = (sortS (b.mouths.map Prod.fst)).map (mouthRow b) := List.map_congr_left fun x hx => by
      unfold mouthRow
      rw [(s1 x ((sortS_perm _).mem_iff.mp (by rw [ek]; exact hx))).2]
    rw [e1, e2]

end Lw

namespace Lw
open PySem PySem.Spec PyProof.Rows L2 GxR Gx
section
variable {P : Program} {w : World} {K : PySem.W.Frag} {mg : Str → Option Value} {base : Heap}
theorem bookText_short {zs : List Str} (b : Bk zs) : (bookText zs).length ≤ 1800 := by
  unfold bookText
  split
  · decide
  · have this_ := join_len spS 8 (ws := zs) fun x hx => (nm_iff.mp (List.all_eq_true.mp b.nm x hx)).2.1
    have l1 : spS.length = 1 := by decide
    have := b.len
    rw [l1] at this_
    omega
theorem momRow_short {m : Mom} (h : m.Ok) {x : Str} (hx : x ∈ momRows m) : x ≠ Str.empty ∧ x.length ≤ 10000 := by
  refine ⟨(momRow_facts h hx).2.1, ?_⟩
  unfold momRows at hx
  rcases List.mem_append.mp hx with hx | hx
  · rcases List.mem_append.mp hx with hx | hx
    · have := (webRows_lacks h.web x hx).2.2
      omega
    · obtain ⟨y, hy, rfl⟩ := List.mem_map.mp hx
      have hb := h.book ((sortS_perm _).mem_iff.mp hy)
      have h1 := bookText_short (h.bok _ hb).1
      have h1 : (bookText (bookOf m y)).length ≤ 1800 := h1
      have nx : isNm y = true := h.web.hand (h.hand hb)
      have lx : y.length ≤ 8 := (nm_iff.mp nx).2.1
      have l2 : coS.length = 2 := by decide
      unfold bookRow
      rw [app_len, app_len, l2]
      omega
  · obtain ⟨y, hy, rfl⟩ := List.mem_map.mp hx
    have := (mouthRow_facts h ((sortS_perm _).mem_iff.mp hy)).2.2.1
    omega
/-- the moment as data -/
def Mom.Ds (m : Mom) : List PyData := [webD m.hands m.roads, dicD (m.mouths.map fun q => (q.1, .str q.2)), dicD (m.books.map fun q => (q.1, .list (q.2.map PyData.str)))]
theorem no_dict (zs : List Str) : (PyData.list (zs.map PyData.str)).hasDict = false := by
  rw [PyData.hasDict]
  induction zs with
  | nil => rfl
  | cons z r ih =>
    rw [List.map_cons, PyData.hasDictAll, ih]
    rfl
theorem kvd_M {K : PySem.W.Frag} {H : Hp} : ∀ ms : List (Str × Str), KvD K H (kvM ms) (ms.map fun q => (q.1, .str q.2))
  | [] => .nil
  | q :: r => .cons (.str q.2) rfl (kvd_M r)
theorem kvd_B {K : PySem.W.Frag} {H : Hp} : ∀ {bs : List (Addr × (Str × List Str))}, LsAt H bs → KvD K H (kvB bs) ((bs.map Prod.snd).map fun q => (q.1, .list (q.2.map PyData.str)))
  | [], _ => .nil
  | b :: r, h => .cons (dp_book (.inl (.inl (h b List.mem_cons_self)))) (no_dict b.2.2) (kvd_B fun q hq => h q (List.mem_cons_of_mem _ hq))
theorem dic_show {n m : Nat} : ∀ {ps : List (Str × PyData)}, (∀ p ∈ ps, Fine (.str p.1) 0 8 ∧ Fine p.2 n m) →
    PyData.showableKv (ps.map fun p => ((.str p.1 : PyData), p.2)) = true ∧ PyData.leavesShortKv 8 (ps.map fun p => ((.str p.1 : PyData), p.2)) = true ∧ PyData.depthKv (ps.map fun p => ((.str p.1 : PyData), p.2)) ≤ n ∧ PyData.bulkKv (ps.map fun p => ((.str p.1 : PyData), p.2)) ≤ ps.length * (m + 10)
  | [], _ => ⟨rfl, rfl, Nat.zero_le _, Nat.zero_le _⟩
  | p :: r, h => by
    obtain ⟨f1, f2⟩ := h p List.mem_cons_self
    obtain ⟨i1, i2, i3, i4⟩ := dic_show (ps := r) fun q hq => h q (List.mem_cons_of_mem _ hq)
    rw [List.map_cons]
    refine ⟨?_, ?_, ?_, ?_⟩
    · rw [PyData.showableKv, f1.show_, f2.show_, i1]
      rfl
    · rw [PyData.leavesShortKv, f1.leaves, f2.leaves, i2]
      rfl
    · rw [PyData.depthKv]
      exact Nat.max_le.mpr ⟨Nat.max_le.mpr ⟨Nat.le_trans f1.deep (Nat.zero_le _), f2.deep⟩, i3⟩
    · rw [PyData.bulkKv, List.length_cons, Nat.succ_mul]
      have := f1.bulk
      have := f2.bulk
      omega
theorem mom_show {m : Mom} (h : m.Ok) : PyData.showableAll m.Ds = true ∧ PyData.depthAll m.Ds ≤ 60 ∧ (PyData.tuple m.Ds).shown.length ≤ sizeLine := by
  have fw := fine_web h.web
  obtain ⟨a1, a2, a3, a4⟩ := dic_show (n := 0) (m := 8) (ps := m.mouths.map fun q => (q.1, .str q.2)) fun p hp => by
    obtain ⟨q, hq, rfl⟩ := List.mem_map.mp hp
    have := h.mnm q hq
    exact ⟨fine_name this.1, fine_name (h.web.hand this.2)⟩
  obtain ⟨b1, b2, b3, b4⟩ := dic_show (n := 1) (m := 1800) (ps := m.books.map fun q => (q.1, .list (q.2.map PyData.str))) fun p hp => by
    obtain ⟨q, hq, rfl⟩ := List.mem_map.mp hp
    have bz := (h.bok q hq).1
    exact ⟨fine_name (h.web.hand (h.hand hq)), fine_names bz.nm bz.len⟩
  have ml := h.mlen
  have bl : m.books.length ≤ 200 := by rw [h.blen]; exact h.web.len
  rw [List.length_map] at a4 b4
  have a5 := Nat.mul_le_mul ml (Nat.le_refl (8 + 10))
  have b5 := Nat.mul_le_mul bl (Nat.le_refl (1800 + 10))
  have sh : PyData.showableAll m.Ds = true := by
    unfold Mom.Ds dicD
    rw [PyData.showableAll, PyData.showableAll, PyData.showableAll, PyData.showableAll, fw.show_, PyData.showable, PyData.showable, a1, b1]
    rfl
  refine ⟨sh, ?_, ?_⟩
  · unfold Mom.Ds dicD
    rw [PyData.depthAll, PyData.depthAll, PyData.depthAll, PyData.depthAll, PyData.depth, PyData.depth]
    have := fw.deep
    omega
  · have lv : (PyData.tuple m.Ds).leavesShort 8 = true := by
      unfold Mom.Ds dicD
      rw [PyData.leavesShort, PyData.leavesShortAll, PyData.leavesShortAll, PyData.leavesShortAll, PyData.leavesShortAll, fw.leaves, PyData.leavesShort, PyData.leavesShort, a2, b2]
      rfl
    have bk : (PyData.tuple m.Ds).bulk ≤ 400000 := by
      unfold Mom.Ds dicD
      rw [PyData.bulk, PyData.bulkAll, PyData.bulkAll, PyData.bulkAll, PyData.bulkAll, PyData.bulk, PyData.bulk]
      have := fw.bulk
      omega
    have := PyData.shown_le_bulk 8 (by decide) _ lv
    unfold sizeLine
    omega
theorem paired_rev {α β : Type} {F : α → β → Prop} : ∀ {xs : List α} {ys : List β}, Paired F xs ys → Paired F xs.reverse ys.reverse
  | _, _, .nil => .nil
  | _, _, .cons (a := a) (b := b) r t => by
    rw [List.reverse_cons, List.reverse_cons]
    exact @paired_snoc _ _ F a b r _ _ (paired_rev t)
def Mom.rv (m : Mom) : Mom := ⟨m.hands, m.roads, m.mouths.reverse, m.books.reverse⟩
theorem Mom.Ok.rv {m : Mom} (h : m.Ok) : m.rv.Ok := by
  refine ⟨h.web, ?_, fun p hp => h.mnm p (List.mem_reverse.mp hp), ?_, ?_, fun p hp => ?_⟩
  · show (m.mouths.reverse.map Prod.fst).Nodup
    rw [List.map_reverse]
    exact (List.reverse_perm _).nodup_iff.mpr h.mnd
  · show m.mouths.reverse.length ≤ 100
    rw [List.length_reverse]
    exact h.mlen
  · show (m.books.reverse.map Prod.fst).Perm m.hands
    rw [List.map_reverse]
    exact (List.reverse_perm _).trans h.bperm
  · have := h.bok p (List.mem_reverse.mp hp)
    refine ⟨this.1, fun x hx => ?_⟩
    show x ∈ m.mouths.reverse.map Prod.fst
    rw [List.map_reverse]
    exact List.mem_reverse.mpr (this.2 x hx)
theorem rv_text {m : Mom} (h : m.Ok) : momText m.rv = momText m := by
  refine (text_iff h.rv h rfl rfl).mpr ⟨⟨List.length_reverse, fun x hx => ?_⟩, List.length_reverse, fun x hx => ?_⟩
  · have hx2 : x ∈ m.mouths.map Prod.fst := by
      have hx : x ∈ m.mouths.reverse.map Prod.fst := hx
      rw [List.map_reverse] at hx
      exact List.mem_reverse.mp hx
    refine ⟨hx2, ?_⟩
    have h1 := h.mouth hx2
    exact mouthOf_mem h.rv (q := (x, mouthOf m x)) (List.mem_reverse.mpr h1)
  · have hx2 : x ∈ m.books.map Prod.fst := by
      have hx : x ∈ m.books.reverse.map Prod.fst := hx
      rw [List.map_reverse] at hx
      exact List.mem_reverse.mp hx
    refine ⟨hx2, ?_⟩
    have h1 := h.book hx2
    exact bookOf_mem h.rv (q := (x, bookOf m x)) (List.mem_reverse.mpr h1)
theorem Pot.stay {H H' : Hp} {p : Addr} {c : Int} (h : Pot H p c) (g : Grow [] H H') : Pot H' p c := by
  obtain ⟨pa, pb, pk, e, r⟩ := h
  exact ⟨pa, pb, pk, g.lst (by simp) e, r⟩
/-- books, some with one word more -/
def appZ (ks : List Str) (q : Addr × (Str × List Str)) : List V := q.2.2.map V.str ++ (if q.2.1 ∈ ks then [V.str "zz"] else [])
theorem rd_sameM {m : Mom} (h : m.Ok) : sameM m.rd m := ⟨by
    show ((sortS (m.mouths.map Prod.fst)).map fun x => (x, mouthOf m x)).length = _
    rw [List.length_map, (sortS_perm _).length_eq, List.length_map], fun x hx => by
    rw [rd_mouths] at hx
    have := (sortS_perm _).mem_iff.mp hx
    exact ⟨this, rd_mouth h this⟩⟩
theorem rd_sameB {m : Mom} (h : m.Ok) : sameBk m.rd m := ⟨by
    show ((sortS (m.books.map Prod.fst)).map fun x => (x, bookOf m x)).length = _
    rw [List.length_map, (sortS_perm _).length_eq, List.length_map], fun x hx => by
    rw [rd_books] at hx
    have := (sortS_perm _).mem_iff.mp hx
    exact ⟨this, rd_book h this⟩⟩
def IsLst (H : Hp) (a : Addr) : Prop := ∃ xs, H a = some (.lst xs) ∧ xs.length ≤ 1000
theorem IsLst.put {H : Hp} {a b : Addr} {xs : List V} (h : IsLst H a) (l : xs.length ≤ 1000) : IsLst (upd H b (.lst xs)) a := by
  by_cases z : a = b
  · exact ⟨xs, by rw [z]; exact upd_same, l⟩
  · obtain ⟨ys, e, l2⟩ := h
    exact ⟨ys, by rw [upd_ne z]; exact e, l2⟩
def spLaw (K : PySem.W.Frag) (T1 T2 T3 T4 T5 T6 : Addr) : Sp := fun vs H Q _ => ∃ (a : Addr) (ns : List Int), vs = [.ref a] ∧ TabG H T1 ∧ TabG H T2 ∧ TabG H T3 ∧ TabG H T4 ∧ TabG H T5 ∧ TabG H T6 ∧ SqL K H a (ns.map V.int) ∧ ∀ (H' : Hp), Grow [] H H' → Q (.bl true) H'
theorem ok_law {f c T1 T2 T3 T4 T5 T6 : Addr} {fd : FuncData} (B : Nb mg) (D : DefIs K "law" "law" st_law f fd (.ref c))
    (c_law_pot : Callee P w K mg base CX0 3 "_law_pot" ["script", "k"] (spPot K)) (c_law_dip : Callee P w K mg base CX0 3 "_law_dip" ["pot", "many"] (spDip K)) (c_law_web : Callee P w K mg base CX0 5 "_law_web" ["pot", "many"] (spWeb K))
    (c_law_moment : Callee P w K mg base CX0 5 "_law_moment" ["pot", "web"] (spMoment K)) (c_law_line : Callee P w K mg base CX0 1 "_law_line" ["words", "between"] (spLine K))
    (c_law_moment_rows : Callee P w K mg base CX0 3 "_law_moment_rows" ["moment"] (spRowsM K)) (c_show_moment : Callee P w K mg base CX0 15 "show_moment" ["moment"] (spShowM K T1 T2 T3 T4 T5 T6))
    (c_read_moment : Callee P w K mg base CX0 15 "read_moment" ["text"] (spReadM K T1 T2 T3 T4 T5 T6)) (c_law_ordered : Callee P w K mg base CX0 1 "_law_ordered" ["moment"] (spOrdM K)) (c_law_otherwise : Callee P w K mg base CX0 5 "_law_otherwise" ["pot", "moment"] (spMate K)) :
    FnG P w K mg base CX0 16 f fd ["script"] (spLaw K T1 T2 T3 T4 T5 T6) := by
  refine D.ok0 (k := 15) sc_law (fun vs H Q E h => ?_) (fun A outer s H vs Q E g hr h => ?_)
  · obtain ⟨a, ns, rfl, _⟩ := h
    rfl
  obtain ⟨a, ns, rfl, t1, t2, t3, t4, t5, t6, ha, q⟩ := h
  refine ⟨_,
      (pss_cons (ps_for PassesOwn.never rfl (pi_range1 rfl B.n_range (pa_cons (pe_callB (call_max2 rfl) rfl B.n_max (by decide +kernel) (pa_cons pe_int (pa_cons (pe_callB (call_min2 rfl) rfl B.n_min (by decide +kernel) (pa_cons pe_int (pa_cons (pe_op op_add (pe_callB call_len_seq rfl B.n_len PySem.boot_len (pa_cons (pv 0) pa_nil)) pe_int) pa_nil))) pa_nil))) pa_nil)) (pg_name (i := 1) sc_law.nd rfl (.inl rfl)) (
        (pss_cons (ps_set (i := 2) sc_law.nd rfl (.inl rfl) (pe_g c_law_pot g (hr.mono (by decide)) pass0 (pa_cons (pv 0) (pa_cons (pv 1) pa_nil))))
        (pss_cons (ps_set (i := 3) sc_law.nd rfl (.inr rfl) (pe_g c_law_moment g (hr.mono (by decide)) pass0 (pa_cons (pv 2) (pa_cons (pe_g c_law_web g (hr.mono (by decide)) pass0 (pa_cons (pv 2) (pa_cons (pe_op op_add pe_int (pe_g c_law_dip g (hr.mono (by decide)) pass0 (pa_cons (pv 2) (pa_cons (pe_ix ix_list (pe_lst (pa_cons pe_int (pa_cons pe_int pa_nil))) (pe_g c_law_dip g (hr.mono (by decide)) pass0 (pa_cons (pv 2) (pa_cons pe_int pa_nil))) (fun _ _ => rfl)) pa_nil)))) pa_nil))) pa_nil))))
        (pss_cons (ps_set (i := 4) sc_law.nd rfl (.inl rfl) (pe_callB (cr_reprT g hr.units) rfl B.n_repr (by decide +kernel) (pa_cons (pv 3) pa_nil)))
        (pss_cons (ps_set (i := 5) sc_law.nd rfl (.inl rfl) (pe_g c_law_line g (hr.mono (by decide)) pass0 (pa_cons (pe_g c_law_moment_rows g (hr.mono (by decide)) pass0 (pa_cons (pv 3) pa_nil)) (pa_cons pe_str pa_nil))))
        (pss_cons (ps_if (PW.pt (pw_or (pt_cmpR (op_ne) (pe_g c_show_moment g (hr.mono (by decide)) pass0 (pa_cons (pv 3) pa_nil)) (pv 5) (nomark _)) (pw_or1 (pt_cmpR (op_ne) (pe_callB (cr_reprT g hr.units) rfl B.n_repr (by decide +kernel) (pa_cons (pv 3) pa_nil)) (pv 4) (nomark _))))) (
          (pss_one (ps_ret pe_bl))) pss_nil)
        (pss_cons (ps_for PassesOwn.never rfl (pi_range1 rfl B.n_range (pa_cons pe_int pa_nil)) (pg_name (i := 6) sc_law.nd rfl (.inl rfl)) (
          (pss_cons (ps_set (i := 7) sc_law.nd rfl (.inr rfl) (pe_g c_read_moment g (hr.mono (by decide)) pass0 (pa_cons (pv 5) pa_nil)))
          (pss_cons (ps_if (PW.pt (pw_or (pt_not (pt_val (pe_callB call_isi rfl B.n_isinstance (by decide +kernel) (pa_cons (pv 7) (pa_cons (pe_bltn (v := .ty "tuple") rfl B.n_tuple (by decide +kernel) rfl) pa_nil))))) (pw_or1 (pt_cmpR (op_neT (room128 hr)) (pv 7) (pe_g c_law_ordered g (hr.mono (by decide)) pass0 (pa_cons (pv 3) pa_nil)) (nomark _))))) (
            (pss_one (ps_ret pe_bl))) pss_nil)
          (pss_cons (ps_for PassesOwn.never rfl (pi_list (pe_callB (cr_sortD rfl hr.units) rfl B.n_sorted (by decide +kernel) (pa_cons (pe_ix ix_tup (pv 7) pe_int (fun _ _ => rfl)) pa_nil))) (pg_name (i := 8) sc_law.nd rfl (.inl rfl)) (
            (pss_one (ps_expr (pe_bm PySem.F.plainAttrs_list PySem.F.slot_list_append PySem.F.type_list_append mt_append (pe_dget (hu_of hr) (pe_ix ix_tup (pv 7) pe_int (fun _ _ => rfl)) (pv 8) (fun _ _ => rfl)) (pa_cons pe_str pa_nil))))))
          (pss_cons (ps_if (pt_cmpR (op_neD hr.units) (pe_lock (pe_lc (own := [("hand", 8)]) (g := (gName 8)) rfl sc_law.nd (pi_keys (pe_ix ix_tup (pv 7) pe_int (fun _ _ => rfl))) (blkOk_by (N := N_law) (sc := defScope st_law) (by decide +kernel)) (fun _ _ _ _ _ => (pg_name (i := 8) sc_law.nd rfl (.inl rfl))) (fun _ _ _ _ _ => pts_to (pts_one (pt_cmpR (op_neD hr.units) (pe_dget (hu_of hr) (pe_ix ix_tup (pv 7) pe_int (fun _ _ => rfl)) (pv 8) (fun _ _ => rfl)) (pe_op op_cat (pe_dget (hu_of hr) (pe_ix ix_tup (pv 3) pe_int (fun _ _ => rfl)) (pv 8) (fun _ _ => rfl)) (pe_lst (pa_cons pe_str pa_nil))) (nomark _)))) (fun _ _ _ _ _ => pe_to (pv 8)))) (pe_lst pa_nil) (nomark _)) (
            (pss_one (ps_ret pe_bl))) pss_nil)
          (pss_cons (ps_expr (pe_bm0 PySem.F.plainAttrs_list PySem.F.slot_list_clear PySem.F.type_list_clear mt_clear (pe_ix ix_tup (pe_ix ix_tup (pv 7) pe_int (fun _ _ => rfl)) pe_int (fun _ _ => rfl))))
          (pss_cons (ps_expr (pe_bm PySem.F.plainAttrs_list PySem.F.slot_list_append PySem.F.type_list_append mt_append (pe_ix ix_tup (pe_ix ix_tup (pv 7) pe_int (fun _ _ => rfl)) pe_int (fun _ _ => rfl)) (pa_cons pe_non pa_nil)))
          (pss_cons (ps_asg pe_str (pg_sub (pe_ix ix_tup (pv 7) pe_int (fun _ _ => rfl)) pe_str (set_dict (hu_of hr))))
          (pss_one (ps_expr (pe_dclear (pe_ix ix_tup (pv 7) pe_int (fun _ _ => rfl))))))))))))))
        (pss_cons (ps_asg (pv 3) (pg_tup rfl (pgs_cons (pg_name (i := 9) sc_law.nd rfl (.inl rfl)) (pgs_cons (pg_name (i := 10) sc_law.nd rfl (.inl rfl)) (pgs_cons (pg_name (i := 11) sc_law.nd rfl (.inl rfl)) pgs_nil)))))
        (pss_cons (ps_set (i := 12) sc_law.nd rfl (.inl rfl) (pe_tup (pa_cons (pv 9) (pa_cons (pe_callTy (call_dictP rfl) rfl B.n_dict (by decide +kernel) (pa_cons (pe_revL (LiI.pe_listItems rfl (pv 10) rfl B.n_list (by decide +kernel))) pa_nil)) (pa_cons (pe_callTy (call_dictP rfl) rfl B.n_dict (by decide +kernel) (pa_cons (pe_revL (LiI.pe_listItems rfl (pv 11) rfl B.n_list (by decide +kernel))) pa_nil)) pa_nil)))))
        (pss_cons (ps_if (pt_cmpR (op_ne) (pe_g c_show_moment g (hr.mono (by decide)) pass0 (pa_cons (pv 12) pa_nil)) (pv 5) (nomark _)) (
          (pss_one (ps_ret pe_bl))) pss_nil)
        (pss_cons (ps_set (i := 13) sc_law.nd rfl (.inl rfl) (pe_g c_law_otherwise g (hr.mono (by decide)) pass0 (pa_cons (pv 2) (pa_cons (pv 3) pa_nil))))
        (pss_one (ps_if (pt_cmpR (op_ne) (pe_cmpR (op_eq) (pe_g c_show_moment g (hr.mono (by decide)) pass0 (pa_cons (pv 13) pa_nil)) (pv 5) (nomark _)) (pe_cmpR (op_eqT (room128 hr)) (pe_g c_law_ordered g (hr.mono (by decide)) pass0 (pa_cons (pv 13) pa_nil)) (pe_g c_law_ordered g (hr.mono (by decide)) pass0 (pa_cons (pv 3) pa_nil)) (nomark _)) (nomark _)) (
          (pss_one (ps_ret pe_bl))) pss_nil))))))))))))))
      (pss_one (ps_ret pe_bl))), ?_⟩
  refine ⟨.ref a, rfl, a, _, rfl, .inl ha, _, _, rfl, rfl, _, _, rfl, _, _, rfl, ?_⟩
  obtain ⟨n, hn, n8⟩ : ∃ n : Int, (if (if ((ns.map V.int).length : Int) + 1 < 8 then ((ns.map V.int).length : Int) + 1 else 8) > 1 then (if ((ns.map V.int).length : Int) + 1 < 8 then ((ns.map V.int).length : Int) + 1 else 8) else 1) = n ∧ 0 ≤ n ∧ n ≤ 8 := ⟨_, rfl, by omega⟩
  rw [hn]
  refine ⟨n, rfl, by omega, by omega, ?_⟩
  refine for_it walk_range (fun i σ H' => ∃ x1 x2 x3 x4 x5 x6 x7 x8 x9 x10 x11 x12 x13 : Option V, σ = [some (.ref a), x1, x2, x3, x4, x5, x6, x7, x8, x9, x10, x11, x12, x13] ∧ Grow [] H H') ⟨none, none, none, none, none, none, none, none, none, none, none, none, none, rfl, Grow.refl _ _⟩ (fun _ _ _ _ _ => trivial) (fun i x σ H2 H3 hi hp hy => ?_) (fun σ H2 hp => ?_)
  · obtain ⟨x1, x2, x3, x4, x5, x6, x7, x8, x9, x10, x11, x12, x13, rfl, gr⟩ := hp
    obtain ⟨rfl, rfl⟩ := hy
    refine ⟨.ref a, rfl, .int (0 + i), rfl, a, ns, i, by show [V.ref a, V.int (0 + (i : Int))] = [V.ref a, V.int (i : Int)]; rw [Int.zero_add], gr.seq0 ha, by omega, fun p H4 fp g4 pot4 => ?_⟩
    have fpH := gr.fresh (by simp) fp
    refine ⟨.ref p, rfl, .ref p, rfl, .ref p, rfl, by show 2 ≤ sizeLine; decide, fun L nL => ?_⟩
    have gL : Grow [] H4 (upd H4 L (.lst [V.int 3, V.int 13])) := grow_new nL
    have potL := pot4.new (o := .lst [V.int 3, V.int 13]) nL
    have eL : upd H4 L (.lst [V.int 3, V.int 13]) L = some (.lst [V.int 3, V.int 13]) := upd_same
    have Lp : L ≠ p := pot4.other (fresh_none nL)
    generalize upd H4 L (HO.lst [V.int 3, V.int 13]) = H4' at gL potL eL ⊢
    refine ⟨.ref p, rfl, p, 2, 0, rfl, by decide, by decide, by decide, potL, fun v1 H5 a0 a1 g5 pot5 => ?_⟩
    obtain ⟨mn, hmn, mn1, mn2⟩ : ∃ mn : Int, atI [V.int 3, V.int 13] v1 = some (.int mn) ∧ 1 ≤ mn ∧ mn ≤ 13 := by
      have : v1 = 0 ∨ v1 = 1 := by omega
      rcases this with rfl | rfl
      · exact ⟨3, rfl, by decide, by decide⟩
      · exact ⟨13, rfl, by decide, by decide⟩
    refine ⟨L, _, v1, _, rfl, rfl, .inl (.inl (g5.lst (by simpa using Lp) eL)), hmn, ?_⟩
    refine ⟨p, mn, _, rfl, mn1, by omega, by omega, pot5, fun v2 H6 b0 b1 g6 pot6 => ⟨_, _, rfl, rfl, ?_⟩⟩
    obtain ⟨mm, hmm, mm1, mm2⟩ : ∃ mm : Nat, (1 : Int) + v2 = mm ∧ 1 ≤ mm ∧ mm ≤ 13 := ⟨(1 + v2).toNat, by omega, by omega, by omega⟩
    refine ⟨p, mm, _, by show [V.ref p, V.int (1 + v2)] = _; rw [hmm], mm1, by omega, pot6, by omega, fun W0 H7 hands roads fW g7 hW0 wo lh pot7 => ?_⟩
    refine ⟨p, W0, _, hands, roads, rfl, pot7, by omega, hW0, wo, fun S1 H8 m fS1 g8 hS ok lmh pot8 => ?_⟩
    have gp8 : Grow [p] H H8 := ((gr.trans (g4.trans gL)).any (ex := [p])).trans (((g5.trans g6).trans g7).trans g8)
    have gr8 : Grow [] H H8 := gp8.drop fpH
    have tt : ∀ {Hx : Hp}, Grow [] H8 Hx → TabG Hx T1 ∧ TabG Hx T2 ∧ TabG Hx T3 ∧ TabG Hx T4 ∧ TabG Hx T5 ∧ TabG Hx T6 := fun gx => ⟨(gr8.trans gx).tabs _ t1, (gr8.trans gx).tabs _ t2, (gr8.trans gx).tabs _ t3, (gr8.trans gx).tabs _ t4, (gr8.trans gx).tabs _ t5, (gr8.trans gx).tabs _ t6⟩
    obtain ⟨W, M, Bo, bs, eS, hW, eM, eB, ls, eb⟩ := id hS
    obtain ⟨sh, dp, ln⟩ := mom_show ok
    have dis : ∀ {Hx : Hp}, Grow [] H8 Hx → Dis K Hx [.ref W, .ref M, .ref Bo] m.Ds := fun gx => .cons (.p (hW.grow gx).dp (fine_web ok.web).nod) (.cons (.k (Grow.dK gx eM) (kvd_M _)) (.cons (.k (Grow.dK gx eB) (by rw [← eb]; exact kvd_B (ls.grow0 gx))) .nil))
    have sq : ∀ {Hx : Hp}, Grow [] H8 Hx → SqT K Hx S1 [.ref W, .ref M, .ref Bo] := fun gx => .inl (.inl (gx.tup (by simp) eS))
    obtain ⟨kept, hkept⟩ : ∃ kept, (PyData.tuple m.Ds).shown = kept := ⟨_, rfl⟩
    refine ⟨.ref S1, rfl, S1, _, m.Ds, rfl, sq (Grow.refl _ _), dis (Grow.refl _ _), sh, dp, ln, ?_⟩
    rw [hkept]
    refine ⟨.ref S1, rfl, S1, m, rfl, hS, ok, fun R H9 fR g9 eR => ?_⟩
    have rl := momRows_len ok
    have ml := ok.mlen
    refine ⟨R, momRows m, nlS, rfl, .inl (.inl (.inl eR)), by omega, fun x hx => momRow_short ok hx, by decide, fun H10 g10 => ?_⟩
    rw [show Str.join nlS (momRows m) = momText m from rfl]
    have g810 := g9.trans g10
    obtain ⟨u1, u2, u3, u4, u5, u6⟩ := tt g810
    refine ⟨.ref S1, rfl, S1, m, rfl, u1, u2, u3, u4, u5, u6, hS.grow g810, ok, fun H11 g11 => ⟨.str (momText m), rfl, rfl, _, rfl, ?_⟩⟩
    rw [decide_eq_true rfl]
    have g811 := g810.trans g11
    refine iteF ⟨.ref S1, rfl, S1, _, m.Ds, rfl, sq g811, dis g811, sh, dp, ln, .str kept, rfl, ?_⟩
    rw [hkept]
    refine ⟨rfl, _, rfl, ?_⟩
    rw [decide_eq_true rfl]
    refine iteF ⟨2, rfl, by decide, by decide, ?_⟩
    refine for_it walk_range (fun j σ H' => ∃ y6 y7 y8 : Option V, σ = [some (.ref a), some (.int (0 + i)), some (.ref p), some (.ref S1), some (.str kept), some (.str (momText m)), y6, y7, y8, x9, x10, x11, x12, x13] ∧ Grow [] H8 H') ⟨_, _, _, rfl, g811⟩ (fun _ _ _ _ _ => trivial) (fun j x σ H12 H13 hj hp hy => ?_) (fun σ H12 hp => ?_)
    · obtain ⟨y6, y7, y8, rfl, g12⟩ := hp
      obtain ⟨rfl, rfl⟩ := hy
      obtain ⟨u1, u2, u3, u4, u5, u6⟩ := tt g12
      refine ⟨.str (momText m), rfl, m, rfl, u1, u2, u3, u4, u5, u6, ok, fun T H14 fT g14 nT => ?_⟩
      obtain ⟨W', M', B', cs, fM', fB', fcs, ncs, eT, nW, eM', eB', lcs, ecs⟩ := id nT
      have g814 := g12.trans g14
      refine ⟨.ref T, rfl, .ref T, .ty "tuple", .type "tuple", .type "tuple", true, rfl, .ty _, .base (.tup eT), rfl, true, rfl, iteF ?_⟩
      refine ⟨.ref T, rfl, .ref S1, rfl, S1, W, M, Bo, m.hands, m.roads, rfl, g814.tup (by simp) eS, hW.grow g814, ok.web, fun T2 W2 H15 fT2 g15 eT2 hW2 => ?_⟩
      have g815 := g814.trans g15
      have fw := fine_web ok.rd.web
      have neM : M' ≠ M := (fM'.ne (Grow.dK g12 eM) (fun ps z => by cases z)).symm
      have neB : B' ≠ Bo := (fB'.ne (Grow.dK g12 eB) (fun ps z => by cases z)).symm
      have eT15 := g15.tup (by simp) eT
      have eM15 := Grow.dK g15 eM'
      have eB15 := Grow.dK g15 eB'
      have lc15 := lcs.grow0 g15
      refine ⟨T, T2, _, _, _, rfl, rfl, .inl (.inl eT15), .inl (.inl eT2), .cons (.p (nW.at_.grow g15).dp hW2.dp (fw.shaped (by decide)) (fw.shaped (by decide))) (.cons (.k neM eM15 (Grow.dK g815 eM) (hitsM ok.rd ok)) (.cons (.k neB eB15 (Grow.dK g815 eB) (hitsB ok.rd ok lc15 (ls.grow0 g815) ecs eb)) .nil)), _, rfl, ?_⟩
      rw [show [PyData.eqv (webD m.rd.hands m.rd.roads) (webD (sortS m.hands) (sortP m.roads)), dicE (kvM m.rd.mouths) (kvM m.mouths) (Lw.eM m.rd m), dicE (kvB cs) (kvB bs) (Lw.eB m.rd m)].all id = true from by
        have h1 : PyData.eqv (webD m.rd.hands m.rd.roads) (webD (sortS m.hands) (sortP m.roads)) = true := fw.eqv
        rw [h1, dicM_iff.mpr (rd_sameM ok), (dicB_iff ecs eb).mpr (rd_sameB ok)]
        rfl]
      refine iteF ?_
      -- each book that was read: one word more
      have lcs200 : cs.length ≤ 200 := by
        have h1 := congrArg List.length ecs
        have h2 := ok.rd.blen
        have h3 := ok.rd.web.len
        rw [List.length_map] at h1
        omega
      have ncn : (cs.map fun q => q.2.1).Nodup := by
        have h1 := ok.rd.bnd
        rw [← ecs, List.map_map] at h1
        exact h1
      have cbk : ∀ q ∈ cs, Bk q.2.2 := fun q hq => (ok.rd.bok q.2 (by rw [← ecs]; exact List.mem_map.mpr ⟨q, hq, rfl⟩)).1
      obtain ⟨hs', rs', fhs, frs, eW', ehs, ⟨rxs, ers, trs⟩⟩ := id nW
      have eW15 := g15.tup (by simp) eW'
      have lh15 : IsLst H15 hs' := ⟨_, g15.lst (by simp) ehs, by rw [List.length_map]; exact Nat.le_trans ok.rd.web.len (by decide)⟩
      have lr15 : IsLst H15 rs' := ⟨_, g15.lst (by simp) ers, by rw [trs.length]; have := ok.rd.web.many; have := ok.rd.web.len; omega⟩
      refine ⟨.ref T, rfl, T, _, 2, .ref B', rfl, rfl, .inl (.inl eT15), rfl, B', kvB cs, cs.map (fun q => q.2.1), rfl, .inl eB15, by unfold kvB; rw [List.map_map, List.map_map]; rfl, by rw [List.length_map]; unfold sizeLine; omega, fun S nS => ?_⟩
      rw [show (cs.map fun q => q.2.1).mergeSort (PySem.W.dataLe false PyData.str) = sortS (cs.map fun q => q.2.1) from rfl]
      obtain ⟨ss, hss⟩ : ∃ ss, sortS (cs.map fun q => q.2.1) = ss := ⟨_, rfl⟩
      rw [hss]
      have smem : ∀ x, x ∈ ss ↔ x ∈ cs.map fun q => q.2.1 := fun x => by rw [← hss]; exact (sortS_perm _).mem_iff
      have snd : ss.Nodup := by rw [← hss]; exact (sortS_perm _).nodup_iff.mpr ncn
      have gS0 : Grow [] H15 (upd H15 S (.lst (ss.map V.str))) := grow_new nS
      have eSs : upd H15 S (.lst (ss.map V.str)) S = some (.lst (ss.map V.str)) := upd_same
      have Sne : ∀ q ∈ cs, q.1 ≠ S := fun q hq => ne_of_none (lc15 q hq) nS
      have g1316 := (g14.trans g15).trans gS0
      have lh16 : IsLst (upd H15 S (.lst (ss.map V.str))) hs' := by obtain ⟨xs, e, l⟩ := lh15; exact ⟨xs, gS0.lst (by simp) e, l⟩
      have lr16 : IsLst (upd H15 S (.lst (ss.map V.str))) rs' := by obtain ⟨xs, e, l⟩ := lr15; exact ⟨xs, gS0.lst (by simp) e, l⟩
      have eT16 := gS0.tup (by simp) eT15
      have eM16 := Grow.dK gS0 eM15
      have eB16 := Grow.dK gS0 eB15
      have eW16 := gS0.tup (by simp) eW15
      have lc16 := lc15.grow0 gS0
      generalize upd H15 S (HO.lst (ss.map V.str)) = H16 at gS0 eSs g1316 lh16 lr16 eT16 eM16 eB16 eW16 lc16 ⊢
      refine ⟨S, rfl, ⟨_, .inl (.inl eSs)⟩, ?_⟩
      refine for_it (walk_list (xs := ss.map V.str)) (fun k σ H' => ∃ y8 : Option V, σ = [some (.ref a), some (.int (0 + i)), some (.ref p), some (.ref S1), some (.str kept), some (.str (momText m)), some (.int (0 + j)), some (.ref T), y8, x9, x10, x11, x12, x13] ∧ Grow [] H13 H' ∧ H' S = some (.lst (ss.map V.str)) ∧
          H' T = some (.tup [.ref W', .ref M', .ref B']) ∧ H' B' = some (.dK (kvB cs)) ∧ H' M' = some (.dK (kvM m.rd.mouths)) ∧ H' W' = some (.tup [.ref hs', .ref rs']) ∧ IsLst H' hs' ∧ IsLst H' rs' ∧ ∀ q ∈ cs, H' q.1 = some (.lst (appZ (ss.take k) q)))
        ⟨_, rfl, g1316, eSs, eT16, eB16, eM16, eW16, lh16, lr16, fun q hq => by unfold appZ; rw [List.take_zero, if_neg (fun z => by cases z), List.append_nil]; exact lc16 q hq⟩
        (fun k σ H' _ h => by obtain ⟨_, _, _, e, _⟩ := h; exact .inl (.inl e)) (fun k x σ H17 H18 hk hp hy => ?_) (fun σ H17 hp => ?_)
      · obtain ⟨y8, rfl, g17, eS17, eT17, eB17, eM17, eW17, lh17, lr17, lc17⟩ := hp
        obtain ⟨rfl, ex⟩ := hy
        rw [List.getElem?_map] at ex
        cases eh : ss[k]? with
        | none => rw [eh] at ex; cases ex
        | some h =>
          rw [eh] at ex
          cases ex
          obtain ⟨b, mb, ebn⟩ := List.mem_map.mp ((smem h).mp (List.mem_of_getElem? eh))
          subst ebn
          have dg : DGet H18 B' (.str b.2.1) (some (.ref b.1)) := by
            rw [← valB ncn mb]
            exact DGet.k (k := .inr b.2.1) eB17
          have lb := lc17 b mb
          have bl := (cbk b mb).len
          have zl : ∀ {ks : List Str}, (appZ ks b).length ≤ 201 := fun {ks} => by
            unfold appZ
            rw [List.length_append, List.length_map]
            split
            · show _ + 1 ≤ _; omega
            · show _ + 0 ≤ _; omega
          refine ⟨.ref T, rfl, T, _, 2, .ref B', rfl, rfl, .inl (.inl eT17), rfl, .str b.2.1, rfl, B', .ref b.1, rfl, dg, tyl lb, b.1, _, .str "zz", rfl, rfl, lb, by have := zl (ks := ss.take k); unfold sizeLine; omega, ?_⟩
          have hnew : b.2.1 ∉ ss.take k := fun z => by
            obtain ⟨i2, hi2⟩ := List.mem_iff_getElem?.mp z
            rw [List.getElem?_take] at hi2
            by_cases hij : i2 < k
            · rw [if_pos hij] at hi2
              have := (List.getElem?_inj (List.getElem?_eq_some_iff.mp hi2).1 snd).mp (hi2.trans eh.symm)
              omega
            · rw [if_neg hij] at hi2
              cases hi2
          have tk : ss.take (k + 1) = ss.take k ++ [b.2.1] := by rw [List.take_add_one, eh]; rfl
          have e9 : appZ (ss.take k) b ++ [V.str "zz"] = appZ (ss.take (k + 1)) b := by
            unfold appZ
            rw [if_neg hnew, List.append_nil, tk, if_pos (List.mem_append_right _ List.mem_cons_self)]
          rw [e9]
          have off : ∀ {x : Addr} {o : HO}, H18 x = some o → (∀ xs, o ≠ .lst xs) → x ≠ b.1 := fun e n z => by
            rw [z, lb] at e
            exact n _ (Option.some.inj e).symm
          refine ⟨_, rfl, g17.put (fcs b mb) lb (fun ps z => by cases z), by rw [upd_ne (Sne b mb).symm]; exact eS17, by rw [upd_ne (off eT17 fun xs z => by cases z)]; exact eT17, by rw [upd_ne (off eB17 fun xs z => by cases z)]; exact eB17, by rw [upd_ne (off eM17 fun xs z => by cases z)]; exact eM17, by rw [upd_ne (off eW17 fun xs z => by cases z)]; exact eW17,
            lh17.put (Nat.le_trans zl (by decide)), lr17.put (Nat.le_trans zl (by decide)), fun q hq => ?_⟩
          by_cases e : q.1 = b.1
          · have e2 := same_of ncs hq mb e
            subst e2
            exact upd_same
          · rw [upd_ne e, lc17 q hq]
            have n2 : q.2.1 ≠ b.2.1 := fun z => e (by rw [same_of ncn hq mb z])
            unfold appZ
            rw [tk]
            by_cases c : q.2.1 ∈ ss.take k
            · rw [if_pos c, if_pos (List.mem_append_left _ c)]
            · rw [if_neg c, if_neg (fun z => (List.mem_append.mp z).elim c fun z => n2 (List.mem_singleton.mp z))]
      · obtain ⟨y8, rfl, g17, _, eT17, eB17, eM17, eW17, lh17, lr17, lc17⟩ := hp
        rw [List.length_map, List.take_length] at lc17
        have la17 : ∀ q ∈ cs, H17 q.1 = some (.lst ((q.2.2 ++ [("zz" : Str)]).map V.str)) := fun q hq => by
          rw [lc17 q hq]
          unfold appZ
          rw [if_pos ((smem _).mpr (List.mem_map.mpr ⟨q, hq, rfl⟩)), List.map_append]
          rfl
        have g817 := g12.trans g17
        have ntB : ∀ ps, HO.dK (kvB cs) ≠ .tbl ps := fun ps z => by cases z
        have TB : T ≠ B' := fun z => by rw [z, eB17] at eT17; cases eT17
        have eS17' := g817.tup (by simp) eS
        have SB : S1 ≠ B' := fun z => by rw [z, eB17] at eS17'; cases eS17'
        have csne : cs ≠ [] := fun z => by
          have h1 := ok.rd.blen
          rw [← ecs, z] at h1
          exact ok.rd.web.ne (List.eq_nil_of_length_eq_zero h1.symm)
        have MB : B' ≠ M' := books_ne eB' eM' csne
        refine ⟨B', .dK (kvB cs), eB17, trivial, fun od => ⟨.ref T, rfl, T, _, 2, .ref B', rfl, rfl, .inl (.inl (by rw [upd_ne TB]; exact eT17)), rfl, B', od, rfl, .inl ⟨kvB cs, upd_same, fun D1 n1 => ?_⟩⟩⟩
        have D1B : D1 ≠ B' := fun z => by rw [z, upd_same] at n1; cases n1
        refine lc_it (walk_keys (kvs := kvB cs)) (fun k H' => Grow [] (upd H17 B' (.frz od (.dK (kvB cs)))) H' ∧ H' D1 = some (.lst []))
          ⟨grow_new n1, upd_same⟩ (fun k H' _ h => h.1.keep B' _ (by simp) upd_same fun ps z => by cases z) (fun k x H18 H19 hk hp hy => ?_) (fun H18 hp => ?_)
        · obtain ⟨g18, eD⟩ := hp
          obtain ⟨rfl, kk, v, ek, rfl⟩ := hy
          unfold kvB at ek
          rw [List.getElem?_map] at ek
          cases em : cs[k]? with
          | none => rw [em] at ek; cases ek
          | some q0 =>
            rw [em] at ek
            cases ek
            have mq := List.mem_of_getElem? em
            have eF : H19 B' = some (.frz od (.dK (kvB cs))) := g18.keep B' _ (by simp) upd_same fun ps z => by cases z
            have dg : DGet H19 B' (.str q0.2.1) (some (.ref q0.1)) := by
              rw [← valB ncn mq]
              exact .inl ⟨kvB cs, .inr q0.2.1, .inr ⟨od, eF⟩, rfl, rfl⟩
            have eT19 := g18.tup (by simp) (show upd H17 B' (.frz od (.dK (kvB cs))) T = _ from (upd_ne TB).trans eT17)
            have eS19 := g18.tup (by simp) (show upd H17 B' (.frz od (.dK (kvB cs))) S1 = _ from (upd_ne SB).trans eS17')
            have eBo19 := Grow.dK g18 (show upd H17 B' (.frz od (.dK (kvB cs))) Bo = _ from (upd_ne neB.symm).trans (Grow.dK g817 eB))
            have qin : q0.2 ∈ m.rd.books := by rw [← ecs]; exact List.mem_map.mpr ⟨q0, mq, rfl⟩
            obtain ⟨x0, hx0, ex0⟩ := List.mem_map.mp qin
            have hx0 := (sortS_perm _).mem_iff.mp hx0
            obtain ⟨b, mb, ebb⟩ : ∃ b ∈ bs, b.2 = q0.2 := by
              have h1 := ok.book hx0
              rw [ex0, ← eb] at h1
              obtain ⟨b, hb, e⟩ := List.mem_map.mp h1
              exact ⟨b, hb, e⟩
            have nnb : (bs.map fun q => q.2.1).Nodup := by
              have h1 := ok.bnd
              rw [← eb, List.map_map] at h1
              exact h1
            have dg2 : DGet H19 Bo (.str q0.2.1) (some (.ref b.1)) := by
              have h1 := valB nnb mb
              rw [ebb] at h1
              rw [← h1]
              exact DGet.k (k := .inr q0.2.1) eBo19
            have lq : H19 q0.1 = some (.lst ((q0.2.2 ++ [("zz" : Str)]).map V.str)) := g18.lst (by simp) ((upd_ne (fun z => by have := la17 q0 mq; rw [z, eB17] at this; cases this)).trans (la17 q0 mq))
            have lb0 : H17 b.1 = some (.lst (b.2.2.map V.str)) := (ls.grow0 g817) b mb
            have lb : H19 b.1 = some (.lst (b.2.2.map V.str)) := g18.lst (by simp) ((upd_ne (fun z => by rw [z, eB17] at lb0; cases lb0)).trans lb0)
            have bl := (cbk q0 mq).len
            have fz : Fine (.list ((q0.2.2 ++ [("zz" : Str)]).map PyData.str)) 1 2000 := Fine.list (n := 0) (m := 8) (fun d hd => by
              obtain ⟨z, hz, rfl⟩ := List.mem_map.mp hd
              rcases List.mem_append.mp hz with hz | hz
              · exact (cbk q0 mq).fine hz
              · rw [List.mem_singleton.mp hz]
                exact fine_name (by decide +kernel)) (by rw [List.length_map, List.length_append]; show (_ + 1) * 9 ≤ _; omega)
            refine ⟨rfl, .ref T, rfl, T, _, 2, .ref B', rfl, rfl, .inl (.inl eT19), rfl, .str q0.2.1, rfl, B', .ref q0.1, rfl, dg, .ref S1, rfl, S1, _, 2, .ref Bo, rfl, rfl, .inl (.inl eS19), rfl, .str q0.2.1, rfl, Bo, .ref b.1, rfl, dg2, by show 1 ≤ sizeLine; decide, fun Z nZ => ?_⟩
            have gZ : Grow [] H19 (upd H19 Z (.lst [.str "zz"])) := grow_new nZ
            have eZ : upd H19 Z (.lst [.str "zz"]) Z = some (.lst [.str "zz"]) := upd_same
            have lqZ := gZ.lst (by simp) lq
            have lbZ := gZ.lst (by simp) lb
            have eDZ := gZ.lst (by simp) eD
            have g20 := g18.trans gZ
            generalize upd H19 Z (HO.lst [V.str "zz"]) = H20 at gZ eZ lqZ lbZ eDZ g20 ⊢
            refine ⟨b.1, Z, _, _, rfl, rfl, lbZ, eZ, by rw [List.length_map, ebb]; show _ + 1 ≤ sizeLine; unfold sizeLine; omega, fun Y nY => ?_⟩
            have gY : Grow [] H20 (upd H20 Y (.lst (b.2.2.map V.str ++ [.str "zz"]))) := grow_new nY
            have eY : upd H20 Y (.lst (b.2.2.map V.str ++ [.str "zz"])) Y = some (.lst ((q0.2.2 ++ [("zz" : Str)]).map V.str)) := by rw [upd_same, ebb, List.map_append]; rfl
            have lqY := gY.lst (by simp) lqZ
            have eDY := gY.lst (by simp) eDZ
            have g21 := g20.trans gY
            generalize upd H20 Y (HO.lst (b.2.2.map V.str ++ [V.str "zz"])) = H21 at gY eY lqY eDY g21 ⊢
            refine ⟨_, _, dp_book (.inl (.inl lqY)), dp_book (.inl (.inl eY)), fz.shaped (by decide), fz.shaped (by decide), _, rfl, ?_⟩
            rw [fz.eqv]
            exact iteF ⟨g21, eDY⟩
        · obtain ⟨g18, eD⟩ := hp
          have eF : H18 B' = some (.frz od (.dK (kvB cs))) := g18.keep B' _ (by simp) upd_same fun ps z => by cases z
          have gU := grow_unlock eB17 ntB g18 eF
          refine ⟨eF, by show 0 ≤ sizeLine; decide, fun Z nZ => ?_⟩
          have eDu : upd H18 B' (.dK (kvB cs)) D1 = some (.lst []) := by rw [upd_ne D1B]; exact eD
          generalize upd H18 B' (HO.dK (kvB cs)) = H19 at gU eDu nZ ⊢
          have gZ := gU.new (o := .lst []) nZ
          have eZ : upd H19 Z (.lst []) Z = some (.lst []) := upd_same
          have eDZ : upd H19 Z (.lst []) D1 = some (.lst []) := by rw [upd_ne (ne_of_none eDu nZ)]; exact eDu
          generalize upd H19 Z (HO.lst []) = H20 at gZ eZ eDZ ⊢
          refine ⟨_, _, dp_book (xs := []) (.inl (.inl eDZ)), dp_book (xs := []) (.inl (.inl eZ)), by decide, by decide, _, rfl, ?_⟩
          rw [show PyData.eqv (.list (([] : List Str).map PyData.str)) (.list (([] : List Str).map PyData.str)) = true from by simp [PyData.eqv, PyData.eqvAll]]
          have g1 := g17.trans gZ
          have eT1 := gZ.tup (by simp) eT17
          have eB1 := Grow.dK gZ eB17
          have eM1 := Grow.dK gZ eM17
          have eW1 := gZ.tup (by simp) eW17
          have lh1 : IsLst H20 hs' := by obtain ⟨xs, e, l⟩ := lh17; exact ⟨xs, gZ.lst (by simp) e, l⟩
          have lr1 : IsLst H20 rs' := by obtain ⟨xs, e, l⟩ := lr17; exact ⟨xs, gZ.lst (by simp) e, l⟩
          obtain ⟨hx, ehx, _⟩ := id lh1
          have off : ∀ {Hx : Hp} {x y : Addr} {xs : List V} {o : HO}, Hx y = some (.lst xs) → Hx x = some o → (∀ xs, o ≠ .lst xs) → x ≠ y := fun e1 e2 n z => by
            rw [z, e1] at e2
            exact n _ (Option.some.inj e2).symm
          refine iteF ⟨.ref T, rfl, T, _, 0, .ref W', rfl, rfl, .inl (.inl eT1), rfl, W', _, 0, .ref hs', rfl, rfl, .inl (.inl eW1), rfl, tyl ehx, hs', hx, rfl, rfl, ehx, ?_⟩
          have g2 : Grow [] H13 (upd H20 hs' (.lst [])) := g1.put fhs ehx (fun ps z => by cases z)
          have eT2 : upd H20 hs' (.lst []) T = _ := (upd_ne (off ehx eT1 fun xs z => by cases z)).trans eT1
          have eB2 : upd H20 hs' (.lst []) B' = _ := (upd_ne (off ehx eB1 fun xs z => by cases z)).trans eB1
          have eM2 : upd H20 hs' (.lst []) M' = _ := (upd_ne (off ehx eM1 fun xs z => by cases z)).trans eM1
          have eW2 : upd H20 hs' (.lst []) W' = _ := (upd_ne (off ehx eW1 fun xs z => by cases z)).trans eW1
          have lr2 : IsLst (upd H20 hs' (.lst [])) rs' := lr1.put (by decide)
          generalize upd H20 hs' (HO.lst []) = H21 at g2 eT2 eB2 eM2 eW2 lr2 ⊢
          obtain ⟨rx, erx, lrx⟩ := lr2
          refine ⟨.ref T, rfl, T, _, 0, .ref W', rfl, rfl, .inl (.inl eT2), rfl, W', _, 1, .ref rs', rfl, rfl, .inl (.inl eW2), rfl, tyl erx, rs', rx, .non, rfl, rfl, erx, by unfold sizeLine; omega, ?_⟩
          have g3 : Grow [] H13 (upd H21 rs' (.lst (rx ++ [.non]))) := g2.put frs erx (fun ps z => by cases z)
          have eT3 : upd H21 rs' (.lst (rx ++ [.non])) T = _ := (upd_ne (off erx eT2 fun xs z => by cases z)).trans eT2
          have eB3 : upd H21 rs' (.lst (rx ++ [.non])) B' = _ := (upd_ne (off erx eB2 fun xs z => by cases z)).trans eB2
          have eM3 : upd H21 rs' (.lst (rx ++ [.non])) M' = _ := (upd_ne (off erx eM2 fun xs z => by cases z)).trans eM2
          generalize upd H21 rs' (HO.lst (rx ++ [V.non])) = H22 at g3 eT3 eB3 eM3 ⊢
          have lm' := ok.rd.mlen
          refine ⟨.ref T, rfl, T, _, 1, .ref M', rfl, rfl, .inl (.inl eT3), rfl, M', _, rfl, .inl ⟨kvM m.rd.mouths, .inr "zz", eM3, rfl, by unfold kvM; rw [List.length_map]; unfold sizeLine; omega, rfl⟩, ?_⟩
          have TM : T ≠ M' := fun z => by rw [z, eM3] at eT3; cases eT3
          obtain ⟨kz, hkz⟩ : ∃ kz, putK (kvM m.rd.mouths) (.inr "zz") (V.str "zz") = kz := ⟨_, rfl⟩
          rw [hkz]
          have g4 : Grow [] H13 (upd H22 M' (.dK kz)) := g3.put fM' eM3 (fun ps z => by cases z)
          have eT4 : upd H22 M' (.dK kz) T = _ := (upd_ne TM).trans eT3
          have eB4 : upd H22 M' (.dK kz) B' = _ := (upd_ne MB).trans eB3
          generalize upd H22 M' (HO.dK kz) = H23 at g4 eT4 eB4 ⊢
          refine ⟨.ref T, rfl, T, _, 2, .ref B', rfl, rfl, .inl (.inl eT4), rfl, .inr (.inr (.inl ⟨rfl, .inl ⟨_, eB4⟩⟩)), B', kvB cs, rfl, rfl, eB4, ?_⟩
          exact ⟨_, _, _, rfl, g12.trans (g4.put fB' eB4 (fun ps z => by cases z))⟩
    · obtain ⟨y6, y7, y8, rfl, g12⟩ := hp
      refine ⟨.ref S1, rfl, S1, _, rfl, sq g12, rfl, _, _, rfl, _, _, rfl, _, _, rfl, rfl, ?_⟩
      refine ⟨.ref W, rfl, .ref M, rfl, M, kvM m.mouths, rfl, Grow.dK g12 eM, fun H13 L1 ts k13 nL1 nts out eL1 pts => ?_⟩
      have gk : Grow [] H12 H13 := ⟨fun b o _ e _ => k13 b o e, fun b ⟨ps, e, t⟩ => ⟨ps, k13 _ _ e, t⟩⟩
      have g13 := g12.trans gk
      refine ⟨L1, _, rfl, .inl (.inl eL1), fun R1 nR1 => ?_⟩
      rw [← List.map_reverse]
      have gR0 : Grow [] H13 (upd H13 R1 (.lst (ts.reverse.map V.ref))) := grow_new nR1
      have eR1 : upd H13 R1 (.lst (ts.reverse.map V.ref)) R1 = some (.lst (ts.reverse.map V.ref)) := upd_same
      have pts1 : Paired (fun (t : Addr) (q : Key × V) => upd H13 R1 (.lst (ts.reverse.map V.ref)) t = some (.tup [kV q.1, q.2])) ts (kvM m.mouths) := paired_map (fun t q e => gR0.tup (by simp) e) pts
      have g14 := g13.trans gR0
      generalize upd H13 R1 (HO.lst (ts.reverse.map V.ref)) = H14 at gR0 eR1 pts1 g14 ⊢
      refine ⟨R1, ts.reverse, (kvM m.mouths).reverse, rfl, .inl (.inl eR1), paired_rev (paired_map (fun t q e => .inl (.inl e)) pts1), fun M3 nM3 => ?_⟩
      have kr : (kvM m.mouths).reverse = kvM m.mouths.reverse := by unfold kvM; rw [List.map_reverse]
      rw [kr, merge_nd (kvs := kvM m.mouths.reverse) (kvM_nd ok.rv.mnd)]
      have gM0 : Grow [] H14 (upd H14 M3 (.dK (kvM m.mouths.reverse))) := grow_new nM3
      have eM3 : upd H14 M3 (.dK (kvM m.mouths.reverse)) M3 = some (.dK (kvM m.mouths.reverse)) := upd_same
      have g15 := g14.trans gM0
      generalize upd H14 M3 (HO.dK (kvM m.mouths.reverse)) = H15 at gM0 eM3 g15 ⊢
      refine ⟨.ref Bo, rfl, Bo, kvB bs, rfl, Grow.dK g15 eB, fun H16 L2 ts2 k16 nL2 nts2 out2 eL2 pts2 => ?_⟩
      have gk2 : Grow [] H15 H16 := ⟨fun b o _ e _ => k16 b o e, fun b ⟨ps, e, t⟩ => ⟨ps, k16 _ _ e, t⟩⟩
      have g16 := g15.trans gk2
      have eM16 := Grow.dK gk2 eM3
      refine ⟨L2, _, rfl, .inl (.inl eL2), fun R2 nR2 => ?_⟩
      rw [← List.map_reverse]
      have gR2 : Grow [] H16 (upd H16 R2 (.lst (ts2.reverse.map V.ref))) := grow_new nR2
      have eR2 : upd H16 R2 (.lst (ts2.reverse.map V.ref)) R2 = some (.lst (ts2.reverse.map V.ref)) := upd_same
      have pts3 : Paired (fun (t : Addr) (q : Key × V) => upd H16 R2 (.lst (ts2.reverse.map V.ref)) t = some (.tup [kV q.1, q.2])) ts2 (kvB bs) := paired_map (fun t q e => gR2.tup (by simp) e) pts2
      have g17 := g16.trans gR2
      have eM17 := Grow.dK gR2 eM16
      generalize upd H16 R2 (HO.lst (ts2.reverse.map V.ref)) = H17 at gR2 eR2 pts3 g17 eM17 ⊢
      refine ⟨R2, ts2.reverse, (kvB bs).reverse, rfl, .inl (.inl eR2), paired_rev (paired_map (fun t q e => .inl (.inl e)) pts3), fun B3 nB3 => ?_⟩
      have krB : (kvB bs).reverse = kvB bs.reverse := by unfold kvB; rw [List.map_reverse]
      have nnr : (bs.reverse.map fun q => q.2.1).Nodup := by
        have h1 := ok.rv.bnd
        have h1 : (m.books.reverse.map Prod.fst).Nodup := h1
        rw [← eb, ← List.map_reverse, List.map_map] at h1
        exact h1
      rw [krB, merge_nd (kvB_nd nnr)]
      have gB0 : Grow [] H17 (upd H17 B3 (.dK (kvB bs.reverse))) := grow_new nB3
      have eB3 : upd H17 B3 (.dK (kvB bs.reverse)) B3 = some (.dK (kvB bs.reverse)) := upd_same
      have g18 := g17.trans gB0
      have eM18 := Grow.dK gB0 eM17
      generalize upd H17 B3 (HO.dK (kvB bs.reverse)) = H18 at gB0 eB3 g18 eM18 ⊢
      refine ⟨by show 3 ≤ sizeLine; decide, fun T7 nT7 => ?_⟩
      have gT0 : Grow [] H18 (upd H18 T7 (.tup [.ref W, .ref M3, .ref B3])) := grow_new nT7
      have g19 := g18.trans gT0
      have hT7 : MomAt (upd H18 T7 (.tup [.ref W, .ref M3, .ref B3])) T7 m.rv := ⟨W, M3, B3, bs.reverse, upd_same, hW.grow g19, Grow.dK gT0 eM18, Grow.dK gT0 eB3, fun q hq => (ls.grow0 g19) q (List.mem_reverse.mp hq), by rw [List.map_reverse, eb]; rfl⟩
      generalize upd H18 T7 (HO.tup [V.ref W, V.ref M3, V.ref B3]) = H19 at gT0 g19 hT7 ⊢
      obtain ⟨w1, w2, w3, w4, w5, w6⟩ := tt g19
      refine ⟨.ref T7, rfl, T7, m.rv, rfl, w1, w2, w3, w4, w5, w6, hT7, ok.rv, fun H20 g20 => ⟨.str (momText m), rfl, rfl, _, rfl, ?_⟩⟩
      rw [rv_text ok, decide_eq_true rfl]
      have g820 := g19.trans g20
      have pot20 := pot8.stay g820
      refine iteF ⟨.ref p, rfl, .ref S1, rfl, p, S1, W, M, Bo, bs, _, m, rfl, pot20, by omega, g820.tup (by simp) eS, hW.grow g820, Grow.dK g820 eM, Grow.dK g820 eB, ls.grow0 g820, eb, ok, fun T8 H21 m2 fT8 g21 mate ok2 hh hr => ?_⟩
      obtain ⟨M4, B4, cs, fM4, fB4, eT8, eM4, eB4, lc4, ec4⟩ := mate
      have gp21 : Grow [p] H H21 := (gr8.trans g820).any.trans g21
      have gr21 : Grow [] H H21 := gp21.drop fpH
      have hW21 : WebAt H21 W m.hands m.roads := (hW.grow g820).growP ok.web.ne pot20 g21
      have np : ∀ {x : Addr} {kvs : List (Key × V)}, H20 x = some (.dK kvs) → x ∉ [p] := fun e z => by
        obtain ⟨pa, pb, pk, e2, _⟩ := pot20
        rw [List.mem_singleton.mp z, e2] at e
        cases e
      have eM21 : H21 M = some (.dK (kvM m.mouths)) := g21.keep M _ (np (Grow.dK g820 eM)) (Grow.dK g820 eM) fun ps z => by cases z
      have eB21 : H21 Bo = some (.dK (kvB bs)) := g21.keep Bo _ (np (Grow.dK g820 eB)) (Grow.dK g820 eB) fun ps z => by cases z
      have ls21 : LsAt H21 bs := (ls.grow0 g820).grow g21 fun q hq z => by
        have e1 := (ls.grow0 g820) q hq
        obtain ⟨pa, pb, pk, e2, _⟩ := pot20
        rw [List.mem_singleton.mp z, e2] at e1
        cases hz : q.2.2 with
        | nil => rw [hz] at e1; cases e1
        | cons y r => rw [hz] at e1; cases e1
      have eS21 : H21 S1 = some (.tup [.ref W, .ref M, .ref Bo]) := g21.tup (fun z => pot20.lists _ z _ (g820.tup (by simp) eS)) (g820.tup (by simp) eS)
      have neM : M4 ≠ M := (fM4.ne (Grow.dK g820 eM) (fun ps z => by cases z)).symm
      have neB : B4 ≠ Bo := (fB4.ne (Grow.dK g820 eB) (fun ps z => by cases z)).symm
      have hm2 : MomAt H21 T8 m2 := ⟨W, M4, B4, cs, eT8, by rw [hh, hr]; exact hW21, eM4, eB4, lc4, ec4⟩
      refine ⟨.ref T8, rfl, T8, m2, rfl, gr21.tabs _ t1, gr21.tabs _ t2, gr21.tabs _ t3, gr21.tabs _ t4, gr21.tabs _ t5, gr21.tabs _ t6, hm2, ok2, fun H22 g22 => ⟨.str (momText m), rfl, rfl, ?_⟩⟩
      refine ⟨.ref T8, rfl, T8, W, M4, B4, m.hands, m.roads, rfl, g22.tup (by simp) eT8, hW21.grow g22, ok.web, fun T5' W5 H23 fT5 g23 eT5 hW5 => ?_⟩
      have g2123 := g22.trans g23
      refine ⟨.ref S1, rfl, S1, W, M, Bo, m.hands, m.roads, rfl, g2123.tup (by simp) eS21, hW21.grow g2123, ok.web, fun T6' W6 H24 fT6 g24 eT6 hW6 => ?_⟩
      have gE := g2123.trans g24
      have fw := fine_web ok.rd.web
      refine ⟨T5', T6', _, _, _, rfl, rfl, .inl (.inl (g24.tup (by simp) eT5)), .inl (.inl eT6), .cons (.p (hW5.grow g24).dp hW6.dp (fw.shaped (by decide)) (fw.shaped (by decide))) (.cons (.k neM (Grow.dK gE eM4) (Grow.dK gE eM21) (hitsM ok2 ok)) (.cons (.k neB (Grow.dK gE eB4) (Grow.dK gE eB21) (hitsB ok2 ok (lc4.grow0 gE) (ls21.grow0 gE) ec4 eb)) .nil)), rfl, _, rfl, ?_⟩
      have key : decide (V.str (momText m2) = V.str (momText m)) = [PyData.eqv (webD (sortS m.hands) (sortP m.roads)) (webD (sortS m.hands) (sortP m.roads)), dicE (kvM m2.mouths) (kvM m.mouths) (Lw.eM m2 m), dicE (kvB cs) (kvB bs) (Lw.eB m2 m)].all id := by
        rw [eqv_web, decide_eq_true (p := sortS m.hands = sortS m.hands ∧ sortP m.roads = sortP m.roads) ⟨rfl, rfl⟩]
        have h1 := text_iff ok2 ok hh hr
        have h2 := dicM_iff (a := m2) (b := m)
        have h3 := dicB_iff (a := m2) (b := m) ec4 eb
        show _ = (true && (dicE (kvM m2.mouths) (kvM m.mouths) (Lw.eM m2 m) && (dicE (kvB cs) (kvB bs) (Lw.eB m2 m) && true)))
        rw [Bool.true_and, Bool.and_true]
        by_cases h : momText m2 = momText m
        · rw [decide_eq_true (congrArg V.str h)]
          have := h1.mp h
          rw [h2.mpr this.1, h3.mpr this.2]
          rfl
        · rw [decide_eq_false fun z => h (V.str.inj z)]
          cases c1 : dicE (kvM m2.mouths) (kvM m.mouths) (Lw.eM m2 m) with
          | false => rfl
          | true =>
            cases c2 : dicE (kvB cs) (kvB bs) (Lw.eB m2 m) with
            | false => rfl
            | true => exact absurd (h1.mpr ⟨h2.mp c1, h3.mp c2⟩) h
      rw [key, decide_eq_true rfl]
      exact iteF ⟨_, _, _, _, _, _, _, _, _, _, _, _, _, rfl, gr21.trans gE⟩
  · obtain ⟨x1, x2, x3, x4, x5, x6, x7, x8, x9, x10, x11, x12, x13, rfl, gr⟩ := hp
    exact q H2 gr
end
theorem law_start {K : PySem.W.Frag} {H : Hp} {a : Addr} {ns : List Int} {c1 c2 c3 c4 c5 c6 : Addr × Addr} (t : ∀ p ∈ [c1, c2, c3, c4, c5, c6], TabG H p.2) (_ : ns.length ≤ 63) (_ : ∀ z ∈ ns, Builtin.Int.intBits z ≤ 1048576) (h : SqL K H a (ns.map V.int)) :
    spLaw K c1.2 c2.2 c3.2 c4.2 c5.2 c6.2 [.ref a] H (fun v _ => v = .bl true) E0 := ⟨a, ns, rfl, t _ List.mem_cons_self, t _ (List.mem_cons_of_mem _ List.mem_cons_self), t _ (List.mem_cons_of_mem _ (List.mem_cons_of_mem _ List.mem_cons_self)), t _ (List.mem_cons_of_mem _ (List.mem_cons_of_mem _ (List.mem_cons_of_mem _ List.mem_cons_self))), t _ (List.mem_cons_of_mem _ (List.mem_cons_of_mem _ (List.mem_cons_of_mem _ (List.mem_cons_of_mem _ List.mem_cons_self)))), t _ (List.mem_cons_of_mem _ (List.mem_cons_of_mem _ (List.mem_cons_of_mem _ (List.mem_cons_of_mem _ (List.mem_cons_of_mem _ List.mem_cons_self))))), h, fun _ _ => rfl⟩

end Lw

namespace Lw
open PySem PySem.Spec PyProof.Rows L2 GxR Gx
end Lw
namespace Lw
open PySem PySem.Spec PyProof.Rows L2 GxR Gx
/-! ### the head -/
def d_is_name : He.DefD := ⟨("is_name", none), "is_name", "is_name", defArgs st_is_name, defBody st_is_name, defScope st_is_name, [], []⟩
def d_are_unlike_names : He.DefD := ⟨("are_unlike_names", none), "are_unlike_names", "are_unlike_names", defArgs st_are_unlike_names, defBody st_are_unlike_names, defScope st_are_unlike_names, [], []⟩
def d_is_pair : He.DefD := ⟨("is_pair", none), "is_pair", "is_pair", defArgs st_is_pair, defBody st_is_pair, defScope st_is_pair, [], []⟩
def d_is_road : He.DefD := ⟨("is_road", none), "is_road", "is_road", defArgs st_is_road, defBody st_is_road, defScope st_is_road, [], []⟩
def d_is_web : He.DefD := ⟨("is_web", none), "is_web", "is_web", defArgs st_is_web, defBody st_is_web, defScope st_is_web, [], []⟩
def d_neighbours_in : He.DefD := ⟨("neighbours_in", none), "neighbours_in", "neighbours_in", defArgs st_neighbours_in, defBody st_neighbours_in, defScope st_neighbours_in, [], []⟩
def d_hands_ahead : He.DefD := ⟨("hands_ahead", none), "hands_ahead", "hands_ahead", defArgs st_hands_ahead, defBody st_hands_ahead, defScope st_hands_ahead, [], []⟩
def d_is_book : He.DefD := ⟨("is_book", none), "is_book", "is_book", defArgs st_is_book, defBody st_is_book, defScope st_is_book, [], []⟩
def d_is_moment : He.DefD := ⟨("is_moment", none), "is_moment", "is_moment", defArgs st_is_moment, defBody st_is_moment, defScope st_is_moment, [], []⟩
def d_are_mouths : He.DefD := ⟨("are_mouths", none), "are_mouths", "are_mouths", defArgs st_are_mouths, defBody st_are_mouths, defScope st_are_mouths, [], []⟩
def d_are_books : He.DefD := ⟨("are_books", none), "are_books", "are_books", defArgs st_are_books, defBody st_are_books, defScope st_are_books, [], []⟩
def d_has_mouths : He.DefD := ⟨("has_mouths", none), "has_mouths", "has_mouths", defArgs st_has_mouths, defBody st_has_mouths, defScope st_has_mouths, [], []⟩
def d_show_moment : He.DefD := ⟨("show_moment", none), "show_moment", "show_moment", defArgs st_show_moment, defBody st_show_moment, defScope st_show_moment, [], []⟩
def d_read_moment : He.DefD := ⟨("read_moment", none), "read_moment", "read_moment", defArgs st_read_moment, defBody st_read_moment, defScope st_read_moment, [], []⟩
def d_rows_in : He.DefD := ⟨("rows_in", none), "rows_in", "rows_in", defArgs st_rows_in, defBody st_rows_in, defScope st_rows_in, [], []⟩
def d_rows_of_web : He.DefD := ⟨("rows_of_web", none), "rows_of_web", "rows_of_web", defArgs st_rows_of_web, defBody st_rows_of_web, defScope st_rows_of_web, [], []⟩
def d_web_in : He.DefD := ⟨("web_in", none), "web_in", "web_in", defArgs st_web_in, defBody st_web_in, defScope st_web_in, [], []⟩
def d_row_of_book : He.DefD := ⟨("row_of_book", none), "row_of_book", "row_of_book", defArgs st_row_of_book, defBody st_row_of_book, defScope st_row_of_book, [], []⟩
def d_book_in : He.DefD := ⟨("book_in", none), "book_in", "book_in", defArgs st_book_in, defBody st_book_in, defScope st_book_in, [], []⟩
def d_rows_of_moment : He.DefD := ⟨("rows_of_moment", none), "rows_of_moment", "rows_of_moment", defArgs st_rows_of_moment, defBody st_rows_of_moment, defScope st_rows_of_moment, [], []⟩
def d_moment_in : He.DefD := ⟨("moment_in", none), "moment_in", "moment_in", defArgs st_moment_in, defBody st_moment_in, defScope st_moment_in, [], []⟩
def d_law_pot : He.DefD := ⟨("_law_pot", none), "_law_pot", "_law_pot", defArgs st_law_pot, defBody st_law_pot, defScope st_law_pot, [], []⟩
def d_law_dip : He.DefD := ⟨("_law_dip", none), "_law_dip", "_law_dip", defArgs st_law_dip, defBody st_law_dip, defScope st_law_dip, [], []⟩
def d_law_names : He.DefD := ⟨("_law_names", none), "_law_names", "_law_names", defArgs st_law_names, defBody st_law_names, defScope st_law_names, [], []⟩
def d_law_web : He.DefD := ⟨("_law_web", none), "_law_web", "_law_web", defArgs st_law_web, defBody st_law_web, defScope st_law_web, [], []⟩
def d_law_moment : He.DefD := ⟨("_law_moment", none), "_law_moment", "_law_moment", defArgs st_law_moment, defBody st_law_moment, defScope st_law_moment, [], []⟩
def d_law_line : He.DefD := ⟨("_law_line", none), "_law_line", "_law_line", defArgs st_law_line, defBody st_law_line, defScope st_law_line, [], []⟩
def d_law_book_text : He.DefD := ⟨("_law_book_text", none), "_law_book_text", "_law_book_text", defArgs st_law_book_text, defBody st_law_book_text, defScope st_law_book_text, [], []⟩
def d_law_web_rows : He.DefD := ⟨("_law_web_rows", none), "_law_web_rows", "_law_web_rows", defArgs st_law_web_rows, defBody st_law_web_rows, defScope st_law_web_rows, [], []⟩
def d_law_moment_rows : He.DefD := ⟨("_law_moment_rows", none), "_law_moment_rows", "_law_moment_rows", defArgs st_law_moment_rows, defBody st_law_moment_rows, defScope st_law_moment_rows, [], []⟩
def d_law_ordered : He.DefD := ⟨("_law_ordered", none), "_law_ordered", "_law_ordered", defArgs st_law_ordered, defBody st_law_ordered, defScope st_law_ordered, [], []⟩
def d_law_otherwise : He.DefD := ⟨("_law_otherwise", none), "_law_otherwise", "_law_otherwise", defArgs st_law_otherwise, defBody st_law_otherwise, defScope st_law_otherwise, [], []⟩
def d_law : He.DefD := ⟨("law", none), "law", "law", defArgs st_law, defBody st_law, defScope st_law, [], []⟩
def hdDefs : List He.DefD := [d_is_name, d_are_unlike_names, d_is_pair, d_is_road, d_is_web, d_neighbours_in, d_hands_ahead, d_is_book, d_is_moment, d_are_mouths, d_are_books, d_has_mouths, d_show_moment, d_read_moment, d_rows_in, d_rows_of_web, d_web_in, d_row_of_book, d_book_in, d_rows_of_moment, d_moment_in, d_law_pot, d_law_dip, d_law_names, d_law_web, d_law_moment, d_law_line, d_law_book_text, d_law_web_rows, d_law_moment_rows, d_law_ordered, d_law_otherwise, d_law]
def hdFacts : List He.Fa := [.glo "is_name", .glo "are_unlike_names", .glo "is_pair", .glo "is_road", .glo "is_web", .glo "neighbours_in", .glo "hands_ahead", .glo "is_book", .glo "is_moment", .glo "are_mouths", .glo "are_books", .glo "has_mouths", .glo "show_moment", .glo "read_moment", .glo "rows_in", .glo "rows_of_web", .glo "web_in", .glo "row_of_book", .glo "book_in", .glo "rows_of_moment", .glo "moment_in", .glo "_law_pot", .glo "_law_dip", .glo "_law_names", .glo "_law_web", .glo "_law_moment", .glo "_law_line", .glo "_law_book_text", .glo "_law_web_rows", .glo "_law_moment_rows", .glo "_law_ordered", .glo "_law_otherwise", .glo "law", .free "all", .free "dict", .free "int", .free "isinstance", .free "len", .free "list", .free "max", .free "min", .free "range", .free "repr", .free "set", .free "sorted", .free "str", .free "tuple", .free "type", .int "MOST_LETTERS" 8]
def hdTabs : List He.Defn := [("is_name", none), ("are_unlike_names", none), ("is_web", none), ("are_mouths", none), ("are_books", none), ("has_mouths", none)]
def hdLoose : List Str := (["ApartError", "NoText", "MOST_LETTERS", "is_name", "are_unlike_names", "is_pair", "is_road", "is_web", "neighbours_in", "hands_ahead", "is_book", "is_moment", "are_mouths", "are_books", "has_mouths", "show_moment", "read_moment", "rows_in", "rows_of_web", "web_in"] : List Str) ++ (["row_of_book", "book_in", "rows_of_moment", "moment_in", "_law_pot", "_law_dip", "_law_names", "_law_web", "_law_moment", "_law_line", "_law_book_text", "_law_web_rows", "_law_moment_rows", "_law_ordered", "_law_otherwise"] : List Str)
abbrev hdRow : PySem.W.OpenRow := PySem.W.OpenLaw.row PySem.Challenge.rw_heardapart_k60_moments_written
abbrev hdView : Program := PySem.W.view hdRow.prog [41]
abbrev hdTop : DefRec := HandSHeadRun.topDef hdRow.prog 41
def hdTs : List He.Tab := []
abbrev hdHook : PySem.W.Hook := He.hookX 4 hdFacts hdDefs hdTs hdTabs (fun _ => true)
def hdOb (s : PySem.W.SharedT) : He.AlX := He.obsX 4 hdFacts hdDefs hdTs hdTabs (fun _ => true) (HandSHeadRun.getT s)
theorem hdOb_eq (s : PySem.W.SharedT) : hdOb s = hdHook.obs s.abs := He.obsX_eq (HandSHeadRun.getT_eq s)
theorem hdRun (w : World) : HandSHeadRun.RunEq hdRow hdView hdHook hdOb 4000 hdLoose w := by
  intro os
  kernel_rfl
theorem triples_none : TriplesOk (#[] : Array Value).toList := trivial
/-- the law's promise, from the head's word -/
theorem hd_all {w : World} {K : PySem.W.Frag} {h : Heap} {mg : Str → Option Value} {f : Addr} (X : K.In h) (G : h.Ns mainGlobals mg) (hfa : mg ("law" : Str) = some (.ref f)) (c : He.SaysX hdFacts hdDefs hdTs hdTabs (fun _ => true) w h K) :
    LawG PySem.Challenge.rw_heardapart_k60_moments_written w K 16 63 "script" mg f h := by
  have glo : ∀ x : Str, He.Fa.glo x ∈ hdFacts → mg x = some (.ref (He.ga K x)) := fun x hx => He.glo_ok X G (c.t.d.facts hx)
  have free : ∀ x : Str, He.Fa.free x ∈ hdFacts → mg x = none := fun x hx => He.free_ok X G (c.t.d.facts hx)
  have e := hfa.symm.trans (glo "law" (by simp [hdFacts]))
  cases e
  obtain ⟨fd_is_name, F_is_name⟩ := c.t.d.def_ 0 (d := d_is_name) rfl
  have D_is_name : DefIs K "is_name" "is_name" st_is_name _ fd_is_name _ := DefIs.of (p := ("is_name", none)) F_is_name
  have b_is_name : Binds K fd_is_name ["thing"] [] := D_is_name.binds fun _ _ _ _ _ us hl => match us, hl with | [_], _ => rfl
  have g_is_name := glo "is_name" (by simp [hdFacts])
  obtain ⟨fd_are_unlike_names, F_are_unlike_names⟩ := c.t.d.def_ 1 (d := d_are_unlike_names) rfl
  have D_are_unlike_names : DefIs K "are_unlike_names" "are_unlike_names" st_are_unlike_names _ fd_are_unlike_names _ := DefIs.of (p := ("are_unlike_names", none)) F_are_unlike_names
  have b_are_unlike_names : Binds K fd_are_unlike_names ["thing"] [] := D_are_unlike_names.binds fun _ _ _ _ _ us hl => match us, hl with | [_], _ => rfl
  have g_are_unlike_names := glo "are_unlike_names" (by simp [hdFacts])
  obtain ⟨fd_is_pair, F_is_pair⟩ := c.t.d.def_ 2 (d := d_is_pair) rfl
  have D_is_pair : DefIs K "is_pair" "is_pair" st_is_pair _ fd_is_pair _ := DefIs.of (p := ("is_pair", none)) F_is_pair
  have b_is_pair : Binds K fd_is_pair ["thing"] [] := D_is_pair.binds fun _ _ _ _ _ us hl => match us, hl with | [_], _ => rfl
  have g_is_pair := glo "is_pair" (by simp [hdFacts])
  obtain ⟨fd_is_road, F_is_road⟩ := c.t.d.def_ 3 (d := d_is_road) rfl
  have D_is_road : DefIs K "is_road" "is_road" st_is_road _ fd_is_road _ := DefIs.of (p := ("is_road", none)) F_is_road
  have b_is_road : Binds K fd_is_road ["thing", "hands"] [] := D_is_road.binds fun _ _ _ _ _ us hl => match us, hl with | [_, _], _ => rfl
  have g_is_road := glo "is_road" (by simp [hdFacts])
  obtain ⟨fd_is_web, F_is_web⟩ := c.t.d.def_ 4 (d := d_is_web) rfl
  have D_is_web : DefIs K "is_web" "is_web" st_is_web _ fd_is_web _ := DefIs.of (p := ("is_web", none)) F_is_web
  have b_is_web : Binds K fd_is_web ["thing"] [] := D_is_web.binds fun _ _ _ _ _ us hl => match us, hl with | [_], _ => rfl
  have g_is_web := glo "is_web" (by simp [hdFacts])
  obtain ⟨fd_neighbours_in, F_neighbours_in⟩ := c.t.d.def_ 5 (d := d_neighbours_in) rfl
  have D_neighbours_in : DefIs K "neighbours_in" "neighbours_in" st_neighbours_in _ fd_neighbours_in _ := DefIs.of (p := ("neighbours_in", none)) F_neighbours_in
  have b_neighbours_in : Binds K fd_neighbours_in ["web"] [] := D_neighbours_in.binds fun _ _ _ _ _ us hl => match us, hl with | [_], _ => rfl
  have g_neighbours_in := glo "neighbours_in" (by simp [hdFacts])
  obtain ⟨fd_hands_ahead, F_hands_ahead⟩ := c.t.d.def_ 6 (d := d_hands_ahead) rfl
  have D_hands_ahead : DefIs K "hands_ahead" "hands_ahead" st_hands_ahead _ fd_hands_ahead _ := DefIs.of (p := ("hands_ahead", none)) F_hands_ahead
  have b_hands_ahead : Binds K fd_hands_ahead ["web", "start", "barred"] [] := D_hands_ahead.binds fun _ _ _ _ _ us hl => match us, hl with | [_, _, _], _ => rfl
  have g_hands_ahead := glo "hands_ahead" (by simp [hdFacts])
  obtain ⟨fd_is_book, F_is_book⟩ := c.t.d.def_ 7 (d := d_is_book) rfl
  have D_is_book : DefIs K "is_book" "is_book" st_is_book _ fd_is_book _ := DefIs.of (p := ("is_book", none)) F_is_book
  have b_is_book : Binds K fd_is_book ["thing"] [] := D_is_book.binds fun _ _ _ _ _ us hl => match us, hl with | [_], _ => rfl
  have g_is_book := glo "is_book" (by simp [hdFacts])
  obtain ⟨fd_is_moment, F_is_moment⟩ := c.t.d.def_ 8 (d := d_is_moment) rfl
  have D_is_moment : DefIs K "is_moment" "is_moment" st_is_moment _ fd_is_moment _ := DefIs.of (p := ("is_moment", none)) F_is_moment
  have b_is_moment : Binds K fd_is_moment ["thing"] [] := D_is_moment.binds fun _ _ _ _ _ us hl => match us, hl with | [_], _ => rfl
  have g_is_moment := glo "is_moment" (by simp [hdFacts])
  obtain ⟨fd_are_mouths, F_are_mouths⟩ := c.t.d.def_ 9 (d := d_are_mouths) rfl
  have D_are_mouths : DefIs K "are_mouths" "are_mouths" st_are_mouths _ fd_are_mouths _ := DefIs.of (p := ("are_mouths", none)) F_are_mouths
  have b_are_mouths : Binds K fd_are_mouths ["thing", "hands"] [] := D_are_mouths.binds fun _ _ _ _ _ us hl => match us, hl with | [_, _], _ => rfl
  have g_are_mouths := glo "are_mouths" (by simp [hdFacts])
  obtain ⟨fd_are_books, F_are_books⟩ := c.t.d.def_ 10 (d := d_are_books) rfl
  have D_are_books : DefIs K "are_books" "are_books" st_are_books _ fd_are_books _ := DefIs.of (p := ("are_books", none)) F_are_books
  have b_are_books : Binds K fd_are_books ["thing", "hands", "mouths"] [] := D_are_books.binds fun _ _ _ _ _ us hl => match us, hl with | [_, _, _], _ => rfl
  have g_are_books := glo "are_books" (by simp [hdFacts])
  obtain ⟨fd_has_mouths, F_has_mouths⟩ := c.t.d.def_ 11 (d := d_has_mouths) rfl
  have D_has_mouths : DefIs K "has_mouths" "has_mouths" st_has_mouths _ fd_has_mouths _ := DefIs.of (p := ("has_mouths", none)) F_has_mouths
  have b_has_mouths : Binds K fd_has_mouths ["book", "mouths"] [] := D_has_mouths.binds fun _ _ _ _ _ us hl => match us, hl with | [_, _], _ => rfl
  have g_has_mouths := glo "has_mouths" (by simp [hdFacts])
  obtain ⟨fd_show_moment, F_show_moment⟩ := c.t.d.def_ 12 (d := d_show_moment) rfl
  have D_show_moment : DefIs K "show_moment" "show_moment" st_show_moment _ fd_show_moment _ := DefIs.of (p := ("show_moment", none)) F_show_moment
  have b_show_moment : Binds K fd_show_moment ["moment"] [] := D_show_moment.binds fun _ _ _ _ _ us hl => match us, hl with | [_], _ => rfl
  have g_show_moment := glo "show_moment" (by simp [hdFacts])
  obtain ⟨fd_read_moment, F_read_moment⟩ := c.t.d.def_ 13 (d := d_read_moment) rfl
  have D_read_moment : DefIs K "read_moment" "read_moment" st_read_moment _ fd_read_moment _ := DefIs.of (p := ("read_moment", none)) F_read_moment
  have b_read_moment : Binds K fd_read_moment ["text"] [] := D_read_moment.binds fun _ _ _ _ _ us hl => match us, hl with | [_], _ => rfl
  have g_read_moment := glo "read_moment" (by simp [hdFacts])
  obtain ⟨fd_rows_in, F_rows_in⟩ := c.t.d.def_ 14 (d := d_rows_in) rfl
  have D_rows_in : DefIs K "rows_in" "rows_in" st_rows_in _ fd_rows_in _ := DefIs.of (p := ("rows_in", none)) F_rows_in
  have b_rows_in : Binds K fd_rows_in ["text"] [] := D_rows_in.binds fun _ _ _ _ _ us hl => match us, hl with | [_], _ => rfl
  have g_rows_in := glo "rows_in" (by simp [hdFacts])
  obtain ⟨fd_rows_of_web, F_rows_of_web⟩ := c.t.d.def_ 15 (d := d_rows_of_web) rfl
  have D_rows_of_web : DefIs K "rows_of_web" "rows_of_web" st_rows_of_web _ fd_rows_of_web _ := DefIs.of (p := ("rows_of_web", none)) F_rows_of_web
  have b_rows_of_web : Binds K fd_rows_of_web ["web"] [] := D_rows_of_web.binds fun _ _ _ _ _ us hl => match us, hl with | [_], _ => rfl
  have g_rows_of_web := glo "rows_of_web" (by simp [hdFacts])
  obtain ⟨fd_web_in, F_web_in⟩ := c.t.d.def_ 16 (d := d_web_in) rfl
  have D_web_in : DefIs K "web_in" "web_in" st_web_in _ fd_web_in _ := DefIs.of (p := ("web_in", none)) F_web_in
  have b_web_in : Binds K fd_web_in ["rows"] [] := D_web_in.binds fun _ _ _ _ _ us hl => match us, hl with | [_], _ => rfl
  have g_web_in := glo "web_in" (by simp [hdFacts])
  obtain ⟨fd_row_of_book, F_row_of_book⟩ := c.t.d.def_ 17 (d := d_row_of_book) rfl
  have D_row_of_book : DefIs K "row_of_book" "row_of_book" st_row_of_book _ fd_row_of_book _ := DefIs.of (p := ("row_of_book", none)) F_row_of_book
  have b_row_of_book : Binds K fd_row_of_book ["book"] [] := D_row_of_book.binds fun _ _ _ _ _ us hl => match us, hl with | [_], _ => rfl
  have g_row_of_book := glo "row_of_book" (by simp [hdFacts])
  obtain ⟨fd_book_in, F_book_in⟩ := c.t.d.def_ 18 (d := d_book_in) rfl
  have D_book_in : DefIs K "book_in" "book_in" st_book_in _ fd_book_in _ := DefIs.of (p := ("book_in", none)) F_book_in
  have b_book_in : Binds K fd_book_in ["row"] [] := D_book_in.binds fun _ _ _ _ _ us hl => match us, hl with | [_], _ => rfl
  have g_book_in := glo "book_in" (by simp [hdFacts])
  obtain ⟨fd_rows_of_moment, F_rows_of_moment⟩ := c.t.d.def_ 19 (d := d_rows_of_moment) rfl
  have D_rows_of_moment : DefIs K "rows_of_moment" "rows_of_moment" st_rows_of_moment _ fd_rows_of_moment _ := DefIs.of (p := ("rows_of_moment", none)) F_rows_of_moment
  have b_rows_of_moment : Binds K fd_rows_of_moment ["moment"] [] := D_rows_of_moment.binds fun _ _ _ _ _ us hl => match us, hl with | [_], _ => rfl
  have g_rows_of_moment := glo "rows_of_moment" (by simp [hdFacts])
  obtain ⟨fd_moment_in, F_moment_in⟩ := c.t.d.def_ 20 (d := d_moment_in) rfl
  have D_moment_in : DefIs K "moment_in" "moment_in" st_moment_in _ fd_moment_in _ := DefIs.of (p := ("moment_in", none)) F_moment_in
  have b_moment_in : Binds K fd_moment_in ["rows"] [] := D_moment_in.binds fun _ _ _ _ _ us hl => match us, hl with | [_], _ => rfl
  have g_moment_in := glo "moment_in" (by simp [hdFacts])
  obtain ⟨fd_law_pot, F_law_pot⟩ := c.t.d.def_ 21 (d := d_law_pot) rfl
  have D_law_pot : DefIs K "_law_pot" "_law_pot" st_law_pot _ fd_law_pot _ := DefIs.of (p := ("_law_pot", none)) F_law_pot
  have b_law_pot : Binds K fd_law_pot ["script", "k"] [] := D_law_pot.binds fun _ _ _ _ _ us hl => match us, hl with | [_, _], _ => rfl
  have g_law_pot := glo "_law_pot" (by simp [hdFacts])
  obtain ⟨fd_law_dip, F_law_dip⟩ := c.t.d.def_ 22 (d := d_law_dip) rfl
  have D_law_dip : DefIs K "_law_dip" "_law_dip" st_law_dip _ fd_law_dip _ := DefIs.of (p := ("_law_dip", none)) F_law_dip
  have b_law_dip : Binds K fd_law_dip ["pot", "many"] [] := D_law_dip.binds fun _ _ _ _ _ us hl => match us, hl with | [_, _], _ => rfl
  have g_law_dip := glo "_law_dip" (by simp [hdFacts])
  obtain ⟨fd_law_names, F_law_names⟩ := c.t.d.def_ 23 (d := d_law_names) rfl
  have D_law_names : DefIs K "_law_names" "_law_names" st_law_names _ fd_law_names _ := DefIs.of (p := ("_law_names", none)) F_law_names
  have b_law_names : Binds K fd_law_names ["pot", "many"] [] := D_law_names.binds fun _ _ _ _ _ us hl => match us, hl with | [_, _], _ => rfl
  have g_law_names := glo "_law_names" (by simp [hdFacts])
  obtain ⟨fd_law_web, F_law_web⟩ := c.t.d.def_ 24 (d := d_law_web) rfl
  have D_law_web : DefIs K "_law_web" "_law_web" st_law_web _ fd_law_web _ := DefIs.of (p := ("_law_web", none)) F_law_web
  have b_law_web : Binds K fd_law_web ["pot", "many"] [] := D_law_web.binds fun _ _ _ _ _ us hl => match us, hl with | [_, _], _ => rfl
  have g_law_web := glo "_law_web" (by simp [hdFacts])
  obtain ⟨fd_law_moment, F_law_moment⟩ := c.t.d.def_ 25 (d := d_law_moment) rfl
  have D_law_moment : DefIs K "_law_moment" "_law_moment" st_law_moment _ fd_law_moment _ := DefIs.of (p := ("_law_moment", none)) F_law_moment
  have b_law_moment : Binds K fd_law_moment ["pot", "web"] [] := D_law_moment.binds fun _ _ _ _ _ us hl => match us, hl with | [_, _], _ => rfl
  have g_law_moment := glo "_law_moment" (by simp [hdFacts])
  obtain ⟨fd_law_line, F_law_line⟩ := c.t.d.def_ 26 (d := d_law_line) rfl
  have D_law_line : DefIs K "_law_line" "_law_line" st_law_line _ fd_law_line _ := DefIs.of (p := ("_law_line", none)) F_law_line
  have b_law_line : Binds K fd_law_line ["words", "between"] [] := D_law_line.binds fun _ _ _ _ _ us hl => match us, hl with | [_, _], _ => rfl
  have g_law_line := glo "_law_line" (by simp [hdFacts])
  obtain ⟨fd_law_book_text, F_law_book_text⟩ := c.t.d.def_ 27 (d := d_law_book_text) rfl
  have D_law_book_text : DefIs K "_law_book_text" "_law_book_text" st_law_book_text _ fd_law_book_text _ := DefIs.of (p := ("_law_book_text", none)) F_law_book_text
  have b_law_book_text : Binds K fd_law_book_text ["book"] [] := D_law_book_text.binds fun _ _ _ _ _ us hl => match us, hl with | [_], _ => rfl
  have g_law_book_text := glo "_law_book_text" (by simp [hdFacts])
  obtain ⟨fd_law_web_rows, F_law_web_rows⟩ := c.t.d.def_ 28 (d := d_law_web_rows) rfl
  have D_law_web_rows : DefIs K "_law_web_rows" "_law_web_rows" st_law_web_rows _ fd_law_web_rows _ := DefIs.of (p := ("_law_web_rows", none)) F_law_web_rows
  have b_law_web_rows : Binds K fd_law_web_rows ["web"] [] := D_law_web_rows.binds fun _ _ _ _ _ us hl => match us, hl with | [_], _ => rfl
  have g_law_web_rows := glo "_law_web_rows" (by simp [hdFacts])
  obtain ⟨fd_law_moment_rows, F_law_moment_rows⟩ := c.t.d.def_ 29 (d := d_law_moment_rows) rfl
  have D_law_moment_rows : DefIs K "_law_moment_rows" "_law_moment_rows" st_law_moment_rows _ fd_law_moment_rows _ := DefIs.of (p := ("_law_moment_rows", none)) F_law_moment_rows
  have b_law_moment_rows : Binds K fd_law_moment_rows ["moment"] [] := D_law_moment_rows.binds fun _ _ _ _ _ us hl => match us, hl with | [_], _ => rfl
  have g_law_moment_rows := glo "_law_moment_rows" (by simp [hdFacts])
  obtain ⟨fd_law_ordered, F_law_ordered⟩ := c.t.d.def_ 30 (d := d_law_ordered) rfl
  have D_law_ordered : DefIs K "_law_ordered" "_law_ordered" st_law_ordered _ fd_law_ordered _ := DefIs.of (p := ("_law_ordered", none)) F_law_ordered
  have b_law_ordered : Binds K fd_law_ordered ["moment"] [] := D_law_ordered.binds fun _ _ _ _ _ us hl => match us, hl with | [_], _ => rfl
  have g_law_ordered := glo "_law_ordered" (by simp [hdFacts])
  obtain ⟨fd_law_otherwise, F_law_otherwise⟩ := c.t.d.def_ 31 (d := d_law_otherwise) rfl
  have D_law_otherwise : DefIs K "_law_otherwise" "_law_otherwise" st_law_otherwise _ fd_law_otherwise _ := DefIs.of (p := ("_law_otherwise", none)) F_law_otherwise
  have b_law_otherwise : Binds K fd_law_otherwise ["pot", "moment"] [] := D_law_otherwise.binds fun _ _ _ _ _ us hl => match us, hl with | [_, _], _ => rfl
  have g_law_otherwise := glo "_law_otherwise" (by simp [hdFacts])
  obtain ⟨fd_law, F_law⟩ := c.t.d.def_ 32 (d := d_law) rfl
  have D_law : DefIs K "law" "law" st_law _ fd_law _ := DefIs.of (p := ("law", none)) F_law
  have b_law : Binds K fd_law ["script"] [] := D_law.binds fun _ _ _ _ _ us hl => match us, hl with | [_], _ => rfl
  have g_law := glo "law" (by simp [hdFacts])
  have B : Nb mg := ⟨free "all" (by simp [hdFacts]), free "dict" (by simp [hdFacts]), free "int" (by simp [hdFacts]), free "isinstance" (by simp [hdFacts]), free "len" (by simp [hdFacts]), free "list" (by simp [hdFacts]), free "max" (by simp [hdFacts]), free "min" (by simp [hdFacts]), free "range" (by simp [hdFacts]), free "repr" (by simp [hdFacts]), free "set" (by simp [hdFacts]), free "sorted" (by simp [hdFacts]), free "str" (by simp [hdFacts]), free "tuple" (by simp [hdFacts]), free "type" (by simp [hdFacts])⟩
  obtain ⟨tk_MOST_LETTERS, k_MOST_LETTERS⟩ := He.int_ok X G (c.t.d.facts (f := .int "MOST_LETTERS" 8) (by simp [hdFacts]))
  refine ⟨fd_law, [He.cT K ("is_name", none), He.cT K ("are_unlike_names", none), He.cT K ("is_web", none), He.cT K ("are_mouths", none), He.cT K ("are_books", none), He.cT K ("has_mouths", none)], (spLaw K (He.cT K ("is_name", none)).2 (He.cT K ("are_unlike_names", none)).2 (He.cT K ("is_web", none)).2 (He.cT K ("are_mouths", none)).2 (He.cT K ("are_books", none)).2 (He.cT K ("has_mouths", none)).2), fun p hp => ?_, fun s u => ?_, fun H a ns hl hbits hT hS => law_start (fun p hp => ⟨#[], hT p hp, triples_none⟩) hl hbits hS, fun base KX GX TB => ?_⟩
  · obtain ⟨q, hq, rfl⟩ := List.mem_map.mp (show p ∈ hdTabs.map (He.cT K) from hp)
    exact ⟨c.empty q hq, c.out q hq, PySem.W.codeHd_of_K X (c.hd q hq)⟩
  · exact FunD.bindsA (ps := ["script"]) F_law (fun _ _ _ _ _ _ us hl => match us, hl with | [_], _ => rfl) s [u] rfl
  · have X_is_name := TB _ List.mem_cons_self
    have X_are_unlike_names := TB _ (List.mem_cons_of_mem _ List.mem_cons_self)
    have X_is_web := TB _ (List.mem_cons_of_mem _ (List.mem_cons_of_mem _ List.mem_cons_self))
    have X_are_mouths := TB _ (List.mem_cons_of_mem _ (List.mem_cons_of_mem _ (List.mem_cons_of_mem _ List.mem_cons_self)))
    have X_are_books := TB _ (List.mem_cons_of_mem _ (List.mem_cons_of_mem _ (List.mem_cons_of_mem _ (List.mem_cons_of_mem _ List.mem_cons_self))))
    have X_has_mouths := TB _ (List.mem_cons_of_mem _ (List.mem_cons_of_mem _ (List.mem_cons_of_mem _ (List.mem_cons_of_mem _ (List.mem_cons_of_mem _ List.mem_cons_self)))))
    have c_is_name : Callee PySem.Challenge.rw_heardapart_k60_moments_written.prog w K mg base CX0 4 "is_name" ["thing"] (spIsName K (He.cT K ("is_name", none)).2) := ⟨_, fd_is_name, ok_is_name B D_is_name X_is_name k_MOST_LETTERS, g_is_name, F_is_name.kp, b_is_name⟩
    have c_are_unlike_names : Callee PySem.Challenge.rw_heardapart_k60_moments_written.prog w K mg base CX0 8 "are_unlike_names" ["thing"] (spUnlike K (He.cT K ("is_name", none)).2 (He.cT K ("are_unlike_names", none)).2) := ⟨_, fd_are_unlike_names, ok_are_unlike_names B D_are_unlike_names X_are_unlike_names c_is_name, g_are_unlike_names, F_are_unlike_names.kp, b_are_unlike_names⟩
    have c_is_book : Callee PySem.Challenge.rw_heardapart_k60_moments_written.prog w K mg base CX0 9 "is_book" ["thing"] (spUnlike K (He.cT K ("is_name", none)).2 (He.cT K ("are_unlike_names", none)).2) := ⟨_, fd_is_book, ok_is_book D_is_book c_are_unlike_names, g_is_book, F_is_book.kp, b_is_book⟩
    have c_law_pot : Callee PySem.Challenge.rw_heardapart_k60_moments_written.prog w K mg base CX0 3 "_law_pot" ["script", "k"] (spPot K) := ⟨_, fd_law_pot, ok_law_pot B D_law_pot, g_law_pot, F_law_pot.kp, b_law_pot⟩
    have c_law_dip : Callee PySem.Challenge.rw_heardapart_k60_moments_written.prog w K mg base CX0 3 "_law_dip" ["pot", "many"] (spDip K) := ⟨_, fd_law_dip, ok_law_dip B D_law_dip, g_law_dip, F_law_dip.kp, b_law_dip⟩
    have c_is_pair : Callee PySem.Challenge.rw_heardapart_k60_moments_written.prog w K mg base CX0 2 "is_pair" ["thing"] (spIsPair K) := ⟨_, fd_is_pair, ok_is_pair B D_is_pair, g_is_pair, F_is_pair.kp, b_is_pair⟩
    have c_is_road : Callee PySem.Challenge.rw_heardapart_k60_moments_written.prog w K mg base CX0 3 "is_road" ["thing", "hands"] (spIsRoad K) := ⟨_, fd_is_road, ok_is_road B D_is_road c_is_pair, g_is_road, F_is_road.kp, b_is_road⟩
    have c_neighbours_in : Callee PySem.Challenge.rw_heardapart_k60_moments_written.prog w K mg base CX0 2 "neighbours_in" ["web"] (spNear K) := ⟨_, fd_neighbours_in, ok_neighbours_in B D_neighbours_in, g_neighbours_in, F_neighbours_in.kp, b_neighbours_in⟩
    have c_hands_ahead : Callee PySem.Challenge.rw_heardapart_k60_moments_written.prog w K mg base CX0 3 "hands_ahead" ["web", "start", "barred"] (spAhead K) := ⟨_, fd_hands_ahead, ok_hands_ahead B D_hands_ahead c_neighbours_in, g_hands_ahead, F_hands_ahead.kp, b_hands_ahead⟩
    have c_is_web : Callee PySem.Challenge.rw_heardapart_k60_moments_written.prog w K mg base CX0 9 "is_web" ["thing"] (spIsWeb K (He.cT K ("is_name", none)).2 (He.cT K ("are_unlike_names", none)).2 (He.cT K ("is_web", none)).2) := ⟨_, fd_is_web, ok_is_web B D_is_web X_is_web c_is_pair c_are_unlike_names c_is_road c_hands_ahead, g_is_web, F_is_web.kp, b_is_web⟩
    have c_law_names : Callee PySem.Challenge.rw_heardapart_k60_moments_written.prog w K mg base CX0 4 "_law_names" ["pot", "many"] (spNames K) := ⟨_, fd_law_names, ok_law_names B D_law_names c_law_dip, g_law_names, F_law_names.kp, b_law_names⟩
    have c_law_web : Callee PySem.Challenge.rw_heardapart_k60_moments_written.prog w K mg base CX0 5 "_law_web" ["pot", "many"] (spWeb K) := ⟨_, fd_law_web, ok_law_web B D_law_web c_law_dip c_law_names, g_law_web, F_law_web.kp, b_law_web⟩
    have c_rows_of_web : Callee PySem.Challenge.rw_heardapart_k60_moments_written.prog w K mg base CX0 1 "rows_of_web" ["web"] (spRowsW K) := ⟨_, fd_rows_of_web, ok_rows_of_web B D_rows_of_web, g_rows_of_web, F_rows_of_web.kp, b_rows_of_web⟩
    have c_rows_in : Callee PySem.Challenge.rw_heardapart_k60_moments_written.prog w K mg base CX0 1 "rows_in" ["text"] (spRowsIn K) := ⟨_, fd_rows_in, ok_rows_in B D_rows_in, g_rows_in, F_rows_in.kp, b_rows_in⟩
    have c_web_in : Callee PySem.Challenge.rw_heardapart_k60_moments_written.prog w K mg base CX0 1 "web_in" ["rows"] (spWebIn K) := ⟨_, fd_web_in, ok_web_in B D_web_in, g_web_in, F_web_in.kp, b_web_in⟩
    have c_row_of_book : Callee PySem.Challenge.rw_heardapart_k60_moments_written.prog w K mg base CX0 1 "row_of_book" ["book"] (spRowB K) := ⟨_, fd_row_of_book, ok_row_of_book B D_row_of_book, g_row_of_book, F_row_of_book.kp, b_row_of_book⟩
    have c_book_in : Callee PySem.Challenge.rw_heardapart_k60_moments_written.prog w K mg base CX0 1 "book_in" ["row"] (spBookIn K) := ⟨_, fd_book_in, ok_book_in B D_book_in, g_book_in, F_book_in.kp, b_book_in⟩
    have c_law_line : Callee PySem.Challenge.rw_heardapart_k60_moments_written.prog w K mg base CX0 1 "_law_line" ["words", "between"] (spLine K) := ⟨_, fd_law_line, ok_law_line B D_law_line, g_law_line, F_law_line.kp, b_law_line⟩
    have c_law_book_text : Callee PySem.Challenge.rw_heardapart_k60_moments_written.prog w K mg base CX0 2 "_law_book_text" ["book"] (spBookT K) := ⟨_, fd_law_book_text, ok_law_book_text D_law_book_text c_law_line, g_law_book_text, F_law_book_text.kp, b_law_book_text⟩
    have c_law_web_rows : Callee PySem.Challenge.rw_heardapart_k60_moments_written.prog w K mg base CX0 2 "_law_web_rows" ["web"] (spRowsL K) := ⟨_, fd_law_web_rows, ok_law_web_rows B D_law_web_rows c_law_line, g_law_web_rows, F_law_web_rows.kp, b_law_web_rows⟩
    have c_has_mouths : Callee PySem.Challenge.rw_heardapart_k60_moments_written.prog w K mg base CX0 5 "has_mouths" ["book", "mouths"] (spHasM (He.cT K ("has_mouths", none)).2) := ⟨_, fd_has_mouths, ok_has_mouths B D_has_mouths X_has_mouths, g_has_mouths, F_has_mouths.kp, b_has_mouths⟩
    have c_are_mouths : Callee PySem.Challenge.rw_heardapart_k60_moments_written.prog w K mg base CX0 8 "are_mouths" ["thing", "hands"] (spAreM K (He.cT K ("is_name", none)).2 (He.cT K ("are_mouths", none)).2) := ⟨_, fd_are_mouths, ok_are_mouths B D_are_mouths X_are_mouths c_is_name, g_are_mouths, F_are_mouths.kp, b_are_mouths⟩
    have c_are_books : Callee PySem.Challenge.rw_heardapart_k60_moments_written.prog w K mg base CX0 13 "are_books" ["thing", "hands", "mouths"] (spAreB K (He.cT K ("is_name", none)).2 (He.cT K ("are_unlike_names", none)).2 (He.cT K ("has_mouths", none)).2 (He.cT K ("are_books", none)).2) := ⟨_, fd_are_books, ok_are_books B D_are_books X_are_books c_is_book c_has_mouths, g_are_books, F_are_books.kp, b_are_books⟩
    have c_is_moment : Callee PySem.Challenge.rw_heardapart_k60_moments_written.prog w K mg base CX0 14 "is_moment" ["thing"] (spIsMom K (He.cT K ("is_name", none)).2 (He.cT K ("are_unlike_names", none)).2 (He.cT K ("is_web", none)).2 (He.cT K ("are_mouths", none)).2 (He.cT K ("are_books", none)).2 (He.cT K ("has_mouths", none)).2) := ⟨_, fd_is_moment, ok_is_moment B D_is_moment c_is_web c_are_mouths c_are_books, g_is_moment, F_is_moment.kp, b_is_moment⟩
    have c_rows_of_moment : Callee PySem.Challenge.rw_heardapart_k60_moments_written.prog w K mg base CX0 2 "rows_of_moment" ["moment"] (spRowsM K) := ⟨_, fd_rows_of_moment, ok_rows_of_moment B D_rows_of_moment c_rows_of_web c_row_of_book, g_rows_of_moment, F_rows_of_moment.kp, b_rows_of_moment⟩
    have c_moment_in : Callee PySem.Challenge.rw_heardapart_k60_moments_written.prog w K mg base CX0 2 "moment_in" ["rows"] (spMomIn K) := ⟨_, fd_moment_in, ok_moment_in B D_moment_in c_web_in c_book_in, g_moment_in, F_moment_in.kp, b_moment_in⟩
    have c_show_moment : Callee PySem.Challenge.rw_heardapart_k60_moments_written.prog w K mg base CX0 15 "show_moment" ["moment"] (spShowM K (He.cT K ("is_name", none)).2 (He.cT K ("are_unlike_names", none)).2 (He.cT K ("is_web", none)).2 (He.cT K ("are_mouths", none)).2 (He.cT K ("are_books", none)).2 (He.cT K ("has_mouths", none)).2) := ⟨_, fd_show_moment, ok_show_moment D_show_moment c_is_moment c_rows_of_moment, g_show_moment, F_show_moment.kp, b_show_moment⟩
    have c_read_moment : Callee PySem.Challenge.rw_heardapart_k60_moments_written.prog w K mg base CX0 15 "read_moment" ["text"] (spReadM K (He.cT K ("is_name", none)).2 (He.cT K ("are_unlike_names", none)).2 (He.cT K ("is_web", none)).2 (He.cT K ("are_mouths", none)).2 (He.cT K ("are_books", none)).2 (He.cT K ("has_mouths", none)).2) := ⟨_, fd_read_moment, ok_read_moment D_read_moment c_is_moment c_rows_of_moment c_rows_in c_moment_in, g_read_moment, F_read_moment.kp, b_read_moment⟩
    have c_law_moment : Callee PySem.Challenge.rw_heardapart_k60_moments_written.prog w K mg base CX0 5 "_law_moment" ["pot", "web"] (spMoment K) := ⟨_, fd_law_moment, ok_law_moment B D_law_moment c_law_dip c_law_names, g_law_moment, F_law_moment.kp, b_law_moment⟩
    have c_law_moment_rows : Callee PySem.Challenge.rw_heardapart_k60_moments_written.prog w K mg base CX0 3 "_law_moment_rows" ["moment"] (spRowsM K) := ⟨_, fd_law_moment_rows, ok_law_moment_rows B D_law_moment_rows c_law_web_rows c_law_book_text, g_law_moment_rows, F_law_moment_rows.kp, b_law_moment_rows⟩
    have c_law_ordered : Callee PySem.Challenge.rw_heardapart_k60_moments_written.prog w K mg base CX0 1 "_law_ordered" ["moment"] (spOrdM K) := ⟨_, fd_law_ordered, ok_law_ordered B D_law_ordered, g_law_ordered, F_law_ordered.kp, b_law_ordered⟩
    have c_law_otherwise : Callee PySem.Challenge.rw_heardapart_k60_moments_written.prog w K mg base CX0 5 "_law_otherwise" ["pot", "moment"] (spMate K) := ⟨_, fd_law_otherwise, ok_law_otherwise B D_law_otherwise c_law_dip, g_law_otherwise, F_law_otherwise.kp, b_law_otherwise⟩
    exact ok_law B D_law c_law_pot c_law_dip c_law_web c_law_moment c_law_line c_law_moment_rows c_show_moment c_read_moment c_law_ordered c_law_otherwise
end Lw
open PyProof.Rows PySem PySem.W PySem.Calls
theorem PySem.Challenge.cw_heardapart_k60_moments_written_holds : PySem.Challenge.rw_heardapart_k60_moments_written.Holds := by
  w_on; o_law
  refine HandSHeadRun.head_any (r := Lw.hdRow) (q := Lw.hdView) (H := Lw.hdHook) (ob := Lw.hdOb) (M := 4000) (loose := Lw.hdLoose) (d := Lw.hdTop) (kwd := []) Lw.hdOb_eq
    (by kernel_rfl) (fun s => by kernel_rfl) Lw.hdRun (by kernel_rfl) (by kernel_rfl) (by kernel_rfl) (by rfl) (by first | assumption | decide +kernel) (by decide +kernel) ⟨rfl, rfl, rfl, rfl, rfl, by decide +kernel⟩ ?hw ?hc
  case hw => w_witness2
  case hc =>
    refine Gx.walk_GE (l := PySem.Challenge.rw_heardapart_k60_moments_written) (n := 63) (k := 16) (x := "script") rfl (by decide) (by kernel_rfl) ⟨rfl, by decide, by decide⟩ ?F
    intro w mg fa h Y G hmg0
    obtain ⟨K, KX, c⟩ := Y
    have hmg : mg ("law" : PySem.Str) = some (.ref fa) := by
      have e : Lw.hdTop.name = ("law" : PySem.Str) := by kernel_rfl
      rw [← e]
      exact hmg0
    exact ⟨K, KX, Lw.hd_all KX G hmg c⟩

