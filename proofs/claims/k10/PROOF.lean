import PyProof.Rows.All
import Wide.All
import OpenK.AllK
import Wide.FinOn
import HandS.ForMost
import HandS.AnyAll
import HandS.GenList
import HandS.EndTab
import KE.SortData
import HandS.WideBits
import HandS.DictComp
import HandS.More
import HandS.TupAny
import HandS.TupLe
import HandS.Walk
import HandS.HeadHook4
import HandS.Head4
import HandS.SortKw
import HandS.Iter
import PyProof.ZipIter
import PyProof.CallType
import PyProof.TupleOfSeq
import PyProof.Walk
import PyProof.WalkLemmas
import PyProof.RulesTry
import HandS.Zip
import HandS.SetFor
import HandS.SortInts
import HandS.List
import HandS.Dict
import PyProof.RowDictHeap
import KE.KEqNest
import HandS.Text
import PyProof.NeKinds
import HandS.Style
import HandS.Small
import HandS.Deep
import HandS.IsInst
import HandS.Conv
import PySem.Challenge.RW_heardapart_k10_rows_and_lots_judged
set_option Elab.async false
set_option linter.all false
set_option maxRecDepth 100000
set_option maxHeartbeats 8000000
/-! A generator expression whose element may do anything, under all( ) and any( ). -/
namespace Gx
open PySem PySem.Spec PyProof.Rows L2 GxR GenW

abbrev genv (X : Cx) (sc : Scope) (C : Addr) (code : Value) : Env :=
  genEnv sc (cloFrom X.env.cells sc.names []) C code builtinsNs X.env
abbrev gcx (X : Cx) (s : Shared) (H : Hp) (sc : Scope) (C : Addr) (code : Value) (fp : List Addr) : Cx :=
  { X with
    A := X.A.in1.in1.deeper (genv X sc C code)
    s_0 := s
    H_0 := H
    env := genv X sc C code
    outer := X.stack
    stack := genv X sc C code :: X.stack
    ex := fp
    fn := fun _ => false
    calm := true
    pn := []
    xe := fun _ _ => False }

theorem over_loop_gx {A : Around} {elt : Expr} {gs : List Comprehension} {sc : Scope} {pos : Pos} {it acc : Value} {env : Env} :
    A.over (.compLoop (.GeneratorExp elt gs sc pos) 0 it acc env) [] = A.deeper env := by
  obtain ⟨a, b, c, d, e⟩ := A
  cases c <;> cases d <;>
  simp [Around.over, Around.deeper, marksOver, frameCount, unitsOf, envsOf, guardsOf, pushEnvs, pushGuards, Code.envs, Code.env?, Code.isFrame, Code.guards, Code.isGuard, Code.weight, Code.frames, Code.isCreation, Code.isCaller, Code.cUnits]
theorem over_start_gx {A : Around} {elt : Expr} {gs : List Comprehension} {sc : Scope} {pos : Pos} {it acc : Value} {env : Env} :
    A.over (.compStart (.GeneratorExp elt gs sc pos) 0 it acc env) [] = A.deeper env := by
  obtain ⟨a, b, c, d, e⟩ := A
  cases c <;> cases d <;>
  simp [Around.over, Around.deeper, marksOver, frameCount, unitsOf, envsOf, guardsOf, pushEnvs, pushGuards, Code.envs, Code.env?, Code.isFrame, Code.guards, Code.isGuard, Code.weight, Code.frames, Code.isCreation, Code.isCaller, Code.cUnits]

section
variable {X : Cx} {pins : List (Addr × Obj)} {σ : L2.St} {H : Hp} {s : Shared}

theorem clo_look {cells : List (Str × Addr)} {names : List (Str × NameKind)} {y : Str} {c : Addr} (hf : ∀ z ∈ names, z.2 = .free → ∃ c, cells.lookup z.1 = some c)
    (h : (cloFrom cells names []).lookup y = some c) : cells.lookup y = some c ∧ (y, NameKind.free) ∈ names := by
  rcases cloFrom_mem (PySem.mem_of_lookup h) with q | ⟨q1, q2⟩
  · cases q
  · obtain ⟨c', e⟩ := hf _ q1 rfl
    rw [e] at q2
    have q3 : c = c' := q2
    exact ⟨by rw [q3]; exact e, q1⟩
theorem clo_has {cells : List (Str × Addr)} {names : List (Str × NameKind)} {y : Str} (hf : ∀ z ∈ names, z.2 = .free → ∃ c, cells.lookup z.1 = some c)
    (h : (y, NameKind.free) ∈ names) : ∃ c, (cloFrom cells names []).lookup y = some c ∧ cells.lookup y = some c := by
  obtain ⟨c, e⟩ := mem_lookup (cloFrom_has (cells := cells) (acc := []) h)
  exact ⟨c, e, (clo_look hf e).1⟩

/-- the generator's frame has been made: the state as its body sees it -/
theorem gx_start {sc : Scope} {own : List (Str × Nat)} {fp : List Addr} {C : Addr} {code : Value} {h' : Heap} {g' : Array GenState} {d' : Drawn} {t' : Nat}
    (I : Inv X pins σ H s) (hh : X.A.handled = none) (ok : BlkOk X.N X.env.scope sc own) (hN : X.N.Nodup) (hcell : ∀ y ∈ sc.names, y.2 ≠ .cell)
    (hfp : ∀ b ∈ fp, FpOk X pins H b ∧ b < s.heap.objs.size) (hC : C = s.heap.objs.size) (hns : ∃ m, h'.Ns C m)
    (kp : ∀ b o, s.heap.get? b = some o → h'.get? b = some o) (hg : AllBare g') :
    Inv (gcx X s H sc C code fp) [] (wipe σ (own.map (·.2))) H { s with heap := h', gens := g', drawn := d', toks := t' } := by
  have hf : ∀ z ∈ sc.names, z.2 = .free → ∃ c, X.env.cells.lookup z.1 = some c := fun z hz e => by
    rcases ok.free z hz e with k | k
    · exact I.ok.has _ (.inl k)
    · exact I.ok.has _ (.inr k)
  have cl : ∀ {y c}, (genv X sc C code).cells.lookup y = some c → X.env.cells.lookup y = some c ∧ (y, NameKind.free) ∈ sc.names := fun {y c} e => clo_look hf e
  have clt : ∀ {y c}, X.env.cells.lookup y = some c → c < s.heap.objs.size := fun {y c} e => by
    obtain ⟨w, z⟩ := I.cell y c e
    exact z.lt
  have free_of : ∀ {y}, (genv X sc C code).kindOf y = some .cell ∨ (genv X sc C code).kindOf y = some .free → (y, NameKind.free) ∈ sc.names := fun {y} hy => by
    rcases hy with hy | hy
    · exact absurd rfl (hcell _ (PySem.mem_of_lookup (show sc.names.lookup y = some .cell from hy)))
    · exact PySem.mem_of_lookup (show sc.names.lookup y = some .free from hy)
  have okY : (gcx X s H sc C code fp).Ok :=
    { mod := I.ok.mod
      kind := ok.kind
      glob := I.ok.glob
      blt := rfl
      above := Nat.le_of_eq hC.symm
      inj := fun y z c e1 e2 => I.ok.inj y z c (cl e1).1 (cl e2).1
      has := fun y hy => by
        obtain ⟨c, e, _⟩ := clo_has (cells := X.env.cells) hf (free_of hy)
        exact ⟨c, e⟩
      cab := fun y c e => by cases e
      hd := fun _ => hh
      frames := by
        have q := I.ok.frames
        show X.A.frames.map (genv X sc C code :: ·) = _
        rw [q]
        rfl
      stk := .inr ⟨rfl, rfl⟩
      exf := fun b hb => ⟨by
          show b ≠ C
          rw [hC]
          exact Nat.ne_of_lt (hfp b hb).2, fun y c e => (hfp b hb).1.2.2.2.2.1 y c (cl e).1⟩
      bs := I.bs
      bsz := Nat.le_trans I.ok.bsz I.sz
      noex := fun b o e hb => by
        rcases (hfp b hb).1.2.2.2.1 with z | z
        · exact I.ok.noex b o e z
        · exact absurd (Nat.lt_of_lt_of_le (Heap.lt_size e) (Nat.le_trans I.ok.bsz z)) (Nat.lt_irrefl _)
      exfs := fun b hb z => by
        rcases List.mem_cons.mp (I.stkSub b z) with z | z
        · exact (hfp b hb).1.2.1 z
        · exact (hfp b hb).1.2.2.1 z
      funs := I.stack
      frf := I.stkFree }
  obtain ⟨m, hm⟩ := hns
  have hn : ∀ b, s.heap.objs.size ≤ b → H b = none := fun b hb => I.hok.fresh hb
  refine { ok := okY, os := rfl, bare := hg, base := Un.kept kp, loc := ⟨m, hm, fun i y v e1 e2 e3 => ?_⟩, cell := fun y c e => ?_, free := hn C (Nat.le_of_eq hC.symm), freeC := fun y c e => I.freeC y c (cl e).1,
           pin := fun p hp => absurd (show p ∈ ([] : List (Addr × Obj)) ++ [] from hp) (by simp), hok := I.hok.kept kp, len := by rw [wipe_length]; exact I.len }
  · obtain ⟨e2, hne⟩ := wipe_some e2
    have hfr : (y, NameKind.free) ∈ sc.names := by
      have e3' : sc.names.lookup y = some .local ∨ sc.names.lookup y = some .cell ∨ sc.names.lookup y = some .free := e3
      have own : ∀ k, (y, k) ∈ sc.names → k = .local ∨ k = .cell → False := fun k hk hk2 => by
        rcases ok.own _ hk hk2 with q | q
        · obtain ⟨p, hp, hpy⟩ := List.mem_map.mp q
          have q3 := ok.ix p hp
          rw [show p.1 = y from hpy] at q3
          exact hne (List.mem_map.mpr ⟨p, hp, nodup_ix hN q3 e1⟩)
        · exact q (List.mem_of_getElem? e1)
      rcases e3' with q | q | q
      · exact (own _ (PySem.mem_of_lookup q) (.inl rfl)).elim
      · exact (own _ (PySem.mem_of_lookup q) (.inr rfl)).elim
      · exact PySem.mem_of_lookup q
    obtain ⟨m0, _, hl⟩ := I.loc
    have vis : Vis X.env.scope y := (ok.free _ hfr rfl).elim (fun k => .inr (.inl k)) fun k => .inr (.inr k)
    obtain ⟨w, r, q⟩ := hl i y v e1 e2 vis
    obtain ⟨c, h1, h2⟩ := clo_has (cells := X.env.cells) hf hfr
    have kf : (genv X sc C code).kindOf y = some .free := ok.uniq _ hfr
    refine ⟨w, r, .inr ⟨.inr kf, c, h1, ?_⟩⟩
    rcases q with ⟨k, _⟩ | ⟨_, c', e', z⟩
    · have k' : X.env.scope.names.lookup y = some .local := k
      rcases ok.free _ hfr rfl with k2 | k2 <;> rw [show X.env.scope.names.lookup y = _ from k2] at k' <;> cases k'
    · rw [h2] at e'
      cases e'
      exact z.keeps kp
  · obtain ⟨w, z⟩ := I.cell y c (cl e).1
    exact ⟨w, z.keeps kp⟩

/-- generators, tokens and what was drawn are no matter -/
theorem inv_gens {g' : Array GenState} {d' : Drawn} {t' : Nat} (I : Inv X pins σ H s) (hg : AllBare g') : Inv X pins σ H { s with gens := g', drawn := d', toks := t' } :=
  I.step (h' := s.heap) (ch := []) (fun b hb => absurd hb (by simp)) (fun _ _ _ _ _ e _ => e) (fun _ o _ _ _ e _ => ⟨o.slots, e⟩) (fun _ _ _ _ n => n) (fun _ o _ e => ⟨o, e⟩)
    (fun _ _ e => e) (fun _ _ _ e => e) (fun _ ps e => ⟨#[], by rw [e]; simp⟩) (fun _ hm => hm) I.hok hg
theorem inv_like {s' : Shared} (I : Inv X pins σ H s) (hh : s'.heap = s.heap) (ho : s'.os = s.os) (hg : AllBare s'.gens) : Inv X pins σ H s' := by
  have J := inv_gens (g' := s'.gens) (d' := s'.drawn) (t' := s'.toks) I hg
  rw [← hh] at J
  rw [sh_eta s s' ho] at J
  exact J

/-- what is known once and for all of one run of the generator -/
structure Run (X : Cx) (s0 : Shared) (H0 : Hp) (sc : Scope) (C : Addr) (code : Value) (fp : List Addr) (tg elt : Expr) (g : TG) (te : TE) (J : It) (it : Addr) (tn : Nat → Heap → Prop) (vs : List Nat) (σ0 : L2.St)
    (sb : Bool) (W : Nat → Nat → Hp → Prop) (Q : VK) : Prop where
  turns : Turn X.prog X.w X.K tg J fp it tn
  target : PG (gcx X s0 H0 sc C code fp) tg g
  element : PE (gcx X s0 H0 sc C code fp) elt te
  nocor : sc.isCoroutine = false
  step : ∀ i m H, W i m H → (J.stop i H ∧ Q (.bl (!sb)) H) ∨ (J.go i H ∧ ∃ Nx : Hp → Prop, (∀ H', Nx H' → ∃ m', m' < m ∧ W (i + 1) m' H') ∧
    ∀ x H', J.yld i H x H' → g x σ0 H' fun σ2 H2 => wipe σ2 vs = σ0 ∧ te σ2 H2 fun y H4 => ∃ b, y = .bl b ∧ if b = sb then Q (.bl sb) H4 else Nx H4)

/-- the generator stands ahead of its i-th turn, with room for n more -/
def Ahead (X : Cx) (s0 : Shared) (H0 : Hp) (sc : Scope) (C : Addr) (code : Value) (fp : List Addr) (tn : Nat → Heap → Prop) (σ0 : L2.St) (W : Nat → Nat → Hp → Prop) (pin : Addr × Obj) (i n : Nat) (s : Shared) : Prop :=
  ∃ H m, Inv (gcx X s0 H0 sc C code fp) [pin] σ0 H s ∧ tn i s.heap ∧ (∀ b ∈ fp, H b = none) ∧ m ≤ n ∧ W i m H
/-- it hands out a truth -/
def Out (X : Cx) (s0 : Shared) (H0 : Hp) (sc : Scope) (C : Addr) (code : Value) (fp : List Addr) (pin : Addr × Obj) (sb : Bool) (Q : VK) : Protocol := fun n s₀ v s kap =>
  ∃ (b : Bool) (σ1 : L2.St) (H1 : Hp), v = .bool b ∧ Inv (gcx X s0 H0 sc C code fp) [pin] σ1 H1 s ∧ (b = sb → Q (.bl sb) H1) ∧
    (b ≠ sb → ∀ s'', s''.heap = s.heap → s''.os = s.os → AllBare s''.gens → kap (.send .none) s'')
/-- it has come to its end -/
def Over (X : Cx) (s0 : Shared) (H0 : Hp) (sc : Scope) (C : Addr) (code : Value) (fp : List Addr) (pin : Addr × Obj) (sb : Bool) (Q : VK) (n : Nat) (s₀ s : Shared) : Prop :=
  ∃ (σ1 : L2.St) (H1 : Hp), Inv (gcx X s0 H0 sc C code fp) [pin] σ1 H1 s ∧ Q (.bl (!sb)) H1

section
variable {s0 : Shared} {H0 : Hp} {sc : Scope} {C : Addr} {code : Value} {fp : List Addr} {tg elt iter : Expr} {g : TG} {te : TE} {J : It} {it : Addr} {tn : Nat → Heap → Prop} {vs : List Nat} {σ0 : L2.St} {sb : Bool} {W : Nat → Nat → Hp → Prop} {Q : VK}
  {pin : Addr × Obj} {pos : Pos}

theorem ahead_like {i n : Nat} {s s' : Shared} (h : Ahead X s0 H0 sc C code fp tn σ0 W pin i n s) (hh : s'.heap = s.heap) (ho : s'.os = s.os) (hg : AllBare s'.gens) : Ahead X s0 H0 sc C code fp tn σ0 W pin i n s' := by
  obtain ⟨H, m, I, st, n, le, w⟩ := h
  exact ⟨H, m, inv_like I hh ho hg, by rw [hh]; exact st, n, le, w⟩

abbrev LoopC (X : Cx) (elt tg iter : Expr) (sc : Scope) (pos : Pos) (it C : Addr) (code : Value) : Code := .compLoop (.GeneratorExp elt [⟨tg, iter, [], 0⟩] sc pos) 0 (.ref it) .none (genv X sc C code)
abbrev SegX (X : Cx) (s0 : Shared) (H0 : Hp) (sc : Scope) (C : Addr) (code : Value) (fp : List Addr) (pin : Addr × Obj) (sb : Bool) (Q : VK) (n : Nat) (s₀ : Shared) (c : Code) (t : Sem PySem.Fin) (s : Shared) : Prop :=
  Seg (model X.prog X.w) X.A.in1.in1 (fun n s₀ r s₁ => r = .ok .next ∧ Over X s0 H0 sc C code fp pin sb Q n s₀ s₁) (Out X s0 H0 sc C code fp pin sb Q) n s₀ c t [] s

theorem seg_turn (R : Run X s0 H0 sc C code fp tg elt g te J it tn vs σ0 sb W Q) (hp : pin.1 ∉ fp) (n i : Nat) (s₀ s : Shared) (h : Ahead X s0 H0 sc C code fp tn σ0 W pin i n s)
    (again : ∀ n' s'', n = n' + 1 → Ahead X s0 H0 sc C code fp tn σ0 W pin (i + 1) n' s'' → SegX X s0 H0 sc C code fp pin sb Q (n' + 1) s'' (LoopC X elt tg iter sc pos it C code) ((model X.prog X.w).den (LoopC X elt tg iter sc pos it C code)) s'') :
    SegX X s0 H0 sc C code fp pin sb Q (n + 1) s₀ (LoopC X elt tg iter sc pos it C code) ((model X.prog X.w).den (LoopC X elt tg iter sc pos it C code)) s := by
  have T := R.turns
  have eA : (X.A.in1.in1).over (LoopC X elt tg iter sc pos it C code) [] = (gcx X s0 H0 sc C code fp).A := over_loop_gx
  obtain ⟨H, m, I, st, nf, le, w⟩ := h
  have stat : ∀ {σ' : L2.St} {H' : Hp} {s' : Shared}, Inv (gcx X s0 H0 sc C code fp) [pin] σ' H' s' → (∀ b ∈ fp, H' b = none) → ∀ b ∈ fp, FpOk (gcx X s0 H0 sc C code fp) [pin] H' b := fun {σ' H' s'} I' hn b hb =>
    ⟨hn b hb, (I'.ok.exf b hb).1, I'.ok.exfs b hb, .inl hb, fun x c e => (I'.ok.exf b hb).2 x c e, fun p hp' => by
      have e : p = pin := by simpa using hp'
      rw [e]
      exact fun z => hp (z ▸ hb)⟩
  show Seg _ _ _ _ _ _ _ ((compTurn (.GeneratorExp elt [⟨tg, iter, [], 0⟩] sc pos) 0 (.ref it) .none (genv X sc C code)).onRaise (leaving (genv X sc C code))) _ _
  rw [compTurn_gen, Sem.onRaise_eq_wrap]
  refine seg_bind_wrap (wpAny_standAt ?_)
  rcases R.step i m H w with ⟨stop, q⟩ | ⟨go, Nx, hNx, turn⟩
  · refine seg_bind_wrap ?_
    rw [eA]
    refine wpAny_mono (T.done (gcx X s0 H0 sc C code fp) rfl rfl rfl rfl i [pin] s σ0 H (fun _ _ => False) I (stat I nf) st stop) (fun r s1 h1 => ?_) fun e s z => z.elim
    obtain ⟨hr, I1⟩ := h1
    subst hr
    exact seg_end (.ok .next) ⟨rfl, σ0, H, I1, q⟩
  · refine seg_bind_wrap ?_
    rw [eA]
    refine wpAny_mono (T.item (gcx X s0 H0 sc C code fp) rfl rfl rfl rfl i [pin] s σ0 H (fun _ _ => False) I (stat I nf) st go) (fun r s1 h1 => ?_) fun e s z => z.elim
    obtain ⟨u, hr, h1⟩ := h1
    subst hr
    refine seg_bind_wrap ?_
    rw [eA]
    refine wpAny_mono h1 (fun _ s2 h2 => ?_) fun e s z => z.elim
    obtain ⟨x, H2, I2, r2, y2, st2, nf2⟩ := h2
    have I2' := I2.pinned (stat I2 nf2) (T.obj _ _ st2)
    refine seg_bind_wrap ?_
    rw [eA]
    refine wpAny_mono (R.target.run _ s2 σ0 H2 x u _ I2' r2 (turn x H2 y2)) (fun _ s3 h3 => ?_) fun e s z => z.elim
    obtain ⟨σ3, H3, I3, hw3, q3⟩ := h3
    refine seg_bind_wrap ?_
    rw [List.forIn_nil]
    refine wpAny_pure ?_
    simp only [if_true]
    have hy : ∀ v, yieldOut (genv X sc C code) v = yieldValue v := fun v => by
      have e : (genv X sc C code).scope.isCoroutine = false := R.nocor
      simp only [yieldOut, e, Bool.false_eq_true, if_false]
    simp only [hy]
    rw [Sem.bind_eq_wrap', Sem.bind_eq_wrap', Sem.wrap_wrap, Sem.wrap_wrap]
    refine seg_wrap ?_
    rw [eA]
    refine wpAny_mono (R.element.run _ s3 σ3 H3 _ I3 q3) (fun y s4 h4 => ?_) fun e s z => z.elim
    obtain ⟨yv, H4, I4, r4, b, ey, q4⟩ := h4
    subst ey
    have er : y = Value.bool b := r4
    subst er
    have pinK : ∀ b ∈ fp, ∀ o, s2.heap.get? b = some o → s4.heap.get? b = some o ∧ H4 b = none := fun b hb o e =>
      let z := I4.pin (b, o) (List.mem_append_right _ (List.mem_append_right _ (mem_pinsAt hb e)))
      ⟨z.1, z.2.1⟩
    have hl : σ0.length = σ3.length := by rw [← hw3, wipe_length]
    have I4' : Inv (gcx X s0 H0 sc C code fp) [pin] σ0 H4 s4 := (I4.unpinned (pins := [pin])).weak hl fun j v e => by
      rw [← hw3] at e
      exact (wipe_some e).1
    refine seg_at (seg_yield rfl rfl rfl ⟨b, σ0, H4, rfl, I4', fun e => ?_, fun ne s'' hh ho hg => ?_⟩)
    · rw [if_pos e] at q4
      exact q4
    · rw [if_neg ne] at q4
      obtain ⟨m', hm, w'⟩ := hNx H4 q4
      obtain ⟨n', rfl⟩ : ∃ n', n = n' + 1 := ⟨n - 1, by omega⟩
      refine seg_again rfl (again n' s'' rfl (ahead_like (s := s4) ⟨H4, m', I4', T.keep _ _ _ st2 fun b hb o e => (pinK b hb o e).1, fun b hb => ?_, by omega, w'⟩ hh ho hg))
      obtain ⟨o, e, _⟩ := T.obj _ _ st2 b hb
      exact (pinK b hb o e).2
theorem seg_turns (R : Run X s0 H0 sc C code fp tg elt g te J it tn vs σ0 sb W Q) (hp : pin.1 ∉ fp) : ∀ (n i : Nat) (s₀ s : Shared), Ahead X s0 H0 sc C code fp tn σ0 W pin i n s →
    SegX X s0 H0 sc C code fp pin sb Q (n + 1) s₀ (LoopC X elt tg iter sc pos it C code) ((model X.prog X.w).den (LoopC X elt tg iter sc pos it C code)) s := by
  intro n
  induction n with
  | zero => exact fun i s₀ s h => seg_turn R hp 0 i s₀ s h fun n' s'' e _ => by omega
  | succ n ih =>
    refine fun i s₀ s h => seg_turn R hp (n + 1) i s₀ s h fun n' s'' e h' => ?_
    have e' : n' = n := by omega
    rw [e'] at h' ⊢
    exact ih (i + 1) s'' s'' h'
abbrev StartC (X : Cx) (elt tg iter : Expr) (sc : Scope) (pos : Pos) (it C : Addr) (code : Value) : Code := .compStart (.GeneratorExp elt [⟨tg, iter, [], 0⟩] sc pos) 0 (.ref it) .none (genv X sc C code)
theorem seg_begin (R : Run X s0 H0 sc C code fp tg elt g te J it tn vs σ0 sb W Q) (hp : pin.1 ∉ fp) (n : Nat) (s₀ s : Shared) (h : Ahead X s0 H0 sc C code fp tn σ0 W pin 0 n s) :
    SegX X s0 H0 sc C code fp pin sb Q (n + 1) s₀ (StartC X elt tg iter sc pos it C code) ((model X.prog X.w).den (StartC X elt tg iter sc pos it C code)) s := by
  have loop := seg_turns (iter := iter) (pos := pos) R hp n 0 s₀ s h
  obtain ⟨H, m, I, st, _⟩ := h
  show Seg _ _ _ _ _ _ _ ((compStart (.GeneratorExp elt [⟨tg, iter, [], 0⟩] sc pos) 0 (.ref it) .none (genv X sc C code)).onRaise (leaving (genv X sc C code))) _ _
  unfold compStart
  rw [Sem.onRaise_eq_wrap]
  show Seg _ _ _ _ _ _ _ ((ask >>= _).wrap _ _ _ _) _ _
  refine seg_bind_wrap (wpAny_askSetting ?_)
  split
  · exact seg_again rfl loop
  · refine seg_bind_wrap (wpAny_rule ?_)
    show Seg _ _ _ _ _ _ _ ((standAt iter.pos >>= _).wrap _ _ _ _) _ _
    refine seg_bind_wrap (wpAny_standAt (seg_bind_wrap ?_))
    exact R.turns.self _ 0 s _ _ st (seg_again rfl loop)
end
end
end Gx

namespace Gx
open PySem PySem.Spec PyProof.Rows L2 GxR GenW
section
variable {X : Cx} {s0 : Shared} {H0 : Hp} {sc : Scope} {C : Addr} {code : Value} {fp : List Addr} {sb : Bool} {Q : VK} {a : Addr} {go : Obj} {gi : Nat}

abbrev EndX (X : Cx) (s0 : Shared) (H0 : Hp) (sc : Scope) (C : Addr) (code : Value) (fp : List Addr) (pin : Addr × Obj) (sb : Bool) (Q : VK) : GenEnd := fun n s₀ r s₁ => r = .ok .next ∧ Over X s0 H0 sc C code fp pin sb Q n s₀ s₁
/-- the generator sleeps, n turns at most are ahead -/
def Awake (X : Cx) (s0 : Shared) (H0 : Hp) (sc : Scope) (C : Addr) (code : Value) (fp : List Addr) (sb : Bool) (Q : VK) (a : Addr) (go : Obj) (gi n : Nat) (s : Shared) : Prop :=
  (∃ σ1 H1, Inv (gcx X s0 H0 sc C code fp) [(a, go)] σ1 H1 s) ∧
  ∃ gs, s.gens[gi]? = some gs ∧ ∀ s'', s''.heap = s.heap → s''.os = s.os → AllBare s''.gens →
    gs.Goes (model X.prog X.w) X.A.in1.in1 (EndX X s0 H0 sc C code fp (a, go) sb Q) (Out X s0 H0 sc C code fp (a, go) sb Q) n (.send .none) s''
/-- what is wanted of the whole -/
def Fin' (X : Cx) (s0 : Shared) (H0 : Hp) (sc : Scope) (C : Addr) (code : Value) (fp : List Addr) (Q : VK) (a : Addr) (go : Obj) (R : Result → Shared → Prop) : Prop :=
  ∀ b σ1 H1 s1, Inv (gcx X s0 H0 sc C code fp) [(a, go)] σ1 H1 s1 → Q (.bl b) H1 → ∀ s', s'.os = s1.os → AllBare s'.gens → (∀ b o, s1.heap.get? b = some o → s'.heap.get? b = some o) → R (.ok (.ret (.bool b))) s'

theorem pin_at {σ1 : L2.St} {H1 : Hp} {s : Shared} (I : Inv (gcx X s0 H0 sc C code fp) [(a, go)] σ1 H1 s) : s.heap.get? a = some go := (I.pin (a, go) (by simp)).1

/-- one next( ) of it: a truth, or the end -/
theorem next_truth (hh : X.A.handled = none) (hd : X.A.depth < recursionLimit) (hgo : ∀ h : Heap, h.get? a = some go → h.IsGen a gi) {n : Nat} {s : Shared} (h : Awake X s0 H0 sc C code fp sb Q a go gi n s) {P : Option Value → Shared → Prop} {E : Value → Shared → Prop}
    (stop : ∀ σ1 H1 s1 s2, Inv (gcx X s0 H0 sc C code fp) [(a, go)] σ1 H1 s1 → Q (.bl sb) H1 → s2.os = s1.os → AllBare s2.gens → s2.heap = s1.heap → P (some (.bool sb)) s2)
    (more : ∀ n' s2, n = n' + 1 → Awake X s0 H0 sc C code fp sb Q a go gi n' s2 → P (some (.bool (!sb))) s2)
    (done : ∀ σ1 H1 s1 s2, Inv (gcx X s0 H0 sc C code fp) [(a, go)] σ1 H1 s1 → Q (.bl (!sb)) H1 → s2.os = s1.os → AllBare s2.gens → (∀ b o, s1.heap.get? b = some o → s2.heap.get? b = some o) → P none s2) :
    wpAny (model X.prog X.w) X.A.in1 (pyNext (.ref a)) P E s := by
  obtain ⟨⟨σ1, H1, I⟩, gs, hgs, goes⟩ := h
  have hlt : gi < s.gens.size := (Array.getElem?_eq_some_iff.mp hgs).1
  have hrun : AllBare (s.setGen gi .running).gens := allBare_setGen I.bare rfl
  refine wpAny_gsz (n := gi + 1) hlt (wpAny_pyNext_genexpQ (A := X.A.in1) (P := Over X s0 H0 sc C code fp (a, go) sb Q) hh I.nolimit hd (hgo _ (pin_at I)) hgs (goes _ rfl rfl hrun) (fun v s1 gs' hb hv => ?_) fun s1 hp h' hk => ?_)
  · intro hsz
    obtain ⟨b, σ2, H2, ev, I2, hst, hmore⟩ := hv
    subst ev
    have hb2 : AllBare (s1.setGen gi gs').gens := allBare_setGen I2.bare hb
    by_cases e : b = sb
    · rw [e]
      exact stop σ2 H2 s1 _ I2 (hst e) rfl hb2 rfl
    · have e2 : b = !sb := by cases b <;> cases sb <;> simp_all
      have q := hmore e
      cases n with
      | zero => exact (q s1 rfl rfl I2.bare).elim
      | succ n' =>
        rw [e2]
        have hlt2 : gi < s1.gens.size := by
          have z : (s1.setGen gi gs').gens.size = s1.gens.size := setGen_size _ _ _
          omega
        refine more n' _ rfl ⟨⟨σ2, H2, inv_like I2 rfl rfl hb2⟩, gs', setGen_at hlt2, fun s'' h1 h2 h3 => q s'' h1 h2 h3⟩
  · intro hsz
    obtain ⟨σ2, H2, I2, q⟩ := hp
    exact done σ2 H2 s1 _ I2 q rfl (allBare_setGen I2.bare rfl) hk

theorem all_turns (hh : X.A.handled = none) (hd : X.A.depth < recursionLimit) (hgo : ∀ h : Heap, h.get? a = some go → h.IsGen a gi) {R : Result → Shared → Prop} (fin : Fin' X s0 H0 sc C code fp Q a go R) :
    ∀ (n : Nat) (s : Shared), Awake X s0 H0 sc C code fp false Q a go gi n s → codeAny (model X.prog X.w) X.A (.builtin "all.loop" ⟨[.ref a], []⟩) R s := by
  intro n
  induction n with
  | zero =>
    intro s h
    refine codeAny_builtin F.entry_all_loop ?_
    rw [Around.under_plainId F.plain_all_loop _]
    show wpAny _ X.A.in1 (pyNext (.ref a) >>= _) _ _ s
    refine wpAny_bind (next_truth hh hd hgo h (fun σ1 H1 s1 s2 I q e1 e2 e3 => ?_) (fun n' s2 e _ => by omega) fun σ1 H1 s1 s2 I q e1 e2 e3 => ?_)
    · refine wpAny_bind (wpAny_holding (wpAny_truthy_bool ?_))
      refine wpAny_bind (wpAny_letGo ?_)
      simp only [Bool.false_eq_true, if_false]
      exact wpAny_bind (wpAny_rule (wpAny_pure (fin false σ1 H1 s1 I q s2 e1 e2 fun b o e => by rw [e3]; exact e)))
    · exact wpAny_bind (wpAny_rule (wpAny_pure (fin true σ1 H1 s1 I q s2 e1 e2 e3)))
  | succ n ih =>
    intro s h
    refine codeAny_builtin F.entry_all_loop ?_
    rw [Around.under_plainId F.plain_all_loop _]
    show wpAny _ X.A.in1 (pyNext (.ref a) >>= _) _ _ s
    refine wpAny_bind (next_truth hh hd hgo h (fun σ1 H1 s1 s2 I q e1 e2 e3 => ?_) (fun n' s2 e h2 => ?_) fun σ1 H1 s1 s2 I q e1 e2 e3 => ?_)
    · refine wpAny_bind (wpAny_holding (wpAny_truthy_bool ?_))
      refine wpAny_bind (wpAny_letGo ?_)
      simp only [Bool.false_eq_true, if_false]
      exact wpAny_bind (wpAny_rule (wpAny_pure (fin false σ1 H1 s1 I q s2 e1 e2 fun b o e => by rw [e3]; exact e)))
    · refine wpAny_bind (wpAny_holding (wpAny_truthy_bool ?_))
      refine wpAny_bind (wpAny_letGo ?_)
      simp only [Bool.not_false, if_true]
      have en : n' = n := by omega
      rw [en] at h2
      exact wpAny_pure ⟨plainId_quiet F.plain_all_loop _, ih s2 h2⟩
    · exact wpAny_bind (wpAny_rule (wpAny_pure (fin true σ1 H1 s1 I q s2 e1 e2 e3)))
theorem any_turns (hh : X.A.handled = none) (hd : X.A.depth < recursionLimit) (hgo : ∀ h : Heap, h.get? a = some go → h.IsGen a gi) {R : Result → Shared → Prop} (fin : Fin' X s0 H0 sc C code fp Q a go R) :
    ∀ (n : Nat) (s : Shared), Awake X s0 H0 sc C code fp true Q a go gi n s → codeAny (model X.prog X.w) X.A (.builtin "any.loop" ⟨[.ref a], []⟩) R s := by
  intro n
  induction n with
  | zero =>
    intro s h
    refine codeAny_builtin F.entry_any_loop ?_
    rw [Around.under_plainId F.plain_any_loop _]
    show wpAny _ X.A.in1 (pyNext (.ref a) >>= _) _ _ s
    refine wpAny_bind (next_truth hh hd hgo h (fun σ1 H1 s1 s2 I q e1 e2 e3 => ?_) (fun n' s2 e _ => by omega) fun σ1 H1 s1 s2 I q e1 e2 e3 => ?_)
    · refine wpAny_bind (wpAny_holding (wpAny_truthy_bool ?_))
      refine wpAny_bind (wpAny_letGo ?_)
      simp only [if_true]
      exact wpAny_bind (wpAny_rule (wpAny_pure (fin true σ1 H1 s1 I q s2 e1 e2 fun b o e => by rw [e3]; exact e)))
    · exact wpAny_bind (wpAny_rule (wpAny_pure (fin false σ1 H1 s1 I q s2 e1 e2 e3)))
  | succ n ih =>
    intro s h
    refine codeAny_builtin F.entry_any_loop ?_
    rw [Around.under_plainId F.plain_any_loop _]
    show wpAny _ X.A.in1 (pyNext (.ref a) >>= _) _ _ s
    refine wpAny_bind (next_truth hh hd hgo h (fun σ1 H1 s1 s2 I q e1 e2 e3 => ?_) (fun n' s2 e h2 => ?_) fun σ1 H1 s1 s2 I q e1 e2 e3 => ?_)
    · refine wpAny_bind (wpAny_holding (wpAny_truthy_bool ?_))
      refine wpAny_bind (wpAny_letGo ?_)
      simp only [if_true]
      exact wpAny_bind (wpAny_rule (wpAny_pure (fin true σ1 H1 s1 I q s2 e1 e2 fun b o e => by rw [e3]; exact e)))
    · refine wpAny_bind (wpAny_holding (wpAny_truthy_bool ?_))
      refine wpAny_bind (wpAny_letGo ?_)
      simp only [Bool.not_true, Bool.false_eq_true, if_false]
      have en : n' = n := by omega
      rw [en] at h2
      exact wpAny_pure ⟨plainId_quiet F.plain_any_loop _, ih s2 h2⟩
    · exact wpAny_bind (wpAny_rule (wpAny_pure (fin false σ1 H1 s1 I q s2 e1 e2 e3)))
end
end Gx

namespace Gx
open PySem PySem.Spec PyProof.Rows L2 GxR GenW
section
variable {X : Cx} {pins : List (Addr × Obj)} {σ : L2.St} {H : Hp} {s : Shared}

/-- what stands once the generator has been made, ahead of its first turn -/
structure Made (X : Cx) (pins : List (Addr × Obj)) (σ : L2.St) (P : Addr) (elt tg iter : Expr) (sc : Scope) (pos : Pos) (vs : List Nat) (J : It) (H1 H2 : Hp) (it : Addr) (fp : List Addr) (tn : Nat → Heap → Prop) (s0 : Shared) (C : Addr) (code : Value) (a : Addr) (go : Obj) (gi : Nat) (s5 : Shared) : Prop where
  tab : Tabbed P H1 H2
  turns : Turn X.prog X.w X.K tg J fp it tn
  st : tn 0 s5.heap
  i0 : Inv X pins σ H2 s0
  fpo : ∀ b ∈ fp, FpOk X pins H2 b ∧ b < s0.heap.objs.size
  i5 : Inv (gcx X s0 H2 sc C code fp) [(a, go)] (wipe σ vs) H2 s5
  apart : a ∉ fp
  gens : s5.gens[gi]? = some (.fresh (StartC X elt tg iter sc pos it C code))
  isgen : ∀ h : Heap, h.get? a = some go → h.IsGen a gi

theorem gen_made {c P : Addr} {elt tg iter : Expr} {gpos : Pos} {sc : Scope} {own : List (Str × Nat)} {wi : TI} {k : Nat} {Q' : Value → Shared → Prop} {R : It → Hp → Prop}
    (hr : Room k X.A) (TB : TabB X.base X.mg c P) (hcode : X.env.code = .ref c) (ok : BlkOk X.N X.env.scope sc own) (hN : X.N.Nodup) (hcell : ∀ y ∈ sc.names, y.2 ≠ .cell) (hdot : sc.names.lookup (".0" : Str) = some NameKind.local)
    (hco : sc.isCoroutine = false) (hi : PI X tg iter wi) (hs : ∀ v, genFold iter X.env v = pure v) (I : Inv X pins σ H s) (h : wi σ H fun J H1 => TabG H1 P ∧ R J H1)
    (hQ : ∀ J H1 H2 it fp tn s0 C code a go gi s5, R J H1 → Made X pins σ P elt tg iter sc gpos (own.map (·.2)) J H1 H2 it fp tn s0 C code a go gi s5 → Q' (.ref a) s5) :
    wpAny (model X.prog X.w) X.A (eval (.GeneratorExp elt [⟨tg, iter, [], 0⟩] sc gpos) X.env) Q' X.xe s := by
  have hf : ∀ z ∈ sc.names, z.2 = .free → ∃ c, X.env.cells.lookup z.1 = some c := fun z hz e => by
    rcases ok.free z hz e with k | k
    · exact I.ok.has _ (.inl k)
    · exact I.ok.has _ (.inr k)
  refine wpAny_GeneratorExp_make hco (closure_ok hf) hcell hdot ok.kind (by have := hr.dp; omega) ?_ hs
  refine thn (hi.run pins s σ H _ I h) fun xv s1 h1 => thn h1 fun itv s2 h2 => ?_
  obtain ⟨it, fp, tn, J, H1, e, I1, T, st, f1, ⟨ps, hP, htr⟩, q⟩ := h2
  subst e
  refine ⟨I1.nolimit, ?_⟩
  have hPs : s2.heap.get? P = some { cls := .none, data := .fields ps } := I1.hok P _ hP
  have cd : PySem.W.CodeHd s2.heap c P := TB.code.keeps I1.bk
  -- behind the making of the code object
  have cont : ∀ (cv : Value) (h3 : Heap) (tk : Nat) (more : Array Value), (∀ b o, b ≠ P → s2.heap.get? b = some o → h3.get? b = some o) → h3.get? P = some { cls := .none, data := .fields (ps ++ more) } → TriplesOk (ps ++ more).toList →
      wpAny (model X.prog X.w) X.A (builtinsFor X.env.globals X.env.builtins) (fun bi s4 => ∀ h', h'.Ns s4.heap.objs.size (fun y => if y = ".0" then some (.ref it) else none) → Heap.SameBut s4.heap.objs.size (s4.heap.push { cls := .type "frame", data := .dict #[] }) h' →
        Q' (.ref h'.objs.size) { s4 with
          gens := s4.gens.push (.fresh (.compStart (.GeneratorExp elt [⟨tg, iter, [], 0⟩] sc gpos) 0 (.ref it) .none (genEnv sc (cloFrom X.env.cells sc.names []) s4.heap.objs.size cv bi X.env))),
          toks := s4.toks + 1 + 1 + 1,
          heap := h'.push { cls := .type "generator", data := .fields #[.int s4.gens.size 0, .str "<genexpr>" (s4.toks + 1), .str (X.env.qual ++ "<genexpr>") (s4.toks + 1 + 1)] } }) X.xe { s2 with heap := h3, toks := tk } := by
    intro cv h3 tk more k3 hP3 ht3
    have I3 : Inv X pins σ (upd H1 P (.tbl (ps ++ more))) { s2 with heap := h3, toks := tk } := inv_tab (g' := s2.gens) (d' := s2.drawn) (t' := tk) I1 hP k3 hP3 I1.bare
    have tbd : Tabbed P H1 (upd H1 P (.tbl (ps ++ more))) := ⟨⟨ps ++ more, upd_same, ht3⟩, fun b hb => upd_ne hb⟩
    obtain ⟨bm, ob, e1, e2, e3, e4, e5, e6, e7, e8⟩ := TB.bm
    have gNs := I3.mod.glob.keeps I3.bk
    refine wpAny_builtinsFor (m := X.mg) (by rw [I3.ok.glob]; exact gNs) e1 e2 (I3.bk _ _ e5) e6 e7 e8 ?_
    intro h' hns' hsb
    generalize hH2 : upd H1 P (.tbl (ps ++ more)) = H2 at I3 tbd
    have n2 : ∀ b, H1 b = none → H2 b = none := fun b e => by
      have hne : b ≠ P := fun z => by rw [z, hP] at e; cases e
      rw [tbd.2 b hne]
      exact e
    have f3 : ∀ b ∈ fp, FpOk X pins H2 b ∧ b < h3.objs.size := fun b hb => by
      have hne : b ≠ P := fun z => by
        have := (f1 b hb).1
        rw [z, hP] at this
        cases this
      obtain ⟨o, e, _⟩ := T.obj _ _ st b hb
      exact ⟨⟨n2 b (f1 b hb).1, (f1 b hb).2⟩, Heap.lt_size (k3 b o hne e)⟩
    have hsz : h'.objs.size = h3.objs.size + 1 := by
      have z := hsb.1
      rw [Heap.size_push] at z
      exact z
    have kp : ∀ b o, h3.get? b = some o → h'.get? b = some o := fun b o e => hsb.extBut b o (Nat.ne_of_lt (Heap.lt_size e)) (Heap.get?_push_of_some _ e)
    generalize hgo : ({ cls := .type "generator", data := .fields #[.int s2.gens.size 0, .str "<genexpr>" (tk + 1), .str (X.env.qual ++ "<genexpr>") (tk + 1 + 1)] } : Obj) = go
    have ggo : (h'.push go).get? h'.objs.size = some go := Heap.get?_push_size _ (by rw [← hgo]; rfl)
    have kp5 : ∀ b o, h3.get? b = some o → (h'.push go).get? b = some o := fun b o e => Heap.get?_push_of_some _ (kp b o e)
    have bg : AllBare (s2.gens.push (.fresh (.compStart (.GeneratorExp elt [⟨tg, iter, [], 0⟩] sc gpos) 0 (.ref it) .none (genv X sc h3.objs.size cv)))) := I1.bare.push rfl
    have I5 := gx_start (C := h3.objs.size) (code := cv) (d' := s2.drawn) (t' := tk + 1 + 1 + 1) (h' := h'.push go) (s := { s2 with heap := h3, toks := tk }) I3 hr.hd ok hN hcell f3 rfl ⟨_, hns'.push _⟩ kp5 bg
    have na : h3.objs.size ≤ h'.objs.size := by rw [hsz]; exact Nat.le_succ _
    have I5' := I5.pins_of (pins' := [(h'.objs.size, go)]) fun p hp => by
      have ep : p = (h'.objs.size, go) := by simpa using hp
      subst ep
      refine ⟨ggo, I3.hok.fresh na, ?_, fun z => ?_, fun v z => ?_⟩
      · show h'.objs.size ≠ h3.objs.size
        rw [hsz]
        exact Nat.succ_ne_self _
      · rcases List.mem_cons.mp (I3.stkSub _ z) with y | y
        · have l : X.env.locals < h3.objs.size := I3.lt
          rw [← show h'.objs.size = X.env.locals from y] at l
          exact Nat.lt_irrefl _ (Nat.lt_of_lt_of_le l na)
        · exact I3.nofs (a := h'.objs.size) na y
      · rw [← hgo] at z
        cases z
    refine hQ J H1 H2 it fp tn { s2 with heap := h3, toks := tk } h3.objs.size cv h'.objs.size go s2.gens.size _ q ⟨tbd, T, ?_, I3, f3, I5', fun z => ?_, Array.getElem?_push_size .., fun h e => ⟨go, _, _, e, by rw [← hgo], by rw [← hgo], by rw [← hgo]⟩⟩
    · refine T.keep _ _ _ st fun b hb o e => kp5 b o (k3 b o (fun z => ?_) e)
      have := (f1 b hb).1
      rw [z, hP] at this
      cases this
    · exact Nat.lt_irrefl _ (Nat.lt_of_lt_of_le (f3 _ z).2 na)
  cases hf2 : codeAmong gpos ps.toList with
  | none =>
    refine wpAny_genexprCodeX hcode (cd.code hPs htr) (cd.tab hPs) hf2 fun c' h' tk hx hge hlt hco' _ htab' _ => ?_
    obtain ⟨o1, us, f1', tf, fl, tg', inF, tx, tt, op, _, _, _, _, _, _, _, _, _, htr', _⟩ := hco'
    exact cont _ h' tk _ (fun b o hb e => hx b o hb e) htab'.2 htr'
  | some cv =>
    refine wpAny_genexprCode_hit hcode (cd.code hPs htr) hf2 ?_
    exact cont cv s2.heap s2.toks #[] (fun b o _ e => e) (by rw [Array.append_empty]; exact hPs) (by rw [Array.append_empty]; exact htr)

/-- all( ), any( ) of a generator expression: sb is the truth at which it stops -/
def rTruth (P : Addr) (sb : Bool) (g : TG) (te : TE) (vs : List Nat) (σ : L2.St) (Q : VK) (J : It) (H1 : Hp) : Prop := ∀ H2, Tabbed P H1 H2 → ∃ W : Nat → Nat → Hp → Prop, (∃ m, W 0 m H2) ∧
  ∀ i m H, W i m H → (J.stop i H ∧ Q (.bl (!sb)) H) ∨ (J.go i H ∧ ∃ Nx : Hp → Prop, (∀ H', Nx H' → ∃ m', m' < m ∧ W (i + 1) m' H') ∧
    ∀ x H', J.yld i H x H' → g x (wipe σ vs) H' fun σ2 H2 => wipe σ2 vs = wipe σ vs ∧ te σ2 H2 fun y H4 => ∃ b, y = .bl b ∧ if b = sb then Q (.bl sb) H4 else Nx H4)
def tTruthG (P : Addr) (sb : Bool) (wi : TI) (g : TG) (te : TE) (vs : List Nat) : TE := fun σ H Q => wi σ H fun J H1 => TabG H1 P ∧ rTruth P sb g te vs σ Q J H1
/-- how a run of it is told -/
def Told (X : Cx) (pins : List (Addr × Obj)) (σ : L2.St) (sc : Scope) (sb : Bool) (Q : VK) (a : Addr) (s5 : Shared) : Prop :=
  ∀ R : Result → Shared → Prop, (∀ b s', EP X pins σ Q (.bool b) s' → R (.ok (.ret (.bool b))) s') → ∃ s0 H0 C code fp go gi n, Awake X s0 H0 sc C code fp sb Q a go gi n s5 ∧ (∀ h : Heap, h.get? a = some go → h.IsGen a gi) ∧ Fin' X s0 H0 sc C code fp Q a go R
/-- what the generator expression must have; the two names of it that are the program's -/
structure GxOk (X : Cx) (sc : Scope) (own : List (Str × Nat)) (c P : Addr) : Prop where
  tb : TabB X.base X.mg c P
  code : X.env.code = .ref c
  blk : BlkOk X.N X.env.scope sc own
  nd : X.N.Nodup
  nocell : ∀ y ∈ sc.names, y.2 ≠ .cell
  dot : sc.names.lookup (".0" : Str) = some NameKind.local
  nocor : sc.isCoroutine = false

section
variable {c P : Addr} {elt tg iter : Expr} {gpos p pos : Pos} {sc : Scope} {own : List (Str × Nat)} {wi : TI} {g : TG} {te : TE} {k : Nat}
theorem truth_core {sb : Bool} {Q : VK} (hr : Room k X.A) (G : GxOk X sc own c P) (hi : PI X tg iter wi) (hs : ∀ v, genFold iter X.env v = pure v)
    (hg : ∀ (s : Shared) (H : Hp) (C : Addr) (code : Value) (fp : List Addr), PG (gcx X s H sc C code fp) tg g) (he : ∀ (s : Shared) (H : Hp) (C : Addr) (code : Value) (fp : List Addr), PE (gcx X s H sc C code fp) elt te)
    (I : Inv X pins σ H s) (h : tTruthG P sb wi g te (own.map (·.2)) σ H Q) {Q' : Value → Shared → Prop}
    (hQ : ∀ a s5, s5.heap.NoLimit → (∃ gi, s5.heap.IsGen a gi) →
      Told X pins σ sc sb Q a s5 → Q' (.ref a) s5) :
    wpAny (model X.prog X.w) X.A (eval (.GeneratorExp elt [⟨tg, iter, [], 0⟩] sc gpos) X.env) Q' X.xe s := by
  have h' : wi σ H fun J H1 => TabG H1 P ∧ rTruth P sb g te (own.map (·.2)) σ Q J H1 := h
  refine gen_made (own := own)
    hr G.tb G.code G.blk G.nd G.nocell G.dot G.nocor hi hs I h' fun J H1 H2 it fp tn s0 C code a go gi s5 hR M => ?_
  obtain ⟨W, ⟨m, w0⟩, step⟩ := hR H2 M.tab
  have I5 := M.i5
  have n2 : ∀ b ∈ fp, H2 b = none := fun b hb => (M.fpo b hb).1.1
  have RR : Run X s0 H2 sc C code fp tg elt g te J it tn (own.map (·.2)) (wipe σ (own.map (·.2))) sb W Q := ⟨M.turns, hg _ _ _ _ _, he _ _ _ _ _, G.nocor, step⟩
  refine hQ a s5 I5.nolimit ⟨gi, M.isgen _ (pin_at I5)⟩ fun R hRR => ⟨s0, H2, C, code, fp, go, gi, m + 1, ⟨⟨_, _, I5⟩, _, M.gens, fun s'' e1 e2 e3 => ⟨rfl, seg_begin RR M.apart m s'' s'' (ahead_like ⟨H2, m, I5, M.st, n2, Nat.le_refl _, w0⟩ e1 e2 e3)⟩⟩, M.isgen, ?_⟩
  intro b σ1 H3 s1 I1 q s' ho hgs hk
  refine hRR b s' ⟨.bl b, H3, ?_, rfl, q⟩
  have un := I1.base.trans (Un.kept hk)
  exact M.i0.call' (ch := fp) (ho.trans I1.os) un (I1.hok.kept hk) hgs fun b hb => ⟨(M.fpo b hb).1.2.2.2.1, (M.fpo b hb).1.2.1, (M.fpo b hb).1.2.2.2.2.1, (M.fpo b hb).1.2.2.2.2.2⟩

theorem told_all {Q : VK} {a : Addr} {s5 : Shared} {R : Result → Shared → Prop} (hr : Room k X.A) (h : Told X pins σ sc false Q a s5) (hR : ∀ b s', EP X pins σ Q (.bool b) s' → R (.ok (.ret (.bool b))) s') :
    codeAny (model X.prog X.w) X.A (.builtin "all.loop" ⟨[.ref a], []⟩) R s5 := by
  obtain ⟨s0, H0, C, code, fp, go, gi, n, aw, hgo, fin⟩ := h R hR
  exact all_turns hr.hd (by have := hr.dp; omega) hgo fin n s5 aw
theorem told_any {Q : VK} {a : Addr} {s5 : Shared} {R : Result → Shared → Prop} (hr : Room k X.A) (h : Told X pins σ sc true Q a s5) (hR : ∀ b s', EP X pins σ Q (.bool b) s' → R (.ok (.ret (.bool b))) s') :
    codeAny (model X.prog X.w) X.A (.builtin "any.loop" ⟨[.ref a], []⟩) R s5 := by
  obtain ⟨s0, H0, C, code, fp, go, gi, n, aw, hgo, fin⟩ := h R hR
  exact any_turns hr.hd (by have := hr.dp; omega) hgo fin n s5 aw
theorem pe_allG (hr : Room k X.A) (G : GxOk X sc own c P) (hga : Gl X "all") (hma : X.mg "all" = none) (hb : bootBuiltins "all" = some (.builtin "all")) (hi : PI X tg iter wi)
    (hg : ∀ (s : Shared) (H : Hp) (C : Addr) (code : Value) (fp : List Addr), PG (gcx X s H sc C code fp) tg g) (he : ∀ (s : Shared) (H : Hp) (C : Addr) (code : Value) (fp : List Addr), PE (gcx X s H sc C code fp) elt te)
    (hs : ∀ v, genFold iter X.env v = pure v := by intro _; rfl)
    (hst : starEach [.GeneratorExp elt [⟨tg, iter, [], 0⟩] sc gpos] X.env = (false, eval (.GeneratorExp elt [⟨tg, iter, [], 0⟩] sc gpos) X.env) :: starEach [] X.env := by rfl) :
    PE X (.Call (.Name "all" p) [.GeneratorExp elt [⟨tg, iter, [], 0⟩] sc gpos] [] pos) (tTruthG P false wi g te (own.map (·.2))) := by
  refine ⟨fun pins s σ H Q I h => ?_⟩
  refine wpAny_Call_Name_kw (ld_blt I hga hma hb ?_)
  refine PyProof.Rows.callWith_builtin1 ?_ hst (by rfl)
  rw [hst]
  show wpAny _ _ (spliced ((false, eval (.GeneratorExp elt [⟨tg, iter, [], 0⟩] sc gpos) X.env) :: backTo pos (starEach [] X.env))) _ _ s
  refine Calls.spliced_cons (truth_core hr G hi hs hg he I h fun a s5 hl hgn hall => ?_)
  refine Calls.spliced_nil ?_
  refine call_function_tree F.kind_all F.plain_all F.entry_all (F.args_all1 _) ?_
  unfold Builtin.«all»
  refine wpAny_bind (m := oneArg "all" _) (wpAny_pure ?_)
  obtain ⟨gi, hgn⟩ := hgn
  refine wpAny_bind (wpAny_pyIter_gen hgn ?_)
  exact wpAny_pure ⟨plainId_quiet F.plain_all_loop _, told_all hr hall fun b s' h => h⟩
theorem pe_anyG (hr : Room k X.A) (G : GxOk X sc own c P) (hga : Gl X "any") (hma : X.mg "any" = none) (hb : bootBuiltins "any" = some (.builtin "any")) (hi : PI X tg iter wi)
    (hg : ∀ (s : Shared) (H : Hp) (C : Addr) (code : Value) (fp : List Addr), PG (gcx X s H sc C code fp) tg g) (he : ∀ (s : Shared) (H : Hp) (C : Addr) (code : Value) (fp : List Addr), PE (gcx X s H sc C code fp) elt te)
    (hs : ∀ v, genFold iter X.env v = pure v := by intro _; rfl)
    (hst : starEach [.GeneratorExp elt [⟨tg, iter, [], 0⟩] sc gpos] X.env = (false, eval (.GeneratorExp elt [⟨tg, iter, [], 0⟩] sc gpos) X.env) :: starEach [] X.env := by rfl) :
    PE X (.Call (.Name "any" p) [.GeneratorExp elt [⟨tg, iter, [], 0⟩] sc gpos] [] pos) (tTruthG P true wi g te (own.map (·.2))) := by
  refine ⟨fun pins s σ H Q I h => ?_⟩
  refine wpAny_Call_Name_kw (ld_blt I hga hma hb ?_)
  refine PyProof.Rows.callWith_builtin1 ?_ hst (by rfl)
  rw [hst]
  show wpAny _ _ (spliced ((false, eval (.GeneratorExp elt [⟨tg, iter, [], 0⟩] sc gpos) X.env) :: backTo pos (starEach [] X.env))) _ _ s
  refine Calls.spliced_cons (truth_core hr G hi hs hg he I h fun a s5 hl hgn hall => ?_)
  refine Calls.spliced_nil ?_
  refine call_function_tree F.kind_any F.plain_any F.entry_any (F.args_any1 _) ?_
  unfold Builtin.«any»
  refine wpAny_bind (m := oneArg "any" _) (wpAny_pure ?_)
  obtain ⟨gi, hgn⟩ := hgn
  refine wpAny_bind (wpAny_pyIter_gen hgn ?_)
  exact wpAny_pure ⟨plainId_quiet F.plain_any_loop _, told_any hr hall fun b s' h => h⟩
end
end
end Gx

/-! Defs whose callers run no repr; how they are called; repr and sorted of data; the end of a law. -/
namespace Gx
open PySem PySem.Spec PyProof.Rows L2 GxR GenW

/-- a def's promise where no repr is running around -/
structure FnG (P : Program) (w : World) (K : PySem.W.Frag) (mg : Str → Option Value) (base : Heap) (CX : CXT) (k : Nat) (f : Addr) (fd : FuncData) (ps : List Str) (sp : Sp) : Prop where
  many : ∀ vs H Q E, sp vs H Q E → vs.length = ps.length
  runs : ∀ (A : Around) (outer : List Env) (s : Shared) (H : Hp) (args : Args) (us : List Value) (vs : List V) (Q : VK) (E : XK), A.guards = some [] → Room k A →
    Env0 P w K mg base A outer s H → BindsTo s fd args (ps.zip us) → Vals vs us → sp vs H Q E → codeAny (model P w) A (.call (.ref f) args) (CR CX outer P w H s Q E) s
/-- a def of the text, with its code object's value -/
structure DefIs (K : PySem.W.Frag) (x qual : Str) (st : Stmt) (f : Addr) (fd : FuncData) (cdv : Value) : Prop where
  at_ : ∃ (oc : Value) (od : Option Addr) (kV doc pm : Value) (an : Option Addr) (ct : Value) (osl : Array (Option Value)),
    fd = PySem.W.fnOf x qual (defArgs st) (defBody st) (defScope st) .none kV doc pm an cdv ct ∧ K.lookup f = some ⟨oc, od, .func fd, osl⟩
  code : PySem.W.codeIn K cdv qual = true
  keep : PySem.W.keepIn K (.ref f) = true
theorem defIs_mk {K : PySem.W.Frag} {x qual : Str} {st : Stmt} {f : Addr} {oc : Value} {od an : Option Addr} {osl : Array (Option Value)} {kV doc pm cdv ct : Value}
    (l : K.lookup f = some ⟨oc, od, .func (PySem.W.fnOf x qual (defArgs st) (defBody st) (defScope st) .none kV doc pm an cdv ct), osl⟩) (c : PySem.W.codeIn K cdv qual = true) (kp : PySem.W.keepIn K (.ref f) = true) :
    DefIs K x qual st f (PySem.W.fnOf x qual (defArgs st) (defBody st) (defScope st) .none kV doc pm an cdv ct) cdv := ⟨⟨oc, od, kV, doc, pm, an, ct, osl, rfl, l⟩, c, kp⟩

section
variable {P : Program} {w : World} {K : PySem.W.Frag} {mg : Str → Option Value} {base : Heap} {CX : CXT}
theorem FnG.less {j k : Nat} {f : Addr} {fd : FuncData} {ps : List Str} {sp : Sp} (F : FnG P w K mg base CX j f fd ps sp) (h : j ≤ k) : FnG P w K mg base CX k f fd ps sp :=
  ⟨F.many, fun A outer s H args us vs Q E g r => F.runs A outer s H args us vs Q E g (r.mono h)⟩
/-- by its body -/
theorem DefIs.ok {x qual : Str} {st : Stmt} {f : Addr} {fd : FuncData} {cdv : Value} {N ps : List Str} {k : Nat} {sp : Sp} (D : DefIs K x qual st f fd cdv) (S : FnScope N ps (defScope st)) (len : ∀ vs H Q E, sp vs H Q E → vs.length = ps.length)
    (body : ∀ (A : Around) (outer : List Env) (s : Shared) (H : Hp) (vs : List V) (Q : VK) (E : XK), A.guards = some [] → Room k (A.deeper (envOfC qual (defScope st) s.heap.objs.size f cdv)) → sp vs H Q E →
      ∃ t, PSs (cxOf CX P w K mg base N qual (defScope st) f cdv A outer s H E) (defBody st) t ∧ t { nx := fun _ H' => Q .non H', rt := Q } (start N vs) H) : FnG P w K mg base CX (k + 1) f fd ps sp := by
  obtain ⟨oc, od, kV, doc, pm, an, ct, osl, rfl, lk⟩ := D.at_
  refine ⟨len, fun A outer s H args us vs Q E g hr e0 hb r hsp => ?_⟩
  have KX : K.In s.heap := e0.mod.kin.keeps fun b o e => (e0.bs b o e).1
  have inits : ∀ y ∈ ps.zip us, (defScope st).names.lookup y.1 = some .local ∨ ((defScope st).names.lookup y.1 = some .cell ∧ ((cellsFrom (s.heap.objs.size + 1) (defScope st).names []).lookup y.1).isSome = true) := by
    rintro ⟨n, v⟩ hy
    exact (S.par n (List.of_mem_zip hy).1).elim .inl fun q => .inr ⟨q, PySem.W.cellsFrom_some _ _ _ (.inl q)⟩
  refine codeAny_call_function hr.depth (KX _ _ lk) rfl S.co S.gen rfl (PySem.W.codeRec_of KX D.code) (hb _ _ _ _ (wpAny_newFunctionEnv_cells S.kind inits fun env he s1 x => ?_))
  subst he
  refine ⟨(e0.mod.nolimit.keeps fun b o e => (e0.bs b o e).1).keeps x.toInCall.keep, codeAny_func ?_⟩
  obtain ⟨t, ht, hq⟩ := body A outer s H vs Q E g (hr.deeper _) hsp
  refine wpAny_mono (ht.run [] s1 (start N vs) H _ (inv_start S hr.hd e0 (len _ _ _ _ hsp) r x) hq) (fun fl s' hs => ?_) fun e s' hs => hs
  cases fl with
  | ret u =>
    obtain ⟨v, σ', H', J, rv, q⟩ := hs
    exact ⟨v, H', J.os, J.bare, J.base, J.hok, rv, q⟩
  | next =>
    obtain ⟨σ', H', J, q⟩ := hs
    exact ⟨V.non, H', J.os, J.bare, J.base, J.hok, rfl, q⟩
  | brk => exact hs.elim fun _ z => z.elim fun _ y => False.elim y.2
  | cont => exact hs.elim fun _ z => z.elim fun _ y => False.elim y.2
/-- .. that nothing raised leaves -/
theorem DefIs.ok0 {x qual : Str} {st : Stmt} {f : Addr} {fd : FuncData} {cdv : Value} {N ps : List Str} {k : Nat} {sp : Sp} (D : DefIs K x qual st f fd cdv) (S : FnScope N ps (defScope st)) (len : ∀ vs H Q E, sp vs H Q E → vs.length = ps.length)
    (body : ∀ (A : Around) (outer : List Env) (s : Shared) (H : Hp) (vs : List V) (Q : VK) (E : XK), A.guards = some [] → Room k (A.deeper (envOfC qual (defScope st) s.heap.objs.size f cdv)) → sp vs H Q E →
      ∃ t, PSs (cxOf CX P w K mg base N qual (defScope st) f cdv A outer s H E).nox (defBody st) t ∧ t { nx := fun _ H' => Q .non H', rt := Q } (start N vs) H) : FnG P w K mg base CX (k + 1) f fd ps sp :=
  D.ok S len fun A outer s H vs Q E g hr hsp => let ⟨t, ht, q⟩ := body A outer s H vs Q E g hr hsp; ⟨t, ht.nox, q⟩
theorem DefIs.binds {x qual : Str} {st : Stmt} {f : Addr} {fd : FuncData} {cdv : Value} {ps : List Str} (D : DefIs K x qual st f fd cdv)
    (h : ∀ (kV doc pm : Value) (an : Option Addr) (ct : Value) (us : List Value), us.length = ps.length → bindArgs (PySem.W.fnOf x qual (defArgs st) (defBody st) (defScope st) .none kV doc pm an cdv ct) ⟨us, []⟩ = pure (ps.zip us)) : Binds K fd ps [] := by
  obtain ⟨oc, od, kV, doc, pm, an, ct, osl, rfl, lk⟩ := D.at_
  exact .all (h kV doc pm an ct)
end

/-- a def that can be called by its name: its promise, its place, how it binds -/
structure Callee (P : Program) (w : World) (K : PySem.W.Frag) (mg : Str → Option Value) (base : Heap) (CX : CXT) (k : Nat) (x : Str) (ps : List Str) (sp : Sp) : Prop where
  is : ∃ f fd, FnG P w K mg base CX k f fd ps sp ∧ mg x = some (.ref f) ∧ PySem.W.keepIn K (.ref f) = true ∧ Binds K fd ps []

section
variable {X : Cx} {CX : CXT} {k : Nat} {x : Str} {ps : List Str} {sp : Sp} {E : XK} {p pos : Pos} {e : Expr} {es : List Expr} {t : TA}
theorem run_g {pins : List (Addr × Obj)} {σ : L2.St} {H : Hp} {s : Shared} {Q : VK} {us : List Value} {vs : List V} {f : Addr} {fd : FuncData} (F : FnG X.prog X.w X.K X.mg X.base CX k f fd ps sp) (g : X.A.guards = some []) (hr : Room k X.A) (hb : Binds X.K fd ps []) (hx : Passes CX X E)
    (I : Inv X pins σ H s) (r : Vals vs us) (h : sp vs H Q E) : wpAny (model X.prog X.w) X.A (call (.ref f) us) (EP X pins σ Q) X.xe s := by
  have hl : (us ++ ([] : List Value)).length = ps.length := by rw [List.append_nil, ← r.length]; exact F.many _ _ _ _ h
  have hB := hb s us I.kIn hl
  rw [List.append_nil] at hB
  refine wpAny_call (codeAny_mono (F.runs X.A X.stack s H ⟨us, []⟩ us vs Q E g hr I.env0 hB r h) fun q s' hq => ?_)
  match q, hq with
  | .error e, hq => exact hx pins σ H s e s' I hq
  | .ok (.ret u), hq => exact I.after hq
/-- f(e, ..) -/
theorem pe_g (C : Callee X.prog X.w X.K X.mg X.base CX k x ps sp) (g : X.A.guards = some []) (hr : Room k X.A) (hx : Passes CX X E) (ha : PA X (e :: es) t) (hg : Gl X x := by rfl)
    (hdb : (x == ("__debug__" : Str)) = false := by decide) (he : starEach (e :: es) X.env = (false, eval e X.env) :: starEach es X.env := by rfl) (hpl : (backTo pos (starEach es X.env)).any (·.1) = false := by rfl) :
    PE X (.Call (.Name x p) (e :: es) [] pos) (tCall sp [] E t) := by
  obtain ⟨f, fd, F, hm, hk, hb⟩ := C.is
  refine ⟨fun pins s σ H Q I h => wpAny_Call_Name_kw (ld_glob I hg hm (PySem.W.callWith_K (h₀ := X.base) I.ok.mod.kin hk (thn (ha.run pos pins s σ H _ I h) fun us s1 h1 => ?_) he hpl) hdb)⟩
  obtain ⟨vs, H1, I1, r, q⟩ := h1
  rw [List.append_nil] at q
  exact ⟨I1.kIn, run_g F g hr hb hx I1 r q⟩
theorem pe_g0 (C : Callee X.prog X.w X.K X.mg X.base CX k x ps sp) (g : X.A.guards = some []) (hr : Room k X.A) (hx : Passes CX X E) (hg : Gl X x := by rfl) (hdb : (x == ("__debug__" : Str)) = false := by decide) :
    PE X (.Call (.Name x p) [] [] pos) (tCall sp [] E tNil) := by
  obtain ⟨f, fd, F, hm, hk, hb⟩ := C.is
  exact ⟨fun pins s σ H Q I h => wpAny_Call_Name_kw (ld_glob I hg hm (PySem.W.callWith_K0 I.kIn hk (run_g (us := []) F g hr hb hx I .nil h)) hdb)⟩
/-- a statement, a block that is never come to -/
theorem ps_dead {st : Stmt} : PS X st (fun _ _ _ => False) := ⟨fun _ _ _ _ _ _ h => h.elim⟩
theorem pss_dead {st : List Stmt} : PSs X st (fun _ _ _ => False) := ⟨fun _ _ _ _ _ _ h => h.elim⟩
theorem pe_dead {e : Expr} : PE X e (fun _ _ _ => False) := ⟨fun _ _ _ _ _ _ h => h.elim⟩
end
end Gx

namespace Gx
open PySem PySem.Spec PyProof.Rows L2 GxR GenW

/-! ### repr and sorted of data -/
section
variable {X : Cx}
def rRepr (K : PySem.W.Frag) : List V → Hp → VK → Prop := fun xs H Q => ∃ x d, xs = [x] ∧ Dp K H x d ∧ d.showable = true ∧ d.hasDict = false ∧ d.depth ≤ 60 ∧ d.shown.length ≤ sizeLine ∧ Q (.str d.shown) H
theorem cr_repr (g : X.A.guards = some []) (hu : X.A.units + 64 < cLine) : CallR X (.builtin "repr") (rRepr X.K) := by
  intro pins s σ H xs us Q I r h
  obtain ⟨x, d, rfl, hD, hs, hd, hp, hz, q⟩ := h
  obtain ⟨u, rfl, rx⟩ : ∃ u, us = [u] ∧ RelV x u := by
    cases r with
    | cons r1 r2 => cases r2; exact ⟨_, rfl, r1⟩
  obtain ⟨as, rd⟩ := Dp.reads I d x u hD rx
  have refs : ∀ a, x = .ref a → wpAny (model X.prog X.w) X.A (call (.builtin "repr") [u]) (EP X pins σ Q) X.xe s := fun a e => by
    subst e
    have e2 : u = .ref a := rx
    subst e2
    exact repr_of_reads' rd hs (PyData.noDict_hsm hd) g (by omega) (fun _ _ e => e) (fun h' v tk hk => ⟨.str _, H, I.kept hk, ⟨_, rfl⟩, q⟩) hz
  cases hD with
  | non =>
    have e2 : u = .none := rx
    subst e2
    exact PySem.P.repr_of_none ⟨.str _, H, I.tok _, ⟨_, rfl⟩, q⟩
  | bl b =>
    have e2 : u = .bool b := rx
    subst e2
    refine PySem.P.repr_of_bool ⟨.str _, H, I.tok _, ⟨_, rfl⟩, ?_⟩
    cases b <;> exact q
  | int i =>
    obtain ⟨t, rfl⟩ := rx
    exact PySem.P.repr_of_int (of_decide_eq_true hs) ⟨.str _, H, I.tok _, ⟨_, rfl⟩, q⟩
  | str z =>
    obtain ⟨t, rfl⟩ := rx
    exact PySem.P.repr_of_str ⟨.str _, H, I.tok _, ⟨_, rfl⟩, q⟩ hz
  | lst h1 h2 => exact refs _ rfl
  | tup h1 h2 => exact refs _ rfl

/-- sorted of a list of data, all of one shape -/
def rSortG (K : PySem.W.Frag) {β : Type} (val : β → V) (enc : β → PyData) : List V → Hp → VK → Prop := fun vs H Q => ∃ (a : Addr) (bs : List β), vs = [V.ref a] ∧ SqL K H a (bs.map val) ∧
  (∀ b ∈ bs, Dp K H (val b) (enc b) ∧ (enc b).depth ≤ 60) ∧ PySem.W.AllAlike (bs.map enc) ∧ PySem.W.Sortable (bs.map enc) ∧ bs.length ≤ sizeLine ∧
  ∀ p, H p = none → Q (.ref p) (upd H p (.lst ((bs.mergeSort (PySem.W.dataLe false enc)).map val)))
theorem each_vals {β : Type} {val : β → V} : ∀ {bs : List β} {us : List Value}, Vals (bs.map val) us → PySem.W.EachIs (fun u b => RelV (val b) u) us bs
  | [], _, .nil => .nil
  | _ :: _, _, .cons r t => .cons r (each_vals t)
theorem vals_each {β : Type} {val : β → V} : ∀ {bs : List β} {us : List Value}, PySem.W.EachIs (fun u b => RelV (val b) u) us bs → Vals (bs.map val) us
  | _, _, .nil => .nil
  | _, _, .cons r t => .cons r (vals_each t)
theorem each_mem {α β : Type} {R S : α → β → Prop} : ∀ {as : List α} {bs : List β}, PySem.W.EachIs R as bs → (∀ a b, b ∈ bs → R a b → S a b) → PySem.W.EachIs S as bs
  | _, _, .nil, _ => .nil
  | _, _, .cons r t, f => .cons (f _ _ List.mem_cons_self r) (each_mem t fun a b hb => f a b (List.mem_cons_of_mem _ hb))
theorem cr_sortG {β : Type} {val : β → V} {enc : β → PyData} (hu : X.A.units + 64 < cLine) : CallR X (.builtin "sorted") (rSortG X.K val enc) := by
  intro pins s σ H xs us Q I r h
  obtain ⟨a, bs, rfl, hL, hD, hal, hk, hz, q⟩ := h
  obtain ⟨u, rfl, rx⟩ : ∃ u, us = [u] ∧ RelV (.ref a) u := by
    cases r with
    | cons r1 r2 => cases r2; exact ⟨_, rfl, r1⟩
  have e2 : u = .ref a := rx
  subst e2
  obtain ⟨its, rv, pl, hz'⟩ := I.list hL
  have ev := each_vals rv
  have er : PySem.W.EachIs (fun v b => ∃ as, Reads s.heap v (enc b) as) its bs := each_mem ev fun v b hb rb => Dp.reads I (enc b) (val b) v (hD b hb).1 rb
  refine PySem.W.sorted_data pl.isList ev er hal hk hz (fun b hb => by have := (hD b hb).2; omega) fun out ho eo => ?_
  obtain ⟨n, hat⟩ := sortedAll_at s.heap its out.toArray
  have rout : Vals ((bs.mergeSort (PySem.W.dataLe false enc)).map val) out := vals_each eo
  have hlen : ((bs.mergeSort (PySem.W.dataLe false enc)).map val).length ≤ sizeLine := by rw [rout.length, ho]; exact hz
  have hf : H (s.heap.objs.size + 1) = none := I.hok.fresh (Nat.le_succ _)
  exact ⟨.ref (s.heap.objs.size + 1), upd H (s.heap.objs.size + 1) (.lst _), I.laid (t' := s.toks) (fun b o e => sortedAll_old e) (Nat.le_succ _) ⟨hlen, out, n, rout, hat⟩, rfl, q _ hf⟩
end

/-! ### the end of a law -/
section
variable {P : Program} {w : World} {K : PySem.W.Frag} {mg mb : Str → Option Value} {k : Nat} {fa a : Addr} {cs : List (Addr × Addr)} {fd : FuncData} {x : Str} {sp : Sp} {s₁ : Shared} {vs : List Value} {ns : List Int}
abbrev scriptObj (vs : List Value) : Obj := { cls := .type "list", data := .seq vs.toArray }
abbrev tabObj : Obj := { cls := .none, data := .fields #[] }
/-- the law's call from a heap in which the script and the tables alone are told -/
theorem law_from (H : Hp) (hT : ∀ p ∈ cs, H p.2 = some (.tbl #[])) (hall : ∀ b u, H b = some u → (b ∈ cs.map Prod.snd ∧ u = .tbl #[]) ∨ (b = a ∧ K.lookup a = none ∧ u = .frz (scriptObj vs) (.lst (ns.map V.int))))
    (KX : K.In s₁.heap) (hns : s₁.heap.Ns mainGlobals mg) (hb : s₁.heap.Ns builtinsNs mb) (hbb : ∀ x : Str, x ≠ "__name__" → mb x = bootBuiltins x) (hlim : s₁.heap.NoLimit) (hg : s₁.gens = #[])
    (tabs : ∀ p ∈ cs, s₁.heap.get? p.2 = some tabObj ∧ K.lookup p.2 = none ∧ PySem.W.CodeHd s₁.heap p.1 p.2)
    (hbm : ∃ (bm : Addr) (ob : Obj), mg "__builtins__" = some (.ref bm) ∧ bm ≠ builtinsNs ∧ s₁.heap.get? bm = some ob ∧ ob.cls = .type "module" ∧ ob.dict = some builtinsNs ∧ ob.data = .plain)
    (ha : s₁.heap.get? a = some (scriptObj vs)) (rv : Vals (ns.map V.int) vs) (hl : ns.length ≤ sizeLine) (hS : SqL K H a (ns.map V.int)) (hr : Room k callerA)
    (F : ∀ base : Heap, K.In base → base.Ns mainGlobals mg → (∀ p ∈ cs, TabB base mg p.1 p.2) → FnG P w K mg base CX0 k fa fd [x] sp) (hbind : ∀ (s : Shared) (u : Value), BindsTo s fd ⟨[u], []⟩ [(x, u)])
    (hsp : sp [.ref a] H (fun v _ => v = .bl true) E0) :
    codeAny (model P w) callerA (.call (.ref fa) ⟨[.ref a], []⟩) (fun r s' => r = .ok (.ret (.bool true)) ∧ OldK s₁.heap s'.heap ∧ s'.os = s₁.os ∧ AllBare s'.gens) s₁ := by
  have isT : ∀ b ∈ cs.map Prod.snd, s₁.heap.get? b = some tabObj := fun b h => by
    obtain ⟨p, hp, rfl⟩ := List.mem_map.mp h
    exact (tabs p hp).1
  -- what is of another kind is not told of
  have un : ∀ {b : Addr} {o : Obj}, s₁.heap.get? b = some o → o.data ≠ (scriptObj vs).data → o.data ≠ tabObj.data → H b = none := fun {b o} e n1 n2 => by
    cases q : H b with
    | none => rfl
    | some u =>
      rcases hall b u q with ⟨hm, _⟩ | ⟨rfl, _, _⟩
      · rw [isT b hm] at e
        exact (n2 (by rw [← Option.some.inj e])).elim
      · rw [ha] at e
        exact (n1 (by rw [← Option.some.inj e])).elim
  have unD : ∀ {b : Addr} {o : Obj} {es : Array DictEntry} {ep : Nat}, s₁.heap.get? b = some o → o.data = .dict es ep → H b = none := fun e d => un e (fun z => by rw [d] at z; cases z) fun z => by rw [d] at z; cases z
  have nsK : ∀ {b : Addr} {m : Str → Option Value}, s₁.heap.Ns b m → (hidT s₁.heap H).Ns b m := fun ⟨o, es, ep, e, d, r⟩ => ⟨o, es, ep, hidT_get e (unD e d), d, r⟩
  have hKb : K.In (hidT s₁.heap H) := fun b o e => hidT_get (KX b o e) (by
    cases q : H b with
    | none => rfl
    | some u =>
      rcases hall b u q with ⟨hm, _⟩ | ⟨rfl, hk, _⟩
      · obtain ⟨p, hp, rfl⟩ := List.mem_map.mp hm
        rw [(tabs p hp).2.1] at e
        cases e
      · rw [hk] at e
        cases e)
  have hok : HOk P w H s₁.heap := fun b u q => by
    rcases hall b u q with ⟨hm, rfl⟩ | ⟨rfl, _, rfl⟩
    · exact isT b hm
    · exact ⟨ha, by rw [List.length_map]; exact hl, vs, _, rv, ha⟩
  have TB : ∀ p ∈ cs, TabB (hidT s₁.heap H) mg p.1 p.2 := fun p hp => by
    obtain ⟨t1, t2, o, us, file, tf, flags, tg, inF, text, tt, e1, r1, r2, r3, rr⟩ := tabs p hp
    have nMain : mainGlobals ≠ p.2 := fun z => by
      obtain ⟨o, es, ep, e, d, _⟩ := hns
      rw [z, t1] at e
      cases e
      cases d
    refine ⟨⟨o, us, file, tf, flags, tg, inF, text, tt, hidT_get e1 (un e1 (fun z => ?_) fun z => ?_), r1, r2, r3, rr⟩, ?_, nMain⟩
    · rw [r2] at z
      cases z
    · rw [r2] at z
      cases z
      simp at r3
    · obtain ⟨bm, ob, b1, b2, b3, b4, b5, b6⟩ := hbm
      refine ⟨bm, ob, b1, b2, fun z => ?_, fun z => ?_, hidT_get b3 (un b3 (fun z => ?_) fun z => ?_), b4, b5, b6⟩
      · obtain ⟨o, es, ep, e, d, _⟩ := hns
        rw [z, e] at b3
        cases b3
        rw [d] at b6
        cases b6
      · rw [z, t1] at b3
        cases b3
        cases b6
      · rw [b6] at z
        cases z
      · rw [b6] at z
        cases z
  have lim2 : (hidT s₁.heap H).NoLimit := hlim.elim fun mc h => ⟨mc, nsK h.1, h.2⟩
  have e0 : Env0 P w K mg (hidT s₁.heap H) callerA [] s₁ H :=
    { frames := rfl, mod := ⟨hKb, nsK hns, ⟨mb, nsK hb, hbb⟩, lim2⟩, bs := fun b o e => of_hidT e, bsz := Nat.le_of_eq (hidT_size _ _), funs := trivial, frf := fun b hb => absurd (show b ∈ ([] : List Addr) from hb) (by simp), hok := hok, bare := .of_eq hg }
  refine codeAny_mono ((F _ hKb (nsK hns) TB).runs callerA [] s₁ H ⟨[.ref a], []⟩ [.ref a] [.ref a] _ _ rfl hr e0 (hbind s₁ (.ref a)) (.cons rfl .nil) hsp) fun r s' h => ?_
  match r, h with
  | .ok (.ret u), h =>
    obtain ⟨v, H', os, bare, U, hok', ru, ev⟩ := h
    subst ev
    have eu : u = .bool true := ru
    subst eu
    have kept : ∀ b o, b ∉ cs.map Prod.snd → s₁.heap.get? b = some o → s'.heap.get? b = some o := fun b o nb e => by
      cases q : H b with
      | none => exact U.keep b o e q (fun z => absurd (show b ∈ ([] : List Addr) from z) (by simp)) (by simp)
      | some u =>
        rcases hall b u q with ⟨hm, _⟩ | ⟨rfl, _, rfl⟩
        · exact (nb hm).elim
        · obtain ⟨e1, _⟩ := hok b _ q
          obtain ⟨e2, _⟩ := hok' b _ (U.frzs b _ _ q)
          rw [e] at e1
          rw [e1]
          exact e2
    have grown : ∀ p ∈ cs, ∃ more : Array Value, s'.heap.get? p.2 = some { cls := .none, data := .fields more } := fun p hp => by
      obtain ⟨more, z⟩ := U.tbls p.2 #[] (hT p hp)
      exact ⟨_, hok' p.2 _ z⟩
    refine ⟨rfl, ⟨fun b o e => ?_, fun b o e => ?_⟩, os, bare⟩
    · by_cases hm : b ∈ cs.map Prod.snd
      · obtain ⟨p, hp, rfl⟩ := List.mem_map.mp hm
        obtain ⟨more, hmore⟩ := grown p hp
        rw [(tabs p hp).1] at e
        cases e
        exact .inr (.inl ⟨((tabs p hp).2.2.tab (tabs p hp).1).isCodeTable, rfl, #[], more, rfl, by rw [Array.empty_append]; exact hmore⟩)
      · exact .inl (kept b o hm e)
    · by_cases hm : b ∈ cs.map Prod.snd
      · obtain ⟨p, hp, rfl⟩ := List.mem_map.mp hm
        exact (grown p hp).elim fun more h => ⟨_, h⟩
      · exact ⟨o, kept b o hm e⟩
/-- what is known of the law's promise at the heap h behind the top -/
def LawG (l : PySem.W.OpenLaw) (w : World) (K : PySem.W.Frag) (k n : Nat) (x : Str) (mg : Str → Option Value) (fa : Addr) (h : Heap) : Prop :=
  ∃ (fd : FuncData) (cs : List (Addr × Addr)) (sp : Sp), (∀ p ∈ cs, h.get? p.2 = some tabObj ∧ K.lookup p.2 = none ∧ PySem.W.CodeHd h p.1 p.2) ∧ (∀ (s : Shared) (u : Value), BindsTo s fd ⟨[u], []⟩ [(x, u)]) ∧
    (∀ (H : Hp) (a : Addr) (ns : List Int), ns.length ≤ n → (∀ z ∈ ns, Builtin.Int.intBits z ≤ 1048576) → (∀ p ∈ cs, H p.2 = some (.tbl #[])) → SqL K H a (ns.map V.int) → sp [.ref a] H (fun v _ => v = .bl true) E0) ∧
    ∀ base : Heap, K.In base → base.Ns mainGlobals mg → (∀ p ∈ cs, TabB base mg p.1 p.2) → FnG l.prog w K mg base CX0 k fa fd [x] sp
theorem walk_G {l : PySem.W.OpenLaw} {n k : Nat} {q : Program} {loose : List Str} {XP : (Str → Option Value) → Heap → Prop} {YP : World → Heap → Prop} {d : DefRec} {K : Params → PySem.W.Frag} {x : Str}
    (hn : l.most = some n) (hn2 : n ≤ sizeLine) (hdf : d.params.defaults = []) (hr : Room k callerA) (hY : ∀ (w : World) (h : Heap), YP w h → (K w.params).In h)
    (F : ∀ (w : World) (mg : Str → Option Value) (fa : Addr) (h : Heap), YP w h → (K w.params).In h → h.Ns mainGlobals mg → mg d.name = some (.ref fa) → LawG l w (K w.params) k n x mg fa h) :
    PySem.W.WalkO q loose XP YP l.row.toRowW d [] (fun f vs => PySem.call f vs) := by
  refine Att.attach_callB hn hdf fun w s₀ s₁ mg mb fa o pm cd doc a vs ns G Y ho hd hcd hmg hobj hints hlen hbits hg => ?_
  have KX := hY w _ Y
  obtain ⟨fd, cs, sp, hT, hb, hsp, hF⟩ := F w mg fa _ Y KX G.T.g hmg
  have aT : a ∉ cs.map Prod.snd := fun z => by
    obtain ⟨p, hp, e⟩ := List.mem_map.mp z
    have q := (hT p hp).1
    rw [e, hobj] at q
    have z' : Data.seq vs.toArray _ = Data.fields #[] := congrArg Obj.data (Option.some.inj q)
    cases z'
  have rv := vals_ints hints
  cases hk : (K w.params).lookup a with
  | some o2 =>
    have e := KX a o2 hk
    rw [hobj] at e
    cases e
    have sl : SqL (K w.params) (fun b => if b ∈ cs.map Prod.snd then some (.tbl #[]) else none) a (ns.map V.int) :=
      .inr ⟨_, vs.toArray, _, hk, rfl, rfl, rfl, by rw [List.size_toArray, hints.length]; exact Nat.le_trans hlen hn2, by simpa using rv⟩
    have hT' : ∀ p ∈ cs, (fun b => if b ∈ cs.map Prod.snd then some (HO.tbl #[]) else none) p.2 = some (.tbl #[]) := fun p hp => if_pos (List.mem_map.mpr ⟨p, hp, rfl⟩)
    refine law_from _ hT' (fun b u z => ?_) KX G.T.g G.T.b G.T.builtins G.T.nolimit hg hT G.T.bmain hobj rv (Nat.le_trans hlen hn2) sl hr hF hb (hsp _ a ns hlen hbits hT' sl)
    by_cases hm : b ∈ cs.map Prod.snd
    · exact .inl ⟨hm, Option.some.inj (z.symm.trans (if_pos hm))⟩
    · have z' := z.symm.trans (if_neg hm)
      cases z'
  | none =>
    have sl : SqL (K w.params) (fun b => if b = a then some (.frz (scriptObj vs) (.lst (ns.map V.int))) else if b ∈ cs.map Prod.snd then some (.tbl #[]) else none) a (ns.map V.int) := .inl (.inr ⟨scriptObj vs, if_pos rfl⟩)
    have hT' : ∀ p ∈ cs, (fun b => if b = a then some (HO.frz (scriptObj vs) (.lst (ns.map V.int))) else if b ∈ cs.map Prod.snd then some (.tbl #[]) else none) p.2 = some (.tbl #[]) := fun p hp =>
      (if_neg (show ¬ p.2 = a from fun z => aT (by rw [← z]; exact List.mem_map.mpr ⟨p, hp, rfl⟩))).trans (if_pos (List.mem_map.mpr ⟨p, hp, rfl⟩))
    refine law_from _ hT' (fun b u z => ?_) KX G.T.g G.T.b G.T.builtins G.T.nolimit hg hT G.T.bmain hobj rv (Nat.le_trans hlen hn2) sl hr hF hb (hsp _ a ns hlen hbits hT' sl)
    by_cases hm : b = a
    · exact .inr ⟨hm, hk, Option.some.inj (z.symm.trans (if_pos hm))⟩
    · have z1 := z.symm.trans (if_neg hm)
      by_cases hm2 : b ∈ cs.map Prod.snd
      · exact .inl ⟨hm2, Option.some.inj (z1.trans (if_pos hm2))⟩
      · have z' := z1.trans (if_neg hm2)
        cases z'
end
end Gx

/-! set( ) of a list of keys of any kind, fewer than 4,000; len(set( )) of a list of texts -/
namespace Gx
open PySem PySem.Spec PyProof.Rows L2 GxR GenW
/-- the unlike ones, in their order -/
def uq {κ : Type} [DecidableEq κ] : List κ → List κ → List κ
  | acc, [] => acc
  | acc, x :: r => uq (if x ∈ acc then acc else acc ++ [x]) r
theorem uq_append {κ : Type} [DecidableEq κ] : ∀ (l acc : List κ) (x : κ), uq acc (l ++ [x]) = if x ∈ uq acc l then uq acc l else uq acc l ++ [x]
  | [], acc, x => rfl
  | y :: r, acc, x => uq_append r _ x
theorem uq_len {κ : Type} [DecidableEq κ] : ∀ (l acc : List κ), (uq acc l).length ≤ acc.length + l.length
  | [], acc => Nat.le_refl _
  | x :: r, acc => by
    have h := uq_len r (if x ∈ acc then acc else acc ++ [x])
    have e : (if x ∈ acc then acc else acc ++ [x]).length ≤ acc.length + 1 := by split <;> simp
    show (uq _ r).length ≤ acc.length + (r.length + 1)
    omega
theorem uq_mem {κ : Type} [DecidableEq κ] : ∀ (l acc : List κ) (k : κ), k ∈ uq acc l ↔ k ∈ acc ∨ k ∈ l
  | [], acc, k => by simp [uq]
  | x :: r, acc, k => by
    show k ∈ uq (if x ∈ acc then acc else acc ++ [x]) r ↔ _
    rw [uq_mem r]
    by_cases h : x ∈ acc
    · rw [if_pos h]
      constructor
      · rintro (h1 | h1)
        · exact .inl h1
        · exact .inr (List.mem_cons_of_mem _ h1)
      · rintro (h1 | h1)
        · exact .inl h1
        · rcases List.mem_cons.mp h1 with e | h2
          · exact .inl (e ▸ h)
          · exact .inr h2
    · rw [if_neg h]
      simp only [List.mem_append, List.mem_cons, List.not_mem_nil, or_false]
      constructor
      · rintro ((h1 | h1) | h1)
        · exact .inl h1
        · exact .inr (.inl h1)
        · exact .inr (.inr h1)
      · rintro (h1 | h1 | h1)
        · exact .inl (.inl h1)
        · exact .inl (.inr h1)
        · exact .inr h1
theorem uq_nodup {κ : Type} [DecidableEq κ] : ∀ (l acc : List κ), (acc ++ l).Nodup → uq acc l = acc ++ l
  | [], acc, _ => by simp [uq]
  | x :: r, acc, h => by
    have hx : x ∉ acc := fun hm => by
      rw [List.nodup_append] at h
      exact h.2.2 x hm x List.mem_cons_self rfl
    show uq (if x ∈ acc then acc else acc ++ [x]) r = _
    rw [if_neg hx]
    have e : acc ++ x :: r = (acc ++ [x]) ++ r := by simp
    rw [e] at h ⊢
    exact uq_nodup r _ h
theorem uq_short {κ : Type} [DecidableEq κ] : ∀ (l acc : List κ), acc.Nodup → ¬ (acc ++ l).Nodup → (uq acc l).length < acc.length + l.length
  | [], acc, h, h2 => absurd (by simpa using h) h2
  | x :: r, acc, h, h2 => by
    show (uq (if x ∈ acc then acc else acc ++ [x]) r).length < acc.length + (r.length + 1)
    by_cases hx : x ∈ acc
    · rw [if_pos hx]
      have := uq_len r acc
      omega
    · rw [if_neg hx]
      have hn : (acc ++ [x]).Nodup := by
        rw [List.nodup_append]
        refine ⟨h, by simp, fun a ha b hb => ?_⟩
        have e : b = x := by simpa using hb
        rw [e]
        exact fun z => hx (z ▸ ha)
      have e : acc ++ x :: r = (acc ++ [x]) ++ r := by simp
      rw [e] at h2
      have := uq_short r (acc ++ [x]) hn h2
      rw [List.length_append, List.length_singleton] at this
      omega

section
variable {prog : Program} {w : World} {A : Around} {κ : Type} [DecidableEq κ] {knd : PySem.KeyKind prog w κ}
/-- the loop that fills it -/
theorem fill_set {R : Result → Shared → Prop} {it : Addr} {fp wr : List Addr} {G : Array GenState → Array GenState → Prop} {n : Nat} {P : Nat → Value → Prop} {St : Nat → Shared → Prop} (W : WalksS prog w A.in1 it fp wr G n P St) {Z : Addr} (zf : Z ∉ fp)
    (ks : List κ) (hn : ks.length = n) (hv : ∀ (i : Nat) (v : Value), P i v → v.scannable = true ∧ ∃ k, ks[i]? = some k ∧ knd.is k v = true) (hb : n + 1 < scanBound) :
    ∀ (m i : Nat) (s : Shared), n = i + m → St i s → s.heap.SetOf knd Z (fun k => decide (k ∈ ks.take i)) (uq [] (ks.take i)).length →
      (∀ s', Moved (Z :: wr) G s s' → s'.heap.SetOf knd Z (fun k => decide (k ∈ ks)) (uq [] ks).length → R (.ok (.ret .none)) s') →
      codeAny (model prog w) A (.builtin "set.update.loop" ⟨[.ref Z, .ref it], []⟩) R s := by
  have zw : Z ∉ wr := fun z => zf (W.sub _ z)
  have more : ∀ b ∈ wr, b ∈ Z :: wr := fun b hb => List.mem_cons_of_mem _ hb
  have stays : ∀ {s s' : Shared} {T : κ → Bool} {c : Nat}, Moved wr G s s' → s.heap.SetOf knd Z T c → s'.heap.SetOf knd Z T c := fun mv ⟨o, es, ep, tb, ho, r⟩ => ⟨o, es, ep, tb, mv.heap Z _ zw ho, r⟩
  intro m
  induction m with
  | zero =>
    intro i s hi hst hS hR
    have e1 : i = n := by omega
    subst e1
    have e2 : ks.take ks.length = ks := List.take_length
    refine codeAny_builtin PyProof.Rows.F.entry_set_update_loop ?_
    rw [Around.under_plainId PyProof.Rows.F.plain_set_update_loop _]
    show wpAny (model prog w) A.in1 (pyNext (.ref it) >>= _) _ _ s
    refine wpAny_bind (W.done s _ _ hst fun s' mv => ?_)
    show wpAny (model prog w) A.in1 (ret Value.none) _ _ s'
    refine wpAny_pure (hR s' (mv.mono more) ?_)
    have q := stays mv hS
    rw [← hn, e2] at q
    exact q
  | succ m ih =>
    intro i s hi hst hS hR
    have il : i < n := by omega
    refine codeAny_builtin PyProof.Rows.F.entry_set_update_loop ?_
    rw [Around.under_plainId PyProof.Rows.F.plain_set_update_loop _]
    show wpAny (model prog w) A.in1 (pyNext (.ref it) >>= _) _ _ s
    refine wpAny_bind (W.item i s _ _ il hst fun v s' hP hst' mv => ?_)
    obtain ⟨hsc, k, hk, his⟩ := hv i v hP
    have hS' := stays mv hS
    show wpAny (model prog w) A.in1 (holding [v] (setAdd Z v) >>= _) _ _ s'
    refine wpAny_bind (wpAny_holding ?_)
    unfold setAdd
    refine wpAny_holding (wpAny_bind (knd.pyHash his ?_))
    have room : (uq [] (ks.take i)).length + 1 < scanBound := by
      have h1 := uq_len (ks.take i) ([] : List κ)
      have h2 : (ks.take i).length ≤ i := by rw [List.length_take]; omega
      simp only [List.length_nil] at h1
      omega
    refine wpAny_setAddHashed_of (knd := knd) (s := { s' with toks := s'.toks + 1 }) his hsc hS' room fun h' sb hS2 => ?_
    have et : ks.take (i + 1) = ks.take i ++ [k] := by rw [List.take_add_one, hk]; rfl
    have hS3 : h'.SetOf knd Z (fun k => decide (k ∈ ks.take (i + 1))) (uq [] (ks.take (i + 1))).length := by
      have e1 : (fun k' => decide (k' ∈ ks.take i) || decide (k' = k)) = fun k' => decide (k' ∈ ks.take (i + 1)) := by
        funext k'
        rw [et]
        by_cases c1 : k' ∈ ks.take i <;> by_cases c2 : k' = k <;> simp [c1, c2]
      have e2 : (if decide (k ∈ ks.take i) = true then (uq [] (ks.take i)).length else (uq [] (ks.take i)).length + 1) = (uq [] (ks.take (i + 1))).length := by
        rw [et, uq_append]
        by_cases c : k ∈ ks.take i
        · have c2 : k ∈ uq [] (ks.take i) := (uq_mem _ _ _).mpr (.inr c)
          rw [if_pos c2, if_pos (decide_eq_true c)]
        · have c2 : k ∉ uq [] (ks.take i) := fun z => by
            rcases (uq_mem _ _ _).mp z with y | y
            · cases y
            · exact c y
          rw [if_neg c2, if_neg (by simpa using c), List.length_append, List.length_singleton]
      rw [← e1, ← e2]
      exact hS2
    have same : ∀ b o, b ≠ Z → s'.heap.get? b = some o → h'.get? b = some o := fun b o hb e => by rw [sb.2 b hb]; exact e
    refine wpAny_pure ⟨plainId_quiet PyProof.Rows.F.plain_set_update_loop _, ih (i + 1) _ (by omega) (W.frame _ s' _ _ hst' (Nat.le_succ _) fun b hb o e => same b o (fun z => zf (z ▸ hb)) e) hS3 fun s'' mv2 hS4 => ?_⟩
    exact hR s'' (Moved.trans W.gtrans ((mv.mono more).then_heap (Nat.le_succ _) fun b o hb e => same b o (fun z => hb (by rw [z]; exact List.mem_cons_self)) e) mv2) hS4

/-- set(l), l a list of keys -/
theorem set_of_list {E : Value → Shared → Prop} {s : Shared} {l : Addr} {items : Array Value} {ks : List κ} {Q : Value → Shared → Prop} (hh : A.handled = none) (hl : s.heap.IsList l items) (hn : ks.length = items.size)
    (hv : ∀ (i : Nat) (v : Value), items[i]? = some v → v.scannable = true ∧ ∃ k, ks[i]? = some k ∧ knd.is k v = true) (hb : items.size + 1 < scanBound)
    (h : ∀ (h' : Heap) (tk : Nat), h'.SetOf knd s.heap.objs.size (fun k => decide (k ∈ ks)) (uq [] ks).length → (∀ b o, s.heap.get? b = some o → h'.get? b = some o) → Q (.ref s.heap.objs.size) { s with heap := h', toks := tk }) :
    wpAny (model prog w) A (call (.type "set") [.ref l]) Q E s := by
  obtain ⟨c0, tl0, mro0⟩ := PySem.F.called_set.mro
  have made0 := PySem.F.called_set.made; have sub0 := PySem.F.called_set.sub
  have nt0 := PySem.F.called_set.notType; have cc0 := PySem.F.called_set.canCreate
  have tc0 := PySem.F.typeCall_set_1 (.ref l)
  refine wpAny_call (codeAny_of_tree ?_)
  show wpAny (model prog w) _ (callAny (.type "set") _) _ _ _
  refine wpAny_pure ⟨Code.quiet_builtin _ (by decide +kernel), codeAny_builtin PySem.F.entry_type_call ?_⟩
  rw [Around.under_plain (weight_type_call_type "set" [.ref l] []) rfl]
  repeat any_goals first | assumption | wp_step
  refine codeAny_mono (code_set_new_1 (.ref l) (E := E) (Q₁ := fun z t => ∃ led : Bool, z = .ref s.heap.objs.size ∧ t = { s with heap := s.heap.push { cls := .type "set", dict := none, data := .set #[] 0 (.fresh 0 0 led) } }) fun led => ⟨led, rfl, rfl⟩) fun r1 t1 q1 => ?_
  match r1, q1 with
  | .error e, q1 => exact q1
  | .ok (.ret z), q1 =>
    obtain ⟨led, rfl, rfl⟩ := q1
    have gS : (s.heap.push { cls := .type "set", dict := none, data := .set #[] 0 (.fresh 0 0 led) }).get? s.heap.objs.size = some { cls := .type "set", dict := none, data := .set #[] 0 (.fresh 0 0 led) } := Heap.get?_push_size _ rfl
    have tS : Shared.TypeIs { s with heap := s.heap.push { cls := .type "set", dict := none, data := .set #[] 0 (.fresh 0 0 led) } } (.ref s.heap.objs.size) "set" := ⟨_, gS, rfl⟩
    have li := PySem.F.called_set.init.lookup; have bi := PySem.F.called_set.init.bind (.ref s.heap.objs.size)
    repeat any_goals first | assumption | wp_step
    refine codeAny_mono (codeAny_call_builtin (R := wants (fun r t => r = .none ∧ ∃ h' tk, t = { s with heap := h', toks := tk } ∧ h'.SetOf knd s.heap.objs.size (fun k => decide (k ∈ ks)) (uq [] ks).length ∧
        ∀ b o, s.heap.get? b = some o → h'.get? b = some o) E) PySem.F.called_set.init.plain PySem.F.entry_set_init (check_set_init_1 tS ?_)) fun r2 t2 q2 => ?_
    · obtain ⟨ol, gl, cl, nl, dl⟩ := hl
      obtain ⟨oc, od, ot, os⟩ := ol
      simp only at cl dl
      subst cl; subst dl
      have ll : l < s.heap.objs.size := Heap.lt_size gl
      have gl' : (s.heap.push { cls := .type "set", dict := none, data := .set #[] 0 (.fresh 0 0 led) }).get? l = some { cls := .type "list", dict := od, data := .seq items nl, slots := os } := Heap.get?_push_of_some _ gl
      have il : (s.heap.push { cls := .type "set", dict := none, data := .set #[] 0 (.fresh 0 0 led) }).IsList l items := ⟨_, gl', rfl, nl, rfl⟩
      have s1 := PySem.F.sub_list_set; have s2 := PySem.F.sub_list_frozenset
      have nd : (Value.type "list" == Value.type "dict") = false := by decide
      unfold Builtin.«set.__init__» noKeywords Builtin.Frozenset.updateFrom
      generalize hp : pyIter = pI
      wp_walk
      subst hp
      refine wpAny_pyIter_list il (wpAny_bind (wpAny_runValue ?_))
      have h3 : A.in1.in1.in1.handled = none := by simp [hh]
      have ni : l ≠ (s.heap.push { cls := .type "set", dict := none, data := .set #[] 0 (.fresh 0 0 led) }).objs.size := by rw [Heap.size_push]; exact Nat.ne_of_lt (Nat.lt_succ_of_lt ll)
      have zf : s.heap.objs.size ∉ [(s.heap.push { cls := .type "set", dict := none, data := .set #[] 0 (.fresh 0 0 led) }).objs.size, l] := by
        rw [Heap.size_push]; simp only [List.mem_cons, List.mem_singleton, List.not_mem_nil, or_false, not_or]
        exact ⟨Nat.ne_of_lt (Nat.lt_succ_self _), Nat.ne_of_gt ll⟩
      refine fill_set ((Walks.list h3 _ l ni items).toS) zf ks hn hv hb items.size 0 _ (by omega) ⟨⟨_, Heap.get?_push_size _ rfl, rfl, rfl⟩, il.push _⟩ ?_ fun t mv hS => ?_
      · have g2 : ((s.heap.push { cls := .type "set", dict := none, data := .set #[] 0 (.fresh 0 0 led) }).push { cls := .type "list_iterator", data := .fields #[.ref l, .int 0 0] }).get? s.heap.objs.size =
            some { cls := .type "set", dict := none, data := .set #[] 0 (.fresh 0 0 led) } := Heap.get?_push_of_some _ gS
        have q := (PyProof.Rows.setObjOf_fresh (knd := knd) led).setOf g2 (by unfold scanBound; omega)
        have e : (fun k => decide (k ∈ ks.take 0)) = fun _ : κ => false := by funext k; simp
        rw [e]
        exact q
      · obtain ⟨h', g', d', tk', os'⟩ := t
        obtain rfl : g' = s.gens := mv.gens
        obtain rfl : d' = s.drawn := mv.drawn
        obtain rfl : os' = s.os := mv.os
        show wpAny (model prog w) _ _ _ _ _
        refine wpAny_pure ?_
        show wpAny (model prog w) _ (ret Value.none) _ _ _
        refine wpAny_pure ⟨rfl, h', tk', rfl, hS, fun b o e => ?_⟩
        have lb := Heap.lt_size e
        refine mv.heap b o (fun z => ?_) (Heap.get?_push_of_some _ (Heap.get?_push_of_some _ e))
        rcases List.mem_cons.mp z with y | y
        · exact Nat.ne_of_lt lb y
        · rcases List.mem_cons.mp y with y | y
          · rw [Heap.size_push] at y
            exact Nat.ne_of_lt (Nat.lt_succ_of_lt lb) y
          · cases y
    · match r2, q2 with
      | .error e, q2 => exact q2
      | .ok (.ret r), q2 =>
        obtain ⟨rfl, h', tk, rfl, hS, hk⟩ := q2
        repeat any_goals first | assumption | wp_step
        exact h _ _ hS hk
end
end Gx
namespace Gx
open PySem PySem.Spec PyProof.Rows L2 GxR GenW
section
variable {X : Cx}
/-- len(set(xs)) of a list of texts -/
def tLenSetS (K : PySem.W.Frag) (ta : TE) : TE := fun σ H Q => ta σ H fun x H1 => ∃ (l : Addr) (xs : List Str), x = .ref l ∧ SqL K H1 l (xs.map V.str) ∧ xs.length ≤ 4000 ∧ Q (.int ((uq [] xs).length : Nat)) H1
theorem pe_lenSetS {a : Expr} {ta : TE} {p p2 q pos : Pos} (hg : Gl X "len") (hm : X.mg "len" = none) (hg2 : Gl X "set") (hm2 : X.mg "set" = none) (hh : X.A.handled = none) (ha : PE X a ta)
    (na : starEach [a] X.env = (false, eval a X.env) :: starEach [] X.env := by rfl) : PE X (.Call (.Name "len" p) [.Call (.Name "set" p2) [a] [] q] [] pos) (tLenSetS X.K ta) := by
  refine ⟨fun pins s σ H Q I h => Call_ (ld_blt I hg hm boot_len (PyProof.Rows.callWith_builtin1 (PyProof.Rows.args_cons (Call_ (ld_blt I hg2 hm2 boot_set ?_)) rfl) rfl rfl))⟩
  refine PyProof.Rows.callWith_type1 (PyProof.Rows.args_cons (thn (ha.run pins s σ H _ I h) fun v s1 h1 => PyProof.Rows.args_nil ?_) na) na rfl
  obtain ⟨x, H1, I1, r1, l, xs, rfl, hq, hz, q1⟩ := h1
  have e : v = .ref l := r1
  subst e
  obtain ⟨its, rv, pl, _⟩ := I1.list hq
  have hlen : xs.length = its.length := by have := rv.length; rw [List.length_map] at this; exact this
  refine set_of_list (knd := PySem.strKind X.prog X.w) hh pl.isList (ks := xs) (by rw [List.size_toArray]; exact hlen) (fun i v hv => ?_) (by rw [List.size_toArray, ← hlen]; unfold scanBound; omega) fun h' tk hS hk => ?_
  · have hv' : its[i]? = some v := by simpa using hv
    have hi : i < xs.length := by rw [hlen]; exact (List.getElem?_eq_some_iff.mp hv').1
    have e1 : (xs.map V.str)[i]? = some (V.str xs[i]) := by rw [List.getElem?_map, List.getElem?_eq_getElem hi]; rfl
    obtain ⟨u, hu, t, rfl⟩ := rv.get e1
    rw [hv'] at hu
    obtain rfl := Option.some.inj hu
    exact ⟨rfl, xs[i], List.getElem?_eq_getElem hi, PySem.strKind_is _ _ _ _⟩
  · obtain ⟨o, es, ep, t, ho, hex, hd, _, _, _, hf, hn⟩ := hS
    have I2 : Inv X pins σ H1 { s1 with heap := h', toks := tk } := I1.kept hk
    have hle : (uq ([] : List Str) xs).length ≤ 4000 := by have := uq_len xs ([] : List Str); simp only [List.length_nil] at this; omega
    exact PyProof.Rows.args_nil (call_len_set ho hex hd hf (by rw [hn]; omega) ⟨.int _, H1, I2.tok _, ⟨_, by rw [hn]⟩, q1⟩)
end
end Gx

/-! What else the programs want: powers, generator expressions by their scopes, what stays of a heap. -/
namespace Gx
open PySem PySem.Spec PyProof.Rows L2 GxR GenW
theorem bits_le {x : Int} {n : Nat} (h0 : 0 < n) (h : x.natAbs < 2 ^ n) : Builtin.Int.intBits x ≤ n := by
  have l := PySem.Flt.log2_lt_of h0 h
  unfold Builtin.Int.intBits
  split <;> omega
section
variable {X : Cx}
/-- ** of any base, together below 2 ^ 27 bits -/
def CPowX (i j : Int) : Prop := 0 ≤ j ∧ (Builtin.Int.intBits i : Int) * j ≤ 2 ^ 27
theorem op_powX : OpR X (binaryOp .Pow) (rI CPowX fun i j => .int (i ^ j.toNat)) := opI fun _ _ _ _ _ _ _ hc q => pow_int hc.1 hc.2 q
theorem room_gx {k : Nat} {s : Shared} {H : Hp} {sc : Scope} {C : Addr} {code : Value} {fp : List Addr} (r : Room (k + 3) X.A) : Room k (gcx X s H sc C code fp).A := r.in1.in1.deeper _
def gxC (sc : Scope) : Bool := (sc.names.all fun y => match y.2 with | .cell => false | _ => true) && (match sc.names.lookup (".0" : Str) with | some .local => true | _ => false) && !sc.isCoroutine
theorem gx_ok {gsc dsc : Scope} {own : List (Str × Nat)} {c P : Addr} {N : List Str} (tb : TabB X.base X.mg c P) (nd : N.Nodup) (b : blkC N dsc gsc own = true) (h2 : gxC gsc = true)
    (e1 : X.N = N := by rfl) (e2 : X.env.scope = dsc := by rfl) (e3 : X.env.code = .ref c := by rfl) : GxOk X gsc own c P := by
  unfold gxC at h2
  rw [Bool.and_eq_true, Bool.and_eq_true, List.all_eq_true] at h2
  refine ⟨tb, e3, ?_, by rw [e1]; exact nd, fun y hy e => ?_, ?_, ?_⟩
  · rw [e1, e2]
    exact blkOk_by b
  · have := h2.1.1 y hy
    rw [e] at this
    cases this
  · have := h2.1.2
    split at this
    · assumption
    · cases this
  · simpa using h2.2
end

/-! ### what stays -/
/-- all but tables and what stands at ex is as it was; tables may have grown -/
structure Grow (ex : List Addr) (H H' : Hp) : Prop where
  keep : ∀ b o, b ∉ ex → H b = some o → (∀ ps, o ≠ .tbl ps) → H' b = some o
  tabs : ∀ b, TabG H b → TabG H' b
theorem Grow.refl (ex : List Addr) (H : Hp) : Grow ex H H := ⟨fun _ _ _ e _ => e, fun _ t => t⟩
theorem Grow.trans {ex : List Addr} {H H1 H2 : Hp} (a : Grow ex H H1) (b : Grow ex H1 H2) : Grow ex H H2 := ⟨fun c o h e t => b.keep c o h (a.keep c o h e t) t, fun c t => b.tabs c (a.tabs c t)⟩
theorem Grow.mono {ex ex' : List Addr} {H H1 : Hp} (a : Grow ex H H1) (h : ∀ b ∈ ex, b ∈ ex') : Grow ex' H H1 := ⟨fun c o n e t => a.keep c o (fun z => n (h c z)) e t, a.tabs⟩
theorem Grow.any {ex : List Addr} {H H1 : Hp} (a : Grow [] H H1) : Grow ex H H1 := a.mono fun _ z => by cases z
theorem Grow.lst {ex : List Addr} {H H' : Hp} (a : Grow ex H H') {p : Addr} {xs : List V} (n : p ∉ ex) (h : H p = some (.lst xs)) : H' p = some (.lst xs) := a.keep p _ n h fun ps z => by cases z
theorem Grow.tup {ex : List Addr} {H H' : Hp} (a : Grow ex H H') {p : Addr} {xs : List V} (n : p ∉ ex) (h : H p = some (.tup xs)) : H' p = some (.tup xs) := a.keep p _ n h fun ps z => by cases z
theorem Grow.seq {K : PySem.W.Frag} {ex : List Addr} {H H' : Hp} (a : Grow ex H H') {p : Addr} {xs : List V} (n : p ∉ ex) (h : SqL K H p xs) : SqL K H' p xs := by
  rcases h with (h | ⟨o, h⟩) | h
  · exact .inl (.inl (a.lst n h))
  · exact .inl (.inr ⟨o, a.keep p _ n h fun ps z => by cases z⟩)
  · exact .inr h
theorem Grow.seq0 {K : PySem.W.Frag} {H H' : Hp} (a : Grow [] H H') {p : Addr} {xs : List V} (h : SqL K H p xs) : SqL K H' p xs := a.seq (by simp) h
/-- a new object -/
theorem grow_new {ex : List Addr} {H : Hp} {p : Addr} {o : HO} (h : H p = none) : Grow ex H (upd H p o) :=
  ⟨fun b u _ e _ => by rw [upd_ne (ne_of_none e h)]; exact e, fun b ⟨ps, e, t⟩ => ⟨ps, by rw [upd_ne (ne_of_none e h)]; exact e, t⟩⟩
/-- what stands at p, no table, is changed -/
theorem grow_at {ex : List Addr} {H : Hp} {p : Addr} {o u : HO} (h : H p = some u) (hu : ∀ ps, u ≠ .tbl ps) (hp : p ∈ ex) : Grow ex H (upd H p o) :=
  ⟨fun b v n e _ => by rw [upd_ne (show b ≠ p from fun z => n (by rw [z]; exact hp))]; exact e, fun b ⟨ps, e, t⟩ => ⟨ps, by rw [upd_ne (show b ≠ p from fun z => by rw [z, h] at e; exact hu ps (Option.some.inj e))]; exact e, t⟩⟩
theorem grow_tab {ex : List Addr} {P : Addr} {H H' : Hp} (h : TabG H P) (t : Tabbed P H H') : Grow ex H H' :=
  ⟨fun b o _ e no => by
    have n : b ≠ P := fun z => by
      obtain ⟨ps, e2, _⟩ := h
      rw [z, e2] at e
      exact no ps (Option.some.inj e).symm
    rw [t.2 b n]
    exact e, fun b ht => by
    by_cases z : b = P
    · rw [z]
      exact t.1
    · obtain ⟨ps, e, q⟩ := ht
      exact ⟨ps, by rw [t.2 b z]; exact e, q⟩⟩
/-- what was not told of before may be dropped from ex -/
theorem Grow.less {ex : List Addr} {p : Addr} {H H' : Hp} (a : Grow (p :: ex) H H') (h : H p = none) : Grow ex H H' :=
  ⟨fun b o n e t => a.keep b o (fun z => by
    rcases List.mem_cons.mp z with y | y
    · rw [y, h] at e
      cases e
    · exact n y) e t, a.tabs⟩
/-- nothing stood there, or a table did -/
def Fresh (H : Hp) (p : Addr) : Prop := ∀ o, H p = some o → ∃ ps, o = .tbl ps
theorem fresh_none {H : Hp} {p : Addr} (h : H p = none) : Fresh H p := fun o e => by
  rw [h] at e
  cases e
theorem Grow.fresh {ex : List Addr} {H H' : Hp} (a : Grow ex H H') {p : Addr} (n : p ∉ ex) (h : Fresh H' p) : Fresh H p := fun o e => by
  cases o with
  | tbl ps => exact ⟨ps, rfl⟩
  | _ => exact h _ (a.keep p _ n e (fun ps z => by cases z))
theorem Grow.fresh0 {H H' : Hp} (a : Grow [] H H') {p : Addr} (h : H' p = none) : Fresh H p := a.fresh (by simp) (fresh_none h)
theorem Fresh.ne {H : Hp} {p b : Addr} {o : HO} (n : Fresh H p) (h : H b = some o) (ho : ∀ ps, o ≠ .tbl ps) : b ≠ p := fun z => by
  rw [z] at h
  obtain ⟨ps, e⟩ := n o h
  exact ho ps e
/-- what is new may be changed -/
theorem Grow.put {ex : List Addr} {p : Addr} {o u : HO} {H H' : Hp} (a : Grow ex H H') (n : Fresh H p) (h : H' p = some u) (hu : ∀ ps, u ≠ .tbl ps) : Grow ex H (upd H' p o) :=
  ⟨fun b v z e t => by
    rw [upd_ne (n.ne e t)]
    exact a.keep b v z e t, fun b t => by
    obtain ⟨ps, e, q⟩ := a.tabs b t
    exact ⟨ps, by rw [upd_ne (show b ≠ p from fun z => by rw [z, h] at e; exact hu ps (Option.some.inj e))]; exact e, q⟩⟩
theorem Grow.drop {ex : List Addr} {p : Addr} {H H' : Hp} (a : Grow (p :: ex) H H') (n : Fresh H p) : Grow ex H H' :=
  ⟨fun b o nb e t => a.keep b o (fun z => by
    rcases List.mem_cons.mp z with y | y
    · exact n.ne e t y
    · exact nb y) e t, a.tabs⟩
theorem Grow.new {ex : List Addr} {p : Addr} {o : HO} {H H' : Hp} (a : Grow ex H H') (h : H' p = none) : Grow ex H (upd H' p o) := a.trans (grow_new h)
/-! ### data -/
mutual
theorem Dp.grow {K : PySem.W.Frag} {H H' : Hp} (a : Grow [] H H') : ∀ {x : V} {d : PyData}, Dp K H x d → Dp K H' x d
  | _, _, .non => .non
  | _, _, .bl b => .bl b
  | _, _, .int i => .int i
  | _, _, .str x => .str x
  | _, _, .lst h1 h2 => .lst (a.seq0 h1) (DpAll.grow a h2)
  | _, _, .tup h1 h2 => .tup (by
      rcases h1 with (h | ⟨o, h⟩) | h
      · exact .inl (.inl (a.keep _ _ (by simp) h fun ps z => by cases z))
      · exact .inl (.inr ⟨o, a.keep _ _ (by simp) h fun ps z => by cases z⟩)
      · exact .inr h) (DpAll.grow a h2)
theorem DpAll.grow {K : PySem.W.Frag} {H H' : Hp} (a : Grow [] H H') : ∀ {x : List V} {d : List PyData}, DpAll K H x d → DpAll K H' x d
  | _, _, .nil => .nil
  | _, _, .cons h t => .cons (Dp.grow a h) (DpAll.grow a t)
end
theorem dp_strs {K : PySem.W.Frag} {H : Hp} : ∀ xs : List Str, DpAll K H (xs.map V.str) (xs.map PyData.str)
  | [] => .nil
  | x :: r => .cons (.str x) (dp_strs r)
theorem dp_book {K : PySem.W.Frag} {H : Hp} {p : Addr} {xs : List Str} (h : SqL K H p (xs.map V.str)) : Dp K H (.ref p) (.list (xs.map PyData.str)) := .lst h (dp_strs xs)

theorem tyB_str {K : PySem.W.Frag} {H : Hp} {z : Str} {p : String → Prop} : (∃ U, TyB K H (.str z) U ∧ p U) ↔ p "str" := by
  constructor
  · rintro ⟨U, t, h⟩
    cases t
    exact h
  · exact fun h => ⟨_, .str z, h⟩
theorem tyB_int {K : PySem.W.Frag} {H : Hp} {z : Int} {p : String → Prop} : (∃ U, TyB K H (.int z) U ∧ p U) ↔ p "int" := by
  constructor
  · rintro ⟨U, t, h⟩
    cases t
    exact h
  · exact fun h => ⟨_, .int z, h⟩

/-! ### all( ), any( ) over items that are known -/
section
variable {sb : Bool} {g : TG} {te : TE} {vs : List Nat} {σ : L2.St} {Q : VK} {P : Addr} {J : It} {H1 : Hp}
theorem truth_by {items : List V} (Pv : Nat → Hp → Prop) (h0 : ∀ H2, Tabbed P H1 H2 → Pv 0 H2) (yld : ∀ i H x H', Pv i H → J.yld i H x H' → H' = H ∧ items[i]? = some x) (go : ∀ i H, i < items.length → Pv i H → J.go i H)
    (stop : ∀ H, Pv items.length H → J.stop items.length H) (step : ∀ i x H, items[i]? = some x → Pv i H → g x (wipe σ vs) H fun σ2 H2 => wipe σ2 vs = wipe σ vs ∧ te σ2 H2 fun y H4 => ∃ b, y = .bl b ∧ if b = sb then Q (.bl sb) H4 else Pv (i + 1) H4)
    (fin : ∀ H, Pv items.length H → Q (.bl (!sb)) H) : rTruth P sb g te vs σ Q J H1 := by
  refine fun H2 t => ⟨fun i m H => m = items.length - i ∧ i ≤ items.length ∧ Pv i H, ⟨_, rfl, Nat.zero_le _, h0 H2 t⟩, fun i m H hw => ?_⟩
  obtain ⟨rfl, hi, hp⟩ := hw
  by_cases hl : i < items.length
  · refine .inr ⟨go i H hl hp, Pv (i + 1), fun H' h' => ⟨items.length - (i + 1), by omega, rfl, hl, h'⟩, fun x H' hy => ?_⟩
    obtain ⟨rfl, hx⟩ := yld i H x H' hp hy
    exact step i x _ hx hp
  · have e : i = items.length := by omega
    subst e
    exact .inl ⟨stop H hp, fin H hp⟩
theorem truth_list {K : PySem.W.Frag} {a : Addr} {xs : List V} (Pv : Nat → Hp → Prop) (h0 : ∀ H2, Tabbed P H1 H2 → Pv 0 H2) (hl : ∀ i H, Pv i H → SqL K H a xs)
    (step : ∀ i x H, xs[i]? = some x → Pv i H → g x (wipe σ vs) H fun σ2 H2 => wipe σ2 vs = wipe σ vs ∧ te σ2 H2 fun y H4 => ∃ b, y = .bl b ∧ if b = sb then Q (.bl sb) H4 else Pv (i + 1) H4)
    (fin : ∀ H, Pv xs.length H → Q (.bl (!sb)) H) : rTruth P sb g te vs σ Q (Itl K a) H1 :=
  truth_by (items := xs) Pv h0 (fun i H x H' hp hy => ⟨hy.1, hy.2 xs (hl i H hp)⟩) (fun i H hi hp => ⟨xs, xs[i], hl i H hp, List.getElem?_eq_getElem hi⟩) (fun H hp => ⟨xs, hl _ H hp, Nat.le_refl _⟩) step fin
theorem truth_text {z : Str} (Pv : Nat → Hp → Prop) (h0 : ∀ H2, Tabbed P H1 H2 → Pv 0 H2)
    (step : ∀ (i : Nat) (c : Nat) H, z.cps.toList[i]? = some c → Pv i H → g (.str ⟨#[c]⟩) (wipe σ vs) H fun σ2 H2 => wipe σ2 vs = wipe σ vs ∧ te σ2 H2 fun y H4 => ∃ b, y = .bl b ∧ if b = sb then Q (.bl sb) H4 else Pv (i + 1) H4)
    (fin : ∀ H, Pv z.cps.toList.length H → Q (.bl (!sb)) H) : rTruth P sb g te vs σ Q (Its z) H1 := by
  have el : (z.cps.toList.map fun c => V.str ⟨#[c]⟩).length = z.cps.toList.length := by rw [List.length_map]
  refine truth_by (items := z.cps.toList.map fun c => V.str ⟨#[c]⟩) Pv h0 (fun i H x H' hp hy => ?_) (fun i H hi hp => ?_) (fun H hp => ?_) (fun i x H hx hp => ?_) fun H hp => fin H (by rw [← el]; exact hp)
  · obtain ⟨e, c, hc, rfl⟩ := hy
    refine ⟨e, ?_⟩
    rw [List.getElem?_map, Array.getElem?_toList, hc]
    rfl
  · rw [el] at hi
    show i < z.cps.size
    simpa using hi
  · show z.cps.size ≤ _
    rw [el]
    simp
  · rw [List.getElem?_map] at hx
    cases hc : z.cps.toList[i]? with
    | none => rw [hc] at hx; cases hx
    | some c =>
      rw [hc] at hx
      cases hx
      exact step i c H hc hp
end

theorem put_len {κ : Type} [DecidableEq κ] (c : List (κ × V)) (k : κ) (x : V) : (putK c k x).length ≤ c.length + 1 := by
  unfold putK
  split
  · rw [List.length_map]
    omega
  · rw [List.length_append]
    exact Nat.le_refl _
/-! ### readings within a block -/
section
variable {X : Cx}
theorem blk_K {s : Shared} {H : Hp} {sc : Scope} {ce : Env} {fp : List Addr} : (X.blk s H sc ce fp).K = X.K := rfl
theorem gcx_K {s : Shared} {H : Hp} {sc : Scope} {C : Addr} {code : Value} {fp : List Addr} : (gcx X s H sc C code fp).K = X.K := rfl
theorem pe_to {e : Expr} {t t' : TE} (p : PE X e t) (h : t = t' := by first | exact rfl | (simp only [Gx.blk_K, Gx.gcx_K]; exact rfl)) : PE X e t' := h ▸ p
theorem pg_to {e : Expr} {t t' : TG} (p : PG X e t) (h : t = t' := by first | exact rfl | (simp only [Gx.blk_K, Gx.gcx_K]; exact rfl)) : PG X e t' := h ▸ p
theorem pts_to {e : List Expr} {t t' : TT} (p : PTs X e t) (h : t = t' := by first | exact rfl | (simp only [Gx.blk_K, Gx.gcx_K]; exact rfl)) : PTs X e t' := h ▸ p
theorem pi_to {tg e : Expr} {t t' : TI} (p : PI X tg e t) (h : t = t' := by first | exact rfl | (simp only [Gx.blk_K, Gx.gcx_K]; exact rfl)) : PI X tg e t' := h ▸ p
end
/-! ### things that are known, lists that are names -/
theorem _root_.L2.TyB.grow {K : PySem.W.Frag} {H H' : Hp} {x : V} {U : String} (g : Grow [] H H') (t : TyB K H x U) : TyB K H' x U := by
  cases t with
  | non => exact .non
  | bl b => exact .bl b
  | int i => exact .int i
  | str z => exact .str z
  | byt b => exact .byt b
  | lst h => exact .lst (g.seq0 h)
  | @tup p xs h =>
    refine .tup (xs := xs) ?_
    rcases h with (h | ⟨o, h⟩) | h
    · exact .inl (.inl (g.keep _ _ (by simp) h fun ps z => by cases z))
    · exact .inl (.inr ⟨o, g.keep _ _ (by simp) h fun ps z => by cases z⟩)
    · exact .inr h
  | dK h => exact .dK (g.keep _ _ (by simp) h fun ps z => by cases z)
/-- a text of no great length, or of a kind that is told -/
def Known (K : PySem.W.Frag) (H : Hp) (x : V) : Prop := (∃ z : Str, x = .str z ∧ z.length ≤ sizeLine) ∨ ∃ U, U ≠ "str" ∧ TyB K H x U
theorem Known.grow {K : PySem.W.Frag} {H H' : Hp} {x : V} (g : Grow [] H H') : Known K H x → Known K H' x
  | .inl h => .inl h
  | .inr ⟨U, n, t⟩ => .inr ⟨U, n, t.grow g⟩
/-- a text's own -/
def theStr : V → Str
  | .str z => z
  | _ => Str.empty
theorem strs_of {p : V → Bool} (hp : ∀ x, p x = true → ∃ z, x = .str z) : ∀ {xs : List V}, xs.all p = true → xs = (xs.map theStr).map V.str
  | [], _ => rfl
  | x :: r, h => by
    rw [List.all_cons, Bool.and_eq_true] at h
    obtain ⟨z, rfl⟩ := hp x h.1
    show V.str z :: r = V.str z :: (r.map theStr).map V.str
    rw [← strs_of hp h.2]
theorem nodup_str {zs : List Str} : (zs.map V.str).Nodup ↔ zs.Nodup := by
  constructor
  · exact fun h => (List.pairwise_map.mp h).imp fun q e => q (congrArg V.str e)
  · exact fun h => List.pairwise_map.mpr (h.imp fun q e => q (V.str.inj e))
theorem uq_same {κ : Type} [DecidableEq κ] (l : List κ) : decide (((uq [] l).length : Int) = (l.length : Int)) = decide l.Nodup := by
  by_cases h : l.Nodup
  · rw [decide_eq_true h, uq_nodup l [] (by simpa using h)]
    exact decide_eq_true rfl
  · rw [decide_eq_false h]
    have := uq_short l [] List.nodup_nil (by simpa using h)
    simp only [List.length_nil] at this
    exact decide_eq_false (by omega)
end Gx

/-! Dict comprehensions and comprehensions of two clauses over walks; data that no list is in. -/
namespace Gx
open PySem PySem.Spec PyProof.Rows L2 GxR
section
variable {J J1 : It} {n : Nat} {G : Hp → Prop} {Y : Nat → Hp → V → Hp → Prop}
theorem dc_it (w : Walk J n G Y) {g : TG} {tt : TT} {tk tv : TE} {vs : List Nat} {σ : L2.St} {H1 : Hp} {D : Addr} {Qd : Hp → Prop} (Pv : Nat → Hp → Prop) (h0 : Pv 0 (upd H1 D (.dK []))) (hG : ∀ i H, i ≤ n → Pv i H → G H)
    (hs : ∀ i x H H', i < n → Pv i H → Y i H x H' → g x (wipe σ vs) H' fun σ2 H2 => wipe σ2 vs = wipe σ vs ∧ tt σ2 H2 fun b H3 =>
      if b = true then tk σ2 H3 fun y H4 => tv σ2 H4 fun z H5 => ∃ kvs k, y = kV k ∧ H5 D = some (.dK kvs) ∧ kvs.length < sizeLine ∧ Pv (i + 1) (upd H5 D (.dK (putK kvs k z))) else Pv (i + 1) H3) (hd : ∀ H, Pv n H → Qd H) :
    ∃ W : Nat → Nat → Hp → Prop, (∃ m, W 0 m (upd H1 D (.dK []))) ∧ ∀ i m H, W i m H →
      (J.stop i H ∧ Qd H) ∨ (J.go i H ∧ ∃ Nx : Hp → Prop, (∀ H', Nx H' → ∃ m', m' < m ∧ W (i + 1) m' H') ∧ ∀ x H', J.yld i H x H' → g x (wipe σ vs) H' fun σ2 H2 => wipe σ2 vs = wipe σ vs ∧ tt σ2 H2 fun b H3 =>
        if b = true then tk σ2 H3 fun y H4 => tv σ2 H4 fun z H5 => ∃ kvs k, y = kV k ∧ H5 D = some (.dK kvs) ∧ kvs.length < sizeLine ∧ Nx (upd H5 D (.dK (putK kvs k z))) else Nx H3) := by
  refine ⟨fun i m H => m = n - i ∧ i ≤ n ∧ Pv i H, ⟨n, by simp, Nat.zero_le _, h0⟩, ?_⟩
  rintro i m H ⟨rfl, hi, p⟩
  by_cases hlt : i < n
  · exact .inr ⟨w.goes i H hlt (hG i H hi p), Pv (i + 1), fun H' p' => ⟨n - (i + 1), by omega, rfl, hlt, p'⟩, fun x H' y => hs i x H H' hlt p (w.yields i H x H' hlt (hG i H hi p) y)⟩
  · have e : i = n := by omega
    subst e
    exact .inl ⟨w.stops H (hG _ H hi p), hd H p⟩
/-- the loop of the second clause -/
abbrev In1 (D : Addr) (g1 : TG) (tt1 : TT) (te : TE) (vs1 : List Nat) (σ2 : L2.St) (Nx : Hp → Prop) (J1 : It) (H4 : Hp) : Prop := ∃ W1 : Nat → Nat → Hp → Prop, (∃ m, W1 0 m H4) ∧ ∀ j k H, W1 j k H →
  (J1.stop j H ∧ Nx H) ∨ (J1.go j H ∧ ∃ Nx1 : Hp → Prop, (∀ H', Nx1 H' → ∃ k', k' < k ∧ W1 (j + 1) k' H') ∧ ∀ x H', J1.yld j H x H' → g1 x (wipe σ2 vs1) H' fun σ3 H5 => wipe σ3 vs1 = wipe σ2 vs1 ∧ tt1 σ3 H5 fun b H6 =>
    if b = true then te σ3 H6 fun y H7 => ∃ acc, H7 D = some (.lst acc) ∧ acc.length < sizeLine ∧ Nx1 (upd H7 D (.lst (acc ++ [y]))) else Nx1 H6)
theorem lc2_it (w : Walk J n G Y) {g g1 : TG} {tt tt1 : TT} {wi1 : TI} {te : TE} {vs vs1 : List Nat} {σ : L2.St} {H1 : Hp} {D : Addr} {Qd : Hp → Prop} (Pv : Nat → Hp → Prop) (h0 : Pv 0 (upd H1 D (.lst []))) (hG : ∀ i H, i ≤ n → Pv i H → G H)
    (hs : ∀ i x H H', i < n → Pv i H → Y i H x H' → g x (wipe σ vs) H' fun σ2 H2 => wipe σ2 vs = wipe σ vs ∧ tt σ2 H2 fun b H3 =>
      if b = true then wi1 σ2 H3 fun J1 H4 => In1 D g1 tt1 te vs1 σ2 (Pv (i + 1)) J1 H4 else Pv (i + 1) H3) (hd : ∀ H, Pv n H → Qd H) :
    ∃ W : Nat → Nat → Hp → Prop, (∃ m, W 0 m (upd H1 D (.lst []))) ∧ ∀ i m H, W i m H →
      (J.stop i H ∧ Qd H) ∨ (J.go i H ∧ ∃ Nx : Hp → Prop, (∀ H', Nx H' → ∃ m', m' < m ∧ W (i + 1) m' H') ∧ ∀ x H', J.yld i H x H' → g x (wipe σ vs) H' fun σ2 H2 => wipe σ2 vs = wipe σ vs ∧ tt σ2 H2 fun b H3 =>
        if b = true then wi1 σ2 H3 fun J1 H4 => In1 D g1 tt1 te vs1 σ2 Nx J1 H4 else Nx H3) := by
  refine ⟨fun i m H => m = n - i ∧ i ≤ n ∧ Pv i H, ⟨n, by simp, Nat.zero_le _, h0⟩, ?_⟩
  rintro i m H ⟨rfl, hi, p⟩
  by_cases hlt : i < n
  · exact .inr ⟨w.goes i H hlt (hG i H hi p), Pv (i + 1), fun H' p' => ⟨n - (i + 1), by omega, rfl, hlt, p'⟩, fun x H' y => hs i x H H' hlt p (w.yields i H x H' hlt (hG i H hi p) y)⟩
  · have e : i = n := by omega
    subst e
    exact .inl ⟨w.stops H (hG _ H hi p), hd H p⟩
theorem in1_it (w : Walk J1 n G Y) {g1 : TG} {tt1 : TT} {te : TE} {vs1 : List Nat} {σ2 : L2.St} {H4 : Hp} {D : Addr} {Nx : Hp → Prop} (Pw : Nat → Hp → Prop) (h0 : Pw 0 H4) (hG : ∀ i H, i ≤ n → Pw i H → G H)
    (hs : ∀ i x H H', i < n → Pw i H → Y i H x H' → g1 x (wipe σ2 vs1) H' fun σ3 H5 => wipe σ3 vs1 = wipe σ2 vs1 ∧ tt1 σ3 H5 fun b H6 =>
      if b = true then te σ3 H6 fun y H7 => ∃ acc, H7 D = some (.lst acc) ∧ acc.length < sizeLine ∧ Pw (i + 1) (upd H7 D (.lst (acc ++ [y]))) else Pw (i + 1) H6) (hd : ∀ H, Pw n H → Nx H) :
    In1 D g1 tt1 te vs1 σ2 Nx J1 H4 := by
  refine ⟨fun i m H => m = n - i ∧ i ≤ n ∧ Pw i H, ⟨n, by simp, Nat.zero_le _, h0⟩, ?_⟩
  rintro i m H ⟨rfl, hi, p⟩
  by_cases hlt : i < n
  · exact .inr ⟨w.goes i H hlt (hG i H hi p), Pw (i + 1), fun H' p' => ⟨n - (i + 1), by omega, rfl, hlt, p'⟩, fun x H' y => hs i x H H' hlt p (w.yields i H x H' hlt (hG i H hi p) y)⟩
  · have e : i = n := by omega
    subst e
    exact .inl ⟨w.stops H (hG _ H hi p), hd H p⟩
end

theorem yes_if {σ : L2.St} {H : Hp} {A B : Hp → Prop} (h : A H) : tYes σ H fun b H3 => if b = true then A H3 else B H3 := by
  show if true = true then A H else B H
  rw [if_pos rfl]
  exact h
theorem if_yes {A B : Hp → Prop} {H : Hp} (h : A H) : (fun (b : Bool) H3 => if b = true then A H3 else B H3) true H := by
  show if true = true then A H else B H
  rw [if_pos rfl]
  exact h
theorem if_no {A B : Hp → Prop} {H : Hp} (h : B H) : (fun (b : Bool) H3 => if b = true then A H3 else B H3) false H := by
  show if false = true then A H else B H
  rw [if_neg Bool.false_ne_true]
  exact h
theorem tyl {K : PySem.W.Frag} {H : Hp} {p : Addr} {xs : List V} (h : H p = some (.lst xs)) : tyV K "list" (.ref p) H := .inl ⟨rfl, xs, .inl (.inl h)⟩
theorem erase_map {α β} (f : α → β) (l : List α) (i : Nat) : (l.map f).eraseIdx i = (l.eraseIdx i).map f := by
  simp [List.eraseIdx_eq_take_drop_succ, List.map_take, List.map_drop]
theorem erase_perm {α} : ∀ (l : List α) (i : Nat) (h : i < l.length), (l[i] :: l.eraseIdx i).Perm l
  | x :: r, 0, _ => .refl _
  | x :: r, i + 1, h => (List.Perm.swap x _ _).trans ((erase_perm r i (Nat.lt_of_succ_lt_succ h)).cons x)
theorem cut_lo (xs : List V) (k : Nat) : cutV xs (some (k : Int)) none = xs.drop k := by
  unfold cutV
  rw [HT.sIx_none, HT.sIx_nat]
  by_cases h : k ≤ xs.length
  · rw [Nat.min_eq_left h]
    exact List.take_of_length_le (by rw [List.length_drop]; exact Nat.le_refl _)
  · rw [Nat.min_eq_right (by omega), Nat.sub_self, List.take_zero, List.drop_of_length_le (by omega)]
theorem cut_hi (xs : List V) (k : Nat) : cutV xs none (some (k : Int)) = xs.take k := by
  unfold cutV
  rw [HT.sIx_none, HT.sIx_nat, List.drop_zero, Nat.sub_zero]
  by_cases h : k ≤ xs.length
  · rw [Nat.min_eq_left h]
  · rw [Nat.min_eq_right (by omega), List.take_length, List.take_of_length_le (by omega)]
theorem swap_perm {α : Type} (xs : List α) (a : Nat) (h : a + 1 < xs.length) : (xs.take a ++ [xs[a + 1], xs[a]] ++ xs.drop (a + 2)).Perm xs := by
  have e : xs = xs.take a ++ [xs[a], xs[a + 1]] ++ xs.drop (a + 2) := by
    have h1 : xs.drop a = xs[a] :: xs[a + 1] :: xs.drop (a + 2) := by rw [List.drop_eq_getElem_cons (by omega), List.drop_eq_getElem_cons h]
    conv => lhs; rw [← List.take_append_drop a xs, h1]
    simp
  conv => rhs; rw [e]
  exact List.Perm.append_right _ (List.Perm.append_left _ (List.Perm.swap _ _ _))
theorem turn_perm {α : Type} (xs : List α) (a : Nat) : (xs.drop a ++ xs.take a).Perm xs := List.perm_append_comm.trans (by rw [List.take_append_drop])
theorem cut_from (xs : List V) (k : Nat) : cutV xs (some ((k : Int) + 1)) none = xs.drop (k + 1) := by
  unfold cutV
  have e : ((k : Int) + 1) = ((k + 1 : Nat) : Int) := by omega
  rw [e, HT.sIx_none, HT.sIx_nat]
  by_cases h : k + 1 ≤ xs.length
  · rw [Nat.min_eq_left h]
    exact List.take_of_length_le (by rw [List.length_drop]; exact Nat.le_refl _)
  · rw [Nat.min_eq_right (by omega), Nat.sub_self, List.take_zero, List.drop_of_length_le (by omega)]
/-- a cut: what holds behind the statement, and from there the rest -/
def tCut (I : L2.St → Hp → Prop) (t u : TS) : TS := fun D σ H => t { D with nx := I } σ H ∧ ∀ σ' H', I σ' H' → u D σ' H'
theorem pss_cut {X : Cx} {st : Stmt} {rest : List Stmt} {t u : TS} (I : L2.St → Hp → Prop) (h1 : PS X st t) (h2 : PSs X rest u) : PSs X (st :: rest) (tCut I t u) := by
  refine ⟨fun pins s σ H D J h => ?_⟩
  refine wpAny_execs_cons (thn (h1.run pins s σ H { D with nx := I } J h.1) fun f s1 q => ?_)
  cases f with
  | next =>
    obtain ⟨σ', H', I', q⟩ := q
    exact h2.run pins s1 σ' H' D I' (h.2 σ' H' q)
  | ret v => exact q
  | brk => exact q
  | cont => exact q
theorem valV_none {κ : Type} [DecidableEq κ] {k : κ} : ∀ {kvs : List (κ × V)}, k ∉ kvs.map Prod.fst → valV kvs k = none
  | [], _ => rfl
  | p :: r, h => by
    rw [valV_neg fun e => h (by rw [← e]; exact List.mem_cons_self)]
    exact valV_none fun z => h (List.mem_cons_of_mem _ z)
theorem valV_some {κ : Type} [DecidableEq κ] {k : κ} {v : V} : ∀ {kvs : List (κ × V)} {j : Nat}, (kvs.map Prod.fst).Nodup → kvs[j]? = some (k, v) → valV kvs k = some v
  | p :: r, 0, _, e => by
    cases e
    exact valV_pos rfl
  | p :: r, j + 1, nd, e => by
    obtain ⟨h1, h2⟩ := List.nodup_cons.mp nd
    have hk : k ∈ r.map Prod.fst := List.mem_map.mpr ⟨(k, v), List.mem_of_getElem? (i := j) e, rfl⟩
    rw [valV_neg fun q => h1 (by rw [q]; exact hk)]
    exact valV_some (j := j) h2 e
/-! ### data that no list is in -/
mutual
inductive DpT (K : PySem.W.Frag) (H : Hp) : V → PyData → Prop
  | non : DpT K H .non .none
  | bl (b : Bool) : DpT K H (.bl b) (.bool b)
  | int (i : Int) : DpT K H (.int i) (.int i)
  | str (z : Str) : DpT K H (.str z) (.str z)
  | tup {a : Addr} {xs : List V} {ds : List PyData} : H a = some (.tup xs) → DpTs K H xs ds → DpT K H (.ref a) (.tuple ds)
inductive DpTs (K : PySem.W.Frag) (H : Hp) : List V → List PyData → Prop
  | nil : DpTs K H [] []
  | cons {x : V} {d : PyData} {xs : List V} {ds : List PyData} : DpT K H x d → DpTs K H xs ds → DpTs K H (x :: xs) (d :: ds)
end
mutual
theorem DpT.dp {K : PySem.W.Frag} {H : Hp} : ∀ {x : V} {d : PyData}, DpT K H x d → Dp K H x d
  | _, _, .non => .non
  | _, _, .bl b => .bl b
  | _, _, .int i => .int i
  | _, _, .str z => .str z
  | _, _, .tup h t => .tup (.inl (.inl h)) (DpTs.dp t)
theorem DpTs.dp {K : PySem.W.Frag} {H : Hp} : ∀ {x : List V} {d : List PyData}, DpTs K H x d → DpAll K H x d
  | _, _, .nil => .nil
  | _, _, .cons h t => .cons (DpT.dp h) (DpTs.dp t)
end
/-- where only lists (or nothing) stood, they stay -/
def Lists (ex : List Addr) (H : Hp) : Prop := ∀ b ∈ ex, ∀ xs, H b ≠ some (.tup xs)
theorem lists_none (H : Hp) : Lists [] H := fun b h => by cases h
theorem lists_one {H : Hp} {a : Addr} {xs : List V} (h : H a = some (.lst xs)) : Lists [a] H := fun b hb ys e => by
  rw [List.mem_singleton.mp hb, h] at e
  cases e
mutual
theorem DpT.grow {K : PySem.W.Frag} {ex : List Addr} {H H' : Hp} (a : Grow ex H H') (l : Lists ex H) : ∀ {x : V} {d : PyData}, DpT K H x d → DpT K H' x d
  | _, _, .non => .non
  | _, _, .bl b => .bl b
  | _, _, .int i => .int i
  | _, _, .str z => .str z
  | _, _, .tup (a := p) (xs := xs) h t => .tup (a.keep p _ (fun z => l p z xs h) h fun ps z => by cases z) (DpTs.grow a l t)
theorem DpTs.grow {K : PySem.W.Frag} {ex : List Addr} {H H' : Hp} (a : Grow ex H H') (l : Lists ex H) : ∀ {x : List V} {d : List PyData}, DpTs K H x d → DpTs K H' x d
  | _, _, .nil => .nil
  | _, _, .cons h t => .cons (DpT.grow a l h) (DpTs.grow a l t)
end
theorem dpT_str {K : PySem.W.Frag} {H : Hp} (z : Str) : DpT K H (.str z) (.str z) := .str z
theorem dpT_int {K : PySem.W.Frag} {H : Hp} (z : Int) : DpT K H (.int z) (.int z) := .int z
theorem dpT_strs {K : PySem.W.Frag} {H : Hp} : ∀ xs : List Str, DpTs K H (xs.map V.str) (xs.map PyData.str)
  | [] => .nil
  | x :: r => .cons (dpT_str x) (dpT_strs r)
theorem DpTs.snoc {K : PySem.W.Frag} {H : Hp} : ∀ {xs : List V} {ds : List PyData} {x : V} {d : PyData}, DpTs K H xs ds → DpT K H x d → DpTs K H (xs ++ [x]) (ds ++ [d])
  | _, _, _, _, .nil, q => .cons q .nil
  | _, _, _, _, .cons h t, q => .cons h (t.snoc q)
theorem DpTs.app {K : PySem.W.Frag} {H : Hp} : ∀ {xs ys : List V} {ds es : List PyData}, DpTs K H xs ds → DpTs K H ys es → DpTs K H (xs ++ ys) (ds ++ es)
  | _, _, _, _, .nil, q => q
  | _, _, _, _, .cons h t, q => .cons h (t.app q)
theorem DpTs.get {K : PySem.W.Frag} {H : Hp} : ∀ {xs : List V} {ds : List PyData} {i : Nat} {x : V}, DpTs K H xs ds → xs[i]? = some x → ∃ d, ds[i]? = some d ∧ DpT K H x d
  | _, _, 0, _, .cons h _, e => ⟨_, rfl, by cases e; exact h⟩
  | _, _, _ + 1, _, .cons _ t, e => t.get e
theorem DpTs.zip {K : PySem.W.Frag} {H : Hp} : ∀ {xs : List V} {ds : List PyData}, DpTs K H xs ds → ∀ b ∈ xs.zip ds, DpT K H b.1 b.2
  | _, _, .nil, b, hb => by cases hb
  | _, _, .cons h t, b, hb => by
    rcases List.mem_cons.mp hb with rfl | hb
    · exact h
    · exact t.zip b hb
theorem dpTs_of {K : PySem.W.Frag} {H : Hp} : ∀ {bs : List (V × PyData)}, (∀ b ∈ bs, DpT K H b.1 b.2) → DpTs K H (bs.map Prod.fst) (bs.map Prod.snd)
  | [], _ => .nil
  | b :: r, h => .cons (h b List.mem_cons_self) (dpTs_of fun c hc => h c (List.mem_cons_of_mem _ hc))
theorem DpTs.length {K : PySem.W.Frag} {H : Hp} : ∀ {xs : List V} {ds : List PyData}, DpTs K H xs ds → xs.length = ds.length
  | _, _, .nil => rfl
  | _, _, .cons _ t => congrArg (· + 1) t.length
/-- a list of such data -/
def LstT (K : PySem.W.Frag) (H : Hp) (D : Addr) (ds : List PyData) : Prop := ∃ xs, H D = some (.lst xs) ∧ DpTs K H xs ds
theorem LstT.dp {K : PySem.W.Frag} {H : Hp} {D : Addr} {ds : List PyData} (h : LstT K H D ds) : Dp K H (.ref D) (.list ds) := by
  obtain ⟨xs, h1, h2⟩ := h
  exact .lst (.inl (.inl h1)) h2.dp
theorem LstT.grow {K : PySem.W.Frag} {ex : List Addr} {H H' : Hp} {D : Addr} {ds : List PyData} (h : LstT K H D ds) (a : Grow ex H H') (l : Lists ex H) (n : D ∉ ex) : LstT K H' D ds := by
  obtain ⟨xs, h1, h2⟩ := h
  exact ⟨xs, a.lst n h1, h2.grow a l⟩
/-- one more at the end -/
theorem LstT.push {K : PySem.W.Frag} {H H' : Hp} {D : Addr} {ds : List PyData} {x : V} {d : PyData} (h : LstT K H D ds) (g : Grow [] H H') (q : DpT K H' x d) :
    ∃ acc, H' D = some (.lst acc) ∧ acc.length = ds.length ∧ LstT K (upd H' D (.lst (acc ++ [x]))) D (ds ++ [d]) := by
  obtain ⟨xs, h1, h2⟩ := h
  have e := g.lst (p := D) (by simp) h1
  have gr : Grow [D] H' (upd H' D (.lst (xs ++ [x]))) := grow_at e (fun ps z => by cases z) (by simp)
  exact ⟨xs, e, h2.length, _, upd_same, ((h2.grow g (lists_none H)).snoc q).grow gr (lists_one e)⟩
/-- the items of another such list behind them -/
theorem LstT.ext {K : PySem.W.Frag} {H : Hp} {D F : Addr} {ds es : List PyData} (h : LstT K H D ds) (k : LstT K H F es) :
    ∃ xs zs, H D = some (.lst xs) ∧ H F = some (.lst zs) ∧ xs.length = ds.length ∧ zs.length = es.length ∧ LstT K (upd H D (.lst (xs ++ zs))) D (ds ++ es) := by
  obtain ⟨xs, h1, h2⟩ := h
  obtain ⟨zs, k1, k2⟩ := k
  have gr : Grow [D] H (upd H D (.lst (xs ++ zs))) := grow_at h1 (fun ps z => by cases z) (by simp)
  exact ⟨xs, zs, h1, k1, h2.length, k2.length, _, upd_same, (h2.app k2).grow gr (lists_one h1)⟩
/-- list.index of a text that is in -/
theorem index_str {K : PySem.W.Frag} {H : Hp} {m : Addr} {ws : List Str} {b : Str} {Q : VK} (h : SqL K H m (ws.map V.str)) (hb : b ∈ ws) (q : Q (.int (ws.idxOf b : Nat)) H) : rIndex K (.ref m) [.str b] H Q := by
  have h1 := List.idxOf_lt_length_of_mem hb
  refine ⟨m, ws.map V.str, .str b, ws.idxOf b, .str b, rfl, rfl, h, rfl, ?_, ?_, by simp [eqV], fun j z' hj hz => ?_, q⟩
  · rw [List.all_map, List.all_eq_true]
    exact fun x _ => rfl
  · rw [List.getElem?_map, List.getElem?_eq_getElem h1, List.getElem_idxOf h1]
    rfl
  · rw [List.getElem?_map] at hz
    cases hw : ws[j]? with
    | none => rw [hw] at hz; cases hz
    | some z =>
      rw [hw] at hz
      cases hz
      have : z ≠ b := fun e => by
        subst e
        have h2 := List.not_of_lt_findIdx (p := (· == z)) (xs := ws) hj
        obtain ⟨h3, h4⟩ := List.getElem?_eq_some_iff.mp hw
        rw [h4] at h2
        simp at h2
      simp [eqV, this]
end Gx

/-! Sorted rows of data: what is a rearrangement of another sorts alike. -/
namespace Gx
open PySem PySem.Spec PyProof.Rows L2 GxR
open PySem.W in
theorem sort_same {β : Type} {enc : β → PyData} {xs ys : List β} (p : xs.Perm ys) (inj : ∀ a b, keyToks (enc a) = keyToks (enc b) → a = b) : xs.mergeSort (dataLe false enc) = ys.mergeSort (dataLe false enc) := by
  have tot := sortLe_total (listOrd itemOrd) false fun b => keyToks (enc b)
  refine List.Perm.eq_of_pairwise (le := fun a b => dataLe false enc a b = true) (fun a b _ _ h h' => ?_) (sort_pairwise tot xs) (sort_pairwise tot ys) ((List.mergeSort_perm xs _).trans (p.trans (List.mergeSort_perm ys _).symm))
  have h1 : (listOrd itemOrd).blt (keyToks (enc b)) (keyToks (enc a)) = false := by simpa [dataLe, sortLe] using h
  have h2 : (listOrd itemOrd).blt (keyToks (enc a)) (keyToks (enc b)) = false := by simpa [dataLe, sortLe] using h'
  exact inj a b ((listOrd itemOrd).total _ _ h2 h1)
theorem str_cps {x y : Str} (h : x.cps.toList = y.cps.toList) : x = y := by
  cases x; cases y
  congr 1
  exact Array.ext' h
theorem toks_str {a b : Str} (h : PySem.W.keyToks (.str a) = PySem.W.keyToks (.str b)) : a = b := by
  simp only [PySem.W.keyToks] at h
  exact str_cps (by simpa using h)
/-- a pair of texts -/
def encP (p : Str × Str) : PyData := .tuple [.str p.1, .str p.2]
theorem toks_pair {a b : Str × Str} (h : PySem.W.keyToks (encP a) = PySem.W.keyToks (encP b)) : a = b := by
  unfold encP at h
  simp only [PySem.W.keyToks, PySem.W.keyToksAll] at h
  simp at h
  exact Prod.ext (by have := h.1; exact str_cps (by simpa using this)) (by have := h.2; exact str_cps (by simpa using this))
theorem alike_strs (zs : List Str) : PySem.W.AllAlike (zs.map PyData.str) := PySem.W.AllAlike.of fun b b' => by simp [PySem.W.alike]
theorem sortable_strs (zs : List Str) : PySem.W.Sortable (zs.map PyData.str) := PySem.W.Sortable.others (enc := PyData.str) fun b => ⟨(nomatch ·), fun xs => (nomatch ·)⟩
theorem alike_pairs (ps : List (Str × Str)) : PySem.W.AllAlike (ps.map encP) := PySem.W.AllAlike.of fun b b' => by simp [encP, PySem.W.alike, PySem.W.alikeAll]
theorem sortable_pairs (ps : List (Str × Str)) : PySem.W.Sortable (ps.map encP) := PySem.W.Sortable.tuples fun b => ⟨_, _, rfl⟩

/-- of a pair of texts -/
theorem pair_inv {K : PySem.W.Frag} {H : Hp} {x : V} {p : Str × Str} (h : DpT K H x (encP p)) : ∃ r, x = .ref r ∧ H r = some (.tup [.str p.1, .str p.2]) := by
  unfold encP at h
  cases h with
  | tup e t =>
    cases t with
    | cons a t =>
      cases t with
      | cons b t =>
        cases t
        cases a
        cases b
        exact ⟨_, rfl, e⟩
/-- sorted of a list of pairs of texts -/
theorem sort_pairs {K : PySem.W.Frag} {H : Hp} {D : Addr} {ps : List (Str × Str)} {Q : VK} (h : LstT K H D (ps.map encP)) (hl : ps.length ≤ 1000000)
    (q : ∀ p o, H p = none → LstT K (upd H p o) p ((ps.mergeSort (PySem.W.dataLe false encP)).map encP) → Q (.ref p) (upd H p o)) : rSortG K Prod.fst Prod.snd [.ref D] H Q := by
  obtain ⟨xs, e, t⟩ := h
  have hlen := t.length
  have m1 : (xs.zip (ps.map encP)).map Prod.fst = xs := List.map_fst_zip (Nat.le_of_eq hlen)
  have m2 : (xs.zip (ps.map encP)).map Prod.snd = ps.map encP := List.map_snd_zip (Nat.le_of_eq hlen.symm)
  refine ⟨D, xs.zip (ps.map encP), rfl, .inl (.inl (by rw [m1]; exact e)), fun b hb => ⟨(t.zip b hb).dp, ?_⟩, by rw [m2]; exact alike_pairs ps, by rw [m2]; exact sortable_pairs ps, ?_, fun p np => q p _ np ⟨_, upd_same, ?_⟩⟩
  · have := List.mem_map_of_mem (f := Prod.snd) hb
    rw [m2] at this
    obtain ⟨y, _, hy⟩ := List.mem_map.mp this
    rw [← hy]
    simp [encP, PyData.depth, PyData.depthAll]
  · rw [List.length_zip, hlen, Nat.min_self, List.length_map]
    unfold sizeLine
    omega
  · have k : ((xs.zip (ps.map encP)).mergeSort (PySem.W.dataLe false Prod.snd)).map Prod.snd = (ps.mergeSort (PySem.W.dataLe false encP)).map encP := by
      rw [List.map_mergeSort (f := Prod.snd) (r := PySem.W.dataLe false Prod.snd) (s := PySem.W.dataLe false id) fun a _ b _ => rfl, m2,
        ← List.map_mergeSort (f := encP) (r := PySem.W.dataLe false encP) (s := PySem.W.dataLe false id) fun a _ b _ => rfl]
    rw [← k]
    exact (dpTs_of fun b hb => t.zip b ((List.mergeSort_perm _ _).mem_iff.mp hb)).grow (grow_new (ex := []) np) (lists_none _)
/-- data that can be shown, compared, sorted: no deeper than n, no more than m -/
structure Fine (d : PyData) (n m : Nat) : Prop where
  lay : d.canLay0 = true
  show_ : d.showable = true
  nod : d.hasDict = false
  leaves : d.leavesShort 8 = true
  deep : d.depth ≤ n
  bulk : d.bulk ≤ m
structure Fines (ds : List PyData) (n m : Nat) : Prop where
  lay : PyData.canLayAll0 ds = true
  show_ : PyData.showableAll ds = true
  nod : PyData.hasDictAll ds = false
  leaves : PyData.leavesShortAll 8 ds = true
  deep : PyData.depthAll ds ≤ n
  bulk : PyData.bulkAll ds ≤ ds.length * (m + 1)
theorem fines {n m : Nat} : ∀ {ds : List PyData}, (∀ d ∈ ds, Fine d n m) → Fines ds n m
  | [], _ => ⟨rfl, rfl, rfl, rfl, Nat.zero_le _, by simp [PyData.bulkAll]⟩
  | d :: r, h => by
    have h1 := h d List.mem_cons_self
    have h2 := fines (ds := r) fun d q => h d (List.mem_cons_of_mem _ q)
    refine ⟨?_, ?_, ?_, ?_, ?_, ?_⟩
    · rw [PyData.canLayAll0, h1.lay, h2.lay]; rfl
    · rw [PyData.showableAll, h1.show_, h2.show_]; rfl
    · rw [PyData.hasDictAll, h1.nod, h2.nod]; rfl
    · rw [PyData.leavesShortAll, h1.leaves, h2.leaves]; rfl
    · rw [PyData.depthAll]
      exact Nat.max_le.mpr ⟨h1.deep, h2.deep⟩
    · rw [PyData.bulkAll, List.length_cons, Nat.succ_mul]
      have := h1.bulk
      have := h2.bulk
      omega
theorem Fine.list {n m k : Nat} {ds : List PyData} (h : ∀ d ∈ ds, Fine d n m) (hk : ds.length * (m + 1) ≤ k) : Fine (.list ds) (n + 1) k := by
  have f := fines h
  exact ⟨by rw [PyData.canLay0]; exact f.lay, by rw [PyData.showable]; exact f.show_, by rw [PyData.hasDict]; exact f.nod, by rw [PyData.leavesShort]; exact f.leaves, by rw [PyData.depth]; exact Nat.succ_le_succ f.deep, by rw [PyData.bulk]; exact Nat.le_trans f.bulk hk⟩
theorem Fine.tuple {n m k : Nat} {ds : List PyData} (h : ∀ d ∈ ds, Fine d n m) (hk : ds.length * (m + 1) ≤ k) : Fine (.tuple ds) (n + 1) k := by
  have f := fines h
  exact ⟨by rw [PyData.canLay0]; exact f.lay, by rw [PyData.showable]; exact f.show_, by rw [PyData.hasDict]; exact f.nod, by rw [PyData.leavesShort]; exact f.leaves, by rw [PyData.depth]; exact Nat.succ_le_succ f.deep, by rw [PyData.bulk]; exact Nat.le_trans f.bulk hk⟩
theorem Fine.str {z : Str} {m : Nat} (h : ∀ c ∈ z.cps.toList, c < 0x110000) (l : z.length ≤ m) : Fine (.str z) 0 m := by
  refine ⟨?_, rfl, rfl, ?_, Nat.le_refl _, l⟩
  · show PyData.strOk z = true
    unfold PyData.strOk
    rw [← Array.all_toList, List.all_eq_true]
    exact fun c hc => decide_eq_true (h c hc)
  · show (z.cps.toList.all fun c => decide (c < 16 ^ 8)) = true
    rw [List.all_eq_true]
    exact fun c hc => decide_eq_true (Nat.lt_of_lt_of_le (h c hc) (by decide))
theorem Fine.shaped {d : PyData} {n m : Nat} (f : Fine d n m) (hn : n ≤ 60) : SeqAt.shaped d = true := by
  unfold SeqAt.shaped
  rw [f.lay, decide_eq_true (by have := f.deep; omega)]
  rfl
theorem Fine.shown {d : PyData} {n m : Nat} (f : Fine d n m) (h : 10 * m + 8 ≤ sizeLine) : d.shown.length ≤ sizeLine := by
  have := PyData.shown_le_bulk 8 (by decide) d f.leaves
  have := f.bulk
  omega
theorem Fine.eqv {d : PyData} {n m : Nat} (f : Fine d n m) : PyData.eqv d d = true := PySem.SeqAt.eqv_refl d f.lay
end Gx

/-! The end of a law over a head whose facts are told by names. -/
namespace Gx
open PySem PySem.Spec PyProof.Rows L2 GxR GenW
/-- a def without defaults, from the head's word of it -/
theorem DefIs.of {K : PySem.W.Frag} {x qual : Str} {st : Stmt} {fd : FuncData} {p : He.Defn} (F : FunD K x qual (defArgs st) (defBody st) (defScope st) [] [] (He.fAd K p) fd) : DefIs K x qual st (He.fAd K p) fd (.ref (He.cT K p).1) := by
  obtain ⟨oc, od, dV, kV, doc, pm, an, cdv, ct, osl, rfl, lk, hcd, hd, _⟩ := F.ex
  obtain ⟨c, rfl⟩ := He.codeIn_ref hcd
  rcases hd with ⟨_, rfl⟩ | ⟨h, _⟩
  · have e : He.codeOf K p = c := He.codeOf_eq lk rfl
    show DefIs K x qual st (He.fAd K p) _ (.ref (He.codeOf K p))
    rw [e]
    exact ⟨⟨oc, od, kV, doc, pm, an, ct, osl, rfl, lk⟩, hcd, F.kp⟩
  · exact absurd rfl h
section
theorem walk_GE {l : PySem.W.OpenLaw} {n k : Nat} {q : Program} {loose : List Str} {XP : (Str → Option Value) → Heap → Prop} {YP : World → Heap → Prop} {d : DefRec} {x : Str}
    (hn : l.most = some n) (hn2 : n ≤ sizeLine) (hdf : d.params.defaults = []) (hr : Room k callerA)
    (F : ∀ (w : World) (mg : Str → Option Value) (fa : Addr) (h : Heap), YP w h → h.Ns mainGlobals mg → mg d.name = some (.ref fa) → ∃ K : PySem.W.Frag, K.In h ∧ LawG l w K k n x mg fa h) :
    PySem.W.WalkO q loose XP YP l.row.toRowW d [] (fun f vs => PySem.call f vs) := by
  refine Att.attach_callB hn hdf fun w s₀ s₁ mg mb fa o pm cd doc a vs ns G Y ho hd hcd hmg hobj hints hlen hbits hg => ?_
  obtain ⟨K, KX, fd, cs, sp, hT, hb, hsp, hF⟩ := F w mg fa _ Y G.T.g hmg
  have aT : a ∉ cs.map Prod.snd := fun z => by
    obtain ⟨p, hp, e⟩ := List.mem_map.mp z
    have q := (hT p hp).1
    rw [e, hobj] at q
    have z' : Data.seq vs.toArray _ = Data.fields #[] := congrArg Obj.data (Option.some.inj q)
    cases z'
  have rv := vals_ints hints
  cases hk : K.lookup a with
  | some o2 =>
    have e := KX a o2 hk
    rw [hobj] at e
    cases e
    have sl : SqL K (fun b => if b ∈ cs.map Prod.snd then some (.tbl #[]) else none) a (ns.map V.int) :=
      .inr ⟨_, vs.toArray, _, hk, rfl, rfl, rfl, by rw [List.size_toArray, hints.length]; exact Nat.le_trans hlen hn2, by simpa using rv⟩
    have hT' : ∀ p ∈ cs, (fun b => if b ∈ cs.map Prod.snd then some (HO.tbl #[]) else none) p.2 = some (.tbl #[]) := fun p hp => if_pos (List.mem_map.mpr ⟨p, hp, rfl⟩)
    refine law_from _ hT' (fun b u z => ?_) KX G.T.g G.T.b G.T.builtins G.T.nolimit hg hT G.T.bmain hobj rv (Nat.le_trans hlen hn2) sl hr hF hb (hsp _ a ns hlen hbits hT' sl)
    by_cases hm : b ∈ cs.map Prod.snd
    · exact .inl ⟨hm, Option.some.inj (z.symm.trans (if_pos hm))⟩
    · have z' := z.symm.trans (if_neg hm)
      cases z'
  | none =>
    have sl : SqL K (fun b => if b = a then some (.frz (scriptObj vs) (.lst (ns.map V.int))) else if b ∈ cs.map Prod.snd then some (.tbl #[]) else none) a (ns.map V.int) := .inl (.inr ⟨scriptObj vs, if_pos rfl⟩)
    have hT' : ∀ p ∈ cs, (fun b => if b = a then some (HO.frz (scriptObj vs) (.lst (ns.map V.int))) else if b ∈ cs.map Prod.snd then some (.tbl #[]) else none) p.2 = some (.tbl #[]) := fun p hp =>
      (if_neg (show ¬ p.2 = a from fun z => aT (by rw [← z]; exact List.mem_map.mpr ⟨p, hp, rfl⟩))).trans (if_pos (List.mem_map.mpr ⟨p, hp, rfl⟩))
    refine law_from _ hT' (fun b u z => ?_) KX G.T.g G.T.b G.T.builtins G.T.nolimit hg hT G.T.bmain hobj rv (Nat.le_trans hlen hn2) sl hr hF hb (hsp _ a ns hlen hbits hT' sl)
    by_cases hm : b = a
    · exact .inr ⟨hm, hk, Option.some.inj (z.symm.trans (if_pos hm))⟩
    · have z1 := z.symm.trans (if_neg hm)
      by_cases hm2 : b ∈ cs.map Prod.snd
      · exact .inl ⟨hm2, Option.some.inj (z1.trans (if_pos hm2))⟩
      · have z' := z1.trans (if_neg hm2)
        cases z'
end
end Gx

/-! max( ) of whole numbers with a default. -/
namespace Gx
open PySem PySem.Spec PyProof.Rows L2
def MaxA (a d : Value) : Args := ⟨[a], [(Str.ofString "default", d)]⟩
theorem maxA_ok (a d : Value) : argsOk "max" (MaxA a d) := by
  unfold argsOk MaxA
  kernel_rfl
section
variable {prog : Program} {w : World} {A : Around} {R : Result → Shared → Prop} {I : Addr} {fp wr : List Addr} {n : Nat} {P : Nat → Value → Prop} {St : Nat → Heap → Prop}
/-- what the loop holds: nothing yet, or the best so far -/
def MaxHeld (P : Nat → Value → Prop) (bt : Nat → Nat → Bool) (j : Nat) (vs : Array Value) : Prop := (j = 0 ∧ vs = #[]) ∨ ∃ v, vs = #[v, v] ∧ 0 < j ∧ P (argBest bt (j - 1)) v
def MaxOut (P : Nat → Value → Prop) (bt : Nat → Nat → Bool) (n : Nat) (d v : Value) : Prop := (n = 0 ∧ v = d) ∨ (0 < n ∧ P (argBest bt (n - 1)) v)
theorem max_rounds (W : Walks prog w A.in1 I fp wr n P St) (bt : Nat → Nat → Bool) (hcmp : CmpOf prog w A.in1 .Gt P bt) (S : Addr) (hS0 : S ∉ fp) (d : Value) :
    ∀ (k j : Nat) (s : Shared) (vs : Array Value) (c : Nat), n - j = k → j ≤ n → St j s.heap → MaxHeld P bt j vs → s.heap.get? S = some { cls := .type "list", dict := none, data := .seq vs c, slots := #[] } →
    (∀ v h2 tk, MaxOut P bt n d v → (∀ b o, b ∉ wr → b ≠ S → s.heap.get? b = some o → h2.get? b = some o) → R (.ok (.ret v)) { s with heap := h2, toks := tk }) →
    codeAny (model prog w) A (.builtin "max.loop" ⟨[.ref I, .none, .ref S], [(Str.ofString "default", d)]⟩) R s := by
  have sw : S ∉ wr := fun h => hS0 (W.sub _ h)
  have nm : (toString "max" ++ toString ".loop" : String) = "max.loop" := by decide
  intro k
  induction k with
  | zero =>
    intro j s vs c e hj st held hS fin
    have ej : j = n := by omega
    subst ej
    refine codeAny_builtin F.entry_max_loop (by
      rw [Around.under_plainId F.plain_max_loop _]
      show wpAny _ A.in1 (seqItems? (.ref S) >>= _) _ _ s
      refine wpAny_bind (wpAny_seqItems hS rfl ?_)
      show wpAny _ A.in1 (tryCatch (pyNext (.ref I)) _ >>= _) _ _ s
      refine wpAny_bind (wpAny_tryCatch (W.done s _ _ st fun h2 tk keep => ?_))
      have hS2 := keep S _ sw hS
      rcases held with ⟨e0, rfl⟩ | ⟨v, rfl, j0, hv⟩
      · show wpAny _ A.in1 (rule _ >>= _) _ _ _
        refine wpAny_bind (wpAny_rule ?_)
        refine wpAny_pure ?_
        exact fin d h2 tk (.inl ⟨e0, rfl⟩) fun b o hw _ q => keep b o hw q
      · show wpAny _ A.in1 (updateSeq S (fun _ => #[]) >>= _) _ _ _
        refine wpAny_bind (wpAny_updateSeq hS2 rfl (wpAny_bind (wpAny_letGo (wpAny_pure ?_))))
        exact fin v _ tk (.inr ⟨j0, hv⟩) fun b o hw hb q => (Heap.get?_update_other _ _ (Ne.symm hb)).trans (keep b o hw q))
  | succ k ih =>
    intro j s vs c e hj st held hS fin
    have hlt : j < n := by omega
    refine codeAny_builtin F.entry_max_loop (by
      rw [Around.under_plainId F.plain_max_loop _]
      show wpAny _ A.in1 (seqItems? (.ref S) >>= _) _ _ s
      refine wpAny_bind (wpAny_seqItems hS rfl ?_)
      show wpAny _ A.in1 (tryCatch (pyNext (.ref I)) _ >>= _) _ _ s
      refine wpAny_bind (wpAny_tryCatch (W.item j s _ _ hlt st fun v h2 tk hP st2 keep => ?_))
      have hS2 := keep S _ sw hS
      rcases held with ⟨rfl, rfl⟩ | ⟨b0, rfl, j0, hb0⟩
      · show wpAny _ A.in1 (updateSeq S (fun _ => #[v, v]) >>= _) _ _ _
        refine wpAny_bind (wpAny_updateSeq hS2 rfl ?_)
        rw [nm]
        refine wpAny_pure ⟨plainId_quiet F.plain_max_loop _, ih 1 _ #[v, v] _ (by omega) (by omega) (W.frame _ _ _ st2 fun b hb o q => (Heap.get?_update_other _ _ (fun h : S = b => hS0 (by rw [h]; exact hb))).trans q) (.inr ⟨v, rfl, Nat.one_pos, hP⟩) (Heap.get?_update_self _ hS2 rfl) fun v3 h3 tk3 out keep3 => ?_⟩
        exact fin v3 h3 tk3 out fun b o hw hb q => keep3 b o hw hb ((Heap.get?_update_other _ _ (Ne.symm hb)).trans (keep b o hw q))
      · show wpAny _ A.in1 (tryCatch (holding [v, v] (richCompare .Gt v b0 >>= _)) _ >>= _) _ _ _
        refine wpAny_bind (wpAny_tryCatch (wpAny_holding (wpAny_bind (hcmp j (argBest bt (j - 1)) v b0 _ _ _ hP hb0 ?_))))
        refine wpAny_bind (wpAny_holding (wpAny_truthy_bool (wpAny_bind (wpAny_letGo (wpAny_pure ?_)))))
        have ea : ∀ q, bt j (argBest bt (j - 1)) = q → argBest bt j = if q = true then j else argBest bt (j - 1) := fun q hq => by
          obtain ⟨i, rfl⟩ : ∃ i, j = i + 1 := ⟨j - 1, by omega⟩
          rw [argBest]
          rw [show i + 1 - 1 = i from rfl] at hq ⊢
          rw [hq]
        cases hb : bt j (argBest bt (j - 1)) with
        | true =>
          have eb := ea true hb
          rw [if_pos rfl] at eb ⊢
          refine wpAny_bind (wpAny_updateSeq hS2 rfl (wpAny_bind (wpAny_letGo ?_)))
          rw [nm]
          refine wpAny_pure ⟨plainId_quiet F.plain_max_loop _, ih (j + 1) _ #[v, v] _ (by omega) (by omega) (W.frame _ _ _ st2 fun b hb o q => (Heap.get?_update_other _ _ (fun h : S = b => hS0 (by rw [h]; exact hb))).trans q) (.inr ⟨v, rfl, Nat.succ_pos _, by rw [Nat.add_sub_cancel, eb]; exact hP⟩) (Heap.get?_update_self _ hS2 rfl) fun v3 h3 tk3 out keep3 => ?_⟩
          exact fin v3 h3 tk3 out fun b o hw hb q => keep3 b o hw hb ((Heap.get?_update_other _ _ (Ne.symm hb)).trans (keep b o hw q))
        | false =>
          have eb := ea false hb
          rw [if_neg Bool.false_ne_true] at eb ⊢
          refine wpAny_bind (wpAny_letGo ?_)
          rw [nm]
          refine wpAny_pure ⟨plainId_quiet F.plain_max_loop _, ih (j + 1) _ #[b0, b0] c (by omega) (by omega) st2 (.inr ⟨b0, rfl, Nat.succ_pos _, by rw [Nat.add_sub_cancel, eb]; exact hb0⟩) hS2 fun v3 h3 tk3 out keep3 => ?_⟩
          exact fin v3 h3 tk3 out fun b o hw hb q => keep3 b o hw hb (keep b o hw q))
end
end Gx
namespace Gx
open PySem PySem.Spec PyProof.Rows L2
section
variable {prog : Program} {w : World} {A : Around} {E : Value → Shared → Prop} {s : Shared}
theorem max_def_walk {x d : Value} {Q : Value → Shared → Prop}
    (h : wpAny (model prog w) A.in1 (pyIter x) (fun it s2 => ∃ I fp wr n P St bt, it = .ref I ∧ Walks prog w A.in1 I fp wr n P St ∧ St 0 s2.heap ∧ (∀ b ∈ fp, b < s2.heap.objs.size) ∧ CmpOf prog w A.in1 .Gt P bt ∧
      ∀ v h2 tk, MaxOut P bt n d v → (∀ b o, b ∉ wr → s2.heap.get? b = some o → h2.get? b = some o) → Q v { s2 with heap := h2, toks := tk }) E s) :
    wpAny (model prog w) A (call (.builtin "max") [x] [(Str.ofString "default", d)]) Q E s := by
  have nm : (toString "max" ++ toString ".loop" : String) = "max.loop" := by decide
  refine wpAny_call (codeAny_call_builtin F.plain_max F.entry_max ?_)
  simp only [checkBuiltinCall, F.kind_max]
  have body : wpAny (model prog w) A.in1 (Builtin.«max» (MaxA x d)) (fun fin s' => match fin with
      | .done f => (match (Except.ok f : Result) with | .ok (.ret v) => Q v s' | .ok _ => False | .error e => E e s')
      | .again c' => c'.quiet = true ∧ codeAny (model prog w) A c' (fun r s' => match r with | .ok (.ret v) => Q v s' | .ok _ => False | .error e => E e s') s') E s := by
    show wpAny _ A.in1 (Builtin.Builtins.bindParams "max" ["key", "default"] 0 ⟨[], [(Str.ofString "default", d)]⟩ >>= _) _ _ s
    refine wpAny_bind (wpAny_of_eq (show Builtin.Builtins.bindParams "max" ["key", "default"] 0 ⟨[], [(Str.ofString "default", d)]⟩ = pure [none, some d] from rfl) ?_)
    refine wpAny_bind (wpAny_pure ?_)
    refine wpAny_bind (wpAny_mono h (fun it s2 h2 => ?_) fun _ _ e => e)
    obtain ⟨I, fp, wr, n, P, St, bt, rfl, W, hst, hfp, hcmp, hQ⟩ := h2
    refine wpAny_bind (wpAny_newObj_type ?_)
    have sf : s2.heap.objs.size ∉ fp := fun hm => Nat.lt_irrefl _ (hfp _ hm)
    rw [nm]
    refine wpAny_pure ⟨plainId_quiet F.plain_max_loop _, max_rounds W bt hcmp s2.heap.objs.size sf d n 0 _ #[] _ rfl (Nat.zero_le _) (W.frame _ _ _ hst fun b _ o e => Heap.get?_push_of_some _ e) (.inl ⟨rfl, rfl⟩) (Heap.get?_push_size _ rfl) fun v h3 tk out keep => ?_⟩
    exact hQ v h3 tk out fun b o hbw e => keep b o hbw (Nat.ne_of_lt (Heap.lt_size e)) (Heap.get?_push_of_some _ e)
  cases hsig : Manifest.signature? "max" with
  | none => exact wpAny_pure body
  | some sig =>
    have ok := maxA_ok x d
    simp only [argsOk, hsig] at ok
    have h2 : Bind.checkArgs "max" sig (MaxA x d) = pure () := ok
    show wpAny _ A.in1 (Bind.checkArgs "max" sig (MaxA x d)) _ _ s
    rw [h2]
    exact wpAny_pure body
end
end Gx
namespace Gx
open PySem PySem.Spec PyProof.Rows L2
/-- what max(ns, default=d) is -/
def TopOf (d : Int) (ns : List Int) (m : Int) : Prop := (ns = [] ∧ m = d) ∨ (m ∈ ns ∧ ∀ y ∈ ns, y ≤ m)
section
variable {prog : Program} {w : World} {A : Around} {E : Value → Shared → Prop} {s : Shared}
theorem max_def_ints {l : Addr} {its : List Value} {ns : List Int} {d : Int} {dt : Tok} {Q : Value → Shared → Prop} (hh : A.handled = none) (hl : s.heap.IsList l its.toArray) (hi : IntsAre its ns)
    (h : ∀ h2 tk m t2, (∀ b o, s.heap.get? b = some o → h2.get? b = some o) → TopOf d ns m → Q (.int m t2) { s with heap := h2, toks := tk }) : wpAny (model prog w) A (call (.builtin "max") [.ref l] [(Str.ofString "default", .int d dt)]) Q E s := by
  obtain ⟨xs, e⟩ := hi.allInts.items
  have hn : numsOf (intItems xs).toList = ns := by rw [← e]; exact hi.numsOf
  rw [nums_intItems] at hn
  subst hn
  rw [e] at hl
  refine max_def_walk (iter_intList hl fun s2 e2 st hfp hlI => ?_)
  subst e2
  refine ⟨_, _, _, _, _, _, _, rfl, Walks.list (A := A.in1) hh _ l hlI (intItems xs), st, hfp, CmpOf.ints_gt (numAt xs) (fun _ _ => intItems_at), fun v h2 tk out keep => ?_⟩
  rcases out with ⟨e0, rfl⟩ | ⟨n0, hv⟩
  · refine h h2 tk d dt (old_kept keep) (.inl ⟨?_, rfl⟩)
    have : xs.toList = [] := List.eq_nil_of_length_eq_zero (by simpa [intItems] using e0)
    rw [this]
    rfl
  · obtain ⟨t, rfl⟩ := intItems_at hv
    obtain ⟨h1, h2'⟩ := argBest_gt (numAt xs) ((intItems xs).size - 1)
    have hs : (intItems xs).size = xs.size := by simp [intItems]
    rw [hs] at h1 h2' n0
    rw [hs]
    refine h h2 tk _ t (old_kept keep) (.inr ⟨?_, fun a ha => ?_⟩)
    · rw [numAt_eq]
      exact PySem.getD_mem (by rw [List.length_map, Array.length_toList]; omega)
    · obtain ⟨j, hj, rfl⟩ := mem_getD ha
      rw [List.length_map, Array.length_toList] at hj
      rw [← numAt_eq]
      exact h2' j (by omega)
end
section
variable {X : Cx}
def rMaxDef (K : PySem.W.Frag) : List V → List V → Hp → VK → Prop := fun vs zs H Q => ∃ (a : Addr) (ns : List Int) (d : Int), vs = [V.ref a] ∧ zs = [V.int d] ∧ SqL K H a (ns.map V.int) ∧ ∀ m, TopOf d ns m → Q (.int m) H
theorem cr_maxDef (hc : X.calm = true) : CallRK X (.builtin "max") [Str.ofString "default"] (rMaxDef X.K) := by
  intro pins s σ H xs zs us ws Q I r1 r2 h
  obtain ⟨a, ns, d, rfl, rfl, hs, q⟩ := h
  obtain ⟨its, rv, hl, _⟩ := I.list hs
  rw [Vals.ref1 r1]
  cases r2 with
  | cons r rr =>
    cases rr
    obtain ⟨t, rfl⟩ := r
    exact max_def_ints (I.ok.hd hc) hl.isList rv.ints fun h2 tk m t2 keep top => ⟨.int m, H, I.kept keep, ⟨_, rfl⟩, q m top⟩
end
end Gx

/-! max(d.values(), default=k) of whole numbers. -/
namespace Gx
open PySem PySem.Spec PyProof.Rows L2
theorem topOf_out {ns : List Int} {d : Int} {n : Nat} (hn : n = ns.length) {P : Nat → Value → Prop} (hP : ∀ i v, P i v → i < n ∧ ∃ t, v = .int (ns.getD i 0) t) {dv v : Value} {dt : Tok} (hd : dv = .int d dt)
    (out : MaxOut P (fun i j => decide (ns.getD i 0 > ns.getD j 0)) n dv v) : ∃ m t, v = .int m t ∧ TopOf d ns m := by
  rcases out with ⟨e0, rfl⟩ | ⟨n0, hv⟩
  · exact ⟨d, dt, hd, .inl ⟨List.eq_nil_of_length_eq_zero (by omega), rfl⟩⟩
  · obtain ⟨hi, t, rfl⟩ := hP _ _ hv
    obtain ⟨h1, h2⟩ := argBest_gt (fun i => ns.getD i 0) (n - 1)
    refine ⟨_, t, rfl, .inr ⟨PySem.getD_mem (by omega), fun a ha => ?_⟩⟩
    obtain ⟨j, hj, rfl⟩ := mem_getD ha
    exact h2 j (by omega)
section
variable {X : Cx}
def tMaxVals (td : TE) (k : Int) : TE := fun σ H Q => td σ H fun x H1 => ∃ (d : Addr) (kvs : List (Key × V)) (ns : List Int), x = .ref d ∧ H1 d = some (.dK kvs) ∧ kvs.map Prod.snd = ns.map V.int ∧ ∀ m, TopOf k ns m → Q (.int m) H1
theorem pe_maxVals {e : Expr} {td : TE} {p apos cpos kpos kp pos : Pos} {k : Int} {kk : Nat} (hc : X.calm = true) (hg : Gl X "max") (hm : X.mg "max" = none) (he : PE X e td)
    (hbase : attributeBase e "values" X.env (eval e X.env) = eval e X.env := by rfl) (hline : (apos.endLine == cpos.line) = true := by rfl) :
    PE X (.Call (.Name "max" p) [.Call (.Attribute e "values" apos) [] [] cpos] [⟨some "default", .Constant (.int k) kk kp, kpos⟩] pos) (tMaxVals td k) := by
  refine ⟨fun pins s σ H Q I h => ?_⟩
  refine wpAny_Call_Name_kw (ld_blt I hg hm (show bootBuiltins "max" = some (.builtin "max") by decide +kernel) ?_)
  refine PyProof.Rows.callWith_kw ?_
  refine Calls.spliced_cons ?_
  refine wpAny_Call_method (T := "dict") (id := "dict.values") hbase rfl hline F.plainAttrs_dict F.slot_dict_values F.type_dict_values (thn (he.run pins s σ H _ I h) fun u s1 h1 => ?_)
  obtain ⟨x, H1, I1, rx, d, kvs, ns, rfl, hd, hv, q⟩ := h1
  obtain rfl : u = Value.ref d := rx
  obtain ⟨hz, hs, vs, kv, o1, es, ep, ho, hx, hdt, r⟩ := I1.hok d _ hd
  have hD : s1.heap.DictAt (mixKind X.prog X.w) d vs ep := ⟨o1, es, ho, hx, hdt, r⟩
  have hl : kvs.length = vs.length := Paired.length kv
  have hln : kvs.length = ns.length := by have := congrArg List.length hv; rwa [List.length_map, List.length_map] at this
  refine ⟨hD.dictOf.typeIs, hD.dictOf.mapOf.noDict, ?_⟩
  refine method_meetsIn F.slot_dict_values F.entry_dict_values rfl (PySem.evalArgs_none ⟨rfl, hD.dictOf.typeIs, F.args_dict_values_1 _, _, meets_dict_values (mixKind X.prog X.w) d hs, ⟨vs, hD.dictOf⟩, ?_⟩)
  have I2 : L2.Inv X pins σ H1 { s1 with heap := s1.heap.push { cls := .type "dict_values", data := .fields #[.ref d] } } := I1.kept (t' := s1.toks) fun b ob z => Heap.get?_push_of_some _ z
  have nb : H1 s1.heap.objs.size = none := I1.hok.fresh (Nat.le_refl _)
  have I3 := I2.pinned (fp := [s1.heap.objs.size]) (fun b hb => by
    rw [List.mem_singleton.mp hb]
    exact I1.fpOk (Nat.le_refl _) nb) (fun b hb => by
    rw [List.mem_singleton.mp hb]
    exact ⟨_, Heap.get?_push_size _ rfl, fun v z => by cases z⟩)
  show wpAny _ _ (spliced []) _ _ _
  refine Calls.spliced_nil ?_
  refine thn ((pk_cons pe_int pk_nil).run pos _ _ σ H1 _ I3 (show tCons (tC (.int k)) tNil σ H1 (fun zs H2 => zs = [V.int k] ∧ H2 = H1) from ⟨rfl, rfl⟩)) fun ws s4 h4 => ?_
  obtain ⟨zs, H2, I4, rz, rfl, rfl⟩ := h4
  obtain ⟨t, rfl⟩ : ∃ t, ws = [Value.int k t] := by
    cases rz with
    | cons r0 rr =>
      cases rr
      obtain ⟨t, rfl⟩ := r0
      exact ⟨t, rfl⟩
  obtain ⟨_, _, us, ku, o4, es4, ep4, ho4, hx4, hdt4, r4⟩ := I4.hok d _ hd
  have hD4 : s4.heap.DictAt (mixKind X.prog X.w) d us ep4 := ⟨o4, es4, ho4, hx4, hdt4, r4⟩
  have hlu : kvs.length = us.length := Paired.length ku
  have view : s4.heap.get? s1.heap.objs.size = some { cls := .type "dict_values", data := .fields #[.ref d] } :=
    (I4.pin (s1.heap.objs.size, { cls := .type "dict_values", data := .fields #[.ref d] }) (List.mem_append_right _ (List.mem_append_right _ (mem_pinsAt (List.mem_singleton.mpr rfl) (Heap.get?_push_size _ rfl))))).1
  show wpAny _ _ (call (.builtin "max") [.ref s1.heap.objs.size] [(Str.ofString "default", .int k t)]) _ _ _
  have vals : ∀ i v, (∃ key, us[i]? = some (key, v)) → i < us.length ∧ ∃ t, v = .int (ns.getD i 0) t := fun i v hk => by
    obtain ⟨key, hk⟩ := hk
    have hi := (List.getElem?_eq_some_iff.mp hk).1
    obtain ⟨⟨k2, x2⟩, hk2⟩ : ∃ q, kvs[i]? = some q := ⟨kvs[i]'(by omega), List.getElem?_eq_getElem (by omega)⟩
    obtain ⟨u2, hu2, ru2⟩ := kv_get ku hk2
    rw [hk] at hu2
    cases hu2
    have e1 := congrArg (fun l => l[i]?) hv
    simp only [List.getElem?_map, hk2] at e1
    have hni : i < ns.length := by omega
    rw [List.getElem?_eq_getElem hni] at e1
    have e2 : x2 = V.int ns[i] := Option.some.inj e1
    subst e2
    obtain ⟨t2, rfl⟩ := ru2
    exact ⟨hi, t2, by rw [List.getD_eq_getElem?_getD, List.getElem?_eq_getElem hni]; rfl⟩
  refine max_def_walk (wpAny_pyIter_values (d := d) (knd := mixKind X.prog X.w) ⟨_, view, rfl, rfl⟩ hD4 ?_)
  have hlt : d < s4.heap.objs.size := by
    obtain ⟨_, _, e, _⟩ := hD4
    exact Heap.lt_size e
  refine ⟨s4.heap.objs.size, _, _, _, _, _, fun i j => decide (ns.getD i 0 > ns.getD j 0), rfl, Walks.dictValues (A := X.A.in1) (knd := mixKind X.prog X.w) (I.ok.hd hc) s4.heap.objs.size d (Nat.ne_of_lt hlt) us ep4, ⟨⟨_, Heap.get?_push_size _ rfl, rfl, rfl⟩, hD4.push _⟩, fun b hb => ?_, CmpOf.ints_gt (fun i => ns.getD i 0) (fun i v hk => (vals i v hk).2), fun v h2 tk out keep => ?_⟩
  · show b < (s4.heap.push _).objs.size
    rw [Heap.size_push]
    rcases List.mem_cons.mp hb with rfl | hb
    · exact Nat.lt_succ_self _
    · rw [List.mem_singleton.mp hb]
      exact Nat.lt_succ_of_lt hlt
  · obtain ⟨m, t3, rfl, top⟩ := topOf_out (by omega) vals rfl out
    refine ⟨.int m, H2, (I4.unpinned.kept fun b o e => ?_), ⟨_, rfl⟩, q m top⟩
    exact keep b o (fun z => by rw [List.mem_singleton.mp z] at e; exact absurd (Heap.lt_size e) (Nat.lt_irrefl _)) (Heap.get?_push_of_some _ e)
end
end Gx
namespace Gx
open PySem PySem.Spec PyProof.Rows L2
theorem kv_vals {κ : Type} : ∀ {kvs : List (κ × V)} {us : List (κ × Value)} {vs : List Value}, KV kvs us → vs = us.map Prod.snd → Vals (kvs.map Prod.snd) vs
  | _, _, _, .nil, rfl => .nil
  | _, _, _, .cons h t, rfl => .cons h.2 (kv_vals t rfl)
section
variable {X : Cx}
/-- list(d.values()) -/
def tListVals (td : TE) : TE := fun σ H Q => td σ H fun x H1 => ∃ (d : Addr) (kvs : List (Key × V)), x = .ref d ∧ H1 d = some (.dK kvs) ∧ ∀ l, H1 l = none → Q (.ref l) (upd H1 l (.lst (kvs.map Prod.snd)))
theorem pe_listVals {e : Expr} {td : TE} {p apos cpos pos : Pos} (hc : X.calm = true) (hg : Gl X "list") (hm : X.mg "list" = none) (he : PE X e td)
    (hbase : attributeBase e "values" X.env (eval e X.env) = eval e X.env := by rfl) (hline : (apos.endLine == cpos.line) = true := by rfl) (na : starEach [(.Call (.Attribute e "values" apos) [] [] cpos : Expr)] X.env = (false, eval (.Call (.Attribute e "values" apos) [] [] cpos) X.env) :: starEach [] X.env := by rfl) :
    PE X (.Call (.Name "list" p) [.Call (.Attribute e "values" apos) [] [] cpos] [] pos) (tListVals td) := by
  refine ⟨fun pins s σ H Q I h => Call_ (ld_blt I hg hm (show bootBuiltins "list" = some (.type "list") by decide +kernel) ?_)⟩
  refine PyProof.Rows.callWith_type1 (PyProof.Rows.args_cons ?_ na) na rfl
  refine wpAny_Call_method (T := "dict") (id := "dict.values") hbase rfl hline F.plainAttrs_dict F.slot_dict_values F.type_dict_values (thn (he.run pins s σ H _ I h) fun u s1 h1 => ?_)
  obtain ⟨x, H1, I1, rx, d, kvs, rfl, hd, q⟩ := h1
  obtain rfl : u = Value.ref d := rx
  obtain ⟨hz, hs, vs, kv, o1, es, ep, ho, hx, hdt, r⟩ := I1.hok d _ hd
  have hD : s1.heap.DictAt (mixKind X.prog X.w) d vs ep := ⟨o1, es, ho, hx, hdt, r⟩
  have hl : kvs.length = vs.length := Paired.length kv
  refine ⟨hD.dictOf.typeIs, hD.dictOf.mapOf.noDict, ?_⟩
  refine method_meetsIn F.slot_dict_values F.entry_dict_values rfl (PySem.evalArgs_none ⟨rfl, hD.dictOf.typeIs, F.args_dict_values_1 _, _, meets_dict_values (mixKind X.prog X.w) d hs, ⟨vs, hD.dictOf⟩, PyProof.Rows.args_nil ?_⟩)
  have I2 : L2.Inv X pins σ H1 { s1 with heap := s1.heap.push { cls := .type "dict_values", data := .fields #[.ref d] } } := I1.kept (t' := s1.toks) fun b ob z => Heap.get?_push_of_some _ z
  refine PySem.W.kdl_call (PySem.W.kdl_values (knd := mixKind X.prog X.w) (d := d) (r := s1.heap.objs.size) (kvs := vs) (ep := ep)) (I.ok.hd hc) ⟨⟨_, Heap.get?_push_size _ rfl, rfl, rfl⟩, hD.push _⟩ (by omega) fun h2 tk acc c keep new items => ?_
  have ev : acc.toList = vs.map Prod.snd := PySem.W.kdl_vals_eq acc.toList (by rw [Array.length_toList]; exact items.1) fun j v e => items.2 j v (by rw [← Array.getElem?_toList]; exact e)
  refine ⟨.ref _, _, I2.laid (t' := tk) (h' := h2) keep (Nat.le_refl _) (show ObjOk X.prog X.w _ h2 _ (.lst (kvs.map Prod.snd)) from ⟨by rw [List.length_map]; exact hz, acc.toList, c, kv_vals kv ev, ?_⟩), rfl, q _ (I2.hok.fresh (Nat.le_refl _))⟩
  rw [Array.toArray_toList]
  exact new
end
end Gx

/-! combinations of two of a list: how it is made, what it hands out -/
namespace Gx
open PySem PySem.Spec
open Sem (wp)
theorem cm_mro : mroOf (.type "itertools.combinations") = pure [.type "itertools.combinations", .type "object"] := by rw [mroOf_type]; kernel_rfl
theorem cm_look : typeLookup (.type "itertools.combinations") "__new__" = pure (some (.builtin "itertools.combinations.__new__")) := by rw [typeLookup_type, builtinLookup_eq_fast]; kernel_rfl
theorem cm_sub : isSubtype (.type "itertools.combinations") (.type "itertools.combinations") = pure true := by rw [isSubtype_type]; kernel_rfl
theorem cm_init : Slot "itertools.combinations" "__init__" "object.__init__" := by
  refine Slot.of (owner := "object") (n := "__init__") ?_ (by decide +kernel) (by decide +kernel) (by decide +kernel) ?_ ?_
  · rw [typeLookup_type, builtinLookup_eq_fast]; kernel_rfl
  · first | exact .inl (by decide +kernel) | exact .inr (by decide +kernel)
  · rw [isSubtype_type]; kernel_rfl
theorem cm_iter : Slot "itertools.combinations" "__iter__" "itertools.combinations.__iter__" := by
  refine Slot.of (owner := "itertools.combinations") (n := "__iter__") ?_ (by decide +kernel) (by decide +kernel) (by decide +kernel) ?_ cm_sub
  · rw [typeLookup_type, builtinLookup_eq_fast]; kernel_rfl
  · first | exact .inl (by decide +kernel) | exact .inr (by decide +kernel)
theorem cm_next : Slot "itertools.combinations" "__next__" "itertools.combinations.__next__" := by
  refine Slot.of (owner := "itertools.combinations") (n := "__next__") ?_ (by decide +kernel) (by decide +kernel) (by decide +kernel) ?_ cm_sub
  · rw [typeLookup_type, builtinLookup_eq_fast]; kernel_rfl
  · first | exact .inl (by decide +kernel) | exact .inr (by decide +kernel)
theorem cm_called : TypeCalled "itertools.combinations" "itertools.combinations.__new__" "object.__init__" :=
  ⟨by decide +kernel, by decide +kernel, ⟨_, _, cm_mro⟩, madeBy_type cm_mro cm_look (by decide +kernel), by decide +kernel, cm_sub, cm_init⟩
theorem cm_call2 (a b : Value) : checkTypeCall "itertools.combinations" ⟨[a, b], []⟩ = pure () := by kernel_rfl
theorem cm_new2 (a b : Value) : checkBuiltinCall "itertools.combinations.__new__" ⟨[.type "itertools.combinations", a, b], []⟩ = pure () := by kernel_rfl
theorem cm_entN : entryFor table "itertools.combinations.__new__" = some Builtin.«itertools.combinations.__new__» := entryFor_of_tree (by kernel_rfl)
theorem cm_entI : entryFor table "itertools.combinations.__iter__" = some Builtin.«dict_keyiterator.__iter__» := by
  refine entryFor_alias (id' := "dict_keyiterator.__iter__") (by kernel_rfl) ?_ (by decide +kernel) (by kernel_rfl)
  first | rfl | decide +kernel | (unfold String.splitOn; simp +decide [String.splitOnAux])
theorem cm_entX : entryFor table "itertools.combinations.__next__" = some Builtin.«itertools.combinations.__next__» := entryFor_of_tree (by kernel_rfl)
theorem cm_owner : Manifest.owners.lookup (String.ofList ['s', 'n', 'o', 'i', 't', 'a', 'n', 'i', 'b', 'm', 'o', 'c', '.', 's', 'l', 'o', 'o', 't', 'r', 'e', 't', 'i'].reverse) = some Manifest.sig_itertools_combinations := by kernel_rfl
theorem cm_argI (a : Value) : argsOk "itertools.combinations.__iter__" ⟨[a], []⟩ := by
  unfold argsOk
  rw [signature?_of (id := "itertools.combinations.__iter__") (n := ['_', '_', 'r', 'e', 't', 'i', '_', '_']) (o := ['s', 'n', 'o', 'i', 't', 'a', 'n', 'i', 'b', 'm', 'o', 'c', '.', 's', 'l', 'o', 'o', 't', 'r', 'e', 't', 'i']) (by kernel_rfl) cm_owner]
  kernel_rfl
theorem cm_argX (a : Value) : argsOk "itertools.combinations.__next__" ⟨[a], []⟩ := by
  unfold argsOk
  rw [signature?_of (id := "itertools.combinations.__next__") (n := ['_', '_', 't', 'x', 'e', 'n', '_', '_']) (o := ['s', 'n', 'o', 'i', 't', 'a', 'n', 'i', 'b', 'm', 'o', 'c', '.', 's', 'l', 'o', 'o', 't', 'r', 'e', 't', 'i']) (by kernel_rfl) cm_owner]
  kernel_rfl
theorem cm_noDict : typeHasDict (.type "itertools.combinations") = false := by decide +kernel

/-- such a thing: its pool, how far it is, what it told last, the two places -/
abbrev IsCm (h : Heap) (it p : Addr) (st : Nat) (last : Value) (i j : Nat) : Prop :=
  h.get? it = some { cls := .type "itertools.combinations", dict := none, data := .fields #[.ref p, rawInt st, last, rawInt i, rawInt j], slots := #[] }
abbrev IsPool (h : Heap) (p : Addr) (us : List Value) : Prop := h.get? p = some { cls := .type "tuple", dict := none, data := .seq us.toArray, slots := #[] }
end Gx

namespace Gx
open PySem PySem.Spec
open Sem (wp)
theorem cm_new (l : Addr) (t : Tok) (us : List Value) (hsz : us.length ≤ sizeLine) :
    Meets (Builtin.«itertools.combinations.__new__» ⟨[.type "itertools.combinations", .ref l, .int 2 t], []⟩)
      (fun _ R s => s.heap.IsList l us.toArray ∧ ∀ h' : Heap, (∀ b o', s.heap.get? b = some o' → h'.get? b = some o') →
        R (.ok (.ret (.ref (h'.objs.size + 1)))) { s with heap := (h'.push { cls := .type "tuple", data := .seq us.toArray }).push { cls := .type "itertools.combinations", data := .fields #[.ref h'.objs.size, rawInt (if 2 > us.length then 2 else 0), .none, rawInt 0, rawInt 1] } }) :=
  .of_wp fun prog w A R s h => by
    obtain ⟨hp, g, d, tk, os⟩ := s
    obtain ⟨⟨o, ho, hc, n, hd⟩, h⟩ := h
    have hsub := cm_sub
    have hsub2 : isSubtype (.type "itertools.combinations") (.type ("itertools." ++ "combinations")) = pure true := by rw [show ("itertools." ++ "combinations" : String) = "itertools.combinations" by decide]; exact cm_sub
    have hbn : Builtin.Itertools.itBindNamed "combinations" ["iterable", "r"] 2 2 [.ref l, .int 2 t] [] = pure [some (.ref l), some (.int 2 t)] := by kernel_rfl
    have hnd := cm_noDict
    have hz : us.toArray.size ≤ sizeLine := by simpa using hsz
    wp_walk using wpAny_collect_seq (hsz := hz) l (.inl rfl) ho hc hd
    intro h' k
    have e0 : us.toArray.toList = us := rfl
    rw [e0]
    have hsz' : us.length ≤ sizeLine := hsz
    show wpAny _ _ (newTuple us >>= _) _ _ _
    refine wpAny_bind (wpAny_newTuple ?_ hsz')
    refine wpAny_pure ?_
    show wpAny _ _ (Builtin.Itertools.itNewRecord _ _ >>= _) _ _ _
    refine wpAny_bind ?_
    unfold Builtin.Itertools.itNewRecord
    rw [hnd]
    rw [if_pos (show (!false) = true from rfl)]
    refine wpAny_newObj_type ?_ (by show (5 : Nat) ≤ _; decide)
    refine wpAny_pure ⟨_, rfl, ?_⟩
    have := h h' k
    rw [Heap.size_push]
    exact this
end Gx

namespace Gx
open PySem PySem.Spec
open Sem (wp)
section
variable {prog : Program} {w : World} {A : Around} {E : Value → Shared → Prop} {s : Shared}
theorem cm_self {it p : Addr} {st : Nat} {last : Value} {i j : Nat} {Q : Value → Shared → Prop} (hit : IsCm s.heap it p st last i j) (h : Q (.ref it) s) : wpAny (model prog w) A (pyIter (.ref it)) Q E s := by
  have hT : s.TypeIs (.ref it) "itertools.combinations" := ⟨_, hit, rfl⟩
  refine wpAny_pyIter_slot hT cm_iter (wpAny_call_entry cm_iter hT cm_entI ?_ (cm_argI _))
  show wpAny _ _ (ret (.ref it)) _ _ s
  exact wpAny_pure ⟨_, rfl, "itertools.combinations", _, hT, cm_next.lookup, h⟩
theorem cm_stop {α : Type} {Q : α → Shared → Prop} (hh : A.handled = none)
    (hQ : ∀ e h', (∃ o, h'.get? e = some o ∧ o.cls = .type "StopIteration") → (∀ b o, s.heap.get? b = some o → h'.get? b = some o) → E (.ref e) { s with heap := h' }) :
    wpAny (model prog w) A (Builtin.Itertools.itStop : Sem α) Q E s := by
  unfold Builtin.Itertools.itStop
  refine wpAny_bind ?_
  simp only [newExc, newTuple]
  refine wpAny_bind (wpAny_newObj_type ?_ (by size_fits))
  refine wpAny_bind (m := firstArgMember _ _) (wpAny_of_eq (a := Value.none) (by first | rfl | (simp only [firstArgMember]; rfl)) ?_)
  refine wpAny_newObj_type ?_ (by size_fits)
  simp only [raiseNew]
  refine wpAny_bind (wpAny_handled ?_)
  rw [hh]
  refine wpAny_bind (wpAny_pure (wpAny_throw ?_))
  exact hQ _ _ ⟨_, Heap.get?_push_size _ rfl, rfl⟩ fun b o e => Heap.get?_push_of_some _ (Heap.get?_push_of_some _ e)
/-- the two things at the places are handed out -/
theorem cm_pick {p : Addr} {i j : Nat} {x y : Value} {us : List Value} {Q : Value → Shared → Prop} (hp : IsPool s.heap p us) (hx : us[i]? = some x) (hy : us[j]? = some y)
    (hQ : Q (.ref s.heap.objs.size) { s with heap := s.heap.push { cls := .type "tuple", data := .seq #[x, y] } }) :
    wpAny (model prog w) A (Builtin.Itertools.itPoolItems (.ref p) >>= fun items => newTuple ([i, j].map fun k => items.getD k .none)) Q E s := by
  refine wpAny_bind ?_
  unfold Builtin.Itertools.itPoolItems
  refine wpAny_bind (wpAny_seqItems hp rfl (wpAny_pure ?_))
  have ex : us.toArray.getD i Value.none = x := by simp [Array.getD_eq_getD_getElem?, hx]
  have ey : us.toArray.getD j Value.none = y := by simp [Array.getD_eq_getD_getElem?, hy]
  show wpAny _ _ (newTuple [us.toArray.getD i Value.none, us.toArray.getD j Value.none]) _ _ _
  rw [ex, ey]
  exact wpAny_newTuple hQ (by show 2 ≤ sizeLine; decide)
theorem cm_apart {h : Heap} {it p : Addr} {st : Nat} {last : Value} {i j : Nat} {us : List Value} (hp : IsPool h p us) (hit : IsCm h it p st last i j) : p ≠ it := fun e => by
  rw [e] at hp
  have h1 := Option.some.inj (hp.symm.trans hit)
  have h2 := congrArg Obj.data h1
  exact nomatch h2
theorem cm_hand {it p : Addr} {st : Nat} {last : Value} {i j a b : Nat} {x y : Value} {us : List Value} {Q : Value → Shared → Prop} (hit : IsCm s.heap it p st last a b) (hp : IsPool s.heap p us) (hx : us[i]? = some x) (hy : us[j]? = some y)
    (hQ : ∀ h', IsCm h' it p st (.ref s.heap.objs.size) a b → IsPair h' s.heap.objs.size x y → h'.objs.size = s.heap.objs.size + 1 → (∀ c o, c ≠ it → s.heap.get? c = some o → h'.get? c = some o) → Q (.ref s.heap.objs.size) { s with heap := h' }) :
    wpAny (model prog w) A ((Builtin.Itertools.itPoolItems (.ref p) >>= fun items => newTuple ([i, j].map fun k => items.getD k .none)) >>= fun result => field (.ref it) 2 >>= fun before => setField (.ref it) 2 result >>= fun _ => letGo [before] [result] >>= fun _ => ret result)
      (fun fin s' => ∃ v, fin = .done (.ret v) ∧ Q v s') E s := by
  refine wpAny_bind (cm_pick hp hx hy ?_)
  have hit1 : IsCm (s.heap.push { cls := .type "tuple", data := .seq #[x, y] }) it p st last a b := Heap.get?_push_of_some _ hit
  refine wpAny_bind (wpAny_field hit1 rfl (x := last) rfl ?_)
  refine wpAny_bind (wpAny_setField_rec hit1 (by simp) fun h2 hit2 sb2 => ?_)
  refine wpAny_bind (wpAny_letGo ?_)
  have lt : it < s.heap.objs.size := Heap.lt_size hit
  refine wpAny_pure ⟨_, rfl, hQ h2 hit2 ((sb2.2 _ (Nat.ne_of_gt lt)).trans (Heap.get?_push_size _ rfl)) (by rw [sb2.1, Heap.size_push]) fun c o hc e => (sb2.2 c hc).trans (Heap.get?_push_of_some _ e)⟩
/-- what the next step does with the two places -/
theorem cm_item0 {it p : Addr} {i j : Nat} {x y : Value} {us : List Value} {Q : Value → Shared → Prop} (hit : IsCm s.heap it p 0 .none i j) (hp : IsPool s.heap p us) (hx : us[i]? = some x) (hy : us[j]? = some y)
    (hQ : ∀ h', IsCm h' it p 1 (.ref s.heap.objs.size) i j → IsPair h' s.heap.objs.size x y → h'.objs.size = s.heap.objs.size + 1 → (∀ c o, c ≠ it → s.heap.get? c = some o → h'.get? c = some o) → Q (.ref s.heap.objs.size) { s with heap := h' }) :
    wpAny (model prog w) A (Builtin.«itertools.combinations.__next__» ⟨[.ref it], []⟩) (fun fin s' => ∃ v, fin = .done (.ret v) ∧ Q v s') E s := by
  show wpAny _ _ (field (.ref it) 0 >>= _) _ _ s
  refine wpAny_bind (wpAny_field hit rfl (x := .ref p) rfl ?_)
  show wpAny _ _ (Builtin.Itertools.itNumbersFrom (.ref it) 3 >>= _) _ _ s
  refine wpAny_bind ?_
  unfold Builtin.Itertools.itNumbersFrom
  refine wpAny_bind (wpAny_load hit ?_)
  refine wpAny_pure ?_
  show wpAny _ _ (Builtin.Itertools.itIntField (.ref it) 1 >>= _) _ _ s
  refine wpAny_bind ?_
  unfold Builtin.Itertools.itIntField
  refine wpAny_bind (wpAny_field hit rfl (x := rawInt 0) rfl ?_)
  refine wpAny_pure ?_
  show wpAny _ _ (setField (.ref it) 1 (rawInt 1) >>= _) _ _ s
  refine wpAny_bind (wpAny_setField_rec hit (by simp) fun h1 hit1 sb1 => ?_)
  have hp1 : IsPool h1 p us := (sb1.2 p (cm_apart hp hit)).trans hp
  replace hit1 : IsCm h1 it p 1 .none i j := hit1
  refine cm_hand (s := { s with heap := h1 }) hit1 hp1 hx hy fun h' a b c d => ?_
  have e1 : h1.objs.size = s.heap.objs.size := sb1.1
  have a' : IsCm h' it p 1 (.ref h1.objs.size) i j := a
  have b' : IsPair h' h1.objs.size x y := b
  have c' : h'.objs.size = h1.objs.size + 1 := c
  show Q (.ref h1.objs.size) _
  rw [e1] at a' b' c' ⊢
  exact hQ h' a' b' c' fun q o hq e => d q o hq ((sb1.2 q hq).trans e)
theorem cm_item1 {it p : Addr} {i j a b : Nat} {x y last : Value} {us : List Value} {Q : Value → Shared → Prop} (hit : IsCm s.heap it p 1 last a b) (hp : IsPool s.heap p us) (hn : (b + 1 < us.length ∧ i = a ∧ j = b + 1) ∨ (b + 1 = us.length ∧ a + 2 < us.length ∧ i = a + 1 ∧ j = a + 2)) (hx : us[i]? = some x) (hy : us[j]? = some y)
    (hQ : ∀ h', IsCm h' it p 1 (.ref s.heap.objs.size) i j → IsPair h' s.heap.objs.size x y → h'.objs.size = s.heap.objs.size + 1 → (∀ c o, c ≠ it → s.heap.get? c = some o → h'.get? c = some o) → Q (.ref s.heap.objs.size) { s with heap := h' }) :
    wpAny (model prog w) A (Builtin.«itertools.combinations.__next__» ⟨[.ref it], []⟩) (fun fin s' => ∃ v, fin = .done (.ret v) ∧ Q v s') E s := by
  show wpAny _ _ (field (.ref it) 0 >>= _) _ _ s
  refine wpAny_bind (wpAny_field hit rfl (x := .ref p) rfl ?_)
  show wpAny _ _ (Builtin.Itertools.itNumbersFrom (.ref it) 3 >>= _) _ _ s
  refine wpAny_bind ?_
  unfold Builtin.Itertools.itNumbersFrom
  refine wpAny_bind (wpAny_load hit ?_)
  refine wpAny_pure ?_
  show wpAny _ _ (Builtin.Itertools.itIntField (.ref it) 1 >>= _) _ _ s
  refine wpAny_bind ?_
  unfold Builtin.Itertools.itIntField
  refine wpAny_bind (wpAny_field hit rfl (x := rawInt 1) rfl ?_)
  refine wpAny_pure ?_
  show wpAny _ _ (Builtin.Itertools.itPoolItems (.ref p) >>= _) _ _ s
  refine wpAny_bind ?_
  unfold Builtin.Itertools.itPoolItems
  refine wpAny_bind (wpAny_seqItems hp rfl (wpAny_pure ?_))
  have key : (match List.find? (fun k => [a, b].getD k 0 != k + us.toArray.size - 2) [1, 0] with | none => (none : Option (List Nat)) | some k => some ([a, b].take k ++ (List.range (2 - k)).map fun m => [a, b].getD k 0 + 1 + m)) = some [i, j] := by
    rw [List.size_toArray]
    rcases hn with ⟨h1, rfl, rfl⟩ | ⟨h1, h2, rfl, rfl⟩
    · rw [List.find?_cons_of_pos (by simp; omega)]
      rfl
    · rw [List.find?_cons_of_neg (by simp; omega), List.find?_cons_of_pos (by simp; omega)]
      rfl
  split
  · next nx e =>
    have e2 : some nx = some [i, j] := e.symm.trans key
    cases e2
    show wpAny _ _ (Builtin.Itertools.itSetNumbersFrom (.ref it) 3 [i, j] >>= _) _ _ s
    unfold Builtin.Itertools.itSetNumbersFrom
    refine wpAny_bind (wpAny_updateFields hit rfl ?_ (by show (5 : Nat) ≤ _; decide))
    have hit1 : IsCm (s.heap.update it (Obj.mapFields fun fs => fs.extract 0 3 ++ ([i, j].map fun (n : Nat) => rawInt n).toArray)) it p 1 last i j := Heap.get?_update_self _ hit rfl
    have sb : Heap.SameBut it s.heap (s.heap.update it (Obj.mapFields fun fs => fs.extract 0 3 ++ ([i, j].map fun (n : Nat) => rawInt n).toArray)) := Heap.SameBut.update ..
    generalize (s.heap.update it (Obj.mapFields fun fs => fs.extract 0 3 ++ ([i, j].map fun (n : Nat) => rawInt n).toArray)) = h1 at *
    have hp1 : IsPool h1 p us := (sb.2 p (cm_apart hp hit)).trans hp
    refine cm_hand (s := { s with heap := h1 }) hit1 hp1 hx hy fun h' q1 q2 q3 q4 => ?_
    have e1 : h1.objs.size = s.heap.objs.size := sb.1
    have a' : IsCm h' it p 1 (.ref h1.objs.size) i j := q1
    have b' : IsPair h' h1.objs.size x y := q2
    have c' : h'.objs.size = h1.objs.size + 1 := q3
    show Q (.ref h1.objs.size) _
    rw [e1] at a' b' c' ⊢
    exact hQ h' a' b' c' fun q o hq e => q4 q o hq ((sb.2 q hq).trans e)
  · next e => exact nomatch e.symm.trans key
theorem cm_end1 {it p : Addr} {a b : Nat} {last : Value} {us : List Value} {Q : Fin → Shared → Prop} (hh : A.handled = none) (hit : IsCm s.heap it p 1 last a b) (hp : IsPool s.heap p us) (h1 : b + 1 = us.length) (h2 : us.length ≤ a + 2) (h3 : a < b)
    (hE : ∀ e h', (∃ o, h'.get? e = some o ∧ o.cls = .type "StopIteration") → (∀ c o, c ≠ it → s.heap.get? c = some o → h'.get? c = some o) → E (.ref e) { s with heap := h' }) :
    wpAny (model prog w) A (Builtin.«itertools.combinations.__next__» ⟨[.ref it], []⟩) Q E s := by
  show wpAny _ _ (field (.ref it) 0 >>= _) _ _ s
  refine wpAny_bind (wpAny_field hit rfl (x := .ref p) rfl ?_)
  show wpAny _ _ (Builtin.Itertools.itNumbersFrom (.ref it) 3 >>= _) _ _ s
  refine wpAny_bind ?_
  unfold Builtin.Itertools.itNumbersFrom
  refine wpAny_bind (wpAny_load hit ?_)
  refine wpAny_pure ?_
  show wpAny _ _ (Builtin.Itertools.itIntField (.ref it) 1 >>= _) _ _ s
  refine wpAny_bind ?_
  unfold Builtin.Itertools.itIntField
  refine wpAny_bind (wpAny_field hit rfl (x := rawInt 1) rfl ?_)
  refine wpAny_pure ?_
  show wpAny _ _ (Builtin.Itertools.itPoolItems (.ref p) >>= _) _ _ s
  refine wpAny_bind ?_
  unfold Builtin.Itertools.itPoolItems
  refine wpAny_bind (wpAny_seqItems hp rfl (wpAny_pure ?_))
  have key : (match List.find? (fun k => [a, b].getD k 0 != k + us.toArray.size - 2) [1, 0] with | none => (none : Option (List Nat)) | some k => some ([a, b].take k ++ (List.range (2 - k)).map fun m => [a, b].getD k 0 + 1 + m)) = none := by
    rw [List.size_toArray]
    rw [List.find?_cons_of_neg (by simp; omega), List.find?_cons_of_neg (by simp; omega)]
    rfl
  split
  · next nx e => exact nomatch e.symm.trans key
  · show wpAny _ _ (setField (.ref it) 1 (rawInt 2) >>= _) _ _ s
    refine wpAny_bind (wpAny_setField_rec hit (by simp) fun h5 hit5 sb5 => ?_)
    exact cm_stop (s := { s with heap := h5 }) hh fun e h' he k => hE e h' he fun c o hc q => k c o ((sb5.2 c hc).trans q)
theorem cm_end2 {it p : Addr} {a b : Nat} {last : Value} {Q : Fin → Shared → Prop} (hh : A.handled = none) (hit : IsCm s.heap it p 2 last a b)
    (hE : ∀ e h', (∃ o, h'.get? e = some o ∧ o.cls = .type "StopIteration") → (∀ c o, c ≠ it → s.heap.get? c = some o → h'.get? c = some o) → E (.ref e) { s with heap := h' }) :
    wpAny (model prog w) A (Builtin.«itertools.combinations.__next__» ⟨[.ref it], []⟩) Q E s := by
  show wpAny _ _ (field (.ref it) 0 >>= _) _ _ s
  refine wpAny_bind (wpAny_field hit rfl (x := .ref p) rfl ?_)
  show wpAny _ _ (Builtin.Itertools.itNumbersFrom (.ref it) 3 >>= _) _ _ s
  refine wpAny_bind ?_
  unfold Builtin.Itertools.itNumbersFrom
  refine wpAny_bind (wpAny_load hit ?_)
  refine wpAny_pure ?_
  show wpAny _ _ (Builtin.Itertools.itIntField (.ref it) 1 >>= _) _ _ s
  refine wpAny_bind ?_
  unfold Builtin.Itertools.itIntField
  refine wpAny_bind (wpAny_field hit rfl (x := rawInt 2) rfl ?_)
  refine wpAny_pure ?_
  show wpAny _ _ (rule "itertools.combinations.ended" >>= _) _ _ s
  refine wpAny_bind (wpAny_rule ?_)
  exact cm_stop hh fun e h' he k => hE e h' he fun c o _ q => k c o q
/-- the next one -/
theorem cm_pyItem {it : Addr} {Q : Option Value → Shared → Prop} (hT : s.TypeIs (.ref it) "itertools.combinations")
    (h : ∀ E' : Value → Shared → Prop, wpAny (model prog w) A.in1 (Builtin.«itertools.combinations.__next__» ⟨[.ref it], []⟩) (fun fin s' => ∃ v, fin = .done (.ret v) ∧ Q (some v) s') E' s) : wpAny (model prog w) A (pyNext (.ref it)) Q E s := by
  unfold pyNext
  refine wpAny_bind (wpAny_attempt (wpAny_callSpecial?_slot (name := Str.ofString "__next__") hT cm_next (wpAny_call_entry cm_next hT cm_entX ?_ (cm_argX _))))
  exact wpAny_mono (h _) (fun fin s' ⟨v, e, q⟩ => ⟨v, e, wpAny_pure q⟩) fun _ _ x => x
theorem cm_pyEnd {it : Addr} {Q : Option Value → Shared → Prop} (hT : s.TypeIs (.ref it) "itertools.combinations")
    (h : ∀ Q' : Fin → Shared → Prop, wpAny (model prog w) A.in1 (Builtin.«itertools.combinations.__next__» ⟨[.ref it], []⟩) Q' (fun e s' => ∃ a, e = .ref a ∧ (∃ o, s'.heap.get? a = some o ∧ o.cls = .type "StopIteration") ∧ Q none s') s) : wpAny (model prog w) A (pyNext (.ref it)) Q E s := by
  unfold pyNext
  refine wpAny_bind (wpAny_attempt (wpAny_callSpecial?_slot (name := Str.ofString "__next__") hT cm_next (wpAny_call_entry cm_next hT cm_entX ?_ (cm_argX _))))
  refine wpAny_mono (h _) (fun _ _ x => x) fun e s' ⟨a, ea, ⟨o, ho, hc⟩, q⟩ => ?_
  subst ea
  refine wpAny_bind (wpAny_isInstance (T := "StopIteration") (b := true) ⟨o, ho, hc⟩ isSubtype_stop ?_)
  exact wpAny_pure q
end
end Gx

/-! a loop over combinations(xs, 2) -/
namespace Gx
open PySem PySem.Spec PyProof.Rows L2
/-- all two of a list, by their places -/
def combos {α : Type} : List α → List (α × α)
  | [] => []
  | x :: xs => (xs.map fun y => (x, y)) ++ combos xs
def idxs : Nat → Nat → List (Nat × Nat)
  | _, 0 => []
  | i, m + 1 => ((List.range m).map fun k => (i, i + 1 + k)) ++ idxs (i + 1) m
def later2 (n i j : Nat) : List (Nat × Nat) := ((List.range (n - 1 - j)).map fun k => (i, j + 1 + k)) ++ idxs (i + 1) (n - 1 - i)
theorem range_head (m : Nat) {α : Type} (f : Nat → α) : (List.range (m + 1)).map f = f 0 :: (List.range m).map fun k => f (k + 1) := by
  rw [List.range_succ_eq_map, List.map_cons, List.map_map]
  rfl
theorem later2_next {n i j : Nat} (h : j + 1 < n) : later2 n i j = (i, j + 1) :: later2 n i (j + 1) := by
  unfold later2
  rw [show n - 1 - j = (n - 1 - (j + 1)) + 1 by omega, range_head]
  simp only [List.cons_append, Nat.add_zero]
  congr 2
  refine List.map_congr_left fun k _ => ?_
  rw [show j + 1 + (k + 1) = j + 1 + 1 + k by omega]
theorem later2_row {n i j : Nat} (h : j + 1 = n) (h2 : i + 2 < n) : later2 n i j = (i + 1, i + 2) :: later2 n (i + 1) (i + 2) := by
  unfold later2
  rw [show n - 1 - j = 0 by omega, List.range_zero, List.map_nil, List.nil_append, show n - 1 - i = (n - 1 - (i + 2)) + 1 + 1 by omega, idxs, range_head]
  simp only [List.cons_append, Nat.add_zero]
  rw [show n - 1 - (i + 1) = (n - 1 - (i + 2)) + 1 by omega]
  congr 2
  refine List.map_congr_left fun k _ => ?_
  rw [show i + 1 + 1 + (k + 1) = i + 2 + 1 + k by omega]
theorem later2_end {n i j : Nat} (h : j + 1 = n) (h2 : n ≤ i + 2) : later2 n i j = [] := by
  unfold later2
  rw [show n - 1 - j = 0 by omega, List.range_zero, List.map_nil, List.nil_append]
  rcases (by omega : n - 1 - i = 0 ∨ n - 1 - i = 1) with e | e
  · rw [e]; rfl
  · rw [e]; rfl
theorem idxs_first {n : Nat} (h : 2 ≤ n) : idxs 0 n = (0, 1) :: later2 n 0 1 := by
  obtain ⟨m, rfl⟩ : ∃ m, n = m + 1 + 1 := ⟨n - 2, by omega⟩
  unfold later2
  rw [idxs, range_head]
  simp only [List.cons_append, Nat.add_zero]
  rw [show m + 1 + 1 - 1 - 1 = m by omega, show m + 1 + 1 - 1 - 0 = m + 1 by omega]
  congr 2
  refine List.map_congr_left fun k _ => ?_
  rw [show 0 + 1 + (k + 1) = 1 + 1 + k by omega]
theorem idxs_none {n : Nat} (h : n < 2) : idxs 0 n = [] := by
  rcases (by omega : n = 0 ∨ n = 1) with e | e
  · rw [e]; rfl
  · rw [e]; rfl
theorem combos_idx {α : Type} (d : α) (xs : List α) : ∀ (m i : Nat), i + m = xs.length → combos (xs.drop i) = (idxs i m).map fun p => (xs.getD p.1 d, xs.getD p.2 d)
  | 0, i, h => by rw [List.drop_of_length_le (by omega)]; rfl
  | m + 1, i, h => by
    have hi : i < xs.length := by omega
    rw [List.drop_eq_getElem_cons hi, combos, combos_idx d xs m (i + 1) (by omega), idxs, List.map_append, List.map_map]
    congr 1
    have e : xs.drop (i + 1) = (List.range m).map fun k => xs.getD (i + 1 + k) d := by
      refine List.ext_getElem? fun k => ?_
      rw [List.getElem?_drop, List.getElem?_map]
      by_cases hk : k < m
      · rw [List.getElem?_range hk, List.getElem?_eq_getElem (by omega)]
        simp [List.getD, List.getElem?_eq_getElem (show i + 1 + k < xs.length by omega)]
      · rw [List.getElem?_eq_none (by omega), List.getElem?_eq_none (by simp; omega)]
        rfl
    rw [e, List.map_map]
    refine List.map_congr_left fun k _ => ?_
    simp [List.getD, List.getElem?_eq_getElem hi]
theorem combos_all {α : Type} (d : α) (xs : List α) : combos xs = (idxs 0 xs.length).map fun p => (xs.getD p.1 d, xs.getD p.2 d) := by
  have := combos_idx d xs xs.length 0 (Nat.zero_add _)
  rwa [List.drop_zero] at this
/-- what is handed out -/
def Itm (ps : List (V × V)) : It :=
  ⟨fun i _ => i < ps.length, fun i H v H' => ∃ T x y, v = .ref T ∧ H T = none ∧ H' = upd H T (.tup [x, y]) ∧ ps[i]? = some (x, y), fun i _ => ps.length ≤ i⟩
def CmAt (n : Nat) (it p : Addr) (us : List Value) (i : Nat) (h : Heap) : Prop := IsPool h p us ∧
  ((n < 2 ∧ ∃ last a b, IsCm h it p 2 last a b) ∨ (2 ≤ n ∧ i = 0 ∧ IsCm h it p 0 .none 0 1) ∨ ∃ k last a b, i = k + 1 ∧ IsCm h it p 1 last a b ∧ a < b ∧ b < n ∧ (idxs 0 n).drop (k + 1) = later2 n a b)
theorem CmAt.typ {n : Nat} {it p : Addr} {us : List Value} {i : Nat} {s : Shared} (h : CmAt n it p us i s.heap) : s.TypeIs (.ref it) "itertools.combinations" := by
  obtain ⟨_, ⟨_, _, _, _, h⟩ | ⟨_, _, h⟩ | ⟨_, _, _, _, _, h, _⟩⟩ := h
  · exact ⟨_, h, rfl⟩
  · exact ⟨_, h, rfl⟩
  · exact ⟨_, h, rfl⟩
theorem turn_cm {P : Program} {w : World} {K : PySem.W.Frag} {tg : Expr} {it p : Addr} {xs : List V} {us : List Value} (rv : Vals xs us) :
    Turn P w K tg (Itm (combos xs)) [it, p] it (CmAt xs.length it p us) where
  mem := by simp
  obj := fun i h st c hc => by
    obtain ⟨hp, st⟩ := st
    have e : c = it ∨ c = p := by simpa using hc
    rcases e with e | e
    · rw [e]
      rcases st with ⟨_, _, _, _, h⟩ | ⟨_, _, h⟩ | ⟨_, _, _, _, _, h, _⟩
      · exact ⟨_, h, fun v q => nomatch q⟩
      · exact ⟨_, h, fun v q => nomatch q⟩
      · exact ⟨_, h, fun v q => nomatch q⟩
    · rw [e]; exact ⟨_, hp, fun v q => nomatch q⟩
  keep := fun i h h' st k => by
    obtain ⟨hp, st⟩ := st
    refine ⟨k p (by simp) _ hp, ?_⟩
    rcases st with ⟨a1, a2, a3, a4, h⟩ | ⟨a1, a2, h⟩ | ⟨a1, a2, a3, a4, a5, h, a6⟩
    · exact .inl ⟨a1, a2, a3, a4, k it (by simp) _ h⟩
    · exact .inr (.inl ⟨a1, a2, k it (by simp) _ h⟩)
    · exact .inr (.inr ⟨a1, a2, a3, a4, a5, k it (by simp) _ h, a6⟩)
  item := by
    intro X hP hw hK hc i pins s σ H E I hf st hg
    subst hP hw hK
    have hT := st.typ
    obtain ⟨hp, st⟩ := st
    replace hg : i < (combos xs).length := hg
    have hl := rv.length
    have ce := combos_all V.non xs
    -- the places of this turn
    have fin : ∀ (a b : Nat), a < xs.length → b < xs.length → (idxs 0 xs.length)[i]? = some (a, b) → (idxs 0 xs.length).drop (i + 1) = later2 xs.length a b → a < b →
        (∀ (x y : Value) (Q : Value → Shared → Prop) (E' : Value → Shared → Prop), us[a]? = some x → us[b]? = some y →
          (∀ h', IsCm h' it p 1 (.ref s.heap.objs.size) a b → IsPair h' s.heap.objs.size x y → h'.objs.size = s.heap.objs.size + 1 → (∀ c o, c ≠ it → s.heap.get? c = some o → h'.get? c = some o) → Q (.ref s.heap.objs.size) { s with heap := h' }) →
          wpAny (model X.prog X.w) X.A.in1 (Builtin.«itertools.combinations.__next__» ⟨[.ref it], []⟩) (fun fin s' => ∃ v, fin = .done (.ret v) ∧ Q v s') E' s) →
        wpAny (model X.prog X.w) X.A (pyNext (.ref it)) (fun r s1 => ∃ u, r = some u ∧
          wpAny (model X.prog X.w) X.A (letOwnedTupleGo tg (.ref it) u) (fun _ s2 => ∃ x H', Inv X pins σ H' s2 ∧ RelV x u ∧ (Itm (combos xs)).yld i H x H' ∧ CmAt xs.length it p us (i + 1) s2.heap ∧ ∀ b ∈ [it, p], H' b = none) E s1) E s := by
      intro a b ha hb hi hd hab step
      have ea : xs[a]? = some (xs.getD a V.non) := by rw [List.getD, List.getElem?_eq_getElem ha]; rfl
      have eb : xs[b]? = some (xs.getD b V.non) := by rw [List.getD, List.getElem?_eq_getElem hb]; rfl
      obtain ⟨u, hu, ru⟩ := rv.get ea
      obtain ⟨u2, hu2, ru2⟩ := rv.get eb
      refine cm_pyItem hT fun E' => step u u2 (fun v s' => ∃ u, some v = some u ∧ _) E' hu hu2 fun h' a1 a2 a3 a4 => ⟨_, rfl, go_of (s := { s with heap := h' }) a1 rfl rfl (by decide) ?_⟩
      have pit : p ≠ it := fun e => by
        obtain ⟨o, ho, hco⟩ := hT
        rw [e] at hp
        have := Option.some.inj (hp.symm.trans ho)
        rw [← this] at hco
        simp at hco
      · have new : ObjOk X.prog X.w (upd H s.heap.objs.size (.tup [xs.getD a V.non, xs.getD b V.non])) h' s.heap.objs.size (.tup [xs.getD a V.non, xs.getD b V.non]) :=
          ⟨by show 2 ≤ sizeLine; decide, [u, u2], .cons ru (.cons ru2 .nil), ⟨_, a2, rfl, _, rfl⟩⟩
        have I1 : Inv X pins σ (upd H s.heap.objs.size (.tup [xs.getD a V.non, xs.getD b V.non])) { s with heap := h' } :=
          I.turnedNew (t' := s.toks) (ch := [it]) (fun c o hb q => a4 c o (fun e => hb (by simp [e])) q) (fun c hc => hf c (by simp at hc ⊢; exact .inl hc)) (Nat.le_refl _) new
        refine ⟨.ref s.heap.objs.size, _, I1, rfl, ⟨_, _, _, rfl, I.hok.fresh (Nat.le_refl _), rfl, ?_⟩, ⟨a4 p _ pit hp, .inr (.inr ⟨i, _, a, b, rfl, a1, hab, hb, hd⟩)⟩, fun c hc => ?_⟩
        · rw [ce, List.getElem?_map, hi]; rfl
        · have lt : c < s.heap.objs.size := by
            have e : c = it ∨ c = p := by simpa using hc
            rcases e with e | e
            · rw [e]; obtain ⟨o, ho, _⟩ := hT; exact Heap.lt_size ho
            · rw [e]; exact Heap.lt_size hp
          rw [upd_ne (Nat.ne_of_lt lt)]
          exact (hf c hc).1
    have hn : ∀ {k : Nat}, (idxs 0 xs.length).length = k → i < k := fun {k} e => by rw [← e]; rw [ce, List.length_map] at hg; exact hg
    have hi : i < (idxs 0 xs.length).length := hn rfl
    rcases st with ⟨n2, last, a, b, hit⟩ | ⟨n2, rfl, hit⟩ | ⟨k, last, a, b, rfl, hit, hab, hb, hd⟩
    · rw [idxs_none n2] at hi; exact absurd hi (by simp)
    · refine fin 0 1 (by omega) (by omega) (by rw [idxs_first n2]; rfl) (by rw [idxs_first n2]; rfl) (by omega) fun x y Q E' hx hy hQ => cm_item0 hit hp hx hy hQ
    · have hb' : b < us.length := by omega
      by_cases c1 : b + 1 < xs.length
      · rw [later2_next c1] at hd
        refine fin a (b + 1) (by omega) c1 ?_ ?_ (by omega) fun x y Q E' hx hy hQ => cm_item1 hit hp (.inl ⟨by omega, rfl, rfl⟩) hx hy hQ
        · have := congrArg (fun l : List (Nat × Nat) => l[0]?) hd
          simpa using this
        · have := congrArg (fun l : List (Nat × Nat) => l.drop 1) hd
          simpa [List.drop_drop] using this
      · have hb1 : b + 1 = xs.length := by omega
        by_cases c2 : a + 2 < xs.length
        · rw [later2_row hb1 c2] at hd
          refine fin (a + 1) (a + 2) (by omega) c2 ?_ ?_ (by omega) fun x y Q E' hx hy hQ => cm_item1 hit hp (.inr ⟨by omega, by omega, rfl, rfl⟩) hx hy hQ
          · have := congrArg (fun l : List (Nat × Nat) => l[0]?) hd
            simpa using this
          · have := congrArg (fun l : List (Nat × Nat) => l.drop 1) hd
            simpa [List.drop_drop] using this
        · rw [later2_end hb1 (by omega)] at hd
          have := congrArg List.length hd
          rw [List.length_drop, List.length_nil] at this
          omega
  done := by
    intro X hP hw hK hc i pins s σ H E I hf st hg
    subst hP hw hK
    have hT := st.typ
    obtain ⟨hp, st⟩ := st
    replace hg : (combos xs).length ≤ i := hg
    have hl := rv.length
    rw [combos_all V.non xs, List.length_map] at hg
    have hend : ∀ (e : Value) (h' : Heap), (∀ c o, c ≠ it → s.heap.get? c = some o → h'.get? c = some o) → Inv X pins σ H { s with heap := h' } := fun e h' k =>
      I.turnedL (t' := s.toks) (ch := [it]) (fun c o hb q => k c o (fun e => hb (by simp [e])) q) fun c hc => hf c (by simp at hc ⊢; exact .inl hc)
    rcases st with ⟨n2, last, a, b, hit⟩ | ⟨n2, rfl, hit⟩ | ⟨k, last, a, b, rfl, hit, hab, hb, hd⟩
    · exact cm_pyEnd hT fun Q' => cm_end2 (I.ok.hd hc) hit fun e h' q k => ⟨e, rfl, q, rfl, hend (.ref e) h' k⟩
    · rw [idxs_first n2] at hg; exact absurd hg (by simp)
    · have c1 : ¬ b + 1 < xs.length := fun c1 => by
        rw [later2_next c1] at hd
        have := congrArg List.length hd
        rw [List.length_drop, List.length_cons] at this
        omega
      have hb1 : b + 1 = xs.length := by omega
      have c2 : ¬ a + 2 < xs.length := fun c2 => by
        rw [later2_row hb1 c2] at hd
        have := congrArg List.length hd
        rw [List.length_drop, List.length_cons] at this
        omega
      exact cm_pyEnd hT fun Q' => cm_end1 (I.ok.hd hc) hit hp (by omega) (by omega) hab fun e h' q k => ⟨e, rfl, q, rfl, hend (.ref e) h' k⟩
  self := fun A i s Q E st h => by
    obtain ⟨_, ⟨_, _, _, _, q⟩ | ⟨_, _, q⟩ | ⟨_, _, _, _, _, q, _⟩⟩ := st
    · exact cm_self q h
    · exact cm_self q h
    · exact cm_self q h
/-- combinations(xs, 2) of a list -/
def iComb (K : PySem.W.Frag) (ta : TA) : TI := fun σ H R => ta σ H fun vs H1 => ∃ (a : Addr) (xs : List V), vs = [.ref a, .int 2] ∧ SqL K H1 a xs ∧ R (Itm (combos xs)) H1
theorem pi_comb {X : Cx} {tg e e2 : Expr} {ta : TA} {p pos : Pos} (hg : Gl X "combinations") (hm : X.mg "combinations" = some (.type "itertools.combinations")) (ha : PA X [e, e2] ta)
    (hs : starEach [e, e2] X.env = (false, eval e X.env) :: starEach [e2] X.env := by rfl) (hpl : (backTo pos (starEach [e2] X.env)).any (·.1) = false := by rfl) :
    PI X tg (.Call (.Name "combinations" p) [e, e2] [] pos) (iComb X.K ta) := by
  refine ⟨fun pins s σ H R I h => ?_⟩
  refine Call_ (ld_glob I hg hm (PyProof.Rows.callWith_type1 (thn (ha.run pos pins s σ H _ I h) fun us s1 ⟨vs, H1, I1, r1, q1⟩ => ?_) hs hpl))
  obtain ⟨a, xs, ex, hq, q⟩ := q1
  subst ex
  cases r1 with
  | cons r rr =>
    cases rr with
    | cons r' rr =>
      cases rr
      cases r
      obtain ⟨t, rfl⟩ := r'
      obtain ⟨its, rv, p1, hz⟩ := I1.list hq
      have hl := rv.length
      refine callType_new cm_called (by decide) (cm_call2 _ _) (cm_new2 _ _) (fun obj => F.args_object_init_3 obj _ _) cm_entN (cm_new a t its ?_) ⟨p1.isList, fun h' k => ?_⟩
      · omega
      · have z1 : (h'.push { cls := .type "tuple", data := .seq its.toArray }).objs.size = h'.objs.size + 1 := Heap.size_push ..
        have g1 := Heap.get?_push_size (h'.push { cls := .type "tuple", data := .seq its.toArray }) (o := { cls := .type "itertools.combinations", data := .fields #[.ref h'.objs.size, rawInt (if 2 > its.length then 2 else 0), .none, rawInt 0, rawInt 1] }) rfl
        rw [z1] at g1
        have g0 : ((h'.push { cls := .type "tuple", data := .seq its.toArray }).push { cls := .type "itertools.combinations", data := .fields #[.ref h'.objs.size, rawInt (if 2 > its.length then 2 else 0), .none, rawInt 0, rawInt 1] }).get? h'.objs.size = some _ := Heap.get?_push_of_some _ (Heap.get?_push_size _ rfl)
        have kk : ∀ b o, s1.heap.get? b = some o → ((h'.push { cls := .type "tuple", data := .seq its.toArray }).push { cls := .type "itertools.combinations", data := .fields #[.ref h'.objs.size, rawInt (if 2 > its.length then 2 else 0), .none, rawInt 0, rawInt 1] }).get? b = some o := fun b o e => Heap.get?_push_of_some _ (Heap.get?_push_of_some _ (k b o e))
        generalize ((h'.push { cls := .type "tuple", data := .seq its.toArray }).push { cls := .type "itertools.combinations", data := .fields #[.ref h'.objs.size, rawInt (if 2 > its.length then 2 else 0), .none, rawInt 0, rawInt 1] }) = h2 at g1 g0 kk ⊢
        refine ⟨⟨_, g1, rfl⟩, ?_⟩
        have I2 : Inv X pins σ H1 { s1 with heap := h2 } := I1.kept (t' := s1.toks) kk
        have at0 : CmAt xs.length (h'.objs.size + 1) h'.objs.size its 0 h2 := by
          refine ⟨g0, ?_⟩
          by_cases c : xs.length < 2
          · rw [if_pos (by omega)] at g1
            exact .inl ⟨c, _, 0, 1, g1⟩
          · rw [if_neg (by omega)] at g1
            exact .inr (.inl ⟨by omega, rfl, g1⟩)
        refine (turn_cm (P := X.prog) (w := X.w) (K := X.K) (tg := tg) rv).self _ 0 _ _ _ at0 ⟨_, _, _, _, H1, rfl, I2, turn_cm rv, at0, fun c hc => ?_, q⟩
        have I' : Inv X pins σ H1 { s1 with heap := h' } := I1.kept (t' := s1.toks) k
        have hle : h'.objs.size ≤ c := by
          have e : c = h'.objs.size + 1 ∨ c = h'.objs.size := by simpa using hc
          rcases e with e | e
          · exact e ▸ Nat.le_succ _
          · exact e ▸ Nat.le_refl _
        exact I'.fpOk hle (I'.hok.fresh hle)
theorem walk_comb {ps : List (V × V)} : Walk (Itm ps) ps.length (fun _ => True) (YPair (fun i => ps[i]?.map Prod.fst) (fun i => ps[i]?.map Prod.snd)) := by
  refine ⟨fun _ _ hi _ => hi, fun _ _ => Nat.le_refl _, fun i H v H' _ _ y => ?_⟩
  obtain ⟨T, x, z, h1, h2, h3, h4⟩ := y
  exact ⟨T, x, z, h1, h2, h3, by show Option.map Prod.fst ps[i]? = _; rw [h4]; rfl, by show Option.map Prod.snd ps[i]? = _; rw [h4]; rfl⟩
end Gx

/-! sorted(set(xs)) of a list of whole numbers -/
namespace Gx
open PySem PySem.Spec PyProof.Rows L2
section
variable {prog : Program} {w : World} {A : Around}
/-- set(l), l a list of whole numbers, with the order of its members -/
theorem set_of_ints {E : Value → Shared → Prop} {s : Shared} {l : Addr} {items : Array Value} {ns : List Int} {Q : Value → Shared → Prop} (hh : A.handled = none) (hl : s.heap.IsList l items) (hi : IntsAre items.toList ns) (hb : ns.length + 1 < scanBound)
    (h : ∀ (h' : Heap) (tk c : Nat), SetR w h' s.heap.objs.size (fun j => decide (j ∈ ns)) c → c ≤ ns.length → (∀ b o, s.heap.get? b = some o → h'.get? b = some o) → Q (.ref s.heap.objs.size) { s with heap := h', toks := tk }) :
    wpAny (model prog w) A (call (.type "set") [.ref l]) Q E s := by
  have hn : ns.length = items.size := by have q := IntsAre.length hi; rw [Array.length_toList] at q; exact q.symm
  obtain ⟨led, hled⟩ : ∃ led : Bool, (!w.params.followText "set-order") = led := ⟨_, rfl⟩
  obtain ⟨c0, tl0, mro0⟩ := PySem.F.called_set.mro
  have made0 := PySem.F.called_set.made; have sub0 := PySem.F.called_set.sub
  have nt0 := PySem.F.called_set.notType; have cc0 := PySem.F.called_set.canCreate
  have tc0 := PySem.F.typeCall_set_1 (.ref l)
  refine wpAny_call (codeAny_of_tree ?_)
  show wpAny (model prog w) _ (callAny (.type "set") _) _ _ _
  refine wpAny_pure ⟨Code.quiet_builtin _ (by decide +kernel), codeAny_builtin PySem.F.entry_type_call ?_⟩
  rw [Around.under_plain (weight_type_call_type "set" [.ref l] []) rfl]
  repeat any_goals first | assumption | wp_step
  refine codeAny_mono (code_set_led1 (.ref l) (E := E) (Q₁ := fun z t => z = .ref s.heap.objs.size ∧ t = { s with heap := s.heap.push { cls := .type "set", dict := none, data := .set #[] 0 (.fresh 0 0 (!w.params.followText "set-order")) } }) ⟨rfl, rfl⟩) fun r1 t1 q1 => ?_
  match r1, q1 with
  | .error e, q1 => exact q1
  | .ok (.ret z), q1 =>
    obtain ⟨rfl, rfl⟩ := q1
    have gS : (s.heap.push { cls := .type "set", dict := none, data := .set #[] 0 (.fresh 0 0 (!w.params.followText "set-order")) }).get? s.heap.objs.size = some { cls := .type "set", dict := none, data := .set #[] 0 (.fresh 0 0 (!w.params.followText "set-order")) } := Heap.get?_push_size _ rfl
    have tS : Shared.TypeIs { s with heap := s.heap.push { cls := .type "set", dict := none, data := .set #[] 0 (.fresh 0 0 (!w.params.followText "set-order")) } } (.ref s.heap.objs.size) "set" := ⟨_, gS, rfl⟩
    have li := PySem.F.called_set.init.lookup; have bi := PySem.F.called_set.init.bind (.ref s.heap.objs.size)
    repeat any_goals first | assumption | wp_step
    refine codeAny_mono (codeAny_call_builtin (R := wants (fun r t => r = .none ∧ ∃ h' tk c, t = { s with heap := h', toks := tk } ∧ SetR w h' s.heap.objs.size (fun j => decide (j ∈ ns)) c ∧ c ≤ ns.length ∧
        ∀ b o, s.heap.get? b = some o → h'.get? b = some o) E) PySem.F.called_set.init.plain PySem.F.entry_set_init (check_set_init_1 tS ?_)) fun r2 t2 q2 => ?_
    · obtain ⟨ol, gl, cl, nl, dl⟩ := hl
      obtain ⟨oc, od, ot, os⟩ := ol
      simp only at cl dl
      subst cl; subst dl
      have ll : l < s.heap.objs.size := Heap.lt_size gl
      have gl' : (s.heap.push { cls := .type "set", dict := none, data := .set #[] 0 (.fresh 0 0 (!w.params.followText "set-order")) }).get? l = some { cls := .type "list", dict := od, data := .seq items nl, slots := os } := Heap.get?_push_of_some _ gl
      have il : (s.heap.push { cls := .type "set", dict := none, data := .set #[] 0 (.fresh 0 0 (!w.params.followText "set-order")) }).IsList l items := ⟨_, gl', rfl, nl, rfl⟩
      have s1 := PySem.F.sub_list_set; have s2 := PySem.F.sub_list_frozenset
      have nd : (Value.type "list" == Value.type "dict") = false := by decide
      unfold Builtin.«set.__init__» noKeywords Builtin.Frozenset.updateFrom
      generalize hp : pyIter = pI
      wp_walk
      subst hp
      refine wpAny_pyIter_list il ?_
      refine wpAny_bind (wpAny_runValue ?_)
      have h3 : A.in1.in1.in1.handled = none := by simp [hh]
      have ni : l ≠ (s.heap.push { cls := .type "set", dict := none, data := .set #[] 0 (.fresh 0 0 (!w.params.followText "set-order")) }).objs.size := by rw [Heap.size_push]; exact Nat.ne_of_lt (Nat.lt_succ_of_lt ll)
      have zf : s.heap.objs.size ∉ [(s.heap.push { cls := .type "set", dict := none, data := .set #[] 0 (.fresh 0 0 (!w.params.followText "set-order")) }).objs.size, l] := by
        rw [Heap.size_push]; simp only [List.mem_cons, List.mem_singleton, List.not_mem_nil, or_false, not_or]
        exact ⟨Nat.ne_of_lt (Nat.lt_succ_self _), Nat.ne_of_gt ll⟩
      have hv : ∀ (i : Nat) (v : Value), items[i]? = some v → ∃ k t, ns[i]? = some k ∧ v = .int k t := fun i v q => by
        have il2 : i < ns.length := by rw [hn]; exact (Array.getElem?_eq_some_iff.mp q).1
        obtain ⟨t, e⟩ := PyProof.Rows.IntsAre.int_at hi i v (by rw [Array.getElem?_toList]; exact q)
        refine ⟨ns[i], t, List.getElem?_eq_getElem il2, ?_⟩
        rw [e, List.getD_eq_getElem?_getD, List.getElem?_eq_getElem il2] <;> rfl
      refine set_update_ints ((Walks.list h3 _ l ni items).toS) s.heap.objs.size zf ns hn.symm hb hv (items.size - 0) 0 _ (by omega) (Nat.zero_le _) ⟨⟨_, Heap.get?_push_size _ rfl, rfl, rfl⟩, il.push _⟩ ?_ fun t c mv hc hS => ?_
      · refine ⟨0, Nat.le_refl 0, setR_new_at ?_⟩
        exact Heap.get?_push_of_some _ gS
      · obtain ⟨h', g', d', tk', os'⟩ := t
        obtain rfl : g' = s.gens := mv.gens
        obtain rfl : d' = s.drawn := mv.drawn
        obtain rfl : os' = s.os := mv.os
        show wpAny (model prog w) _ _ _ _ _
        refine wpAny_pure ?_
        show wpAny (model prog w) _ (ret Value.none) _ _ _
        refine wpAny_pure ⟨rfl, h', tk', c, rfl, hS, by omega, fun b o e => ?_⟩
        have lb := Heap.lt_size e
        refine mv.heap b o (fun z => ?_) (Heap.get?_push_of_some _ (Heap.get?_push_of_some _ e))
        rcases List.mem_cons.mp z with y | y
        · exact Nat.ne_of_lt lb y
        · rcases List.mem_cons.mp y with y | y
          · rw [Heap.size_push] at y
            exact Nat.ne_of_lt (Nat.lt_succ_of_lt lb) y
          · cases y
    · match r2, q2 with
      | .error e, q2 => exact q2
      | .ok (.ret r), q2 =>
        obtain ⟨rfl, h', tk, c, rfl, hS, hc, hk⟩ := q2
        repeat any_goals first | assumption | wp_step
        exact h _ _ _ hS hc hk
/-- sorted(s), s a set of whole numbers, any number of them -/
theorem sorted_setN {E : Value → Shared → Prop} {s : Shared} {a : Addr} {S : Int → Bool} {n : Nat} {Q : Value → Shared → Prop} (R : SetR w s.heap a S n) (hh : A.handled = none)
    (hQ : ∀ s' p (out : Array Value) (c : Nat) (ns : List Int), (∀ b o, s.heap.get? b = some o → s'.heap.get? b = some o) → s'.gens = s.gens → s'.os = s.os → s.heap.objs.size ≤ p →
      s'.heap.get? p = some (seqObj "list" out c) → IntsAre out.toList ns → ns.Pairwise (· < ·) → (∀ k, k ∈ ns ↔ S k = true) → ns.length = n → Q (.ref p) s') :
    wpAny (model prog w) A (call (.builtin "sorted") [.ref a]) Q E s := by
  obtain ⟨o, es, ep, t, ho, hex, hd, g, nd, hm, hb, hf, hn, hr, hl⟩ := R
  refine Calls.call_function_entry kind_sorted plain_sorted entry_sorted (args_sorted1 _) ?_
  unfold Builtin.«sorted»
  refine wpAny_bind (m := checkCount "sorted" 1 1 _) (wpAny_pure (wpAny_bind (collect_set (A := A.in1) hh ⟨o, ho, hex.1, hd⟩ hf hb hr hl fun s1 vs keep le g1 o1 pm => ?_)))
  have lv : vs.length = n := by rw [pm.length_eq, List.length_map, Array.length_toList]; exact hn
  have lz : vs.length ≤ sizeLine := by rw [lv, ← hn]; unfold scanBound at hb; unfold sizeLine; omega
  have hI : IntsAre vs (vs.map Builtin.Re.reRawOf) := ints_of vs fun v hv => by
    obtain ⟨e, he, q⟩ := List.mem_map.mp (pm.mem_iff.mp hv)
    obtain ⟨k, tk, h1, _⟩ := g e he
    exact ⟨k, tk, q.symm.trans h1⟩
  have pk : (vs.map Builtin.Re.reRawOf).Perm (es.toList.map keyOf) := by
    have q := pm.map Builtin.Re.reRawOf
    rwa [List.map_map] at q
  refine wpAny_bind (wpAny_newList ?_ lz)
  have gL : (s1.heap.push (seqObj "list" vs.toArray 0)).get? s1.heap.objs.size = some (seqObj "list" vs.toArray 0) := Heap.get?_push_size _ rfl
  refine wpAny_bind (wpAny_holding (wpAny_call_entry slot_list_sort ⟨_, gL, rfl⟩ entry_list_sort (SrtO.list_sort_ord SrtO.swo_int gL lz (fun h2 => SrtO.ints_sortable hI h2) fun out a1 a2 => ⟨_, rfl, ?_⟩) (args_list_sort _)))
  obtain ⟨k1, k2, k3⟩ := SrtO.ints_out hI a1 a2
  obtain ⟨c, hc⟩ := sortedHeap_at (vs := vs) (out := out.toArray) gL
  have pn : (out.map SrtO.iv).Perm (es.toList.map keyOf) := k2.trans pk
  refine wpAny_pure ⟨_, rfl, hQ _ s1.heap.objs.size out.toArray c _ (fun b u e => ?_) g1 o1 le hc k1 (lt_of_le_nodup _ k3 (pn.nodup_iff.mpr nd)) (fun k => by rw [pn.mem_iff, ← hm k]) ?_⟩
  · have q := keep b u e
    have hlt := Heap.lt_size q
    show (sortedHeap (s1.heap.push (seqObj "list" vs.toArray 0)) s1.heap.objs.size vs out.toArray).get? b = some u
    rw [sortedHeap_old (Nat.ne_of_lt hlt) (by rw [size_push']; exact Nat.lt_succ_of_lt hlt)]
    exact Heap.get?_push_of_some _ q
  · rw [pn.length_eq, List.length_map, Array.length_toList]; exact hn
end
section
variable {X : Cx}
/-- sorted(set(xs)) of a list of whole numbers -/
def tSortedSetI (K : PySem.W.Frag) (ta : TE) : TE := fun σ H Q => ta σ H fun x H1 => ∃ (l : Addr) (ns : List Int), x = .ref l ∧ SqL K H1 l (ns.map V.int) ∧ ns.length ≤ 4000 ∧
  ∀ (ms : List Int) p, ms.Pairwise (· < ·) → (∀ k, k ∈ ms ↔ k ∈ ns) → H1 p = none → Q (.ref p) (upd H1 p (.lst (ms.map V.int)))
theorem pe_sortedSetI {a : Expr} {ta : TE} {p p2 q pos : Pos} (hg : Gl X "sorted") (hm : X.mg "sorted" = none) (hg2 : Gl X "set") (hm2 : X.mg "set" = none) (hh : X.A.handled = none) (ha : PE X a ta)
    (na : starEach [a] X.env = (false, eval a X.env) :: starEach [] X.env := by rfl) : PE X (.Call (.Name "sorted" p) [.Call (.Name "set" p2) [a] [] q] [] pos) (tSortedSetI X.K ta) := by
  refine ⟨fun pins s σ H Q I h => Call_ (ld_blt I hg hm (show bootBuiltins "sorted" = some (.builtin "sorted") by decide +kernel) (PyProof.Rows.callWith_builtin1 (PyProof.Rows.args_cons (Call_ (ld_blt I hg2 hm2 boot_set ?_)) rfl) rfl rfl))⟩
  refine PyProof.Rows.callWith_type1 (PyProof.Rows.args_cons (thn (ha.run pins s σ H _ I h) fun v s1 h1 => PyProof.Rows.args_nil ?_) na) na rfl
  obtain ⟨x, H1, I1, r1, l, ns, rfl, hq, hz, q1⟩ := h1
  have e : v = .ref l := r1
  subst e
  obtain ⟨its, rv, pl, _⟩ := I1.list hq
  refine set_of_ints hh pl.isList (ns := ns) (by simpa using rv.ints) (by unfold scanBound; omega) fun h' tk c hS hc hk => ?_
  have I2 : Inv X pins σ H1 { s1 with heap := h', toks := tk } := I1.kept hk
  refine PyProof.Rows.args_nil ?_
  obtain ⟨s2, hs2⟩ : ∃ s2 : Shared, s2 = { s1 with heap := h', toks := tk } := ⟨_, rfl⟩
  rw [← hs2] at I2 ⊢
  refine sorted_setN (by rw [hs2]; exact hS) hh fun s' p out c ms k g o hp hgp hi hs hm hl => ?_
  have hlen : (ms.map V.int).length ≤ sizeLine := by rw [List.length_map, hl]; unfold sizeLine; omega
  have hn : H1 p = none := I2.hok.fresh hp
  have J : Inv X pins σ (upd H1 p (.lst (ms.map V.int))) { s2 with heap := s'.heap, gens := s'.gens, drawn := s'.drawn, toks := s'.toks } :=
    I2.call (ch := []) (Un.laid k hp hn) (I2.hok.laid k hp ⟨hlen, out.toList, c, vals_of_ints hi, hgp⟩) (by rw [g]; exact I2.bare) (fun _ z => nomatch z)
  have e : s' = { s2 with heap := s'.heap, gens := s'.gens, drawn := s'.drawn, toks := s'.toks } := by
    cases s'
    cases s2
    cases o
    rfl
  rw [e]
  exact ⟨.ref p, _, J, rfl, q1 ms p hs (fun k => by rw [hm k]; exact decide_eq_true_iff) hn⟩
end
end Gx
namespace Gx
open L2
theorem room65 {A : PySem.Around} {k : Nat} (r : Room k A) : A.units + 65 < PySem.cLine := by have := r.un; omega
end Gx

/-! ### xs[i:j] = ys of another list, where j may lie behind the end -/
namespace Gx
open PySem PySem.Spec PyProof.Rows L2
section
variable {prog : Program} {w : World} {A : Around} {E : Value → Shared → Prop} {s : Shared}
theorem bounds_one {m n : Nat} (h : m ≤ n) : sliceBounds (some (m : Int)) (some ((m : Int) + 1)) none n = ((m : Int), ((min (m + 1) n : Nat) : Int), 1) := by
  have a1 : ¬ ((m : Int) < 0) := by omega
  have a2 : ¬ ((m : Int) + 1 < 0) := by omega
  have a3 : min (m : Int) (n : Int) = m := by omega
  have a4 : min ((m : Int) + 1) (n : Int) = ((min (m + 1) n : Nat) : Int) := by omega
  unfold sliceBounds
  rw [Option.getD_none]
  have a5 : max (0 : Int) (m : Int) = m := by omega
  have a6 : max (0 : Int) ((min (m + 1) n : Nat) : Int) = ((min (m + 1) n : Nat) : Int) := by omega
  simp only [a1, a2, if_false, show (1 : Int) > 0 by decide, if_true, a3, a4, a5, a6]
theorem setItem_cut {x y z : Addr} {us vs : Array Value} {n1 n2 : Nat} {u v : Value} {lo hi : Option Int} {m k : Nat} {Q : Unit → Shared → Prop}
    (ex : s.heap.get? x = some { cls := .type "list", data := .seq us n1 }) (ey : s.heap.get? y = some { cls := .type "list", data := .seq vs n2 }) (xy : x ≠ y)
    (ez : s.heap.IsSliceOf z u v .none) (pu : IsPart u lo) (pv : IsPart v hi) (bd : sliceBounds lo hi none us.size = ((m : Int), (k : Int), 1)) (hmk : m ≤ k) (hk : k ≤ us.size)
    (room : us.size + vs.size ≤ sizeLine) (fin : Q () { s with heap := s.heap.update x (Obj.mapSeq fun q => q.extract 0 m ++ vs ++ q.extract k q.size) }) :
    wpAny (model prog w) A (setItem (.ref x) (.ref z) (.ref y)) Q E s := by
  have lx := PySem.IsL.isList ex
  have ly := PySem.IsL.isList ey
  have ⟨oz, gz, cz, dz⟩ := ez
  have tz : s.TypeIs (.ref z) "slice" := ⟨oz, gz, cz⟩
  have no : Builtin.List.listSameRef (.ref x) (.ref y) = false := beq_eq_false_iff_ne.mpr xy
  have top : (max (m : Int) (k : Int)).toNat = k := by omega
  have big : ((fun q : Array Value => q.extract 0 m ++ vs ++ q.extract k q.size) us).size ≤ sizeLine + 1 := by
    simp only [Array.size_append, Array.size_extract]; omega
  unfold setItem
  try with_reducible refine wpAny_holding ?_
  first | (refine wpAny_bind (wpAny_pure ?_)) | skip
  refine wpAny_bind (wpAny_sequenceKey lx.typeIs (by decide) (wpAny_bind (wpAny_callSpecial?_slot (name := Str.ofString "__setitem__") lx.typeIs slot_list_setitem
    (wpAny_call_entry slot_list_setitem lx.typeIs entry_list_setitem ?_ (args_list_setitem _ _ _)))))
  show wpAny _ _ (Builtin.List.listSubscript? (.ref z) >>= _) _ _ s
  unfold Builtin.List.listSubscript?
  refine wpAny_bind (wpAny_bind (wpAny_specialOf tz slice_no_index ?_))
  rw [if_pos (show (none : Option Value).isNone = true from rfl)]
  refine wpAny_pure ?_
  show wpAny _ _ (typeOf (.ref z) >>= _) _ _ s
  refine wpAny_bind (wpAny_typeOf tz ?_)
  first
    | (rw [if_neg (by decide)]; skip)
    | (refine PySem.W.KFB.if_not (by decide) ?_; skip)
  rw [listSliceParts_eq]
  refine wpAny_bind (wpAny_bind (wpAny_field gz dz (x := .none) rfl (wpAny_bind (wpAny_listPart .none ?_))))
  rw [if_neg (show ¬ ((rawPart none == rawInt 0) = true) from Bool.false_ne_true)]
  refine wpAny_bind (wpAny_field gz dz (x := u) rfl (wpAny_bind (wpAny_listPart pu (wpAny_bind (wpAny_field gz dz (x := v) rfl (wpAny_bind (wpAny_listPart pv (wpAny_pure ?_))))))))
  first
    | (simp only [no, Bool.false_eq_true, if_false]; skip)
    | (refine PySem.W.KFB.if_not no ?_; skip)
    | (dsimp only; rw [if_neg (by rw [no]; exact Bool.false_ne_true)])
  refine wpAny_bind (m := Builtin.List.listAllItems (.ref y) "must assign iterable to extended slice") ?_
  unfold Builtin.List.listAllItems
  refine wpAny_bind (wpAny_typeOf ly.typeIs ?_)
  first
    | (refine PySem.W.KFB.if_so (by decide) ?_; skip)
    | (rw [if_pos (by decide)]; skip)
    | (simp only [beq_self_eq_true, Bool.true_or, if_true]; skip)
  unfold Builtin.List.listItems
  refine wpAny_bind (wpAny_seqItems ey rfl (wpAny_pure (wpAny_bind (wpAny_bind (wpAny_seqItems ex rfl (wpAny_pure ?_))))))
  refine wpAny_bind (wpAny_of_eq ((sliceIndices_raw lo hi none us.size (by simp)).trans (congrArg (pure : Int × Int × Int → Sem (Int × Int × Int)) bd)) ?_)
  show wpAny _ _ (if ((1 : Int) == 1) = true then _ else _) _ _ s; rw [if_pos (by decide)]
  refine wpAny_bind (wpAny_rule ?_)
  first
    | (simp only [notLongL room, Bool.false_eq_true, if_false]; skip)
    | (refine PySem.W.KFB.if_not (notLongL room) ?_; skip)
  first | (refine wpAny_bind (wpAny_pure ?_)) | skip
  show wpAny _ _ (updateSeq x (fun q => q.extract 0 ((m : Int)).toNat ++ vs ++ q.extract (max (m : Int) (k : Int)).toNat q.size) >>= _) _ _ s
  rw [top, Int.toNat_natCast]
  refine wpAny_bind (wpAny_updateSeq (hz := Nat.le_trans (Nat.le_add_right _ _) room) (_hz' := big) ex rfl (wpAny_bind (wpAny_letGo ?_)))
  first
    | (exact wpAny_bind (wpAny_pure (wpAny_pure ⟨.none, rfl, wpAny_pure fin⟩)))
    | (exact wpAny_pure ⟨.none, rfl, wpAny_pure fin⟩)
end
section
variable {X : Cx}
/-- xs[m:m+1] = ys, m no greater than xs is long -/
def sSlc (te : TE) (tl th : TO) (tv : TE) : TS := fun D σ H => tv σ H fun y H1 => te σ H1 fun x H2 => tl σ H2 fun l H3 => th σ H3 fun u H4 =>
  ∃ (a b : Addr) (xs ys : List V) (m : Nat), x = .ref a ∧ y = .ref b ∧ l = some (m : Int) ∧ u = some ((m : Int) + 1) ∧ a ≠ b ∧ H4 a = some (.lst xs) ∧ H4 b = some (.lst ys) ∧ m ≤ xs.length ∧
    xs.length + ys.length ≤ sizeLine ∧ D.nx σ (upd H4 a (.lst (xs.take m ++ ys ++ xs.drop (m + 1))))
theorem ps_slc {e value : Expr} {lo hi : Option Expr} {p1 p2 pos : Pos} {te tv : TE} {tl th : TO} (he : PE X e te) (hl : PO X lo tl) (hh : PO X hi th) (hv : PE X value tv)
    (hs : swapsWith value (some (.Subscript e (.Slice lo hi none p1) p2)) pos.line X.env = pure false) : PS X (.Assign [.Subscript e (.Slice lo hi none p1) p2] value pos) (sSlc te tl th tv) := by
  refine ⟨fun pins s σ H D I h => ?_⟩
  refine wpAny_Assign_Subscript (thn (hv.run pins s σ H _ I h) fun r s1 ⟨y, H1, I1, ry, q1⟩ => thn (he.run pins s1 σ H1 _ I1 q1) fun v s2 ⟨x, H2, I2, rx, q2⟩ => ?_) hs
  refine wpAny_Slice (thn (hl.run pins s2 σ H2 _ I2 q2) fun vl s3 ⟨l, H3, I3, pl, q3⟩ => thn (hh.run pins s3 σ H3 _ I3 q3) fun vu s4 ⟨u, H4, I4, pu, q4⟩ => ?_)
  rw [evalPart_none]
  refine wpAny_pure ?_
  obtain ⟨a, b, xs, ys, m, ex, ey, el, eu, ab, ha, hb, hm, hz, q⟩ := q4
  subst ex ey el eu
  cases rx
  cases ry
  have I5 : Inv X pins σ H4 { s4 with heap := s4.heap.push { cls := .type "slice", data := .fields #[vl, vu, .none] } } := I4.kept (t' := s4.toks) fun _ _ q => Heap.get?_push_of_some _ q
  obtain ⟨z1, its, n1, r1, l1, e1⟩ := I5.lstM ha
  obtain ⟨z2, jts, n2, r2, l2, e2⟩ := I5.lstM hb
  have len1 : its.toArray.size = xs.length := by rw [List.size_toArray]; exact l1.symm
  have len2 : jts.toArray.size = ys.length := by rw [List.size_toArray]; exact l2.symm
  refine setItem_cut (m := m) (k := min (m + 1) xs.length) e1 e2 ab (Heap.IsSliceOf.new ..) pl pu (by rw [len1]; exact bounds_one hm) (by omega) (by rw [len1]; omega) (by rw [len1, len2]; exact hz) ⟨σ, _, ?_, q⟩
  have ed : its.drop (min (m + 1) xs.length) = its.drop (m + 1) := by
    by_cases hc : m + 1 ≤ xs.length
    · rw [Nat.min_eq_left hc]
    · rw [List.drop_eq_nil_of_le (by omega), List.drop_eq_nil_of_le (by omega)]
  refine I5.lset (its' := its.take m ++ jts ++ its.drop (m + 1)) (t' := s4.toks) ha e1 ?_ (Vals.append (Vals.append (r1.take _) r2) (r1.drop _)) ?_
  · rw [← ed]
    exact splice_eq its jts m (min (m + 1) xs.length)
  · rw [List.length_append, List.length_append, List.length_take, List.length_drop]
    omega
end
end Gx

/-! ### repr of a list in which dicts from texts to whole numbers stand -/
namespace Gx
open PySem PySem.Spec PyProof.Rows L2 GxR GenW
def encN (ps : List (Str × Int)) : PyData := .dict (ps.map fun p => (.str p.1, .int p.2))
inductive Dm (K : PySem.W.Frag) (H : Hp) : V → PyData → Prop
  | p {v : V} {d : PyData} : Dp K H v d → d.hasDict = false → Dm K H v d
  | k {a : Addr} {ps : List (Str × Int)} : H a = some (.dK (ps.map fun p => ((Sum.inr p.1 : Key), V.int p.2))) → Dm K H (.ref a) (encN ps)
inductive Dms (K : PySem.W.Frag) (H : Hp) : List V → List PyData → Prop
  | nil : Dms K H [] []
  | cons {v : V} {d : PyData} {vs : List V} {ds : List PyData} : Dm K H v d → Dms K H vs ds → Dms K H (v :: vs) (d :: ds)
section
variable {X : Cx} {pins : List (Addr × Obj)} {σ : L2.St} {H : Hp} {s : Shared}
theorem pairs_read {h : Heap} : ∀ {ps : List (Str × Int)} {vs : List (Key × Value)}, KV (ps.map fun p => ((Sum.inr p.1 : Key), V.int p.2)) vs →
    PyProof.V.PairsRead h (fun k : Key => match k with | .inl i => PyData.int i | .inr x => PyData.str x) vs (ps.map fun p => (.str p.1, .int p.2)) []
  | [], _, h => by
    unfold KV at h
    rw [List.map_nil] at h
    cases h
    exact .nil
  | p :: ps, _, h => by
    unfold KV at h
    rw [List.map_cons] at h
    cases h with
    | @cons a b as bs r t =>
      obtain ⟨k, u⟩ := b
      obtain ⟨e, t2, eu⟩ := r
      have e : Sum.inr p.1 = k := e
      have eu : u = Value.int p.2 t2 := eu
      subst e eu
      exact PyProof.V.PairsRead.cons (as := []) (bs := []) (Reads.int _ _) (pairs_read t)
theorem Dm.shows (I : Inv X pins σ H s) {v : V} {u : Value} {d : PyData} (h : Dm X.K H v d) (r : RelV v u) (hs : d.showable = true) (hz : d.shown.length ≤ sizeLine) :
    ∃ as bs, Reads s.heap u d as ∧ ReadAtMost s.heap d.depth bs ∧ ReprK X.prog X.w bs s.heap d.depth u d.shown := by
  cases h with
  | p hd nod =>
    obtain ⟨as, rd⟩ := Dp.reads I d v u hd r
    obtain ⟨bs, h1, h2⟩ := ReprK.of_reads (prog := X.prog) (w := X.w) rd hs (PyData.noDict_hsm nod) hz
    exact ⟨as, bs, rd, h1, h2⟩
  | @k a ps e =>
    cases r
    obtain ⟨_, lo, vs, rel, dd⟩ := dk_of I.hok e
    have rd : Reads s.heap (.ref a) (encN ps) [a] := PyProof.V.reads_dictOf (fun k key hk => by
      rcases keyIs_shape hk with ⟨i, t, rfl, rfl⟩ | ⟨x, t, rfl, rfl⟩
      · exact Reads.int i t
      · exact Reads.str x t) dd (pairs_read rel)
    obtain ⟨bs, h1, h2⟩ := ReprK.of_reads (prog := X.prog) (w := X.w) rd hs (fun _ hm => by
      rw [List.mem_singleton.mp hm] at lo
      exact absurd lo (by simp)) hz
    exact ⟨_, bs, rd, h1, h2⟩
theorem Dms.shows (I : Inv X pins σ H s) : ∀ {vs : List V} {us : List Value} {ds : List PyData}, Dms X.K H vs ds → Vals vs us → PyData.showableAll ds = true → (∀ t ∈ PyData.shownAll ds, t.length ≤ sizeLine) →
    ∃ as bs, ReadsAll s.heap us ds as ∧ ReadAtMost s.heap (PyData.depthAll ds) bs ∧ ReprAllK X.prog X.w bs s.heap (PyData.depthAll ds) us (PyData.shownAll ds)
  | _, _, _, .nil, r, _, _ => by
    cases r
    exact ⟨[], [], .nil, (fun _ h => nomatch h), by simp only [PyData.shownAll]; exact .nil⟩
  | _, _, _, .cons (d := d) (ds := ds) h t, r, hs, hz => by
    cases r with
    | cons r1 r2 =>
      rw [PyData.showableAll, Bool.and_eq_true] at hs
      obtain ⟨as, bs, a1, a2, a3⟩ := h.shows I r1 hs.1 (hz _ (by rw [PyData.shownAll]; exact List.mem_cons_self))
      obtain ⟨cs, ds', b1, b2, b3⟩ := t.shows I r2 hs.2 fun t ht => hz t (by rw [PyData.shownAll]; exact List.mem_cons_of_mem _ ht)
      refine ⟨_, bs ++ ds', .cons a1 b1, (a2.mono ?_).append (b2.mono ?_), ?_⟩
      · rw [PyData.depthAll]
        exact Nat.le_max_left _ _
      · rw [PyData.depthAll]
        exact Nat.le_max_right _ _
      · rw [PyData.shownAll, PyData.depthAll]
        exact .cons ((a3.more fun b hb => List.mem_append_left _ hb).level_le (Nat.le_max_left _ _)) (b3.more_le (fun b hb => List.mem_append_right _ hb) (Nat.le_max_right _ _))
end
section
variable {X : Cx}
def rReprM (K : PySem.W.Frag) : List V → Hp → VK → Prop := fun xs H Q => ∃ (L : Addr) (v : V) (vs : List V) (ds : List PyData), xs = [.ref L] ∧ H L = some (.lst (v :: vs)) ∧ Dms K H (v :: vs) ds ∧ PyData.showableAll ds = true ∧
  PyData.depthAll ds ≤ 60 ∧ (PyData.list ds).shown.length ≤ sizeLine ∧ Q (.str (PyData.list ds).shown) H
theorem cr_reprM (g : X.A.guards = some []) (hu : X.A.units + 64 < cLine) : CallR X (.builtin "repr") (rReprM X.K) := by
  intro pins s σ H xs us Q I r h
  obtain ⟨L, v, vs, ds, rfl, hL, hD, hs, hd, hz, q⟩ := h
  obtain ⟨u, rfl, rx⟩ : ∃ u, us = [u] ∧ RelV (.ref L) u := by
    cases r with
    | cons r1 r2 => cases r2; exact ⟨_, rfl, r1⟩
  cases rx
  obtain ⟨z, its, n, ri, hl, e⟩ := I.lstM hL
  have hz2 : (listText (PyData.shownAll ds)).length ≤ sizeLine := by simpa only [PyData.shown] using hz
  obtain ⟨as, bs, a1, a2, a3⟩ := hD.shows I ri hs fun t ht => Nat.le_trans (listText_mem_le ht) hz2
  have rd : Reads s.heap (.ref L) (.list ds) (L :: as) := Reads.list e rfl rfl (by simpa using a1)
  have hna : L ∉ bs := not_mem_of_deeper rd (by simp only [PyData.depth]; omega) a2
  cases ri with
  | @cons _ y _ ys r1 r2 =>
    refine call_repr_slot (T := "list") (by omega) ⟨_, e, rfl⟩ F.slot_list_repr.toG ?_
    refine call_list_reprK e rfl rfl hna (by simpa using a3.length_eq) (fun i y e => a3.item i y (by simpa using e)) g (fun b _ => Clear.nil b) (by show X.A.units + 1 + (_ + 1) < cLine; omega) (fun _ _ e => e) (fun h' u tk hk => ?_) hz2
    refine ⟨_, _, rfl, .str _, H, I.kept hk, ⟨_, rfl⟩, ?_⟩
    have : (PyData.list ds).shown = listText (PyData.shownAll ds) := by simp only [PyData.shown]
    rw [this] at q
    exact q
end
end Gx

/-! ### tuples in which dicts with text keys stand: repr, == -/
namespace Gx
open PySem PySem.Spec PyProof.Rows L2 GxR GenW
inductive KvD (K : PySem.W.Frag) (H : Hp) : List (Key × V) → List (Str × PyData) → Prop
  | nil : KvD K H [] []
  | cons {x : Str} {v : V} {d : PyData} {r : List (Key × V)} {t : List (Str × PyData)} : Dp K H v d → d.hasDict = false → KvD K H r t → KvD K H ((Sum.inr x, v) :: r) ((x, d) :: t)
def dicD (ps : List (Str × PyData)) : PyData := .dict (ps.map fun p => (.str p.1, p.2))
/-- data, or a dict of data -/
inductive Di (K : PySem.W.Frag) (H : Hp) : V → PyData → Prop
  | p {v : V} {d : PyData} : Dp K H v d → d.hasDict = false → Di K H v d
  | k {a : Addr} {kvs : List (Key × V)} {ps : List (Str × PyData)} : H a = some (.dK kvs) → KvD K H kvs ps → Di K H (.ref a) (dicD ps)
inductive Dis (K : PySem.W.Frag) (H : Hp) : List V → List PyData → Prop
  | nil : Dis K H [] []
  | cons {v : V} {d : PyData} {vs : List V} {ds : List PyData} : Di K H v d → Dis K H vs ds → Dis K H (v :: vs) (d :: ds)
theorem kvd_plain {K : PySem.W.Frag} {H : Hp} {kvs : List (Key × V)} {ps : List (Str × PyData)} (h : KvD K H kvs ps) : PyData.hasDictAll ((ps.map fun p => ((.str p.1 : PyData), p.2)).map (·.2)) = false ∧ PyData.hasDictAll ((ps.map fun p => ((.str p.1 : PyData), p.2)).map (·.1)) = false := by
  induction h with
  | nil => exact ⟨rfl, rfl⟩
  | cons h1 h2 _ ih =>
    refine ⟨?_, ?_⟩
    · rw [List.map_cons, List.map_cons, PyData.hasDictAll, ih.1, h2]
      rfl
    · rw [List.map_cons, List.map_cons, PyData.hasDictAll, ih.2]
      rfl
section
variable {X : Cx} {pins : List (Addr × Obj)} {σ : L2.St} {H : Hp} {s : Shared}
theorem kvd_read (I : Inv X pins σ H s) {kvs : List (Key × V)} {ps : List (Str × PyData)} (h : KvD X.K H kvs ps) : ∀ {vs : List (Key × Value)}, KV kvs vs →
    ∃ bs, PyProof.V.PairsRead s.heap (fun k : Key => match k with | .inl i => PyData.int i | .inr x => PyData.str x) vs (ps.map fun p => (.str p.1, p.2)) bs := by
  induction h with
  | nil =>
    intro vs r
    cases r
    exact ⟨[], .nil⟩
  | cons h1 h2 _ ih =>
    intro vs r
    cases r with
    | @cons a b as bs r t =>
      obtain ⟨k, u⟩ := b
      obtain ⟨e, ru⟩ := r
      have e : Sum.inr _ = k := e
      subst e
      obtain ⟨as, rd⟩ := Dp.reads I _ _ u h1 ru
      obtain ⟨bs, pb⟩ := ih t
      exact ⟨_, .cons rd pb⟩
theorem Di.shows (I : Inv X pins σ H s) {v : V} {u : Value} {d : PyData} (h : Di X.K H v d) (r : RelV v u) (hs : d.showable = true) (hz : d.shown.length ≤ sizeLine) :
    ∃ as bs, Reads s.heap u d as ∧ ReadAtMost s.heap d.depth bs ∧ ReprK X.prog X.w bs s.heap d.depth u d.shown := by
  cases h with
  | p hd nod =>
    obtain ⟨as, rd⟩ := Dp.reads I d v u hd r
    obtain ⟨bs, h1, h2⟩ := ReprK.of_reads (prog := X.prog) (w := X.w) rd hs (PyData.noDict_hsm nod) hz
    exact ⟨as, bs, rd, h1, h2⟩
  | @k a kvs ps e kd =>
    cases r
    obtain ⟨_, lo, vs, rel, o, es, ep, ho, hx, hdat, c1, hp, c2⟩ := dk_of I.hok e
    obtain ⟨bs0, pr⟩ := kvd_read I kd rel
    obtain ⟨r1, r2⟩ := PyProof.V.readsAll_of_pairs (fun k key hk => by
      rcases keyIs_shape hk with ⟨i, t, rfl, rfl⟩ | ⟨x, t, rfl, rfl⟩
      · exact Reads.int i t
      · exact Reads.str x t) hp pr
    have rd : Reads s.heap (.ref a) (dicD ps) _ := Reads.dict ho hx.1 hdat r1 r2
    have big : (dictText (PyData.shownKv (ps.map fun p => ((.str p.1 : PyData), p.2)))).length ≤ sizeLine := by
      have e2 : (dicD ps).shown = dictText (PyData.shownKv (ps.map fun p => ((.str p.1 : PyData), p.2))) := by
        unfold dicD
        rw [PyData.shown]
      rw [← e2]
      exact hz
    obtain ⟨s1, s2⟩ := PyData.showableKv_split (ps.map fun p => ((.str p.1 : PyData), p.2)) (by
      unfold dicD at hs
      rwa [PyData.showable] at hs)
    obtain ⟨n2, n1⟩ := kvd_plain kd
    obtain ⟨b1, m1, k1⟩ := ReprAllK.of_readsAll (prog := X.prog) (w := X.w) r1 s1 (fun q => by rw [n1] at q; cases q) (fun t ht => by
      obtain ⟨q, hq, l⟩ := PyData.shownKv_key_le _ t ht
      exact Nat.le_trans (Nat.le_trans l (dictText_mem_le hq)) big)
    obtain ⟨b2, m2, k2⟩ := ReprAllK.of_readsAll (prog := X.prog) (w := X.w) r2 s2 (fun q => by rw [n2] at q; cases q) (fun t ht => by
      obtain ⟨q, hq, l⟩ := PyData.shownKv_val_le _ t ht
      exact Nat.le_trans (Nat.le_trans l (dictText_mem_le hq)) big)
    have dd : (dicD ps).depth = PyData.depthKv (ps.map fun p => ((.str p.1 : PyData), p.2)) + 1 := by
      unfold dicD
      rw [PyData.depth]
    have both : ReadAtMost s.heap (PyData.depthKv (ps.map fun p => ((.str p.1 : PyData), p.2))) (b1 ++ b2) := (m1.mono (PyData.depthAll_keys_le _)).append (m2.mono (PyData.depthAll_vals_le _))
    have out : a ∉ b1 ++ b2 := not_mem_of_deeper rd (by rw [dd]; omega) both
    refine ⟨_, a :: (b1 ++ b2), rd, ReadAtMost.cons rd (by rw [dd]; omega) both, ?_⟩
    rw [dd]
    unfold dicD
    rw [PyData.shown, PyData.shownKv_eq]
    exact ReprK.dict ho hx.1 hdat lo out (ReprEntriesK.of_two es.toList _ _ (k1.more_le (fun b hb => List.mem_append_left b2 hb) (PyData.depthAll_keys_le _)) (k2.more_le (fun b hb => List.mem_append_right b1 hb) (PyData.depthAll_vals_le _)))
theorem Dis.shows (I : Inv X pins σ H s) {vs : List V} {ds : List PyData} (h : Dis X.K H vs ds) : ∀ {us : List Value}, Vals vs us → PyData.showableAll ds = true → (∀ t ∈ PyData.shownAll ds, t.length ≤ sizeLine) →
    ∃ as bs, ReadsAll s.heap us ds as ∧ ReadAtMost s.heap (PyData.depthAll ds) bs ∧ ReprAllK X.prog X.w bs s.heap (PyData.depthAll ds) us (PyData.shownAll ds) := by
  induction h with
  | nil =>
    intro us r _ _
    cases r
    exact ⟨[], [], .nil, (fun _ h => nomatch h), by simp only [PyData.shownAll]; exact .nil⟩
  | @cons v d vs ds h t ih =>
    intro us r hs hz
    cases r with
    | cons r1 r2 =>
      rw [PyData.showableAll, Bool.and_eq_true] at hs
      obtain ⟨as, bs, a1, a2, a3⟩ := h.shows I r1 hs.1 (hz _ (by rw [PyData.shownAll]; exact List.mem_cons_self))
      obtain ⟨cs, ds', b1, b2, b3⟩ := ih r2 hs.2 fun t ht => hz t (by rw [PyData.shownAll]; exact List.mem_cons_of_mem _ ht)
      refine ⟨_, bs ++ ds', .cons a1 b1, (a2.mono ?_).append (b2.mono ?_), ?_⟩
      · rw [PyData.depthAll]
        exact Nat.le_max_left _ _
      · rw [PyData.depthAll]
        exact Nat.le_max_right _ _
      · rw [PyData.shownAll, PyData.depthAll]
        exact .cons ((a3.more fun b hb => List.mem_append_left _ hb).level_le (Nat.le_max_left _ _)) (b3.more_le (fun b hb => List.mem_append_right _ hb) (Nat.le_max_right _ _))
end
section
variable {X : Cx}
def rReprT (K : PySem.W.Frag) : List V → Hp → VK → Prop := fun xs H Q => ∃ (T : Addr) (vs : List V) (ds : List PyData), xs = [.ref T] ∧ SqT K H T vs ∧ Dis K H vs ds ∧ PyData.showableAll ds = true ∧
  PyData.depthAll ds ≤ 60 ∧ (PyData.tuple ds).shown.length ≤ sizeLine ∧ Q (.str (PyData.tuple ds).shown) H
theorem cr_reprT (g : X.A.guards = some []) (hu : X.A.units + 64 < cLine) : CallR X (.builtin "repr") (rReprT X.K) := by
  intro pins s σ H xs us Q I r h
  obtain ⟨T, vs, ds, rfl, hT, hD, hs, hd, hz, q⟩ := h
  obtain ⟨u, rfl, rx⟩ : ∃ u, us = [u] ∧ RelV (.ref T) u := by
    cases r with
    | cons r1 r2 => cases r2; exact ⟨_, rfl, r1⟩
  cases rx
  obtain ⟨its, ri, ⟨o, ho, hc, n, hdat⟩, hl⟩ := I.tuple hT
  have e0 : (PyData.tuple ds).shown = tupleText (PyData.shownAll ds) := by rw [PyData.shown]
  have hz2 : (tupleText (PyData.shownAll ds)).length ≤ sizeLine := by rw [← e0]; exact hz
  obtain ⟨as, bs, a1, a2, a3⟩ := hD.shows I ri hs fun t ht => Nat.le_trans (tupleText_mem_le ht) hz2
  have rd : Reads s.heap (.ref T) (.tuple ds) as := Reads.tuple ho hc hdat (by simpa using a1)
  have hna : T ∉ bs := not_mem_of_deeper rd (by simp only [PyData.depth]; omega) a2
  refine call_repr_slot (T := "tuple") (by omega) ⟨_, ho, hc⟩ F.slot_tuple_repr ?_
  refine call_tuple_reprK ho hc hdat hna (by simpa using a3) g (fun b _ => Clear.nil b) (by show X.A.units + 1 + (_ + 1) < cLine; omega) (fun _ _ e => e) (fun h' u tk hk => ?_) hz2
  refine ⟨_, _, rfl, .str _, H, I.kept hk, ⟨_, rfl⟩, ?_⟩
  rw [e0] at q
  exact q
end
/-! ### == -/
/-- the values of two dicts, key by key -/
def Hits (K : PySem.W.Frag) (H : Hp) (kvs lvs : List (Key × V)) (e : Key → Bool) : Prop := ∀ k v w, (k, v) ∈ kvs → valV lvs k = some w → ∃ d d', Dp K H v d ∧ Dp K H w d' ∧ SeqAt.shaped d = true ∧ SeqAt.shaped d' = true ∧ e k = PyData.eqv d d'
def dicE (kvs lvs : List (Key × V)) (e : Key → Bool) : Bool := kvs.length == lvs.length && kvs.all fun p => (valV lvs p.1).isSome && e p.1
inductive EqV (K : PySem.W.Frag) (H : Hp) : V → V → Bool → Prop
  | p {v w : V} {d d' : PyData} : Dp K H v d → Dp K H w d' → SeqAt.shaped d = true → SeqAt.shaped d' = true → EqV K H v w (PyData.eqv d d')
  | k {a b : Addr} {kvs lvs : List (Key × V)} {e : Key → Bool} : a ≠ b → H a = some (.dK kvs) → H b = some (.dK lvs) → Hits K H kvs lvs e → EqV K H (.ref a) (.ref b) (dicE kvs lvs e)
inductive EqVs (K : PySem.W.Frag) (H : Hp) : List V → List V → List Bool → Prop
  | nil : EqVs K H [] [] []
  | cons {v w : V} {b : Bool} {vs ws : List V} {bs : List Bool} : EqV K H v w b → EqVs K H vs ws bs → EqVs K H (v :: vs) (w :: ws) (b :: bs)
section
variable {X : Cx} {pins : List (Addr × Obj)} {σ : L2.St} {H : Hp} {s : Shared}
theorem dp_leaf (I : Inv X pins σ H s) {v w : V} {u y : Value} {d d' : PyData} (h : Dp X.K H v d) (k : Dp X.K H w d') (sd : SeqAt.shaped d = true) (se : SeqAt.shaped d' = true) (ru : RelV v u) (ry : RelV w y) :
    PySem.W.EqTree X.prog X.w s 64 u y (PyData.eqv d d') := by
  obtain ⟨as, r1⟩ := Dp.reads I d v u h ru
  obtain ⟨bs, r2⟩ := Dp.reads I d' w y k ry
  refine .leaf fun A hu => SeqAt.eqAt_reads d d' A s u y as bs r1 r2 (SeqAt.canLay_of_shaped sd) (SeqAt.canLay_of_shaped se) ?_
  have := SeqAt.depth_of_shaped sd
  have : min d.depth d'.depth ≤ d.depth := Nat.min_le_left _ _
  omega
theorem paired_mem {α β : Type} {F : α → β → Prop} : ∀ {xs : List α} {ys : List β}, Paired F xs ys → ∀ {y : β}, y ∈ ys → ∃ x, x ∈ xs ∧ F x y
  | _, _, .nil, _, h => by cases h
  | _, _, .cons r t, y, h => by
    rcases List.mem_cons.mp h with rfl | h
    · exact ⟨_, List.mem_cons_self, r⟩
    · obtain ⟨x, hx, fx⟩ := paired_mem t h
      exact ⟨x, List.mem_cons_of_mem _ hx, fx⟩
theorem EqV.tree (I : Inv X pins σ H s) {v w : V} {b : Bool} (h : EqV X.K H v w b) {u y : Value} (ru : RelV v u) (ry : RelV w y) : PySem.W.EqTree X.prog X.w s 65 u y b := by
  cases h with
  | @p _ _ d d' h1 h2 s1 s2 =>
    obtain ⟨as, r1⟩ := Dp.reads I _ v u h1 ru
    obtain ⟨bs, r2⟩ := Dp.reads I _ w y h2 ry
    refine .leaf fun A hu => SeqAt.eqAt_reads _ _ A s u y as bs r1 r2 (SeqAt.canLay_of_shaped s1) (SeqAt.canLay_of_shaped s2) ?_
    have := SeqAt.depth_of_shaped s1
    have : min d.depth d'.depth ≤ d.depth := Nat.min_le_left _ _
    omega
  | @k a b kvs lvs e ne ha hb hit =>
    cases ru
    cases ry
    obtain ⟨_, la, va, ra, da⟩ := dk_of I.hok ha
    obtain ⟨_, lb, vb, rb, db⟩ := dk_of I.hok hb
    have t := PySem.W.EqTree.dicts (prog := X.prog) (w := X.w) (s := s) (n := 64) (knd := mixKind X.prog X.w) (e := e) ne la lb da db fun k u y hm hv => by
      obtain ⟨⟨k', v⟩, hv', e1, r1⟩ := paired_mem ra hm
      have e1 : k' = k := e1
      subst e1
      have rv := rb.val k'
      rw [hv] at rv
      obtain ⟨w, hw, rw_⟩ : ∃ w, valV lvs k' = some w ∧ RelV w y := by
        cases z : valV lvs k' with
        | none =>
          rw [z] at rv
          exact absurd rv (by intro q; cases q)
        | some w =>
          rw [z] at rv
          exact ⟨w, rfl, rv⟩
      obtain ⟨d, d', p1, p2, s1, s2, ee⟩ := hit k' v w hv' hw
      rw [ee]
      exact dp_leaf I p1 p2 s1 s2 r1 rw_
    have e3 : (va.length == vb.length && va.all fun p => (valueAt vb p.1).isSome && e p.1) = dicE kvs lvs e := by
      unfold dicE
      rw [← ra.length, ← rb.length]
      congr 1
      have some_ : ∀ k, (valueAt vb k).isSome = (valV lvs k).isSome := fun k => by
        have rv := rb.val k
        cases z1 : valV lvs k with
        | none =>
          rw [z1] at rv
          cases z2 : valueAt vb k with
          | none => rfl
          | some q =>
            rw [z2] at rv
            exact absurd rv (by intro q; cases q)
        | some w =>
          rw [z1] at rv
          cases z2 : valueAt vb k with
          | none =>
            rw [z2] at rv
            exact absurd rv (by intro q; cases q)
          | some q => rfl
      have a1 : ∀ (l : List (Key × Value)), (l.all fun p => (valueAt vb p.1).isSome && e p.1) = (l.map (·.1)).all fun k => (valV lvs k).isSome && e k := fun l => by
        rw [List.all_map]
        congr 1
        funext p
        show ((valueAt vb p.1).isSome && e p.1) = ((valV lvs p.1).isSome && e p.1)
        rw [some_]
      rw [a1, ← ra.keys, List.all_map]
      rfl
    rw [← e3]
    exact t
theorem EqVs.trees (I : Inv X pins σ H s) {vs ws : List V} {bs : List Bool} (h : EqVs X.K H vs ws bs) : ∀ {us ys : List Value}, Vals vs us → Vals ws ys → us.length = bs.length ∧ ys.length = bs.length ∧
    ∀ j (h1 : j < us.length) (h2 : j < ys.length), PySem.W.EqTree X.prog X.w s 65 us[j] ys[j] (bs.getD j false) := by
  induction h with
  | nil =>
    intro us ys r1 r2
    cases r1
    cases r2
    exact ⟨rfl, rfl, fun j h1 => absurd h1 (Nat.not_lt_zero _)⟩
  | cons hb _ ih =>
    intro us ys r1 r2
    cases r1 with
    | cons a1 t1 =>
      cases r2 with
      | cons a2 t2 =>
        obtain ⟨l1, l2, t⟩ := ih t1 t2
        refine ⟨congrArg (· + 1) l1, congrArg (· + 1) l2, fun j h1 h2 => ?_⟩
        cases j with
        | zero => exact hb.tree I a1 a2
        | succ j => exact t j (Nat.lt_of_succ_lt_succ h1) (Nat.lt_of_succ_lt_succ h2)
end
section
open AutoSeq1 SeqRoads2 MeetsSeq MeetsSeq2 MeetsSeq3 SeqAt
variable {prog : Program} {w : World}
/-- tuple.__ne__ of two of one length, item by item -/
theorem ne_meets (p q : Addr) (us ys : List Value) (bs : List Bool) (n m : Nat) (od oe : Option Addr) (so sp : Array (Option Value)) (lu : us.length = bs.length) (ly : ys.length = bs.length) :
    MeetsIn prog w (Builtin.«tuple.__ne__» ⟨[.ref p, .ref q], []⟩) (fun A R s =>
      s.heap.get? p = some { cls := .type "tuple", dict := od, data := .seq us.toArray n, slots := so } ∧
      s.heap.get? q = some { cls := .type "tuple", dict := oe, data := .seq ys.toArray m, slots := sp } ∧
      (∀ (j : Nat) (u y : Value) (b : Bool), us[j]? = some u → ys[j]? = some y → bs[j]? = some b → EqIn prog w A.in1 s u y b) ∧ R (.ok (.ret (.bool (!bs.all id)))) s) := .of_wp fun A R s h => by
  obtain ⟨hp, g, d, tk, os⟩ := s
  obtain ⟨e1, e2, each, fin⟩ := h
  have sub := AutoSeq1.sub_tuple_tuple
  have zl : (us.zip ys).length = bs.length := by rw [List.length_zip, lu, ly, Nat.min_self]
  wp_walk using wpAny_loadPart' e1, wpAny_loadPart' e2, wpAny_forIn_list _ (fun left acc st => acc.1 = none ∧ st = ⟨hp, g, d, tk, os⟩ ∧ ∃ i, left = (us.zip ys).drop i ∧ R (.ok (.ret (.bool (!(bs.drop i).all id)))) ⟨hp, g, d, tk, os⟩) _
  case turn =>
    rintro ⟨u, y⟩ left acc st ⟨ha, rfl, i, hz, hr⟩
    have hi : i < (us.zip ys).length := Nat.lt_of_not_le fun z => by
      rw [List.drop_of_length_le z] at hz
      cases hz
    have hb : i < bs.length := by omega
    have at_ : (us.zip ys)[i]? = some (u, y) := by
      have := congrArg List.head? hz
      rw [List.head?_cons, List.head?_drop] at this
      exact this.symm
    have tl : left = (us.zip ys).drop (i + 1) := by
      have := congrArg List.tail hz
      rw [List.tail_cons, List.tail_drop] at this
      exact this
    obtain ⟨a1, a2⟩ := List.getElem?_zip_eq_some.mp at_
    have bd : bs.drop i = bs[i] :: bs.drop (i + 1) := List.drop_eq_getElem_cons hb
    rw [bd, List.all_cons] at hr
    refine wpAny_bind (each i u y bs[i] a1 a2 (List.getElem?_eq_getElem hb) _ _ ?_)
    cases cb : bs[i] with
    | true =>
      rw [cb] at hr
      wp_walk
      exact ⟨rfl, rfl, i + 1, tl, by simpa using hr⟩
    | false =>
      rw [cb] at hr
      wp_walk
      exact ⟨_, rfl, by simpa using hr⟩
  case fin =>
    rintro ⟨c1, c2⟩ st ⟨hc, rfl, i, hz, hr⟩
    have hc : c1 = none := hc
    subst hc
    have hi : bs.length ≤ i := Nat.le_of_not_lt fun z => by
      rw [List.drop_eq_getElem_cons (by omega : i < (us.zip ys).length)] at hz
      cases hz
    rw [List.drop_of_length_le hi] at hr
    wp_walk
    refine ⟨_, rfl, ?_⟩
    simpa [Builtin.Tuple.tupleCompareSizes, bne, lu, ly] using hr
  case h =>
    exact ⟨rfl, rfl, 0, by simp, by simpa using fin⟩
end
section
variable {X : Cx}
def rEqT (K : PySem.W.Frag) : R2 := fun x y H Q => ∃ (a b : Addr) (vs ws : List V) (bs : List Bool), x = .ref a ∧ y = .ref b ∧ SqT K H a vs ∧ SqT K H b ws ∧ EqVs K H vs ws bs ∧ Q (.bl (bs.all id)) H
def rNeT (K : PySem.W.Frag) : R2 := fun x y H Q => ∃ (a b : Addr) (vs ws : List V) (bs : List Bool), x = .ref a ∧ y = .ref b ∧ SqT K H a vs ∧ SqT K H b ws ∧ EqVs K H vs ws bs ∧ Q (.bl (!bs.all id)) H
theorem all_range {bs : List Bool} : ((List.range bs.length).all fun j => bs.getD j false) = bs.all id := by
  induction bs with
  | nil => rfl
  | cons b r ih =>
    rw [List.length_cons, List.range_succ_eq_map, List.all_cons, List.all_cons, ← ih, List.all_map]
    rfl
theorem op_eqT (hu : X.A.units + 128 < cLine) : OpR X (compareOp .Eq) (rEqT X.K) := by
  intro pins s σ H x y v u Q I rx ry h
  obtain ⟨a, b, vs, ws, bs, rfl, rfl, ha, hb, he, q⟩ := h
  cases rx
  cases ry
  obtain ⟨i1, r1, ⟨o1, x1, x2, n1, x3⟩, _⟩ := I.tuple ha
  obtain ⟨i2, r2, ⟨o2, y1, y2, n2, y3⟩, _⟩ := I.tuple hb
  obtain ⟨l1, l2, t⟩ := he.trees I r1 r2
  refine PySem.W.eq_tuplesT (n := 65) (e := fun j => bs.getD j false) ⟨o1, x1, x2, n1, x3⟩ ⟨o2, y1, y2, n2, y3⟩ (fun j h1 h2 => by simpa using t j (by simpa using h1) (by simpa using h2)) (by omega) ?_
  have e1 : ((List.range (min i1.toArray.size i2.toArray.size)).all (fun j => bs.getD j false) && i1.toArray.size == i2.toArray.size) = bs.all id := by
    rw [List.size_toArray, List.size_toArray, l1, l2, Nat.min_self, all_range, beq_self_eq_true, Bool.and_true]
  rw [e1]
  exact ⟨.bl _, H, I, rfl, q⟩
theorem op_neT (hu : X.A.units + 128 < cLine) : OpR X (compareOp .NotEq) (rNeT X.K) := by
  intro pins s σ H x y v u Q I rx ry h
  obtain ⟨a, b, vs, ws, bs, rfl, rfl, ha, hb, he, q⟩ := h
  cases rx
  cases ry
  obtain ⟨i1, r1, ⟨⟨c1, d1, t1, s1⟩, x1, x2, n1, x3⟩, _⟩ := I.tuple ha
  obtain ⟨i2, r2, ⟨⟨c2, d2, t2, s2⟩, y1, y2, n2, y3⟩, _⟩ := I.tuple hb
  have x2 : c1 = .type "tuple" := x2
  have x3 : t1 = .seq i1.toArray n1 := x3
  have y2 : c2 = .type "tuple" := y2
  have y3 : t2 = .seq i2.toArray n2 := y3
  subst x2 x3 y2 y3
  obtain ⟨l1, l2, t⟩ := he.trees I r1 r2
  show wpAny (model X.prog X.w) X.A (richCompare .NotEq (.ref a) (.ref b)) _ _ s
  refine wpAny_richCompare_same_room (T := "tuple") (op := .NotEq) ⟨_, x1, rfl⟩ ⟨_, y1, rfl⟩ F.slot_tuple_ne (call_meetsIn F.slot_tuple_ne ⟨_, x1, rfl⟩ F.entry_tuple_ne (F.args_tuple_ne_2 _ _) (ne_meets a b i1 i2 bs n1 n2 d1 d2 s1 s2 l1 l2)
    ⟨x1, y1, fun j u y b e1 e2 e3 => ?_, show Value.bool (!bs.all id) ≠ Value.notImplemented ∧ _ from ⟨(fun x => nomatch x), ⟨.bl _, H, I, rfl, q⟩⟩⟩) (by omega)
  obtain ⟨h1, rfl⟩ := List.getElem?_eq_some_iff.mp e1
  obtain ⟨h2, rfl⟩ := List.getElem?_eq_some_iff.mp e2
  have t2 := t j h1 h2
  rw [List.getD_eq_getElem?_getD, e3] at t2
  exact t2.at _ (by show X.A.units + 1 + 65 < cLine; omega)
/-- d != {} -/
def rNeD0 : R2 := fun x y H Q => ∃ (a b : Addr) (kvs : List (Key × V)), x = .ref a ∧ y = .ref b ∧ H a = some (.dK kvs) ∧ H b = some (.dK []) ∧ Q (.bl (decide (kvs ≠ []))) H
theorem op_neD0 (hu : X.A.units < cLine) : OpR X (compareOp .NotEq) rNeD0 := by
  intro pins s σ H x y v u Q I rx ry h
  obtain ⟨a, b, kvs, rfl, rfl, ha, hb, q⟩ := h
  cases rx
  cases ry
  obtain ⟨_, la, va, ra, da⟩ := dk_of I.hok ha
  obtain ⟨_, lb, vb, rb, db⟩ := dk_of I.hok hb
  cases rb
  have e : (!(va.length == ([] : List (Key × Value)).length && true)) = decide (kvs ≠ []) := by
    rw [← ra.length, Bool.and_true]
    cases kvs <;> rfl
  refine PySem.W.keq_ne (knd := mixKind X.prog X.w) (r := true) la lb da db hu (fun z => ?_) ?_
  · rw [List.length_nil] at z
    rw [List.eq_nil_of_length_eq_zero z]
    exact .nil
  · rw [e]
    exact ⟨.bl _, H, I, rfl, q⟩
theorem room128 {A : PySem.Around} {k : Nat} (r : Room k A) : A.units + 128 < PySem.cLine := by
  have := r.un
  omega
end
end Gx

/-! Partings that do not cross, and the places of their tree: without a heap, of names of any kind. -/
namespace Gx
section
variable {α : Type} [DecidableEq α]
theorem snoc_ind {β : Type} {C : List β → Prop} (h0 : C []) (hs : ∀ l a, C l → C (l ++ [a])) (l : List β) : C l := by
  have : ∀ k : List β, C k.reverse := fun k => by
    induction k with
    | nil => exact h0
    | cons a k ih => rw [List.reverse_cons]; exact hs _ _ ih
  rw [← l.reverse_reverse]
  exact this _
/-! ### pairs of a list, counted -/
def pc {β : Type} (R : β → β → Bool) : List β → Nat
  | [] => 0
  | x :: xs => xs.countP (R x) + pc R xs
theorem pc_perm {β : Type} {R : β → β → Bool} (sy : ∀ a b, R a b = R b a) {l k : List β} (h : l.Perm k) : pc R l = pc R k := by
  induction h with
  | nil => rfl
  | cons x p ih => rw [pc, pc, ih, p.countP_eq]
  | swap x y l =>
    rw [pc, pc, pc, pc, List.countP_cons, List.countP_cons, sy x y]
    omega
  | trans _ _ h1 h2 => exact h1.trans h2
theorem pc_map {β γ : Type} {R : γ → γ → Bool} (g : β → γ) (l : List β) : pc R (l.map g) = pc (fun a b => R (g a) (g b)) l := by
  induction l with
  | nil => rfl
  | cons x l ih =>
    rw [List.map_cons, pc, pc, ih, List.countP_map]
    rfl
theorem pc_congr {β : Type} {R S : β → β → Bool} {l : List β} (nd : l.Nodup) (h : ∀ a ∈ l, ∀ b ∈ l, a ≠ b → R a b = S a b) : pc R l = pc S l := by
  induction l with
  | nil => rfl
  | cons x l ih =>
    have nd2 := List.nodup_cons.mp nd
    rw [pc, pc, ih nd2.2 fun a ha b hb => h a (List.mem_cons_of_mem _ ha) b (List.mem_cons_of_mem _ hb)]
    congr 1
    refine List.countP_congr fun b hb => ?_
    rw [h x List.mem_cons_self b (List.mem_cons_of_mem _ hb) fun z => nd2.1 (by rw [z]; exact hb)]
theorem pc_snoc {β : Type} {R : β → β → Bool} (l : List β) (x : β) : pc R (l ++ [x]) = pc R l + l.countP fun y => R y x := by
  induction l with
  | nil => rfl
  | cons y l ih =>
    rw [List.cons_append, pc, pc, ih, List.countP_append, List.countP_cons (a := y)]
    rw [List.countP_singleton]
    omega
/-! ### meeting, crossing -/
def meet (a b : List α) : Bool := a.any fun x => decide (x ∈ b)
theorem meet_iff {a b : List α} : meet a b = true ↔ ∃ x, x ∈ a ∧ x ∈ b := by
  unfold meet
  rw [List.any_eq_true]
  exact ⟨fun ⟨x, h1, h2⟩ => ⟨x, h1, of_decide_eq_true h2⟩, fun ⟨x, h1, h2⟩ => ⟨x, h1, decide_eq_true h2⟩⟩
theorem meet_no {a b : List α} : meet a b = false ↔ ∀ x, x ∈ a → x ∉ b := by
  rw [← Bool.not_eq_true, meet_iff]
  exact ⟨fun h x h1 h2 => h ⟨x, h1, h2⟩, fun h ⟨x, h1, h2⟩ => h x h1 h2⟩
theorem meet_comm (a b : List α) : meet a b = meet b a := by
  rw [Bool.eq_iff_iff, meet_iff, meet_iff]
  exact ⟨fun ⟨x, h⟩ => ⟨x, h.2, h.1⟩, fun ⟨x, h⟩ => ⟨x, h.2, h.1⟩⟩
def crossB (p q : List α × List α) : Bool := (meet p.1 q.1 && meet p.1 q.2) && (meet p.2 q.1 && meet p.2 q.2)
theorem cross_comm (p q : List α × List α) : crossB p q = crossB q p := by
  unfold crossB
  rw [meet_comm q.1 p.1, meet_comm q.1 p.2, meet_comm q.2 p.1, meet_comm q.2 p.2]
  cases meet p.1 q.1 <;> cases meet p.1 q.2 <;> cases meet p.2 q.1 <;> cases meet p.2 q.2 <;> rfl
def fitsB (s : List (List α)) (c : List α) : Bool := s.all fun d => meet c d
def ext (p : List α × List α) (s : List (List α)) : List (List (List α)) := ([p.1, p.2].filter (fitsB s)).map fun c => s ++ [c]
def placesOf (ps : List (List α × List α)) : List (List (List α)) := ps.foldl (fun acc p => acc.flatMap (ext p)) [[]]
theorem places_snoc (ps : List (List α × List α)) (p : List α × List α) : placesOf (ps ++ [p]) = (placesOf ps).flatMap (ext p) := by
  unfold placesOf
  rw [List.foldl_append]
  rfl
def sd (p : List α × List α) (b : Bool) : List α := if b = true then p.1 else p.2
/-- partings of names `ns` with the first name `h`, no two of which cross -/
structure Prts (ns : List α) (h : α) (ps : List (List α × List α)) : Prop where
  nd : ps.Nodup
  hd1 : ∀ p ∈ ps, h ∈ p.1
  hd2 : ∀ p ∈ ps, h ∉ p.2
  ne2 : ∀ p ∈ ps, p.2 ≠ []
  nd2 : ∀ p ∈ ps, p.2.Nodup
  cov : ∀ p ∈ ps, ∀ x, x ∈ p.1 ↔ x ∈ ns ∧ x ∉ p.2
  sub : ∀ p ∈ ps, ∀ x ∈ p.2, x ∈ ns
  eqv : ∀ p ∈ ps, ∀ q ∈ ps, (∀ x, x ∈ p.2 ↔ x ∈ q.2) → p = q
  nc : ps.Pairwise fun p q => crossB p q = false
theorem Prts.left {ns : List α} {h : α} {ps qs : List (List α × List α)} (g : Prts ns h (ps ++ qs)) : Prts ns h ps :=
  have m : ∀ {p}, p ∈ ps → p ∈ ps ++ qs := fun hp => List.mem_append_left _ hp
  ⟨(List.nodup_append.mp g.nd).1, fun p hp => g.hd1 p (m hp), fun p hp => g.hd2 p (m hp), fun p hp => g.ne2 p (m hp), fun p hp => g.nd2 p (m hp), fun p hp => g.cov p (m hp), fun p hp => g.sub p (m hp), fun p hp q hq => g.eqv p (m hp) q (m hq), (List.pairwise_append.mp g.nc).1⟩
theorem Prts.one {ns : List α} {h : α} {ps : List (List α × List α)} (g : Prts ns h ps) {p : List α × List α} (hp : p ∈ ps) (x : α) (hx : x ∈ ns) (b : Bool) : x ∈ sd p b ↔ x ∉ sd p (!b) := by
  have c := g.cov p hp x
  cases b
  · show x ∈ p.2 ↔ x ∉ p.1
    rw [c]
    by_cases z : x ∈ p.2
    · simp [z]
    · simp [z, hx]
  · show x ∈ p.1 ↔ x ∉ p.2
    rw [c]
    simp [hx]
theorem Prts.in_ {ns : List α} {h : α} {ps : List (List α × List α)} (g : Prts ns h ps) {p : List α × List α} (hp : p ∈ ps) {b : Bool} {x : α} (hx : x ∈ sd p b) : x ∈ ns := by
  cases b
  · exact g.sub p hp x hx
  · exact ((g.cov p hp x).mp hx).1
theorem Prts.some_ {ns : List α} {h : α} {ps : List (List α × List α)} (g : Prts ns h ps) {p : List α × List α} (hp : p ∈ ps) (b : Bool) : ∃ x, x ∈ sd p b := by
  cases b
  · exact List.exists_mem_of_ne_nil _ (g.ne2 p hp)
  · exact ⟨h, g.hd1 p hp⟩
theorem Prts.ne {ns : List α} {h : α} {ps : List (List α × List α)} (g : Prts ns h ps) {p : List α × List α} (hp : p ∈ ps) {a b : Bool} : sd p a = sd p b ↔ a = b := by
  refine ⟨fun e => ?_, fun e => by rw [e]⟩
  have h1 := g.hd1 p hp
  have h2 := g.hd2 p hp
  cases a <;> cases b
  · rfl
  · exact absurd (show h ∈ p.2 by have e' : p.2 = p.1 := e; rw [e']; exact h1) h2
  · exact absurd (show h ∈ p.2 by have e' : p.1 = p.2 := e; rw [← e']; exact h1) h2
  · rfl
/-- the side of an earlier parting that meets both sides of a new one -/
def b0 (p q : List α × List α) : Bool := meet q.1 p.1 && meet q.1 p.2
theorem Prts.mid {ns : List α} {h : α} {ps : List (List α × List α)} {p : List α × List α} (g : Prts ns h (ps ++ [p])) {q : List α × List α} (hq : q ∈ ps) :
    (∀ c, ∃ x, x ∈ sd q (b0 p q) ∧ x ∈ sd p c) ∧ ∃ c, ∀ x, x ∈ sd p c → x ∈ sd q (b0 p q) := by
  have hq' : q ∈ ps ++ [p] := List.mem_append_left _ hq
  have hp' : p ∈ ps ++ [p] := List.mem_append_right _ List.mem_cons_self
  have qp : q ≠ p := fun z => (List.nodup_append.mp g.nd).2.2 q hq p List.mem_cons_self z
  have nc : crossB q p = false := (List.pairwise_append.mp g.nc).2.2 q hq p List.mem_cons_self
  have m11 : meet q.1 p.1 = true := meet_iff.mpr ⟨h, g.hd1 q hq', g.hd1 p hp'⟩
  obtain ⟨z, hz⟩ := g.some_ hp' false
  have hz' : z ∈ p.2 := hz
  cases m12 : meet q.1 p.2 with
  | false =>
    have eb : b0 p q = false := by unfold b0; rw [m12, Bool.and_false]
    rw [eb]
    have sub : ∀ x, x ∈ p.2 → x ∈ q.2 := fun x hx => by
      have := meet_no.mp m12
      exact (g.one hq' x (g.sub p hp' x hx) false).mpr fun y => this x y hx
    refine ⟨fun c => ?_, false, sub⟩
    cases c
    · exact ⟨z, sub z hz', hz'⟩
    · refine Classical.byContradiction fun no => qp (g.eqv q hq' p hp' fun x => ⟨fun hx => ?_, sub x⟩)
      refine Classical.byContradiction fun y => no ⟨x, hx, ?_⟩
      exact (g.one hp' x (g.sub q hq' x hx) true).mpr y
  | true =>
    have eb : b0 p q = true := by unfold b0; rw [m11, m12]; rfl
    rw [eb]
    obtain ⟨y, hy1, hy2⟩ := meet_iff.mp m12
    refine ⟨fun c => ?_, ?_⟩
    · cases c
      · exact ⟨y, hy1, hy2⟩
      · exact ⟨h, g.hd1 q hq', g.hd1 p hp'⟩
    · unfold crossB at nc
      rw [m11, m12] at nc
      simp only [Bool.true_and, Bool.and_self] at nc
      cases m21 : meet q.2 p.1 with
      | false =>
        refine ⟨true, fun x hx => ?_⟩
        have := meet_no.mp m21
        exact (g.one hq' x (g.in_ hp' (b := true) hx) true).mpr fun y => this x y hx
      | true =>
        rw [m21, Bool.true_and] at nc
        refine ⟨false, fun x hx => ?_⟩
        have := meet_no.mp nc
        exact (g.one hq' x (g.in_ hp' (b := false) hx) true).mpr fun y => this x y hx
/-- the other side lies within one side of the new one -/
theorem Prts.side {ns : List α} {h : α} {ps : List (List α × List α)} {p : List α × List α} (g : Prts ns h (ps ++ [p])) {q : List α × List α} (hq : q ∈ ps) : ∃ c, ∀ x, x ∈ sd q (!b0 p q) → x ∈ sd p c := by
  have hq' : q ∈ ps ++ [p] := List.mem_append_left _ hq
  have hp' : p ∈ ps ++ [p] := List.mem_append_right _ List.mem_cons_self
  obtain ⟨_, c, hc⟩ := g.mid hq
  refine ⟨!c, fun x hx => ?_⟩
  have hn := g.in_ hq' hx
  refine (g.one hp' x hn (!c)).mpr fun y => ?_
  rw [Bool.not_not] at y
  exact (g.one hq' x hn (b0 p q)).mp (hc x y) hx
/-- any two sides that are chosen meet -/
def Met (ps : List (List α × List α)) (f : List α × List α → Bool) : Prop := ∀ p ∈ ps, ∀ q ∈ ps, ∃ x, x ∈ sd p (f p) ∧ x ∈ sd q (f q)
def plOf (ps : List (List α × List α)) (f : List α × List α → Bool) : List (List α) := ps.map fun p => sd p (f p)
theorem fits_iff {ps : List (List α × List α)} {f : List α × List α → Bool} {c : List α} : fitsB (plOf ps f) c = true ↔ ∀ q ∈ ps, ∃ x, x ∈ c ∧ x ∈ sd q (f q) := by
  unfold fitsB plOf
  rw [List.all_eq_true]
  constructor
  · intro h q hq
    exact meet_iff.mp (h _ (List.mem_map.mpr ⟨q, hq, rfl⟩))
  · intro h d hd
    obtain ⟨q, hq, rfl⟩ := List.mem_map.mp hd
    exact meet_iff.mpr (h q hq)
theorem Prts.fit {ns : List α} {h : α} {ps : List (List α × List α)} {p : List α × List α} (g : Prts ns h (ps ++ [p])) {f : List α × List α → Bool} (hm : Met ps f) :
    ((∀ q ∈ ps, f q = b0 p q) ∧ ∀ c, fitsB (plOf ps f) (sd p c) = true) ∨
    ∃ c, (∃ q ∈ ps, f q ≠ b0 p q ∧ ∀ x, x ∈ sd q (f q) → x ∈ sd p c) ∧ fitsB (plOf ps f) (sd p c) = true ∧ fitsB (plOf ps f) (sd p (!c)) = false := by
  have hp' : p ∈ ps ++ [p] := List.mem_append_right _ List.mem_cons_self
  by_cases a : ∀ q ∈ ps, f q = b0 p q
  · refine .inl ⟨a, fun c => fits_iff.mpr fun q hq => ?_⟩
    obtain ⟨x, h1, h2⟩ := (g.mid hq).1 c
    exact ⟨x, h2, by rw [a q hq]; exact h1⟩
  · obtain ⟨q, a⟩ := Classical.not_forall.mp a
    obtain ⟨hq, ne⟩ := Classical.not_imp.mp a
    have hq' : q ∈ ps ++ [p] := List.mem_append_left _ hq
    have e : f q = !b0 p q := by
      cases h1 : f q <;> cases h2 : b0 p q <;> simp_all
    obtain ⟨c, hc⟩ := g.side hq
    rw [← e] at hc
    refine .inr ⟨c, ⟨q, hq, ne, hc⟩, fits_iff.mpr fun r hr => ?_, ?_⟩
    · obtain ⟨x, h1, h2⟩ := hm q hq r hr
      exact ⟨x, hc x h1, h2⟩
    · refine Bool.eq_false_iff.mpr fun y => ?_
      obtain ⟨x, h1, h2⟩ := fits_iff.mp y q hq
      have hn := g.in_ hp' h1
      exact (g.one hp' x hn c).mp (hc x h2) h1
/-! ### the places -/
def df (s t : List (List α)) : Nat := ((s.zip t).filter fun z => decide (z.1 ≠ z.2)).length
def nb (s t : List (List α)) : Bool := decide (df s t = 1)
theorem df_comm : ∀ (s t : List (List α)), df s t = df t s
  | [], [] => rfl
  | [], _ :: _ => rfl
  | _ :: _, [] => rfl
  | x :: s, y :: t => by
    have ih := df_comm s t
    unfold df at ih ⊢
    rw [List.zip_cons_cons, List.zip_cons_cons, List.filter_cons, List.filter_cons]
    by_cases e : x = y
    · simp [e] at ih ⊢; exact ih
    · have e2 : ¬ y = x := fun z => e z.symm
      simp [e, e2] at ih ⊢; exact ih
theorem nb_comm (s t : List (List α)) : nb s t = nb t s := by unfold nb; rw [df_comm]
theorem df_snoc {s t : List (List α)} (h : s.length = t.length) (c d : List α) : df (s ++ [c]) (t ++ [d]) = df s t + (if c = d then 0 else 1) := by
  unfold df
  rw [List.zip_append h, List.filter_append, List.length_append]
  congr 1
  by_cases e : c = d
  · simp [e]
  · simp [e]
theorem df_eq {s t : List (List α)} (h : s.length = t.length) : df s t = 0 ↔ s = t := by
  induction s generalizing t with
  | nil =>
    cases t with
    | nil => exact ⟨fun _ => rfl, fun _ => rfl⟩
    | cons y t => cases h
  | cons x s ih =>
    cases t with
    | nil => cases h
    | cons y t =>
      have ih := ih (Nat.succ.inj h)
      unfold df at ih ⊢
      rw [List.zip_cons_cons, List.filter_cons]
      by_cases e : x = y
      · simp [e] at ih ⊢; exact ih
      · simp [e]
structure TreeR (ns : List α) (ps : List (List α × List α)) (F : List (List (List α))) : Prop where
  mem : ∀ s, s ∈ F ↔ ∃ f, s = plOf ps f ∧ Met ps f
  nd : F.Nodup
  len : F.length = ps.length + 1
  nbs : pc nb F = ps.length
theorem plOf_snoc (ps : List (List α × List α)) (p : List α × List α) (f) : plOf (ps ++ [p]) f = plOf ps f ++ [sd p (f p)] := by
  unfold plOf
  rw [List.map_append]
  rfl
theorem plOf_congr {ps : List (List α × List α)} {f k : List α × List α → Bool} (h : ∀ q ∈ ps, f q = k q) : plOf ps f = plOf ps k :=
  List.map_congr_left fun q hq => by rw [h q hq]
theorem ext_mem {p : List α × List α} {s t : List (List α)} : t ∈ ext p s ↔ ∃ c, t = s ++ [sd p c] ∧ fitsB s (sd p c) = true := by
  unfold ext
  rw [List.mem_map]
  constructor
  · rintro ⟨c, hc, rfl⟩
    obtain ⟨h1, h2⟩ := List.mem_filter.mp hc
    rcases List.mem_cons.mp h1 with e | h1
    · exact ⟨true, by rw [e]; rfl, by rw [e] at h2; exact h2⟩
    · exact ⟨false, by rw [List.mem_singleton.mp h1]; rfl, by rw [List.mem_singleton.mp h1] at h2; exact h2⟩
  · rintro ⟨c, rfl, h⟩
    refine ⟨_, List.mem_filter.mpr ⟨?_, h⟩, rfl⟩
    cases c
    · exact List.mem_cons_of_mem _ List.mem_cons_self
    · exact List.mem_cons_self
theorem plOf_len (ps : List (List α × List α)) (f) : (plOf ps f).length = ps.length := List.length_map _
theorem Prts.plOf_ne {ns : List α} {h : α} {ps : List (List α × List α)} (g : Prts ns h ps) {f k : List α × List α → Bool} (e : plOf ps f = plOf ps k) : ∀ q ∈ ps, f q = k q := fun q hq => by
  unfold plOf at e
  exact (g.ne hq).mp (List.map_inj_left.mp e q hq)
theorem flat_map1 {β γ : Type} {f : β → List γ} {k : β → γ} : ∀ (l : List β), (∀ b ∈ l, f b = [k b]) → l.flatMap f = l.map k
  | [], _ => rfl
  | b :: l, h => by
    rw [List.flatMap_cons, List.map_cons, h b List.mem_cons_self, flat_map1 l fun x hx => h x (List.mem_cons_of_mem _ hx)]
    rfl
theorem ext_eq {p : List α × List α} {s : List (List α)} : ext p s = (if fitsB s (sd p true) = true then [s ++ [sd p true]] else []) ++ (if fitsB s (sd p false) = true then [s ++ [sd p false]] else []) := by
  unfold ext
  rw [List.filter_cons, List.filter_cons, List.filter_nil]
  show List.map _ (if fitsB s (sd p true) = true then _ else _) = _
  by_cases c1 : fitsB s (sd p true) = true
  · rw [if_pos c1, if_pos c1, List.map_cons]
    show _ :: List.map _ (if fitsB s (sd p false) = true then _ else _) = _
    by_cases c2 : fitsB s (sd p false) = true
    · rw [if_pos c2, if_pos c2]; rfl
    · rw [if_neg c2, if_neg c2]; rfl
  · rw [if_neg c1, if_neg c1]
    show List.map _ (if fitsB s (sd p false) = true then _ else _) = _
    by_cases c2 : fitsB s (sd p false) = true
    · rw [if_pos c2, if_pos c2]; rfl
    · rw [if_neg c2, if_neg c2]; rfl
theorem ext_two {p : List α × List α} {s : List (List α)} (h : ∀ c, fitsB s (sd p c) = true) : ext p s = [s ++ [sd p true], s ++ [sd p false]] := by
  rw [ext_eq, if_pos (h true), if_pos (h false)]
  rfl
/-- the one side by which a place goes on that is not the middle -/
def cc (p : List α × List α) (s : List (List α)) : Bool := fitsB s (sd p true)
theorem ext_one {p : List α × List α} {s : List (List α)} {c : Bool} (h : fitsB s (sd p c) = true) (h2 : fitsB s (sd p (!c)) = false) : ext p s = [s ++ [sd p (cc p s)]] ∧ cc p s = c := by
  rw [ext_eq]
  cases c
  · have h2' : fitsB s (sd p true) = false := h2
    refine ⟨?_, h2'⟩
    rw [if_neg (by rw [h2']; exact Bool.false_ne_true), if_pos h, show cc p s = false from h2']
    rfl
  · have h2' : fitsB s (sd p false) = false := h2
    refine ⟨?_, h⟩
    rw [if_pos h, if_neg (by rw [h2']; exact Bool.false_ne_true), show cc p s = true from h]
    rfl
theorem bool_ne {a b : Bool} (h : a ≠ b) : b = !a := by cases a <;> cases b <;> simp_all
/-- two places, neither of them the middle, that go on by two sides are no neighbours -/
theorem Prts.far {ns : List α} {h : α} {ps : List (List α × List α)} {p : List α × List α} (g : Prts ns h (ps ++ [p])) {f k : List α × List α → Bool} (mk : Met ps k) (mf : Met ps f) {c : Bool}
    (hf : ∃ q ∈ ps, f q ≠ b0 p q ∧ ∀ x, x ∈ sd q (f q) → x ∈ sd p c) (hk : ∃ q ∈ ps, k q ≠ b0 p q ∧ ∀ x, x ∈ sd q (k q) → x ∈ sd p (!c)) : nb (plOf ps f) (plOf ps k) = false := by
  have hp' : p ∈ ps ++ [p] := List.mem_append_right _ List.mem_cons_self
  obtain ⟨q, hq, nq, sq⟩ := hf
  obtain ⟨r, hr, nr, sr⟩ := hk
  have hq' : q ∈ ps ++ [p] := List.mem_append_left _ hq
  have hr' : r ∈ ps ++ [p] := List.mem_append_left _ hr
  have out : ∀ (f' : List α × List α → Bool), Met ps f' → (∀ x, x ∈ sd q (f' q) → x ∈ sd p c) → (∀ x, x ∈ sd r (f' r) → x ∈ sd p (!c)) → False := fun f' m a b => by
    obtain ⟨x, h1, h2⟩ := m q hq r hr
    have hn := g.in_ hq' h1
    exact (g.one hp' x hn c).mp (a x h1) (b x h2)
  have dq : f q ≠ k q := fun e => out k mk (by rw [← e]; exact sq) sr
  have dr : f r ≠ k r := fun e => out f mf sq (by rw [e]; exact sr)
  have qr : q ≠ r := fun e => by
    subst e
    have e1 : k q = !f q := bool_ne dq
    have qp : q ≠ p := fun z => (List.nodup_append.mp g.nd).2.2 q hq p List.mem_cons_self z
    have same : ∀ x, x ∈ sd q (f q) ↔ x ∈ sd p c := fun x => ⟨sq x, fun hx => by
      have hn := g.in_ hp' hx
      refine (g.one hq' x hn (f q)).mpr fun y => ?_
      rw [← e1] at y
      exact (g.one hp' x hn c).mp hx (sr x y)⟩
    cases e2 : f q <;> cases e3 : c
    · rw [e2, e3] at same
      exact qp (g.eqv q hq' p hp' same)
    · rw [e2, e3] at same
      exact g.hd2 q hq' ((same h).mpr (g.hd1 p hp'))
    · rw [e2, e3] at same
      exact g.hd2 p hp' ((same h).mp (g.hd1 q hq'))
    · rw [e2, e3] at same
      refine qp (g.eqv q hq' p hp' fun x => ?_)
      constructor
      · intro hx
        have hn := g.sub q hq' x hx
        refine (g.one hp' x hn false).mpr fun y => ?_
        exact (g.one hq' x hn false).mp hx ((same x).mpr y)
      · intro hx
        have hn := g.sub p hp' x hx
        refine (g.one hq' x hn false).mpr fun y => ?_
        exact (g.one hp' x hn false).mp hx ((same x).mp y)
  unfold nb
  refine decide_eq_false fun e => ?_
  have gl := g.left
  have key : ∀ l : List (List α × List α), (∀ z ∈ l, z ∈ ps) → df (plOf l f) (plOf l k) = (l.filter fun z => decide (f z ≠ k z)).length := fun l => by
    induction l with
    | nil => intro _; rfl
    | cons z l ih =>
      intro hl
      have ih := ih fun y hy => hl y (List.mem_cons_of_mem _ hy)
      have hz := hl z List.mem_cons_self
      unfold df plOf at ih ⊢
      rw [List.map_cons, List.map_cons, List.zip_cons_cons, List.filter_cons, List.filter_cons]
      have ne := gl.ne hz (a := f z) (b := k z)
      by_cases w : f z = k z
      · have w2 := ne.mpr w
        simp only [w2, w, ne_eq, not_true_eq_false, decide_false] at ih ⊢
        exact ih
      · have w2 : ¬ sd z (f z) = sd z (k z) := fun y => w (ne.mp y)
        simp only [w2, w, ne_eq, not_false_eq_true, decide_true, if_true, List.length_cons] at ih ⊢
        rw [ih]
  rw [key ps fun _ hz => hz] at e
  obtain ⟨z, ez⟩ := List.length_eq_one_iff.mp e
  have h1 : q ∈ [z] := by rw [← ez]; exact List.mem_filter.mpr ⟨hq, decide_eq_true dq⟩
  have h2 : r ∈ [z] := by rw [← ez]; exact List.mem_filter.mpr ⟨hr, decide_eq_true dr⟩
  exact qr ((List.mem_singleton.mp h1).trans (List.mem_singleton.mp h2).symm)
theorem count_two {β : Type} (f k : β → Bool) (l : List β) : l.countP (fun s => f s && decide (k s = true)) + l.countP (fun s => f s && decide (k s = false)) = l.countP f := by
  induction l with
  | nil => rfl
  | cons s l ih =>
    rw [List.countP_cons, List.countP_cons, List.countP_cons]
    have e1 : (if (f s && decide (k s = true)) = true then 1 else 0) + (if (f s && decide (k s = false)) = true then 1 else 0) = (if f s = true then 1 else 0) := by
      cases f s <;> cases k s <;> rfl
    omega
theorem tree_right {ns : List α} {h : α} (ps : List (List α × List α)) : Prts ns h ps → TreeR ns ps (placesOf ps) := by
  induction ps using snoc_ind with
  | h0 =>
    intro _
    refine ⟨fun s => ?_, by show [[]].Nodup; simp, rfl, rfl⟩
    show s ∈ [[]] ↔ _
    rw [List.mem_singleton]
    exact ⟨fun e => ⟨fun _ => true, e, fun p hp => nomatch hp⟩, fun ⟨_, e, _⟩ => e⟩
  | hs ps p ih =>
    intro g
    have t := ih g.left
    have hp' : p ∈ ps ++ [p] := List.mem_append_right _ List.mem_cons_self
    have pn : p ∉ ps := fun z => (List.nodup_append.mp g.nd).2.2 p z p List.mem_cons_self rfl
    rw [places_snoc]
    generalize placesOf ps = F at t
    have m0 : Met ps (b0 p) := fun q hq r hr => by
      obtain ⟨c, hc⟩ := (g.mid hq).2
      obtain ⟨x, h1, h2⟩ := (g.mid hr).1 c
      exact ⟨x, hc x h2, h1⟩
    obtain ⟨p0, ep0⟩ : ∃ s, plOf ps (b0 p) = s := ⟨_, rfl⟩
    have hp0 : p0 ∈ F := (t.mem p0).mpr ⟨_, ep0.symm, m0⟩
    have pm : F.Perm (p0 :: F.erase p0) := List.perm_cons_erase hp0
    obtain ⟨F0, eF0⟩ : ∃ l, F.erase p0 = l := ⟨_, rfl⟩
    rw [eF0] at pm
    have nd0 := pm.nodup_iff.mp t.nd
    have nF0 := List.nodup_cons.mp nd0
    have two : ext p p0 = [p0 ++ [sd p true], p0 ++ [sd p false]] := ext_two fun c => by
      rcases g.fit m0 with ⟨_, a⟩ | ⟨_, ⟨q, _, a, _⟩, _⟩
      · rw [← ep0]; exact a c
      · exact absurd rfl a
    -- what holds of every other place
    have oth : ∀ s ∈ F0, s.length = ps.length ∧ ext p s = [s ++ [sd p (cc p s)]] ∧ ∃ f, s = plOf ps f ∧ Met ps f ∧ ∃ q ∈ ps, f q ≠ b0 p q ∧ ∀ x, x ∈ sd q (f q) → x ∈ sd p (cc p s) := fun s hs => by
      have hsF : s ∈ F := pm.mem_iff.mpr (List.mem_cons_of_mem _ hs)
      obtain ⟨f, rfl, mf⟩ := (t.mem s).mp hsF
      rcases g.fit mf with ⟨a, _⟩ | ⟨c, a, b1, b2⟩
      · refine absurd hs ?_
        rw [plOf_congr a, ep0]
        exact nF0.1
      · obtain ⟨e1, e2⟩ := ext_one b1 b2
        exact ⟨plOf_len _ _, e1, f, rfl, mf, by rw [e2]; exact a⟩
    have l0 : p0.length = ps.length := by rw [← ep0]; exact plOf_len _ _
    have pm2 : (F.flatMap (ext p)).Perm ((p0 ++ [sd p true]) :: (p0 ++ [sd p false]) :: F0.map fun s => s ++ [sd p (cc p s)]) := by
      refine (pm.flatMap_right _).trans ?_
      rw [List.flatMap_cons, two, flat_map1 F0 fun s hs => (oth s hs).2.1]
      exact .refl _
    have inj : ∀ {s u : List (List α)} {c d : List α}, s ++ [c] = u ++ [d] → s = u ∧ c = d := fun {s u c d} e => by
      have := List.append_inj_left' e rfl
      subst this
      exact ⟨rfl, by simpa using e⟩
    have n2 : ((p0 ++ [sd p true]) :: (p0 ++ [sd p false]) :: F0.map fun s => s ++ [sd p (cc p s)]).Nodup := by
      refine List.nodup_cons.mpr ⟨fun z => ?_, List.nodup_cons.mpr ⟨fun z => ?_, ?_⟩⟩
      · rcases List.mem_cons.mp z with z | z
        · have := (g.ne hp').mp (inj z).2
          cases this
        · obtain ⟨s, hs, e⟩ := List.mem_map.mp z
          rw [(inj e).1] at hs
          exact nF0.1 hs
      · obtain ⟨s, hs, e⟩ := List.mem_map.mp z
        rw [(inj e).1] at hs
        exact nF0.1 hs
      · exact List.pairwise_map.mpr (nF0.2.imp fun ne e => ne (inj e).1)
    refine ⟨fun s => ?_, pm2.nodup_iff.mpr n2, ?_, ?_⟩
    · rw [List.mem_flatMap]
      constructor
      · rintro ⟨u, hu, hs⟩
        obtain ⟨f, rfl, mf⟩ := (t.mem u).mp hu
        obtain ⟨c, rfl, hc⟩ := ext_mem.mp hs
        have hc := fits_iff.mp hc
        have ef : ∀ q ∈ ps, (fun z => if z = p then c else f z) q = f q := fun q hq => if_neg fun z => pn (by rw [← z]; exact hq)
        have ep : (fun z => if z = p then c else f z) p = c := if_pos rfl
        refine ⟨fun z => if z = p then c else f z, ?_, fun q hq r hr => ?_⟩
        · rw [plOf_snoc, plOf_congr ef]
          show _ = plOf ps f ++ [sd p ((fun z => if z = p then c else f z) p)]
          rw [ep]
        · rcases List.mem_append.mp hq with hq | hq <;> rcases List.mem_append.mp hr with hr | hr
          · rw [ef q hq, ef r hr]; exact mf q hq r hr
          · rw [List.mem_singleton.mp hr, ef q hq, ep]
            obtain ⟨x, h1, h2⟩ := hc q hq
            exact ⟨x, h2, h1⟩
          · rw [List.mem_singleton.mp hq, ef r hr, ep]
            obtain ⟨x, h1, h2⟩ := hc r hr
            exact ⟨x, h1, h2⟩
          · rw [List.mem_singleton.mp hq, List.mem_singleton.mp hr]
            obtain ⟨x, hx⟩ := g.some_ hp' ((fun z => if z = p then c else f z) p)
            exact ⟨x, hx, hx⟩
      · rintro ⟨f, rfl, mf⟩
        refine ⟨plOf ps f, (t.mem _).mpr ⟨f, rfl, fun q hq r hr => mf q (List.mem_append_left _ hq) r (List.mem_append_left _ hr)⟩, ext_mem.mpr ⟨f p, plOf_snoc _ _ _, fits_iff.mpr fun q hq => ?_⟩⟩
        exact mf p hp' q (List.mem_append_left _ hq)
    · rw [pm2.length_eq, List.length_cons, List.length_cons, List.length_map, List.length_append]
      have h1 := t.len
      rw [pm.length_eq, List.length_cons] at h1
      show F0.length + 1 + 1 = ps.length + 1 + 1
      omega
    · rw [pc_perm nb_comm pm2, pc, pc, List.countP_cons, pc_map, List.countP_map, List.countP_map]
      have h1 := t.nbs
      rw [pc_perm nb_comm pm, pc] at h1
      have e1 : nb (p0 ++ [sd p true]) (p0 ++ [sd p false]) = true := by
        unfold nb
        rw [df_snoc rfl, (df_eq rfl).mpr rfl, if_neg (fun z => by have := (g.ne hp').mp z; cases this)]
        rfl
      have e2 : pc (fun a b => nb (a ++ [sd p (cc p a)]) (b ++ [sd p (cc p b)])) F0 = pc nb F0 := by
        refine pc_congr nF0.2 fun a ha b hb ne => ?_
        obtain ⟨la, _, f, ea, mf, hf⟩ := oth a ha
        obtain ⟨lb, _, k, eb, mk, hk⟩ := oth b hb
        have lab : a.length = b.length := la.trans lb.symm
        by_cases c : cc p a = cc p b
        · unfold nb
          rw [df_snoc lab, c, if_pos rfl]
          rfl
        · have eb2 := bool_ne c
          rw [eb2] at hk
          have fr := g.far mk mf hf hk
          rw [← ea, ← eb] at fr
          rw [fr]
          unfold nb
          rw [df_snoc lab, if_neg fun z => c ((g.ne hp').mp z)]
          refine decide_eq_false fun z => ?_
          have : df a b = 0 := by omega
          exact ne ((df_eq lab).mp this)
      have e3 : ∀ c : Bool, ∀ s ∈ F0, nb (p0 ++ [sd p c]) (s ++ [sd p (cc p s)]) = (nb p0 s && decide (cc p s = c)) := fun c s hs => by
        have ls := (oth s hs).1
        have lp : p0.length = s.length := l0.trans ls.symm
        have d0 : df p0 s ≠ 0 := fun z => nF0.1 (by rw [(df_eq lp).mp z]; exact hs)
        unfold nb
        rw [df_snoc lp]
        by_cases e : cc p s = c
        · rw [e, if_pos rfl, decide_eq_true (rfl : c = c), Bool.and_true]
          rfl
        · rw [if_neg (fun z => e ((g.ne hp').mp z).symm), decide_eq_false e, Bool.and_false]
          exact decide_eq_false fun z => d0 (by omega)
      have e4 : F0.countP ((nb (p0 ++ [sd p true])) ∘ fun s => s ++ [sd p (cc p s)]) + F0.countP ((nb (p0 ++ [sd p false])) ∘ fun s => s ++ [sd p (cc p s)]) = F0.countP (nb p0) := by
        rw [List.countP_congr (p := (nb (p0 ++ [sd p true])) ∘ fun s => s ++ [sd p (cc p s)]) (q := fun s => nb p0 s && decide (cc p s = true)) fun s hs => by rw [Function.comp, e3 true s hs],
          List.countP_congr (p := (nb (p0 ++ [sd p false])) ∘ fun s => s ++ [sd p (cc p s)]) (q := fun s => nb p0 s && decide (cc p s = false)) fun s hs => by rw [Function.comp, e3 false s hs]]
        exact count_two _ _ _
      rw [e1, e2, List.length_append]
      simp only [if_true]
      show _ = ps.length + 1
      omega
theorem Prts.few {h : α} {r : List α} {ps : List (List α × List α)} (g : Prts (h :: r) h ps) : ps.length ≤ r.length * r.length := by
  have inr : ∀ p ∈ ps, ∀ x ∈ p.2, x ∈ r := fun p hp x hx => by
    rcases List.mem_cons.mp (g.sub p hp x hx) with e | e
    · exact absurd (by rw [← e]; exact hx) (g.hd2 p hp)
    · exact e
  have nd : (ps.map fun p => (p.2.headD h, p.2.length)).Nodup := by
    refine List.pairwise_map.mpr ?_
    refine ((List.pairwise_and_iff).mpr ⟨g.nd, g.nc⟩).imp_of_mem fun {p q} hp hq hh e => ?_
    obtain ⟨ne, nc⟩ := hh
    obtain ⟨e1, e2⟩ := Prod.mk.inj e
    have hd : ∀ {z : List α × List α}, z ∈ ps → z.2.headD h ∈ z.2 := fun {z} hz => by
      cases ez : z.2 with
      | nil => exact absurd ez (g.ne2 z hz)
      | cons a l => exact List.mem_cons_self
    have m22 : meet p.2 q.2 = true := meet_iff.mpr ⟨_, hd hp, by rw [e1]; exact hd hq⟩
    have m11 : meet p.1 q.1 = true := meet_iff.mpr ⟨h, g.hd1 p hp, g.hd1 q hq⟩
    have same : (∀ x ∈ p.2, x ∈ q.2) ∨ (∀ x ∈ q.2, x ∈ p.2) := by
      unfold crossB at nc
      rw [m11, m22, Bool.true_and, Bool.and_true] at nc
      cases m12 : meet p.1 q.2 with
      | false =>
        refine .inr fun x hx => ?_
        exact (g.one hp x (g.sub q hq x hx) false).mpr fun y => meet_no.mp m12 x y hx
      | true =>
        rw [m12, Bool.true_and] at nc
        refine .inl fun x hx => ?_
        exact (g.one hq x (g.sub p hp x hx) false).mpr fun y => meet_no.mp nc x hx y
    have full : ∀ {a b : List α}, a.Nodup → b.Nodup → (∀ x ∈ a, x ∈ b) → a.length = b.length → ∀ x, x ∈ a ↔ x ∈ b := fun {a b} na nb s l x => by
      refine ⟨s x, fun hx => ?_⟩
      refine Classical.byContradiction fun y => ?_
      have := (List.nodup_cons.mpr ⟨y, na⟩).length_le_of_subset (l₂ := b) fun z hz => by
        rcases List.mem_cons.mp hz with e | hz
        · rw [e]; exact hx
        · exact s z hz
      rw [List.length_cons] at this
      omega
    rcases same with s | s
    · exact ne (g.eqv p hp q hq (full (g.nd2 p hp) (g.nd2 q hq) s e2))
    · exact ne (g.eqv p hp q hq fun x => (full (g.nd2 q hq) (g.nd2 p hp) s e2.symm x).symm)
  have sub : ∀ z ∈ ps.map (fun p => (p.2.headD h, p.2.length)), z ∈ r.flatMap fun x => (List.range r.length).map fun k => (x, k + 1) := fun z hz => by
    obtain ⟨p, hp, rfl⟩ := List.mem_map.mp hz
    have l1 : p.2.length ≤ r.length := (g.nd2 p hp).length_le_of_subset fun x hx => inr p hp x hx
    cases ez : p.2 with
    | nil => exact absurd ez (g.ne2 p hp)
    | cons a l =>
      rw [ez, List.length_cons] at l1
      refine List.mem_flatMap.mpr ⟨a, inr p hp a (by rw [ez]; exact List.mem_cons_self), List.mem_map.mpr ⟨l.length, List.mem_range.mpr l1, rfl⟩⟩
  have := nd.length_le_of_subset sub
  rw [List.length_map] at this
  refine Nat.le_trans this (Nat.le_of_eq ?_)
  have c : ∀ (l : List α) (n : Nat), (l.flatMap fun x => (List.range n).map fun k => (x, k + 1)).length = l.length * n := fun l n => by
    induction l with
    | nil => simp
    | cons a l ih => rw [List.flatMap_cons, List.length_append, ih, List.length_map, List.length_range, List.length_cons, Nat.succ_mul]; omega
  exact c r r.length
end
end Gx

/-! [val z for z in zs if p z], the test and the value told from without; any two of a list that cross. -/
namespace Gx
open PySem PySem.Spec PyProof.Rows L2 GxR
section
variable {J : It} {n : Nat} {G : Hp → Prop} {Y : Nat → Hp → V → Hp → Prop}
theorem lc_filt {β : Type} (w : Walk J n G Y) (zs : List β) (p : β → Bool) (val : β → V) {g : TG} {tt : TT} {te : TE} {vs : List Nat} {σ : L2.St} {H1 : Hp} {D : Addr} {Qd : Hp → Prop} (nD : H1 D = none) (hn : n = zs.length) (hz : zs.length ≤ 1000000)
    (hG : ∀ H, Grow [] H1 H → G H)
    (hs : ∀ i z x Ha Hb (Pu : V → Hp → Prop) (Pn : Hp → Prop), zs[i]? = some z → Grow [] H1 Ha → Y i Ha x Hb → (∀ Hc, Grow [] Ha Hc → p z = true → Pu (val z) Hc) → (∀ Hc, Grow [] Ha Hc → p z = false → Pn Hc) →
      g x (wipe σ vs) Hb fun σ2 H2 => wipe σ2 vs = wipe σ vs ∧ tt σ2 H2 fun b H3 => if b = true then te σ2 H3 Pu else Pn H3)
    (hd : ∀ H, Grow [] H1 H → H D = some (.lst ((zs.filter p).map val)) → Qd H) :
    ∃ W : Nat → Nat → Hp → Prop, (∃ m, W 0 m (upd H1 D (.lst []))) ∧ ∀ i m H, W i m H →
      (J.stop i H ∧ Qd H) ∨ (J.go i H ∧ ∃ Nx : Hp → Prop, (∀ H', Nx H' → ∃ m', m' < m ∧ W (i + 1) m' H') ∧ ∀ x H', J.yld i H x H' → g x (wipe σ vs) H' fun σ2 H2 => wipe σ2 vs = wipe σ vs ∧ tt σ2 H2 fun b H3 =>
        if b = true then te σ2 H3 fun y H4 => ∃ acc, H4 D = some (.lst acc) ∧ acc.length < sizeLine ∧ Nx (upd H4 D (.lst (acc ++ [y]))) else Nx H3) := by
  subst hn
  refine lc_it w (fun i H' => Grow [] H1 H' ∧ H' D = some (.lst (((zs.take i).filter p).map val))) ⟨grow_new nD, upd_same⟩ (fun i H' _ h => hG H' h.1) (fun i x Ha Hb hi hp hy => ?_) (fun H2 hp => ?_)
  · obtain ⟨ga, ea⟩ := hp
    obtain ⟨z, ez⟩ : ∃ z, zs[i]? = some z := ⟨_, List.getElem?_eq_getElem hi⟩
    have tk : zs.take (i + 1) = zs.take i ++ [z] := by rw [List.take_add_one, ez]; rfl
    refine hs i z x Ha Hb _ _ ez ga hy (fun Hc gc hb => ?_) (fun Hc gc hb => ?_)
    · have ec := gc.lst (by simp) ea
      refine ⟨_, ec, ?_, (ga.trans gc).put (fresh_none nD) ec (fun ps z => by cases z), ?_⟩
      · rw [List.length_map]
        have h1 := List.length_filter_le p (zs.take i)
        rw [List.length_take] at h1
        have : (1000001 : Nat) < sizeLine := by decide
        omega
      · rw [upd_same, tk, List.filter_append, List.filter_cons_of_pos hb, List.filter_nil, List.map_append]
        rfl
    · refine ⟨ga.trans gc, ?_⟩
      rw [gc.lst (by simp) ea, tk, List.filter_append, List.filter_cons_of_neg (by rw [hb]; exact Bool.false_ne_true), List.filter_nil, List.append_nil]
  · obtain ⟨g2, e2⟩ := hp
    rw [List.take_length] at e2
    exact hd H2 g2 e2
end
section
variable {α : Type} [DecidableEq α]
/-- any two of these partings cross -/
def crs (ps : List (List α × List α)) : Bool := (combos ps).any fun z => crossB z.1 z.2
theorem crs_iff (ps : List (List α × List α)) : crs ps = false ↔ ps.Pairwise fun p q => crossB p q = false := by
  unfold crs
  induction ps with
  | nil => exact ⟨fun _ => .nil, fun _ => rfl⟩
  | cons p ps ih =>
    rw [combos, List.any_append, Bool.or_eq_false_iff, ih, List.pairwise_cons, List.any_map, List.any_eq_false]
    refine and_congr_left fun _ => ?_
    exact ⟨fun h q hq => Bool.eq_false_iff.mpr fun z => h q hq z, fun h q hq z => by have := h q hq; rw [show crossB p q = true from z] at this; cases this⟩
end
end Gx

/-! ### repr of lists in which lists and dicts stand; x == [] for a list of anything; list.remove of a text -/
namespace Gx
open PySem PySem.Spec PyProof.Rows L2 GxR GenW
mutual
inductive Dn (K : PySem.W.Frag) (H : Hp) : V → PyData → Prop
  | d {v : V} {d : PyData} : Di K H v d → Dn K H v d
  | l {a : Addr} {xs : List V} {ds : List PyData} : H a = some (.lst xs) → Dns K H xs ds → Dn K H (.ref a) (.list ds)
inductive Dns (K : PySem.W.Frag) (H : Hp) : List V → List PyData → Prop
  | nil : Dns K H [] []
  | cons {v : V} {d : PyData} {vs : List V} {ds : List PyData} : Dn K H v d → Dns K H vs ds → Dns K H (v :: vs) (d :: ds)
end
section
variable {X : Cx} {pins : List (Addr × Obj)} {σ : L2.St} {H : Hp} {s : Shared}
mutual
theorem Dn.shows (I : Inv X pins σ H s) : ∀ {v : V} {u : Value} {d : PyData}, Dn X.K H v d → RelV v u → d.showable = true → d.shown.length ≤ sizeLine →
    ∃ as bs, Reads s.heap u d as ∧ ReadAtMost s.heap d.depth bs ∧ ReprK X.prog X.w bs s.heap d.depth u d.shown
  | _, _, _, .d h, r, hs, hz => h.shows I r hs hz
  | _, u, _, .l (a := a) (xs := xs) (ds := ds) e h, r, hs, hz => by
    cases r
    obtain ⟨z, its, n, ri, hl, e1⟩ := I.lstM e
    have hz2 : (listText (PyData.shownAll ds)).length ≤ sizeLine := by simpa only [PyData.shown] using hz
    obtain ⟨as, bs, a1, a2, a3⟩ := Dns.shows I h ri (by rwa [PyData.showable] at hs) fun t ht => Nat.le_trans (listText_mem_le ht) hz2
    have rd : Reads s.heap (.ref a) (.list ds) (a :: as) := Reads.list e1 rfl rfl (by simpa using a1)
    have hna : a ∉ bs := not_mem_of_deeper rd (by simp only [PyData.depth]; omega) a2
    refine ⟨_, a :: bs, rd, ReadAtMost.cons rd (Nat.le_refl _) (a2.mono (by rw [PyData.depth]; omega)), ?_⟩
    cases ri with
    | nil =>
      cases h
      simp only [PyData.shown, PyData.shownAll]
      exact ReprK.listEmpty e1 rfl rfl
    | @cons _ y _ ys r1 r2 =>
      rw [PyData.depth]
      have : (PyData.list ds).shown = listText (PyData.shownAll ds) := by simp only [PyData.shown]
      rw [this]
      exact ReprK.list e1 rfl rfl hna (by simpa using a3.length_eq) (fun i y e => a3.item i y (by simpa using e))
theorem Dns.shows (I : Inv X pins σ H s) : ∀ {vs : List V} {us : List Value} {ds : List PyData}, Dns X.K H vs ds → Vals vs us → PyData.showableAll ds = true → (∀ t ∈ PyData.shownAll ds, t.length ≤ sizeLine) →
    ∃ as bs, ReadsAll s.heap us ds as ∧ ReadAtMost s.heap (PyData.depthAll ds) bs ∧ ReprAllK X.prog X.w bs s.heap (PyData.depthAll ds) us (PyData.shownAll ds)
  | _, _, _, .nil, r, _, _ => by
    cases r
    exact ⟨[], [], .nil, (fun _ h => nomatch h), by simp only [PyData.shownAll]; exact .nil⟩
  | _, _, _, .cons (d := d) (ds := ds) h t, r, hs, hz => by
    cases r with
    | cons r1 r2 =>
      rw [PyData.showableAll, Bool.and_eq_true] at hs
      obtain ⟨as, bs, a1, a2, a3⟩ := Dn.shows I h r1 hs.1 (hz _ (by rw [PyData.shownAll]; exact List.mem_cons_self))
      obtain ⟨cs, ds', b1, b2, b3⟩ := Dns.shows I t r2 hs.2 fun t ht => hz t (by rw [PyData.shownAll]; exact List.mem_cons_of_mem _ ht)
      refine ⟨_, bs ++ ds', .cons a1 b1, (a2.mono ?_).append (b2.mono ?_), ?_⟩
      · rw [PyData.depthAll]
        exact Nat.le_max_left _ _
      · rw [PyData.depthAll]
        exact Nat.le_max_right _ _
      · rw [PyData.shownAll, PyData.depthAll]
        exact .cons ((a3.more fun b hb => List.mem_append_left _ hb).level_le (Nat.le_max_left _ _)) (b3.more_le (fun b hb => List.mem_append_right _ hb) (Nat.le_max_right _ _))
end
end
section
variable {X : Cx}
def rReprN (K : PySem.W.Frag) : List V → Hp → VK → Prop := fun xs H Q => ∃ (L : Addr) (v : V) (vs : List V) (ds : List PyData), xs = [.ref L] ∧ H L = some (.lst (v :: vs)) ∧ Dns K H (v :: vs) ds ∧ PyData.showableAll ds = true ∧
  PyData.depthAll ds ≤ 60 ∧ (PyData.list ds).shown.length ≤ sizeLine ∧ Q (.str (PyData.list ds).shown) H
theorem cr_reprN (g : X.A.guards = some []) (hu : X.A.units + 64 < cLine) : CallR X (.builtin "repr") (rReprN X.K) := by
  intro pins s σ H xs us Q I r h
  obtain ⟨L, v, vs, ds, rfl, hL, hD, hs, hd, hz, q⟩ := h
  obtain ⟨u, rfl, rx⟩ : ∃ u, us = [u] ∧ RelV (.ref L) u := by
    cases r with
    | cons r1 r2 => cases r2; exact ⟨_, rfl, r1⟩
  cases rx
  obtain ⟨z, its, n, ri, hl, e⟩ := I.lstM hL
  have e0 : (PyData.list ds).shown = listText (PyData.shownAll ds) := by simp only [PyData.shown]
  rw [e0] at hz q
  obtain ⟨as, bs, a1, a2, a3⟩ := hD.shows I ri hs fun t ht => Nat.le_trans (listText_mem_le ht) hz
  have rd : Reads s.heap (.ref L) (.list ds) (L :: as) := Reads.list e rfl rfl (by simpa using a1)
  have hna : L ∉ bs := not_mem_of_deeper rd (by simp only [PyData.depth]; omega) a2
  cases ri with
  | @cons _ y _ ys r1 r2 =>
    refine call_repr_slot (T := "list") (by omega) ⟨_, e, rfl⟩ F.slot_list_repr.toG ?_
    exact call_list_reprK e rfl rfl hna (by simpa using a3.length_eq) (fun i y e => a3.item i y (by simpa using e)) g (fun b _ => Clear.nil b) (by show X.A.units + 1 + (_ + 1) < cLine; omega) (fun _ _ e => e) (fun h' u tk hk => ⟨_, _, rfl, .str _, H, I.kept hk, ⟨_, rfl⟩, q⟩) hz
/-- x == [], x != [] -/
def rEqE : R2 := fun x y H Q => ∃ (a b : Addr) (xs : List V), x = .ref a ∧ y = .ref b ∧ H a = some (.lst xs) ∧ H b = some (.lst []) ∧ Q (.bl (decide (xs = []))) H
def rNeE : R2 := fun x y H Q => ∃ (a b : Addr) (xs : List V), x = .ref a ∧ y = .ref b ∧ H a = some (.lst xs) ∧ H b = some (.lst []) ∧ Q (.bl (!decide (xs = []))) H
theorem op_eqE (hu : X.A.units + 64 < cLine) : OpR X (compareOp .Eq) rEqE := by
  intro pins s σ H x y v u Q I rx ry h
  obtain ⟨a, b, xs, rfl, rfl, ha, hb, q⟩ := h
  cases xs with
  | nil => exact op_eqD hu pins s σ H _ _ v u Q I rx ry ⟨_, _, .lst (.inl (.inl ha)) .nil, .lst (.inl (.inl hb)) .nil, rfl, rfl, q⟩
  | cons z zs =>
    cases rx
    cases ry
    obtain ⟨_, i1, n1, r1, l1, e1⟩ := I.lstM ha
    obtain ⟨_, i2, n2, r2, l2, e2⟩ := I.lstM hb
    cases r2
    refine SeqAt.eq_list_lengthsAt ⟨_, e1, rfl, _, rfl⟩ ⟨_, e2, rfl, _, rfl⟩ ?_ (by omega) ⟨.bl _, H, I, rfl, q⟩
    rw [List.size_toArray, ← l1]
    rfl
theorem op_neE (hu : X.A.units + 64 < cLine) : OpR X (compareOp .NotEq) rNeE := by
  intro pins s σ H x y v u Q I rx ry h
  obtain ⟨a, b, xs, rfl, rfl, ha, hb, q⟩ := h
  cases xs with
  | nil => exact op_neD hu pins s σ H _ _ v u Q I rx ry ⟨_, _, .lst (.inl (.inl ha)) .nil, .lst (.inl (.inl hb)) .nil, rfl, rfl, q⟩
  | cons z zs =>
    cases rx
    cases ry
    obtain ⟨_, i1, n1, r1, l1, e1⟩ := I.lstM ha
    obtain ⟨_, i2, n2, r2, l2, e2⟩ := I.lstM hb
    cases r2
    refine SeqAt.RcNeAt.lists_lengths ⟨_, e1, rfl, _, rfl⟩ ⟨_, e2, rfl, _, rfl⟩ ?_ (by omega) X.prog X.w _ _ ⟨.bl _, H, I, rfl, q⟩
    rw [List.size_toArray, ← l1]
    rfl
/-- xs.remove(k), a text that stands there -/
def rRemS : V → List V → Hp → VK → Prop := fun x xs H Q => ∃ (l : Addr) (ys : List Str) (k : Str) (j : Nat), x = .ref l ∧ xs = [.str k] ∧ H l = some (.lst (ys.map V.str)) ∧ ys[j]? = some k ∧ (∀ m : Nat, m < j → ys[m]? ≠ some k) ∧ Q .non (upd H l (.lst ((ys.eraseIdx j).map V.str)))
theorem mt_removeS : MtM X "list.remove" rRemS := by
  intro pins s σ H x xs v us Q I rx rxs h
  obtain ⟨l, ys, k, j, rfl, rfl, hH, hj, hno, q⟩ := h
  cases rx
  obtain ⟨u, rfl, ru⟩ := rxs.one
  obtain ⟨t, rfl⟩ := ru
  obtain ⟨z, its, n, r, hl, e⟩ := I.lstM hH
  have hi := strs_of_vals r
  rw [List.length_map] at hl z
  have hjn : j < ys.length := (List.getElem?_eq_some_iff.mp hj).1
  have at_ : ∀ {m : Nat} (hm : m < its.toArray.size), ∃ tm, its.toArray[m] = .str (ys[m]'(by rw [List.size_toArray] at hm; omega)) tm := fun {m} hm => by
    have hm2 : m < ys.length := by rw [List.size_toArray] at hm; omega
    obtain ⟨tm, e2⟩ := hi.get m _ (List.getElem?_eq_getElem hm2)
    obtain ⟨h1, h2⟩ := List.getElem?_eq_some_iff.mp e2
    exact ⟨tm, by simpa using h2⟩
  have hjl : j < its.toArray.size := by rw [List.size_toArray]; omega
  refine call_meets PySem.F.slot_list_remove ⟨_, e, rfl⟩ PySem.F.entry_list_remove (PySem.F.args_list_remove_2 _ _)
    (MeetsSeq.list_remove l its.toArray n (.str k t) (isStrOf k) (fun y hy => eq_isStrOf k t hi y (by simpa using hy)) j hjl ?_ ?_ (by rw [List.size_toArray]; omega)) ⟨e, ?_⟩
  · obtain ⟨tm, e2⟩ := at_ hjl
    rw [e2]
    show (ys[j] == k) = true
    rw [List.getElem?_eq_getElem hjn] at hj
    rw [Option.some.inj hj]
    exact beq_self_eq_true k
  · intro m hm hmj
    obtain ⟨tm, e2⟩ := at_ hm
    rw [e2]
    have hmn : m < ys.length := by omega
    refine beq_eq_false_iff_ne.mpr fun e3 => hno m hmj ?_
    rw [List.getElem?_eq_getElem hmn, e3]
  · have rr := r.eraseIdx j
    rw [erase_map] at rr
    refine ⟨.non, _, I.lset (its' := its.eraseIdx j) (t' := s.toks) hH e ?_ rr ?_, rfl, q⟩
    · show its.toArray.eraseIdxIfInBounds j = (its.eraseIdx j).toArray
      rw [List.eraseIdxIfInBounds_toArray]
    · rw [List.length_map, List.length_eraseIdx]
      split <;> omega
end
end Gx

namespace Lw
open PySem PySem.Spec PyProof.Rows L2 GxR Gx
def topS (i : Nat) : Stmt := PySem.Challenge.pw_heardapart_k10_rows_and_lots_judged.main.body.getD i (.Pass ⟨0, 0, 0, 0⟩)
abbrev st_is_name : Stmt := topS 6
abbrev N_is_name : List Str := ["thing", "letter"]
theorem sc_is_name : FnScope N_is_name ["thing"] (defScope st_is_name) := ⟨rfl, rfl, rfl, by decide +kernel, rfl, by decide +kernel, by decide +kernel⟩
abbrev st_are_unlike_names : Stmt := topS 7
abbrev N_are_unlike_names : List Str := ["thing", "name"]
theorem sc_are_unlike_names : FnScope N_are_unlike_names ["thing"] (defScope st_are_unlike_names) := ⟨rfl, rfl, rfl, by decide +kernel, rfl, by decide +kernel, by decide +kernel⟩
abbrev st_is_book : Stmt := topS 9
abbrev N_is_book : List Str := ["thing"]
theorem sc_is_book : FnScope N_is_book ["thing"] (defScope st_is_book) := ⟨rfl, rfl, rfl, by decide +kernel, rfl, by decide +kernel, by decide +kernel⟩
abbrev st_longest_turned : Stmt := topS 10
abbrev N_longest_turned : List Str := ["book", "other", "ranks", "row", "wanted", "word"]
theorem sc_longest_turned : FnScope N_longest_turned ["book", "other"] (defScope st_longest_turned) := ⟨rfl, rfl, rfl, by decide +kernel, rfl, by decide +kernel, by decide +kernel⟩
abbrev st_fewest_lots : Stmt := topS 11
abbrev N_fewest_lots : List Str := ["book", "other", "ranks", "lots", "_", "word"]
theorem sc_fewest_lots : FnScope N_fewest_lots ["book", "other"] (defScope st_fewest_lots) := ⟨rfl, rfl, rfl, by decide +kernel, rfl, by decide +kernel, by decide +kernel⟩
abbrev st_is_turned_row : Stmt := topS 12
abbrev N_is_turned_row : List Str := ["book", "other", "thing", "ones", "others", "a", "b"]
theorem sc_is_turned_row : FnScope N_is_turned_row ["book", "other", "thing"] (defScope st_is_turned_row) := ⟨rfl, rfl, rfl, by decide +kernel, rfl, by decide +kernel, by decide +kernel⟩
abbrev st_is_lots : Stmt := topS 13
abbrev N_is_lots : List Str := ["book", "other", "thing", "ones", "others", "lot", "word"]
theorem sc_is_lots : FnScope N_is_lots ["book", "other", "thing"] (defScope st_is_lots) := ⟨rfl, rfl, rfl, by decide +kernel, rfl, by decide +kernel, by decide +kernel⟩
abbrev st_check_books : Stmt := topS 14
abbrev N_check_books : List Str := ["book", "other"]
theorem sc_check_books : FnScope N_check_books ["book", "other"] (defScope st_check_books) := ⟨rfl, rfl, rfl, by decide +kernel, rfl, by decide +kernel, by decide +kernel⟩
abbrev st_places_of : Stmt := topS 15
abbrev N_places_of : List Str := ["book", "place", "word"]
theorem sc_places_of : FnScope N_places_of ["book"] (defScope st_places_of) := ⟨rfl, rfl, rfl, by decide +kernel, rfl, by decide +kernel, by decide +kernel⟩
abbrev st_are_words_of : Stmt := topS 16
abbrev N_are_words_of : List Str := ["places", "thing", "word"]
theorem sc_are_words_of : FnScope N_are_words_of ["places", "thing"] (defScope st_are_words_of) := ⟨rfl, rfl, rfl, by decide +kernel, rfl, by decide +kernel, by decide +kernel⟩
abbrev st_ranks_of : Stmt := topS 17
abbrev N_ranks_of : List Str := ["book", "other", "places", "ranks", "lasts", "word", "many"]
theorem sc_ranks_of : FnScope N_ranks_of ["book", "other"] (defScope st_ranks_of) := ⟨rfl, rfl, rfl, by decide +kernel, rfl, by decide +kernel, by decide +kernel⟩
abbrev st_how_many_above : Stmt := topS 18
abbrev N_how_many_above : List Str := ["falling", "least", "low", "high", "middle"]
theorem sc_how_many_above : FnScope N_how_many_above ["falling", "least"] (defScope st_how_many_above) := ⟨rfl, rfl, rfl, by decide +kernel, rfl, by decide +kernel, by decide +kernel⟩
abbrev st_is_lot : Stmt := topS 19
abbrev N_is_lot : List Str := ["ones", "others", "thing", "spots", "word", "a", "b"]
theorem sc_is_lot : FnScope N_is_lot ["ones", "others", "thing"] (defScope st_is_lot) := ⟨rfl, rfl, rfl, by decide +kernel, rfl, by decide +kernel, by decide +kernel⟩
abbrev st_law_pot : Stmt := topS 21
abbrev N_law_pot : List Str := ["script", "k", "cell"]
theorem sc_law_pot : FnScope N_law_pot ["script", "k"] (defScope st_law_pot) := ⟨rfl, rfl, rfl, by decide +kernel, rfl, by decide +kernel, by decide +kernel⟩
abbrev st_law_take : Stmt := topS 22
abbrev N_law_take : List Str := ["pot", "many", "found", "mixed"]
theorem sc_law_take : FnScope N_law_take ["pot", "many"] (defScope st_law_take) := ⟨rfl, rfl, rfl, by decide +kernel, rfl, by decide +kernel, by decide +kernel⟩
abbrev st_law_some : Stmt := topS 23
abbrev N_law_some : List Str := ["pot", "things", "many", "left", "found"]
theorem sc_law_some : FnScope N_law_some ["pot", "things", "many"] (defScope st_law_some) := ⟨rfl, rfl, rfl, by decide +kernel, rfl, by decide +kernel, by decide +kernel⟩
abbrev st_law_names : Stmt := topS 24
abbrev N_law_names : List Str := ["pot", "many", "some"]
theorem sc_law_names : FnScope N_law_names ["pot", "many"] (defScope st_law_names) := ⟨rfl, rfl, rfl, by decide +kernel, rfl, by decide +kernel, by decide +kernel⟩
abbrev st_law_other : Stmt := topS 25
abbrev N_law_other : List Str := ["pot", "book", "other", "way", "turn", "at"]
theorem sc_law_other : FnScope N_law_other ["pot", "book"] (defScope st_law_other) := ⟨rfl, rfl, rfl, by decide +kernel, rfl, by decide +kernel, by decide +kernel⟩
abbrev st_law_turned : Stmt := topS 26
abbrev N_law_turned : List Str := ["book", "other", "found", "spot", "a", "b"]
theorem sc_law_turned : FnScope N_law_turned ["book", "other"] (defScope st_law_turned) := ⟨rfl, rfl, rfl, by decide +kernel, rfl, by decide +kernel, by decide +kernel⟩
abbrev st_law_is_words : Stmt := topS 27
abbrev N_law_is_words : List Str := ["book", "thing", "one"]
theorem sc_law_is_words : FnScope N_law_is_words ["book", "thing"] (defScope st_law_is_words) := ⟨rfl, rfl, rfl, by decide +kernel, rfl, by decide +kernel, by decide +kernel⟩
abbrev st_law_due : Stmt := topS 28
abbrev N_law_due : List Str := ["book", "other", "thing", "pairs", "row", "spot", "a", "alike", "b", "lots", "lot", "words", "met"]
theorem sc_law_due : FnScope N_law_due ["book", "other", "thing"] (defScope st_law_due) := ⟨rfl, rfl, rfl, by decide +kernel, rfl, by decide +kernel, by decide +kernel⟩
abbrev st_law_row : Stmt := topS 29
abbrev N_law_row : List Str := ["pot", "book", "other", "row", "way", "word", "at", "to"]
theorem sc_law_row : FnScope N_law_row ["pot", "book", "other"] (defScope st_law_row) := ⟨rfl, rfl, rfl, by decide +kernel, rfl, by decide +kernel, by decide +kernel⟩
abbrev st_law_lots : Stmt := topS 30
abbrev N_law_lots : List Str := ["pot", "book", "other", "lots", "way", "word", "at", "to", "lot"]
theorem sc_law_lots : FnScope N_law_lots ["pot", "book", "other"] (defScope st_law_lots) := ⟨rfl, rfl, rfl, by decide +kernel, rfl, by decide +kernel, by decide +kernel⟩
abbrev st_law : Stmt := topS 31
abbrev N_law : List Str := ["script", "odd", "k", "pot", "book", "other", "things", "turn", "thing", "kept", "due", "told"]
theorem sc_law : FnScope N_law ["script"] (defScope st_law) := ⟨rfl, rfl, rfl, by decide +kernel, rfl, by decide +kernel, by decide +kernel⟩
/-- names that the top leaves to the built-ins -/
structure Nb (mg : Str → Option Value) : Prop where
  n_all : mg "all" = none
  n_enumerate : mg "enumerate" = none
  n_isinstance : mg "isinstance" = none
  n_len : mg "len" = none
  n_list : mg "list" = none
  n_max : mg "max" = none
  n_min : mg "min" = none
  n_range : mg "range" = none
  n_repr : mg "repr" = none
  n_reversed : mg "reversed" = none
  n_set : mg "set" = none
  n_sorted : mg "sorted" = none
  n_str : mg "str" = none
  n_tuple : mg "tuple" = none
  n_type : mg "type" = none
  n_zip : mg "zip" = none
section
variable {P : Program} {w : World} {K : PySem.W.Frag} {mg : Str → Option Value} {base : Heap}
/-! ### is_name -/
def nameC (c : Nat) : Bool := decide (97 ≤ c) && decide (c ≤ 122)
def isNm (z : Str) : Bool := decide (1 ≤ z.length) && decide (z.length ≤ 8) && z.cps.toList.all nameC
def spIsName (K : PySem.W.Frag) (T : Addr) : Sp := fun vs H Q _ => ∃ x, vs = [x] ∧ TabG H T ∧
  ((∃ z : Str, x = .str z ∧ z.length ≤ sizeLine ∧ ∀ H', Grow [] H H' → Q (.bl (isNm z)) H') ∨ ∃ U, U ≠ "str" ∧ TyB K H x U ∧ Q (.bl false) H)
theorem lt1 (a b : Nat) : decide ([a] < [b]) = decide (a < b) := by
  have h : ([a] < [b]) ↔ a < b := by
    rw [List.cons_lt_cons_iff]
    simp
  exact decide_eq_decide.mpr h
theorem ge_a (c : Nat) : (!decide ([c] < [97])) = decide (97 ≤ c) := by
  rw [lt1]
  by_cases h : 97 ≤ c
  · rw [decide_eq_true h, decide_eq_false (by omega)]; rfl
  · rw [decide_eq_false h, decide_eq_true (by omega)]; rfl
theorem le_z (c : Nat) : (!decide ([122] < [c])) = decide (c ≤ 122) := by
  rw [lt1]
  by_cases h : c ≤ 122
  · rw [decide_eq_true h, decide_eq_false (by omega)]; rfl
  · rw [decide_eq_false h, decide_eq_true (by omega)]; rfl
theorem ok_is_name {f c T : Addr} {fd : FuncData} {tk : Tok} (B : Nb mg) (D : DefIs K "is_name" "is_name" st_is_name f fd (.ref c)) (x_is_name : TabB base mg c T) (k_MOST_LETTERS : mg "MOST_LETTERS" = some (.int 8 tk)) :
    FnG P w K mg base CX0 4 f fd ["thing"] (spIsName K T) := by
  refine D.ok0 (k := 3) sc_is_name (fun vs H Q E h => ?_) (fun A outer s H vs Q E g hr h => ?_)
  · obtain ⟨x, rfl, _⟩ := h
    rfl
  obtain ⟨x, rfl, tT, h⟩ := h
  refine ⟨_,
      (pss_cons (ps_if (PW.pt (pw_or (pt_cmpR (op_notTyB) (pe_callTy call_type1 rfl B.n_type (by decide +kernel) (pa_cons (pv 0) pa_nil)) (pe_bltn (v := .ty "str") rfl B.n_str (by decide +kernel) rfl) (nomark _)) (pw_or1 (pt_not (pt_chain (op_le) (op_le) pe_int (pe_callB call_len_str rfl B.n_len PySem.boot_len (pa_cons (pv 0) pa_nil)) (pe_glob (v := .int 8) rfl k_MOST_LETTERS ⟨_, rfl⟩)))))) (
        (pss_one (ps_ret pe_bl))) pss_nil)
      (pss_one (ps_ret (pe_allG (own := [("letter", 1)]) hr (gx_ok (N := N_is_name) (dsc := defScope st_is_name) x_is_name sc_is_name.nd (by decide +kernel) (by decide +kernel)) rfl B.n_all (by decide +kernel) (pi_str (pv 0)) (fun _ _ _ _ _ => (pg_name (i := 1) sc_is_name.nd rfl (.inl rfl))) (fun _ _ _ _ _ => pe_to (pe_chain (op_le_str) (op_le_str) pe_str (pv 1) pe_str)))))), ?_⟩
  rcases h with ⟨z, rfl, hz, q⟩ | ⟨U, hU, ty, q⟩
  · refine ⟨.str z, rfl, _, "str", rfl, .str z, "str", "str", rfl, rfl, _, rfl, iteNS rfl ⟨.str z, rfl, z, rfl, hz, 1, z.length, rfl, rfl, _, rfl, ?_⟩⟩
    have no : isNm z = false → Q (.bl false) H := fun e => by
      rw [← e]
      exact q H (Grow.refl _ _)
    by_cases h1 : (1 : Int) ≤ z.length
    · rw [if_pos (decide_eq_true h1)]
      refine ⟨z.length, 8, rfl, rfl, _, rfl, ?_⟩
      by_cases h8 : (z.length : Int) ≤ 8
      · rw [decide_eq_true h8]
        refine iteF ⟨.str z, rfl, z, rfl, tT, ?_⟩
        have hall : ∀ b : Bool, b = z.cps.toList.all nameC → ∀ H', Grow [] H H' → Q (.bl b) H' := fun b e H' gr => by
          have e2 : isNm z = b := by
            unfold isNm
            rw [decide_eq_true (by omega : 1 ≤ z.length), decide_eq_true (by omega : z.length ≤ 8), e]
            rfl
          rw [← e2]
          exact q H' gr
        refine truth_text (fun i H' => Grow [] H H' ∧ (z.cps.toList.take i).all nameC = true) (fun H2 t => ⟨grow_tab tT t, rfl⟩) (fun i cc H' hc hp => ?_) fun H' hp => ?_
        · have e1 : (!decide ((⟨#[cc]⟩ : Str).cps.toList < (Str.ofString "a").cps.toList)) = decide (97 ≤ cc) := ge_a cc
          have e2 : (!decide ((Str.ofString "z").cps.toList < (⟨#[cc]⟩ : Str).cps.toList)) = decide (cc ≤ 122) := le_z cc
          have out : nameC cc = false → Q (.bl false) H' := fun e => by
            refine hall false ?_ H' hp.1
            refine (List.all_eq_false.mpr ⟨cc, List.mem_of_getElem? hc, ?_⟩).symm
            rw [e]
            exact Bool.false_ne_true
          refine ⟨rfl, .str ⟨#[cc]⟩, rfl, _, _, rfl, rfl, _, rfl, ?_⟩
          rw [e1]
          by_cases ca : 97 ≤ cc
          · rw [if_pos (decide_eq_true ca)]
            refine ⟨_, _, rfl, rfl, _, rfl, ?_⟩
            rw [e2]
            by_cases cz : cc ≤ 122
            · rw [if_neg (by rw [decide_eq_true cz]; exact fun z => Bool.noConfusion z)]
              refine ⟨hp.1, ?_⟩
              rw [List.take_add_one, hc, List.all_append, hp.2]
              show (true && (nameC cc && true)) = true
              unfold nameC
              rw [decide_eq_true ca, decide_eq_true cz]
              rfl
            · rw [if_pos (decide_eq_false cz)]
              refine out ?_
              unfold nameC
              rw [decide_eq_false cz, Bool.and_false]
          · rw [if_neg (by rw [decide_eq_false ca]; exact Bool.false_ne_true)]
            refine ⟨false, rfl, ?_⟩
            rw [if_pos rfl]
            refine out ?_
            unfold nameC
            rw [decide_eq_false ca, Bool.false_and]
        · refine hall true ?_ H' hp.1
          have := hp.2
          rw [List.take_length] at this
          exact this.symm
      · rw [decide_eq_false h8]
        refine iteT (no ?_)
        unfold isNm
        rw [decide_eq_false (by omega : ¬ z.length ≤ 8), Bool.and_false, Bool.false_and]
    · rw [decide_eq_false h1]
      refine iteF ⟨_, rfl, iteT (no ?_)⟩
      unfold isNm
      rw [decide_eq_false (by omega : ¬ 1 ≤ z.length), Bool.false_and, Bool.false_and]
  · refine ⟨x, rfl, _, U, rfl, ty, U, "str", rfl, rfl, _, rfl, ?_⟩
    rw [decide_eq_false hU]
    exact iteT (iteT q)
end

section
variable {P : Program} {w : World} {K : PySem.W.Frag} {mg : Str → Option Value} {base : Heap}
/-! ### are_unlike_names, is_book -/
def nameV : V → Bool
  | .str z => isNm z
  | _ => false
def bookV (xs : List V) : Bool := xs.all nameV && decide xs.Nodup
theorem nameV_str (x : V) (h : nameV x = true) : ∃ z, x = .str z := by
  cases x with
  | str z => exact ⟨z, rfl⟩
  | _ => cases h
def spUnlike (K : PySem.W.Frag) (T1 T2 : Addr) : Sp := fun vs H Q _ => ∃ x, vs = [x] ∧ TabG H T1 ∧ TabG H T2 ∧
  ((∃ (l : Addr) (xs : List V), x = .ref l ∧ SqL K H l xs ∧ (∀ x ∈ xs, Known K H x) ∧ xs.length ≤ 4000 ∧ ∀ H', Grow [] H H' → Q (.bl (bookV xs)) H') ∨ ∃ U, U ≠ "list" ∧ TyB K H x U ∧ Q (.bl false) H)
theorem ok_are_unlike_names {f c T1 T : Addr} {fd : FuncData} (B : Nb mg) (D : DefIs K "are_unlike_names" "are_unlike_names" st_are_unlike_names f fd (.ref c)) (x_are_unlike_names : TabB base mg c T)
    (c_is_name : Callee P w K mg base CX0 4 "is_name" ["thing"] (spIsName K T1)) : FnG P w K mg base CX0 8 f fd ["thing"] (spUnlike K T1 T) := by
  refine D.ok0 (k := 7) sc_are_unlike_names (fun vs H Q E h => ?_) (fun A outer s H vs Q E g hr h => ?_)
  · obtain ⟨x, rfl, _⟩ := h
    rfl
  obtain ⟨x, rfl, t1, tT, h⟩ := h
  refine ⟨_,
      (pss_cons (ps_if (PW.pt (pw_or (pt_cmpR (op_notTyB) (pe_callTy call_type1 rfl B.n_type (by decide +kernel) (pa_cons (pv 0) pa_nil)) (pe_bltn (v := .ty "list") rfl B.n_list (by decide +kernel) rfl) (nomark _)) (pw_or1 (pt_not (pt_val (pe_allG (own := [("name", 1)]) hr (gx_ok (N := N_are_unlike_names) (dsc := defScope st_are_unlike_names) x_are_unlike_names sc_are_unlike_names.nd (by decide +kernel) (by decide +kernel)) rfl B.n_all (by decide +kernel) (pi_list (pv 0)) (fun _ _ _ _ _ => (pg_name (i := 1) sc_are_unlike_names.nd rfl (.inl rfl))) (fun _ _ _ _ _ => pe_to (pe_g c_is_name g ((room_gx hr).mono (by decide)) pass0 (pa_cons (pv 1) pa_nil))))))))) (
        (pss_one (ps_ret pe_bl))) pss_nil)
      (pss_one (ps_ret (pe_cmpR (op_eq) (pe_lenSetS rfl B.n_len rfl B.n_set hr.hd (pv 0)) (pe_callB call_len_seq rfl B.n_len PySem.boot_len (pa_cons (pv 0) pa_nil)) (nomark _))))), ?_⟩
  rcases h with ⟨l, xs, rfl, hl, hk, hz, q⟩ | ⟨U, hU, ty, q⟩
  · refine ⟨.ref l, rfl, _, "list", rfl, .lst hl, "list", "list", rfl, rfl, _, rfl, iteNS rfl ⟨.ref l, rfl, l, rfl, ⟨xs, hl⟩, tT, ?_⟩⟩
    refine truth_list (xs := xs) (fun i H' => Grow [] H H' ∧ (xs.take i).all nameV = true) (fun H2 t => ⟨grow_tab tT t, rfl⟩) (fun i H' hp => hp.1.seq0 hl) (fun i x H' hx hp => ?_) fun H' hp => ?_
    · refine ⟨rfl, x, rfl, x, rfl, hp.1.tabs _ t1, ?_⟩
      have key : ∀ b, b = nameV x → ∀ H2, Grow [] H' H2 → (b = false → Q (.bl false) H2) ∧ (b = true → Grow [] H H2 ∧ (xs.take (i + 1)).all nameV = true) := fun b e H2 gr => by
        refine ⟨fun hb => ?_, fun hb => ⟨hp.1.trans gr, ?_⟩⟩
        · have eb : bookV xs = false := by
            unfold bookV
            rw [(List.all_eq_false.mpr ⟨x, List.mem_of_getElem? hx, by rw [← e, hb]; exact Bool.false_ne_true⟩ : xs.all nameV = false), Bool.false_and]
          rw [← eb]
          exact q H2 (hp.1.trans gr)
        · rw [List.take_add_one, hx, List.all_append, hp.2]
          show (true && (nameV x && true)) = true
          rw [← e, hb]
          rfl
      rcases (hk x (List.mem_of_getElem? hx)).grow hp.1 with ⟨z, rfl, hz'⟩ | ⟨U, nU, tU⟩
      · refine .inl ⟨z, rfl, hz', fun H2 gr => ?_⟩
        obtain ⟨k1, k2⟩ := key (isNm z) rfl H2 gr
        refine ⟨isNm z, rfl, ?_⟩
        cases hb : isNm z with
        | false =>
          rw [if_pos rfl]
          exact ⟨false, rfl, iteT (k1 hb)⟩
        | true =>
          rw [if_neg (fun z => Bool.noConfusion z)]
          exact k2 hb
      · refine .inr ⟨U, nU, tU, ?_⟩
        have e : nameV x = false := by
          cases hb : nameV x with
          | false => rfl
          | true =>
            obtain ⟨z, rfl⟩ := nameV_str x hb
            cases tU
            exact absurd rfl nU
        refine ⟨false, rfl, ?_⟩
        rw [if_pos rfl]
        exact ⟨false, rfl, iteT ((key false e.symm H' (Grow.refl _ _)).1 rfl)⟩
    · have hall : xs.all nameV = true := by
        have := hp.2
        rwa [List.take_length] at this
      have ex := strs_of nameV_str hall
      refine ⟨true, rfl, iteF ?_⟩
      refine ⟨.ref l, rfl, l, xs.map theStr, rfl, by rw [← ex]; exact hp.1.seq0 hl, by rw [List.length_map]; exact hz, ?_⟩
      refine ⟨.ref l, rfl, l, xs, rfl, .inl (hp.1.seq0 hl), ?_⟩
      have e : decide (V.int ((uq [] (xs.map theStr)).length : Nat) = V.int (xs.length : Nat)) = bookV xs := by
        unfold bookV
        rw [hall, Bool.true_and]
        have e1 : decide (V.int ((uq [] (xs.map theStr)).length : Nat) = V.int (xs.length : Nat)) = decide (((uq [] (xs.map theStr)).length : Int) = ((xs.map theStr).length : Int)) :=
          decide_eq_decide.mpr ⟨fun h => by rw [List.length_map]; exact V.int.inj h, fun h => by rw [List.length_map] at h; rw [h]⟩
        rw [e1, uq_same]
        exact decide_eq_decide.mpr (Iff.trans nodup_str.symm (by rw [← ex]))
      show rEq _ _ _ _
      refine ⟨rfl, ?_⟩
      rw [e]
      exact q H' hp.1
  · refine ⟨x, rfl, _, U, rfl, ty, U, "list", rfl, rfl, _, rfl, ?_⟩
    rw [decide_eq_false hU]
    exact iteT (iteT q)
end

section
variable {K : PySem.W.Frag}
/-! ### books -/
/-- a book -/
structure Bk (zs : List Str) : Prop where
  nm : zs.all isNm = true
  nd : zs.Nodup
  len : zs.length ≤ 200
theorem Bk.perm {zs ws : List Str} (b : Bk zs) (p : zs.Perm ws) : Bk ws :=
  ⟨by rw [List.all_eq_true] at *; exact fun x h => List.all_eq_true.mp b.nm x (p.mem_iff.mpr h), p.nodup_iff.mp b.nd, by rw [← p.length_eq]; exact b.len⟩
theorem Bk.v {zs : List Str} (b : Bk zs) : bookV (zs.map V.str) = true := by
  unfold bookV
  rw [decide_eq_true (nodup_str.mpr b.nd), Bool.and_true, List.all_map]
  exact b.nm
theorem Bk.short {zs : List Str} (b : Bk zs) {z : Str} (h : z ∈ zs) : z.length ≤ 8 := by
  have := List.all_eq_true.mp b.nm z h
  unfold isNm at this
  rw [Bool.and_eq_true, Bool.and_eq_true, decide_eq_true_iff, decide_eq_true_iff] at this
  exact this.1.2
theorem Bk.known {zs : List Str} (b : Bk zs) {H : Hp} : ∀ x ∈ zs.map V.str, Known K H x := fun x h => by
  obtain ⟨z, hz, rfl⟩ := List.mem_map.mp h
  exact .inl ⟨z, rfl, Nat.le_trans (b.short hz) (by decide)⟩
theorem nm_lt {z : Str} (h : isNm z = true) : ∀ c ∈ z.cps.toList, c < 0x110000 := fun c hc => by
  unfold isNm at h
  rw [Bool.and_eq_true] at h
  have := List.all_eq_true.mp h.2 c hc
  unfold nameC at this
  rw [Bool.and_eq_true, decide_eq_true_iff, decide_eq_true_iff] at this
  omega
theorem Bk.fine {zs : List Str} (b : Bk zs) {z : Str} (h : z ∈ zs) : Fine (.str z) 0 8 := .str (nm_lt (List.all_eq_true.mp b.nm z h)) (b.short h)
theorem fine_name {z : Str} (h1 : isNm z = true) : Fine (.str z) 0 8 := by
  refine .str (nm_lt h1) ?_
  unfold isNm at h1
  rw [Bool.and_eq_true, Bool.and_eq_true, decide_eq_true_iff, decide_eq_true_iff] at h1
  exact h1.1.2
theorem fine_names {zs : List Str} (hn : zs.all isNm = true) (hz : zs.length ≤ 200) : Fine (.list (zs.map PyData.str)) 1 1800 := Fine.list (n := 0) (m := 8) (fun d hd => by
  obtain ⟨z, h, rfl⟩ := List.mem_map.mp hd
  have h1 := List.all_eq_true.mp hn z h
  refine .str (nm_lt h1) ?_
  unfold isNm at h1
  rw [Bool.and_eq_true, Bool.and_eq_true, decide_eq_true_iff, decide_eq_true_iff] at h1
  exact h1.1.2) (by rw [List.length_map]; omega)
theorem all_perm {zs ws : List Str} (h : zs.all isNm = true) (p : ws.Perm zs) : ws.all isNm = true := List.all_eq_true.mpr fun x hx => List.all_eq_true.mp h x (p.mem_iff.mp hx)
theorem seqIndex_nat {v : Int} {n : Nat} (h0 : 0 ≤ v) (h : v < n) : seqIndex? v n = some v.toNat := by
  have e : seqIndex? v n = if (decide (0 ≤ (if v < 0 then v + n else v)) && decide ((if v < 0 then v + n else v) < n)) = true then some (if v < 0 then v + n else v).toNat else none := rfl
  rw [e, if_neg (by omega : ¬ v < 0), decide_eq_true h0, decide_eq_true h]
  rfl
end

section
variable {P : Program} {w : World} {K : PySem.W.Frag} {mg : Str → Option Value} {base : Heap}
/-! ### is_book -/
theorem ok_is_book {f c T1 T : Addr} {fd : FuncData} (D : DefIs K "is_book" "is_book" st_is_book f fd (.ref c))
    (c_are_unlike_names : Callee P w K mg base CX0 8 "are_unlike_names" ["thing"] (spUnlike K T1 T)) : FnG P w K mg base CX0 9 f fd ["thing"] (spUnlike K T1 T) := by
  refine D.ok0 (k := 8) sc_is_book (fun vs H Q E h => ?_) (fun A outer s H vs Q E g hr h => ?_)
  · obtain ⟨x, rfl, _⟩ := h
    rfl
  obtain ⟨x, rfl, t1, tT, h⟩ := h
  refine ⟨_,
      (pss_one (ps_ret (pe_g c_are_unlike_names g (hr.mono (by decide)) pass0 (pa_cons (pv 0) pa_nil)))), ?_⟩
  exact ⟨x, rfl, x, rfl, t1, tT, h⟩
end

section
variable {P : Program} {w : World} {K : PySem.W.Frag} {mg : Str → Option Value} {base : Heap}
/-! ### check_books -/
def spCheck (K : PySem.W.Frag) (T1 T : Addr) : Sp := fun vs H Q _ => ∃ (l m : Addr) (zs ws : List Str), vs = [.ref l, .ref m] ∧ TabG H T1 ∧ TabG H T ∧ SqL K H l (zs.map V.str) ∧ SqL K H m (ws.map V.str) ∧ Bk zs ∧ zs.Perm ws ∧ ∀ H', Grow [] H H' → Q V.non H'
theorem ok_check_books {f c T1 T : Addr} {fd : FuncData} (B : Nb mg) (D : DefIs K "check_books" "check_books" st_check_books f fd (.ref c))
    (c_is_book : Callee P w K mg base CX0 9 "is_book" ["thing"] (spUnlike K T1 T)) : FnG P w K mg base CX0 10 f fd ["book", "other"] (spCheck K T1 T) := by
  refine D.ok0 (k := 9) sc_check_books (fun vs H Q E h => ?_) (fun A outer s H vs Q E g hr h => ?_)
  · obtain ⟨l, m, zs, ws, rfl, _⟩ := h
    rfl
  obtain ⟨l, m, zs, ws, rfl, t1, tT, hl, hm, bz, pm, q⟩ := h
  have bw := bz.perm pm
  refine ⟨_,
      (pss_cons (ps_if (pt_not (pt_val (pe_g c_is_book g (hr.mono (by decide)) pass0 (pa_cons (pv 0) pa_nil)))) (
        (pss_one ps_dead)) pss_nil)
      (pss_cons (ps_if (pt_not (pt_val (pe_g c_is_book g (hr.mono (by decide)) pass0 (pa_cons (pv 1) pa_nil)))) (
        (pss_one ps_dead)) pss_nil)
      (pss_one (ps_if (pt_cmpR (op_neD hr.units) (pe_callB (cr_sortG (val := V.str) (enc := PyData.str) hr.units) rfl B.n_sorted (by decide +kernel) (pa_cons (pv 0) pa_nil)) (pe_callB (cr_sortG (val := V.str) (enc := PyData.str) hr.units) rfl B.n_sorted (by decide +kernel) (pa_cons (pv 1) pa_nil)) (nomark _)) (
        (pss_one ps_dead)) pss_nil)))), ?_⟩
  refine ⟨.ref l, rfl, .ref l, rfl, t1, tT, .inl ⟨l, _, rfl, hl, bz.known, by rw [List.length_map]; have := bz.len; omega, fun H1 g1 => ?_⟩⟩
  rw [bz.v]
  refine ⟨true, rfl, iteF ⟨.ref m, rfl, .ref m, rfl, g1.tabs _ t1, g1.tabs _ tT, .inl ⟨m, _, rfl, g1.seq0 hm, bw.known, by rw [List.length_map]; have := bw.len; omega, fun H2 g2 => ?_⟩⟩⟩
  rw [bw.v]
  have gg := g1.trans g2
  have fz : ∀ xs : List Str, Bk xs → Fine (.list (xs.map PyData.str)) 1 1800 := fun xs b => Fine.list (n := 0) (m := 8) (fun d hd => by
    obtain ⟨z, hz, rfl⟩ := List.mem_map.mp hd
    exact b.fine hz) (by rw [List.length_map]; have := b.len; omega)
  refine ⟨true, rfl, iteF ⟨.ref l, rfl, l, zs, rfl, gg.seq0 hl, fun z hz => ⟨.str z, by show 0 ≤ 60; decide⟩, alike_strs zs, sortable_strs zs, by have := bz.len; unfold sizeLine; omega, fun p1 n1 => ?_⟩⟩
  have g3 : Grow [] H (upd H2 p1 (.lst ((zs.mergeSort (PySem.W.dataLe false PyData.str)).map V.str))) := gg.trans (grow_new n1)
  refine ⟨.ref m, rfl, m, ws, rfl, g3.seq0 hm, fun z hz => ⟨.str z, by show 0 ≤ 60; decide⟩, alike_strs ws, sortable_strs ws, by have := bw.len; unfold sizeLine; omega, fun p2 n2 => ?_⟩
  have pz := List.mergeSort_perm zs (PySem.W.dataLe false PyData.str)
  have bs := bz.perm pz.symm
  rw [sort_same pm fun a b => toks_str] at g3 n2 ⊢
  have e1 : upd (upd H2 p1 (.lst ((ws.mergeSort (PySem.W.dataLe false PyData.str)).map V.str))) p2 (.lst ((ws.mergeSort (PySem.W.dataLe false PyData.str)).map V.str)) p1 = some (.lst ((ws.mergeSort (PySem.W.dataLe false PyData.str)).map V.str)) := by
    rw [upd_ne (ne_of_none upd_same n2)]
    exact upd_same
  have bq := bw.perm (List.mergeSort_perm ws (PySem.W.dataLe false PyData.str)).symm
  have f := fz _ bq
  refine ⟨_, _, dp_book (.inl (.inl e1)), dp_book (.inl (.inl upd_same)), f.shaped (by decide), f.shaped (by decide), ?_⟩
  rw [f.eqv]
  exact ⟨false, rfl, iteF (q _ (g3.trans (grow_new n2)))⟩
end

section
variable {P : Program} {w : World} {K : PySem.W.Frag} {mg : Str → Option Value} {base : Heap}
/-! ### places_of -/
def spPlaces (K : PySem.W.Frag) : Sp := fun vs H Q _ => ∃ (l : Addr) (zs : List Str), vs = [.ref l] ∧ SqL K H l (zs.map V.str) ∧ zs.Nodup ∧ zs.length ≤ 200 ∧
  ∀ D H' kvs, Fresh H D → Grow [] H H' → H' D = some (.dK kvs) → (∀ z ∈ zs, valV kvs (.inr z) = some (.int (zs.idxOf z : Nat))) → kvs.map Prod.fst = zs.map Sum.inr → Q (.ref D) H'
theorem ok_places_of {f c : Addr} {fd : FuncData} (B : Nb mg) (D : DefIs K "places_of" "places_of" st_places_of f fd (.ref c)) : FnG P w K mg base CX0 4 f fd ["book"] (spPlaces K) := by
  refine D.ok0 (k := 3) sc_places_of (fun vs H Q E h => ?_) (fun A outer s H vs Q E g hr h => ?_)
  · obtain ⟨l, zs, rfl, _⟩ := h
    rfl
  obtain ⟨l, zs, rfl, hl, nd, len, q⟩ := h
  refine ⟨_,
      (pss_one (ps_ret (pe_dc (own := [("place", 1), ("word", 2)]) (g := (gTup _ 2 (gCons (gName 1) (gCons (gName 2) gNil)))) (tt := tYes) rfl sc_places_of.nd (pi_enum rfl B.n_enumerate (pa_cons (pv 0) pa_nil)) (blkOk_by (N := N_places_of) (sc := defScope st_places_of) (by decide +kernel)) (fun _ _ _ _ _ => (pg_tup rfl (pgs_cons (pg_name (i := 1) sc_places_of.nd rfl (.inl rfl)) (pgs_cons (pg_name (i := 2) sc_places_of.nd rfl (.inl rfl)) pgs_nil)))) (fun _ _ _ _ _ => pts_nil) (fun _ _ _ _ _ => pe_to (pv 2)) (fun _ _ _ _ _ => pe_to (pv 1))))), ?_⟩
  refine ⟨.ref l, rfl, l, _, rfl, hl, fun D n => ?_⟩
  refine dc_it walk_enum (fun i H' => Grow [] H H' ∧ ∃ kvs, H' D = some (.dK kvs) ∧ kvs.length ≤ i ∧ kvs.map Prod.fst = (zs.take i).map Sum.inr ∧ ∀ (j : Nat) (z : Str), j < i → zs[j]? = some z → valV kvs (.inr z) = some (.int j)) ?_ (fun i H' _ h => h.1.seq0 hl) (fun i x H1 H2 hi hp hy => ?_) (fun H' hp => ?_)
  · exact ⟨grow_new n, [], upd_same, Nat.le_refl _, rfl, fun j z hj => absurd hj (Nat.not_lt_zero _)⟩
  · obtain ⟨gr, kvs, e, el, ek, hk⟩ := hp
    obtain ⟨T, x1, x2, rfl, nT, rfl, ei, ex⟩ := hy
    replace ex : (zs.map V.str)[i]? = some x2 := ex
    rw [List.getElem?_map] at ex
    cases ez : zs[i]? with
    | none => rw [ez] at ex; cases ex
    | some z =>
      rw [ez] at ex
      cases ex
      cases ei
      have gr2 : Grow [] H (upd H1 T (.tup [.int (i : Nat), .str z])) := gr.new nT
      have eD : upd H1 T (.tup [.int (i : Nat), .str z]) D = some (.dK kvs) := by rw [upd_ne (ne_of_none e nT)]; exact e
      refine ⟨T, _, rfl, .inl (.inl upd_same), rfl, _, _, rfl, _, _, rfl, rfl, rfl, ?_⟩
      refine ⟨.str z, rfl, .int i, rfl, kvs, .inr z, rfl, eD, by unfold sizeLine; rw [List.length_map] at hi; omega, gr2.put (fresh_none n) eD (fun ps z => by cases z), _, upd_same, ?_, ?_, fun j y hj hy => ?_⟩
      · have := put_len kvs (.inr z) (.int (i : Nat))
        omega
      · have nw : valV kvs (.inr z) = none := valV_none (by
          rw [ek]
          intro h
          obtain ⟨y, hy, e2⟩ := List.mem_map.mp h
          cases e2
          obtain ⟨j, hj⟩ := List.mem_iff_getElem?.mp hy
          rw [List.getElem?_take] at hj
          by_cases hji : j < i
          · rw [if_pos hji] at hj
            have := (List.getElem?_inj (List.getElem?_eq_some_iff.mp hj).1 nd).mp (hj.trans ez.symm)
            omega
          · rw [if_neg hji] at hj
            cases hj)
        rw [putK_new _ nw, List.map_append, ek, List.take_add_one, ez, List.map_append]
        rfl
      · rw [valV_put]
        by_cases hji : j = i
        · subst hji
          rw [ez] at hy
          cases hy
          rw [if_pos rfl]
        · have : y ≠ z := fun e2 => by
            subst e2
            exact hji ((List.getElem?_inj (List.getElem?_eq_some_iff.mp hy).1 nd).mp (hy.trans ez.symm))
          rw [if_neg (fun e2 => this (Sum.inr.inj e2))]
          exact hk j y (by omega) hy
  · obtain ⟨gr, kvs, e, el, ek, hk⟩ := hp
    refine q D H' kvs (fresh_none n) gr e (fun z hz => ?_) (by rw [ek, List.length_map, List.take_length])
    have h1 := List.idxOf_lt_length_of_mem hz
    exact hk _ z (by rw [List.length_map]; exact h1) (by rw [List.getElem?_eq_getElem h1, List.getElem_idxOf h1])
end

/-! ### pairs that stand otherwise -/
/-- the pairs whose first stands at k -/
def prsAt (lt : Str → Str → Bool) (zs : List Str) (a : Str) (k : Nat) : List (Str × Str) := ((zs.drop (k + 1)).filter (lt a)).map fun b => (a, b)
def prsTo (lt : Str → Str → Bool) (zs : List Str) : Nat → List (Str × Str)
  | 0 => []
  | k + 1 => prsTo lt zs k ++ prsAt lt zs (zs.getD k Str.empty) k
def later (ws : List Str) (a b : Str) : Bool := decide (ws.idxOf b < ws.idxOf a)
theorem prsAt_len (lt : Str → Str → Bool) (zs : List Str) (a : Str) (k : Nat) : (prsAt lt zs a k).length ≤ zs.length := by
  unfold prsAt
  rw [List.length_map]
  have h1 := List.length_filter_le (lt a) (zs.drop (k + 1))
  rw [List.length_drop] at h1
  omega
theorem prsTo_len (lt : Str → Str → Bool) (zs : List Str) : ∀ k, (prsTo lt zs k).length ≤ k * zs.length
  | 0 => Nat.zero_le _
  | k + 1 => by
    have h1 := prsTo_len lt zs k
    have h2 := prsAt_len lt zs (zs.getD k Str.empty) k
    rw [prsTo, List.length_append, Nat.succ_mul]
    omega

section
variable {P : Program} {w : World} {K : PySem.W.Frag} {mg : Str → Option Value} {base : Heap}
/-! ### the drawing: _law_pot, _law_take -/
/-- what is drawn from: a number used up first, then a mixed one; no more than c turns of it -/
def Pot (H : Hp) (p : Addr) (c : Int) : Prop := ∃ a b k : Int, H p = some (.lst [.int a, .int b, .int k]) ∧ 0 ≤ b ∧ b < 2 ^ 90 ∧ 0 ≤ k ∧ k ≤ c
theorem Pot.mono {H : Hp} {p : Addr} {c c' : Int} (h : Pot H p c) (l : c ≤ c') : Pot H p c' := by
  obtain ⟨a, b, k, e, b1, b2, b3, b4⟩ := h
  exact ⟨a, b, k, e, b1, b2, b3, by omega⟩
theorem Pot.new {H : Hp} {p q : Addr} {o : HO} {c : Int} (h : Pot H p c) (n : H q = none) : Pot (upd H q o) p c := by
  obtain ⟨a, b, k, e, r⟩ := h
  exact ⟨a, b, k, by rw [upd_ne (ne_of_none e n)]; exact e, r⟩
theorem Pot.at {H : Hp} {p q : Addr} {o : HO} {c : Int} (h : Pot H p c) (n : p ≠ q) : Pot (upd H q o) p c := by
  obtain ⟨a, b, k, e, r⟩ := h
  exact ⟨a, b, k, by rw [upd_ne n]; exact e, r⟩
theorem Fresh.back {H H2 : Hp} {D p : Addr} {c : Int} (fr : Fresh H2 D) (g : Grow [p] H H2) (h : Pot H2 p c) : Fresh H D := by
  obtain ⟨a, b, k, e, _⟩ := h
  have n := fr.ne e (fun ps z => by cases z)
  exact g.fresh (by simpa using n.symm) fr
def spPot (K : PySem.W.Frag) : Sp := fun vs H Q _ => ∃ (s : Addr) (ns : List Int) (k : Nat), vs = [.ref s, .int k] ∧ SqL K H s (ns.map V.int) ∧ k ≤ 12 ∧ ∀ p H', Fresh H p → Grow [] H H' → Pot H' p 0 → Q (.ref p) H'
theorem ok_law_pot {f c : Addr} {fd : FuncData} (B : Nb mg) (D : DefIs K "_law_pot" "_law_pot" st_law_pot f fd (.ref c)) : FnG P w K mg base CX0 3 f fd ["script", "k"] (spPot K) := by
  refine D.ok0 (k := 2) sc_law_pot (fun vs H Q E h => ?_) (fun A outer s H vs Q E g hr h => ?_)
  · obtain ⟨s, ns, k, rfl, _⟩ := h
    rfl
  obtain ⟨l, ns, k, rfl, hl, hk, q⟩ := h
  refine ⟨_,
      (pss_cons (ps_set (i := 2) sc_law_pot.nd rfl (.inl rfl) pe_int)
      (pss_cons (ps_if (pt_cmpR (op_lt) (pv 1) (pe_callB call_len_seq rfl B.n_len PySem.boot_len (pa_cons (pv 0) pa_nil)) (nomark _)) (
        (pss_one (ps_set (i := 2) sc_law_pot.nd rfl (.inl rfl) (pe_ix ix_list (pv 0) (pv 1) (fun _ _ => rfl))))) pss_nil)
      (pss_one (ps_ret (pe_lst (pa_cons (pe_callB (call_max2 rfl) rfl B.n_max (by decide +kernel) (pa_cons pe_int (pa_cons (pe_op op_sub (pv 2) (pe_op op_powX pe_int pe_int)) pa_nil))) (pa_cons (pe_op op_add (pe_op op_mod (pv 2) pe_int) (pe_op op_mulX pe_int (pv 1))) (pa_cons pe_int pa_nil)))))))), ?_⟩
  have fq : ∀ (cell : Int) p, H p = none → Q (.ref p) (upd H p (.lst [.int (if cell - 10 ^ (18 : Int).toNat > 0 then cell - 10 ^ (18 : Int).toNat else 0), .int (cell % 618970019642690137449562111 + 7368787 * (k : Int)), .int 0])) := fun cell p np =>
    q p _ (fresh_none np) (grow_new np) ⟨_, _, _, upd_same, by
      have := Int.emod_nonneg cell (b := 618970019642690137449562111) (by decide)
      omega, by
      have := Int.emod_lt_of_pos cell (b := 618970019642690137449562111) (by decide)
      omega, Int.le_refl _, Int.le_refl _⟩
  have cp : CPowX 10 18 := ⟨by decide, by decide⟩
  have cm : CMulX 7368787 (k : Int) := by
    have h1 : Builtin.Int.intBits (k : Int) ≤ 4 := bits_le (by decide) (by omega)
    have h2 : Builtin.Int.intBits 7368787 ≤ 23 := bits_le (by decide) (by decide)
    unfold CMulX
    omega
  refine ⟨.int k, rfl, .ref l, rfl, l, _, rfl, .inl hl, _, _, rfl, rfl, _, rfl, ?_⟩
  by_cases hlt : (k : Int) < ((ns.map V.int).length : Nat)
  · rw [decide_eq_true hlt]
    have hi : k < ns.length := by rw [List.length_map] at hlt; omega
    refine iteT ⟨.ref l, rfl, .int k, rfl, l, _, _, .int (ns[k]), rfl, rfl, hl, ?_, ?_⟩
    · exact atI_nat (by rw [List.getElem?_map, List.getElem?_eq_getElem hi]; rfl)
    · exact ⟨.int (ns[k]), rfl, 10, 18, rfl, rfl, cp, _, _, rfl, rfl, _, _, rfl, .int (ns[k]), rfl, _, _, rfl, rfl, (by decide : (0 : Int) < 618970019642690137449562111), .int k, rfl, _, _, rfl, rfl, cm, _, _, rfl, rfl, by show 3 ≤ sizeLine; decide, fq _⟩
  · rw [decide_eq_false hlt]
    exact iteF ⟨.int 0, rfl, 10, 18, rfl, rfl, cp, _, _, rfl, rfl, _, _, rfl, .int 0, rfl, _, _, rfl, rfl, (by decide : (0 : Int) < 618970019642690137449562111), .int k, rfl, _, _, rfl, rfl, cm, _, _, rfl, rfl, by show 3 ≤ sizeLine; decide, fq _⟩
def spTake (K : PySem.W.Frag) : Sp := fun vs H Q _ => ∃ (p : Addr) (m c : Int), vs = [.ref p, .int m] ∧ 1 ≤ m ∧ m < 2 ^ 30 ∧ c ≤ 2 ^ 30 ∧ Pot H p c ∧ ∀ v H', 0 ≤ v → v < m → Grow [p] H H' → Pot H' p (c + 1) → Q (.int v) H'
theorem ok_law_take {f c : Addr} {fd : FuncData} (B : Nb mg) (D : DefIs K "_law_take" "_law_take" st_law_take f fd (.ref c)) : FnG P w K mg base CX0 3 f fd ["pot", "many"] (spTake K) := by
  refine D.ok0 (k := 2) sc_law_take (fun vs H Q E h => ?_) (fun A outer s H vs Q E g hr h => ?_)
  · obtain ⟨p, m, c, rfl, _⟩ := h
    rfl
  obtain ⟨p, m, c, rfl, m1, m2, c1, ⟨a, b, k, e, b1, b2, k1, k2⟩, q⟩ := h
  refine ⟨_,
      (pss_cons (ps_if (pt_cmpR (op_gt) (pe_ix ix_list (pv 0) pe_int (fun _ _ => rfl)) pe_int (nomark _)) (
        (pss_cons (ps_set (i := 2) sc_law_take.nd rfl (.inl rfl) (pe_op op_mod (pe_ix ix_list (pv 0) pe_int (fun _ _ => rfl)) (pv 1)))
        (pss_cons (ps_asg (pe_op op_fdiv (pe_ix ix_list (pv 0) pe_int (fun _ _ => rfl)) (pv 1)) (pg_sub (pv 0) pe_int set_list))
        (pss_one (ps_ret (pv 2)))))) pss_nil)
      (pss_cons (ps_asg (pe_op op_add (pe_ix ix_list (pv 0) pe_int (fun _ _ => rfl)) pe_int) (pg_sub (pv 0) pe_int set_list))
      (pss_cons (ps_set (i := 3) sc_law_take.nd rfl (.inl rfl) (pe_op op_mod (pe_op op_powX (pe_op op_add (pe_ix ix_list (pv 0) pe_int (fun _ _ => rfl)) (pe_op op_mulX pe_int (pe_ix ix_list (pv 0) pe_int (fun _ _ => rfl)))) pe_int) pe_int))
      (pss_cons (ps_set (i := 3) sc_law_take.nd rfl (.inl rfl) (pe_op op_mod (pe_op op_powX (pe_op op_add (pv 3) (pe_op op_mulX pe_int (pe_ix ix_list (pv 0) pe_int (fun _ _ => rfl)))) pe_int) pe_int))
      (pss_one (ps_ret (pe_op op_mod (pe_op op_fdiv (pv 3) pe_int) (pv 1)))))))), ?_⟩
  have sq : ∀ {H' : Hp} {x y z : Int}, H' p = some (.lst [.int x, .int y, .int z]) → SqL K H' p [.int x, .int y, .int z] := fun h => .inl (.inl h)
  refine ⟨.ref p, rfl, p, _, 0, .int a, rfl, rfl, sq e, rfl, _, _, rfl, rfl, _, rfl, ?_⟩
  by_cases ha : 0 < a
  · rw [decide_eq_true ha]
    refine iteT ⟨.ref p, rfl, p, _, 0, .int a, rfl, rfl, sq e, rfl, .int m, rfl, _, _, rfl, rfl, m1, .ref p, rfl, p, _, 0, .int a, rfl, rfl, sq e, rfl, .int m, rfl, _, _, rfl, rfl, ⟨m1, m2⟩, .ref p, rfl, p, _, 0, 0, rfl, rfl, e, rfl, .int (a % m), rfl, ?_⟩
    exact q _ _ (Int.emod_nonneg _ (by omega)) (Int.emod_lt_of_pos _ m1) (grow_at e (fun ps z => by cases z) (by simp)) ⟨_, _, _, upd_same, b1, b2, k1, by omega⟩
  · rw [decide_eq_false ha]
    refine iteF ⟨.ref p, rfl, p, _, 2, .int k, rfl, rfl, sq e, rfl, _, _, rfl, rfl, .ref p, rfl, p, _, 2, 2, rfl, rfl, e, rfl, ?_⟩
    have e2 : upd H p (.lst [.int a, .int b, .int (k + 1)]) p = some (.lst [.int a, .int b, .int (k + 1)]) := upd_same
    have fin : ∀ x : Int, Q (.int (x / 1048576 % m)) (upd H p (.lst [.int a, .int b, .int (k + 1)])) := fun x =>
      q _ _ (Int.emod_nonneg _ (by omega)) (Int.emod_lt_of_pos _ m1) (grow_at e (fun ps z => by cases z) (by simp)) ⟨_, _, _, e2, b1, b2, by omega, by omega⟩
    have bk : Builtin.Int.intBits (k + 1) ≤ 31 := bits_le (by decide) (by omega)
    have cm1 : CMulX 15485863 (k + 1) := by
      have : Builtin.Int.intBits 15485863 ≤ 24 := bits_le (by decide) (by decide)
      unfold CMulX
      omega
    have cm2 : CMulX 32452843 (k + 1) := by
      have : Builtin.Int.intBits 32452843 ≤ 25 := bits_le (by decide) (by decide)
      unfold CMulX
      omega
    have cp1 : CPowX (b + 15485863 * (k + 1)) 3 := by
      have : Builtin.Int.intBits (b + 15485863 * (k + 1)) ≤ 91 := bits_le (by decide) (by omega)
      exact ⟨by decide, by omega⟩
    have cp2 : ∀ y : Int, CPowX (y % 162259276829213363391578010288127 + 32452843 * (k + 1)) 5 := fun y => by
      have h1 := Int.emod_nonneg y (b := 162259276829213363391578010288127) (by decide)
      have h2 := Int.emod_lt_of_pos y (b := 162259276829213363391578010288127) (by decide)
      have : Builtin.Int.intBits (y % 162259276829213363391578010288127 + 32452843 * (k + 1)) ≤ 108 := bits_le (by decide) (by omega)
      exact ⟨by decide, by omega⟩
    refine ⟨.ref p, rfl, p, _, 1, .int b, rfl, rfl, sq e2, rfl, .ref p, rfl, p, _, 2, .int (k + 1), rfl, rfl, sq e2, rfl, _, _, rfl, rfl, cm1, _, _, rfl, rfl, _, _, rfl, rfl, cp1, _, _, rfl, rfl, (by decide : (0 : Int) < 162259276829213363391578010288127), ?_⟩
    exact ⟨.int _, rfl, .ref p, rfl, p, _, 2, .int (k + 1), rfl, rfl, sq e2, rfl, _, _, rfl, rfl, cm2, _, _, rfl, rfl, _, _, rfl, rfl, cp2 _, _, _, rfl, rfl, (by decide : (0 : Int) < 170141183460469231731687303715884105727), .int _, rfl, _, _, rfl, rfl, (⟨by decide, by decide⟩ : CDiv _ 1048576), .int m, rfl, _, _, rfl, rfl, m1, fin _⟩
end

section
variable {P : Program} {w : World} {K : PySem.W.Frag} {mg : Str → Option Value} {base : Heap}
/-! ### _law_some -/
def spSomeS (K : PySem.W.Frag) : Sp := fun vs H Q _ => ∃ (p t : Addr) (m : Nat) (c : Int) (zs : List Str), vs = [.ref p, .ref t, .int m] ∧ Pot H p c ∧ c ≤ 2 ^ 20 ∧ SqL K H t (zs.map V.str) ∧ zs.all isNm = true ∧ zs.length ≤ 200 ∧
  ∀ (D : Addr) (H' : Hp) (ys rest : List Str), Fresh H D → Grow [p] H H' → H' D = some (.lst (ys.map V.str)) → (ys ++ rest).Perm zs → ys.length = min m zs.length → Pot H' p (c + 200) → Q (.ref D) H'
/-- of anything -/
def spSomeV (K : PySem.W.Frag) : Sp := fun vs H Q _ => ∃ (p t : Addr) (m : Nat) (c : Int) (zs : List V), vs = [.ref p, .ref t, .int m] ∧ Pot H p c ∧ c ≤ 2 ^ 20 ∧ SqL K H t zs ∧ zs.length ≤ 200 ∧
  ∀ (D : Addr) (H' : Hp) (ys rest : List V), Fresh H D → Grow [p] H H' → H' D = some (.lst ys) → (ys ++ rest).Perm zs → ys.length = min m zs.length → Pot H' p (c + 200) → Q (.ref D) H'
def spSome (K : PySem.W.Frag) : Sp := fun vs H Q E => spSomeS K vs H Q E ∨ spSomeV K vs H Q E
theorem strs_perm {ys rest : List V} {zs : List Str} (h : (ys ++ rest).Perm (zs.map V.str)) : ∃ y r : List Str, ys = y.map V.str ∧ (y ++ r).Perm zs := by
  have all : ∀ x ∈ ys ++ rest, ∃ z, x = V.str z := fun x hx => by
    obtain ⟨z, _, rfl⟩ := List.mem_map.mp (h.mem_iff.mp hx)
    exact ⟨z, rfl⟩
  have un : ∀ l : List V, (∀ x ∈ l, ∃ z, x = V.str z) → l = (l.map theStr).map V.str := fun l => by
    induction l with
    | nil => intro _; rfl
    | cons x l ih =>
      intro hl
      obtain ⟨z, rfl⟩ := hl x List.mem_cons_self
      rw [List.map_cons, List.map_cons, ← ih fun y hy => hl y (List.mem_cons_of_mem _ hy)]
      rfl
  refine ⟨ys.map theStr, rest.map theStr, un ys fun x hx => all x (List.mem_append_left _ hx), ?_⟩
  have := h.map theStr
  rw [List.map_append, List.map_map] at this
  refine this.trans (.of_eq ?_)
  rw [show (theStr ∘ V.str) = (id : Str → Str) from rfl, List.map_id]
theorem SomeV.of {K : PySem.W.Frag} {vs : List V} {H : Hp} {Q : VK} {E : XK} (h : spSome K vs H Q E) : spSomeV K vs H Q E := by
  rcases h with ⟨p, t, m, c, zs, rfl, hp, hc, ht, hn, hz, q⟩ | h
  · refine ⟨p, t, m, c, _, rfl, hp, hc, ht, by rw [List.length_map]; exact hz, fun D H' ys rest fr g e pm l pot => ?_⟩
    obtain ⟨y, r, rfl, pm2⟩ := strs_perm pm
    rw [List.length_map, List.length_map] at l
    exact q D H' y r fr g e pm2 l pot
  · exact h
theorem ok_law_some {f c : Addr} {fd : FuncData} (B : Nb mg) (D : DefIs K "_law_some" "_law_some" st_law_some f fd (.ref c))
    (c_law_take : Callee P w K mg base CX0 3 "_law_take" ["pot", "many"] (spTake K)) : FnG P w K mg base CX0 4 f fd ["pot", "things", "many"] (spSome K) := by
  refine D.ok0 (k := 3) sc_law_some (fun vs H Q E h => ?_) (fun A outer s H vs Q E g hr h => ?_)
  · obtain ⟨p, t, m, c, zs, rfl, _⟩ := SomeV.of h
    rfl
  obtain ⟨p, t, m, c, zs, rfl, hp, hc, ht, hz, q⟩ := SomeV.of h
  refine ⟨_,
      (pss_cons (ps_set (i := 3) sc_law_some.nd rfl (.inl rfl) (pe_callTy call_list_of rfl B.n_list (by decide +kernel) (pa_cons (pv 1) pa_nil)))
      (pss_cons (ps_set (i := 4) sc_law_some.nd rfl (.inl rfl) (pe_lst pa_nil))
      (pss_cons (ps_while PassesOwn.never (PW.pt (pw_and (pt_cmpR (op_neE hr.units) (pv 3) (pe_lst pa_nil) (nomark _)) (pw_and1 (pt_cmpR (op_lt) (pe_callB call_len_seq rfl B.n_len PySem.boot_len (pa_cons (pv 4) pa_nil)) (pv 2) (nomark _))))) (
        (pss_one (ps_expr (pe_bm PySem.F.plainAttrs_list PySem.F.slot_list_append PySem.F.type_list_append mt_append (pv 4) (pa_cons (pe_bm PySem.F.plainAttrs_list PySem.F.slot_list_pop PySem.F.type_list_pop mt_popAt (pv 3) (pa_cons (pe_g c_law_take g (hr.mono (by decide)) pass0 (pa_cons (pv 0) (pa_cons (pe_callB call_len_seq rfl B.n_len PySem.boot_len (pa_cons (pv 3) pa_nil)) pa_nil))) pa_nil)) pa_nil))))))
      (pss_one (ps_ret (pv 4)))))), ?_⟩
  have np : ∀ {b : Addr} {o : HO} {H' : Hp}, H' b = none → H' p = some o → b ≠ p := fun h1 h2 z => by
    rw [z, h2] at h1
    cases h1
  obtain ⟨pa, pb, pk, ep, _⟩ := id hp
  refine ⟨.ref t, rfl, t, _, rfl, .inl ht, fun L nL => ?_⟩
  refine ⟨by show 0 ≤ sizeLine; decide, fun F nF => ?_⟩
  have eL : upd (upd H L (.lst (zs))) F (.lst []) L = some (.lst (zs)) := by
    rw [upd_ne (ne_of_none upd_same nF)]
    exact upd_same
  have LF : L ≠ F := ne_of_none (H := upd H L (.lst (zs))) upd_same nF
  have Lp : L ≠ p := np nL ep
  have Fp : F ≠ p := fun z => by
    rw [z, upd_ne Lp.symm, ep] at nF
    cases nF
  have fF : Fresh H F := fresh_none (by rwa [upd_ne LF.symm] at nF)
  have g0 : Grow [p] H (upd (upd H L (.lst (zs))) F (.lst [])) := ((grow_new nL).trans (grow_new nF)).any
  refine ⟨fun n σ H' => ∃ ls fs : List V, n = ls.length ∧ σ = [some (.ref p), some (.ref t), some (.int m), some (.ref L), some (.ref F)] ∧ H' L = some (.lst (ls)) ∧ H' F = some (.lst (fs)) ∧ (fs ++ ls).Perm zs ∧ fs.length ≤ m ∧ Pot H' p (c + fs.length) ∧ Grow [p] H H',
    ⟨_, zs, [], rfl, rfl, eL, upd_same, .refl _, Nat.zero_le _, ?_, g0⟩, fun n σ H' hw => ?_⟩
  · obtain ⟨a, b, k, e, r⟩ := hp
    exact ⟨a, b, k, by rw [upd_ne Fp.symm, upd_ne Lp.symm]; exact e, r.1, r.2.1, r.2.2.1, by have := r.2.2.2; simp; omega⟩
  · obtain ⟨ls, fs, rfl, rfl, eL, eF, pm, hm, pot, gr⟩ := hw
    refine ⟨.ref L, rfl, by show 0 ≤ sizeLine; decide, fun W nW => ?_⟩
    have eL1 : upd H' W (.lst []) L = some (.lst (ls)) := by rw [upd_ne (ne_of_none eL nW)]; exact eL
    have eF1 : upd H' W (.lst []) F = some (.lst (fs)) := by rw [upd_ne (ne_of_none eF nW)]; exact eF
    have gr1 : Grow [p] H (upd H' W (.lst [])) := gr.new nW
    have pot1 : Pot (upd H' W (.lst [])) p (c + fs.length) := by
      obtain ⟨a, b, k, e, r⟩ := pot
      exact ⟨a, b, k, by rw [upd_ne (ne_of_none e nW)]; exact e, r⟩
    have hls : ls.length + fs.length = zs.length := by have := pm.length_eq; rw [List.length_append] at this; omega
    have done_ : fs.length = min m zs.length → Q (.ref F) (upd H' W (.lst [])) := fun e => by
      obtain ⟨a, b, k, ep, b1, b2, b3, b4⟩ := pot1
      exact q F _ fs ls fF gr1 eF1 pm e ⟨a, b, k, ep, b1, b2, b3, by omega⟩
    refine ⟨L, W, ls, rfl, rfl, eL1, upd_same, ?_⟩
    cases ls with
    | nil =>
      refine ⟨false, rfl, ?_⟩
      exact iteF (iteF ⟨.ref F, rfl, done_ (by rw [List.length_nil] at hls; omega)⟩)
    | cons x r =>
      refine ⟨true, rfl, iteT ⟨.ref F, rfl, F, _, rfl, .inl (.inl (.inl eF1)), .int m, rfl, _, _, rfl, rfl, _, rfl, ?_⟩⟩
      by_cases hlt : ((fs.length : Nat) : Int) < (m : Int)
      · rw [decide_eq_true hlt]
        refine iteT ⟨fun σ' H2 => ∃ ls' fs' : List V, ls'.length < (x :: r).length ∧ σ' = [some (.ref p), some (.ref t), some (.int m), some (.ref L), some (.ref F)] ∧ H2 L = some (.lst (ls')) ∧ H2 F = some (.lst (fs')) ∧ (fs' ++ ls').Perm zs ∧ fs'.length ≤ m ∧ Pot H2 p (c + fs'.length) ∧ Grow [p] H H2,
          fun σ' H2 h2 => ?_, ?_⟩
        · obtain ⟨ls', fs', l1, r2⟩ := h2
          exact ⟨_, l1, ls', fs', rfl, r2⟩
        · have hrl : (x :: r).length = r.length + 1 := rfl
          refine ⟨.ref F, rfl, tyl eF1, .ref L, rfl, tyl eL1, .ref p, rfl, .ref L, rfl, L, _, rfl, .inl (.inl (.inl eL1)), p, _, _, rfl, ?_, ?_, ?_, pot1, fun v H2 v0 v1 g2 pot2 => ?_⟩
          · omega
          · omega
          · omega
          have eL2 : H2 L = some (.lst ((x :: r))) := g2.lst (by simpa using Lp) eL1
          have eF2 : H2 F = some (.lst (fs)) := g2.lst (by simpa using Fp) eF1
          have hv : v.toNat < (x :: r).length := by omega
          refine ⟨L, _, v, v.toNat, (x :: r)[v.toNat], rfl, rfl, eL2, by omega, by omega, seqIndex_nat v0 v1, ?_, ?_⟩
          · rw [List.getElem?_eq_getElem hv]
          · have g3 : Grow [p] H (upd H2 L (.lst (((x :: r)).eraseIdx v.toNat))) := (gr1.trans g2).put (fresh_none nL) eL2 (fun ps z => by cases z)
            have eF3 : upd H2 L (.lst (((x :: r)).eraseIdx v.toNat)) F = some (.lst (fs)) := by rw [upd_ne LF.symm]; exact eF2
            have fl : fs.length + 1 ≤ 200 := by omega
            refine ⟨F, _, _, rfl, rfl, eF3, by unfold sizeLine; omega, (x :: r).eraseIdx v.toNat, fs ++ [(x :: r)[v.toNat]], ?_, rfl, ?_, ?_, ?_, ?_, ?_, g3.put fF eF3 (fun ps z => by cases z)⟩
            · rw [List.length_eraseIdx_of_lt hv]
              omega
            · rw [upd_ne LF, upd_same]
            · rw [upd_same]
            · refine List.Perm.trans ?_ pm
              rw [List.append_assoc]
              exact List.Perm.append_left fs (erase_perm (x :: r) v.toNat hv)
            · rw [List.length_append]
              show fs.length + 1 ≤ m
              omega
            · obtain ⟨a, b, k, e, b1, b2, b3, b4⟩ := pot2
              refine ⟨a, b, k, ?_, b1, b2, b3, ?_⟩
              · rw [upd_ne Fp.symm, upd_ne Lp.symm]
                exact e
              · rw [List.length_append]
                simp only [List.length_cons, List.length_nil]
                omega
      · rw [decide_eq_false hlt]
        exact iteF ⟨.ref F, rfl, done_ (by omega)⟩
end

end Lw

namespace Lw
open PySem PySem.Spec PyProof.Rows L2 GxR Gx
section
variable {P : Program} {w : World} {K : PySem.W.Frag} {mg : Str → Option Value} {base : Heap}
/-! ### _law_names, _law_many -/
theorem bk_of {zs ys rest : List Str} (h : zs.all isNm = true) (nd : zs.Nodup) (hz : zs.length ≤ 200) (p : (ys ++ rest).Perm zs) : Bk ys :=
  ⟨List.all_eq_true.mpr fun x hx => List.all_eq_true.mp h x (p.mem_iff.mp (List.mem_append_left _ hx)), (List.nodup_append.mp (p.nodup_iff.mpr nd)).1, by
    have := p.length_eq
    rw [List.length_append] at this
    omega⟩
theorem len100 {zs ys rest : List Str} (hz : zs.length ≤ 100) (p : (ys ++ rest).Perm zs) : ys.length ≤ 100 := by
  have := p.length_eq
  rw [List.length_append] at this
  omega
def spDraw (K : PySem.W.Frag) : Sp := fun vs H Q _ => ∃ (p : Addr) (m : Nat) (c : Int), vs = [.ref p, .int m] ∧ Pot H p c ∧ c ≤ 2 ^ 20 ∧
  ∀ (D : Addr) (H' : Hp) (ys : List Str), Fresh H D → Grow [p] H H' → H' D = some (.lst (ys.map V.str)) → Bk ys → ys.length ≤ 100 ∧ ys.length ≤ m ∧ min m 26 ≤ ys.length → Pot H' p (c + 200) → Q (.ref D) H'
def names1 : List Str := ["an", "ana", "a", "bo", "cy", "di", "em", "fo", "gu", "ha", "net", "book", "hear", "open", "shout"]
def names2 : List Str := ["ok", "word", "hand", "join", "step", "rest", "lane", "way", "abcdefgh", "abcdefgi", "zzzzzzzz"]
theorem names_nm : (names1 ++ names2).all isNm = true := by decide +kernel
theorem names_nd : (names1 ++ names2).Nodup := by decide +kernel
theorem ok_law_names {f c : Addr} {fd : FuncData} (B : Nb mg) (D : DefIs K "_law_names" "_law_names" st_law_names f fd (.ref c))
    (c_law_some : Callee P w K mg base CX0 4 "_law_some" ["pot", "things", "many"] (spSome K)) : FnG P w K mg base CX0 5 f fd ["pot", "many"] (spDraw K) := by
  refine D.ok0 (k := 4) sc_law_names (fun vs H Q E h => ?_) (fun A outer s H vs Q E g hr h => ?_)
  · obtain ⟨p, m, c, rfl, _⟩ := h
    rfl
  obtain ⟨p, m, c, rfl, hp, hc, q⟩ := h
  refine ⟨_,
      (pss_cons (ps_set (i := 2) sc_law_names.nd rfl (.inl rfl) (pe_lst (pa_cons pe_str (pa_cons pe_str (pa_cons pe_str (pa_cons pe_str (pa_cons pe_str (pa_cons pe_str (pa_cons pe_str (pa_cons pe_str (pa_cons pe_str (pa_cons pe_str (pa_cons pe_str (pa_cons pe_str (pa_cons pe_str (pa_cons pe_str (pa_cons pe_str pa_nil)))))))))))))))))
      (pss_cons (ps_set (i := 2) sc_law_names.nd rfl (.inl rfl) (pe_op op_cat (pv 2) (pe_lst (pa_cons pe_str (pa_cons pe_str (pa_cons pe_str (pa_cons pe_str (pa_cons pe_str (pa_cons pe_str (pa_cons pe_str (pa_cons pe_str (pa_cons pe_str (pa_cons pe_str (pa_cons pe_str pa_nil))))))))))))))
      (pss_one (ps_ret (pe_g c_law_some g (hr.mono (by decide)) pass0 (pa_cons (pv 0) (pa_cons (pv 2) (pa_cons (pv 1) pa_nil)))))))), ?_⟩
  have go : ∀ (C : Addr) (H1 : Hp), Grow [] H H1 → H1 C = some (.lst ((names1 ++ names2).map V.str)) → spSome K [.ref p, .ref C, .int m] H1 Q E0 := fun C H1 g1 e1 => by
    obtain ⟨a, b, k, e, r⟩ := hp
    refine .inl ⟨p, C, m, c, names1 ++ names2, rfl, ⟨a, b, k, g1.lst (by simp) e, r⟩, hc, .inl (.inl e1), names_nm, by decide, fun D H2 ys rest fr g2 e2 pm lm pot => ?_⟩
    exact q D H2 ys (g1.fresh (by simp) fr) (g1.any.trans g2) e2 (bk_of names_nm names_nd (by decide) pm) ⟨len100 (by decide) pm, by rw [lm]; exact Nat.min_le_left _ _, by rw [lm, show (names1 ++ names2).length = 26 from rfl]; omega⟩ pot
  refine ⟨by show 15 ≤ sizeLine; decide, fun A1 n1 => ⟨.ref A1, rfl, by show 11 ≤ sizeLine; decide, fun A2 n2 => ?_⟩⟩
  have e1 : upd (upd H A1 (.lst (names1.map V.str))) A2 (.lst (names2.map V.str)) A1 = some (.lst (names1.map V.str)) := by
    rw [upd_ne (ne_of_none upd_same n2)]
    exact upd_same
  refine ⟨A1, A2, _, _, rfl, rfl, e1, upd_same, by decide, fun C nC => ?_⟩
  exact ⟨.ref p, rfl, .ref C, rfl, .int m, rfl, go C _ (((grow_new n1).new n2).new nC) upd_same⟩
end

section
variable {P : Program} {w : World} {K : PySem.W.Frag} {mg : Str → Option Value} {base : Heap}
/-! ### _law_other -/
def spOther (K : PySem.W.Frag) : Sp := fun vs H Q _ => ∃ (p l : Addr) (c : Int) (zs : List Str), vs = [.ref p, .ref l] ∧ Pot H p c ∧ c ≤ 2 ^ 19 ∧ H l = some (.lst (zs.map V.str)) ∧ l ≠ p ∧ Bk zs ∧ zs.length ≤ 99 ∧
  ∀ (D : Addr) (H' : Hp) (ws : List Str), Fresh H D → Grow [p] H H' → H' D = some (.lst (ws.map V.str)) → zs.Perm ws → Pot H' p (c + 1000) → Q (.ref D) H'
theorem ok_law_other {f c : Addr} {fd : FuncData} (B : Nb mg) (D : DefIs K "_law_other" "_law_other" st_law_other f fd (.ref c))
    (c_law_take : Callee P w K mg base CX0 3 "_law_take" ["pot", "many"] (spTake K)) (c_law_some : Callee P w K mg base CX0 4 "_law_some" ["pot", "things", "many"] (spSome K)) : FnG P w K mg base CX0 5 f fd ["pot", "book"] (spOther K) := by
  refine D.ok0 (k := 4) sc_law_other (fun vs H Q E h => ?_) (fun A outer s H vs Q E g hr h => ?_)
  · obtain ⟨p, l, c, zs, rfl, _⟩ := h
    rfl
  obtain ⟨p, l, c, zs, rfl, hp, hc, hl, lp, bz, z99, q⟩ := h
  obtain ⟨I, hI⟩ : ∃ I : Int → L2.St → Hp → Prop, I = fun c1 σ H' => ∃ (O : Addr) (ws : List Str) (way : Int) (a b : Option V), σ = [some (.ref p), some (.ref l), some (.ref O), some (.int way), a, b] ∧ Fresh H O ∧ H' O = some (.lst (ws.map V.str)) ∧ zs.Perm ws ∧ Pot H' p (c + c1) ∧ Grow [p] H H' := ⟨_, rfl⟩
  refine ⟨_,
      (pss_cons (ps_set (i := 2) sc_law_other.nd rfl (.inl rfl) (pe_callTy call_list_of rfl B.n_list (by decide +kernel) (pa_cons (pv 1) pa_nil)))
      (pss_cons (ps_set (i := 3) sc_law_other.nd rfl (.inl rfl) (pe_g c_law_take g (hr.mono (by decide)) pass0 (pa_cons (pv 0) (pa_cons pe_int pa_nil))))
      (pss_cut (I 1) (ps_if (pt_cmpR (op_eq) (pv 3) pe_int (nomark _)) (
        (pss_one (ps_expr (pe_bm0 PySem.F.plainAttrs_list PySem.F.slot_list_reverse PySem.F.type_list_reverse mt_reverse (pv 2))))) pss_nil)
      (pss_cut (I 201) (ps_if (pt_cmpR (op_eq) (pv 3) pe_int (nomark _)) (
        (pss_one (ps_set (i := 2) sc_law_other.nd rfl (.inl rfl) (pe_g c_law_some g (hr.mono (by decide)) pass0 (pa_cons (pv 0) (pa_cons (pv 1) (pa_cons pe_int pa_nil))))))) pss_nil)
      (pss_cut (I 802) (ps_if (PW.pt (pw_and (pt_cmpR (op_gt) (pv 3) pe_int (nomark _)) (pw_and1 (pt_cmpR (op_gt) (pe_callB call_len_seq rfl B.n_len PySem.boot_len (pa_cons (pv 1) pa_nil)) pe_int (nomark _))))) (
        (pss_one (ps_for PassesOwn.never rfl (pi_range1 rfl B.n_range (pa_cons (pe_g c_law_take g (hr.mono (by decide)) pass0 (pa_cons (pv 0) (pa_cons (pe_op op_mulX pe_int (pe_callB call_len_seq rfl B.n_len PySem.boot_len (pa_cons (pv 1) pa_nil))) pa_nil))) pa_nil)) (pg_name (i := 4) sc_law_other.nd rfl (.inl rfl)) (
          (pss_cons (ps_set (i := 5) sc_law_other.nd rfl (.inl rfl) (pe_g c_law_take g (hr.mono (by decide)) pass0 (pa_cons (pv 0) (pa_cons (pe_op op_sub (pe_callB call_len_seq rfl B.n_len PySem.boot_len (pa_cons (pv 1) pa_nil)) pe_int) pa_nil))))
          (pss_one (ps_set (i := 2) sc_law_other.nd rfl (.inl rfl) (pe_op op_cat (pe_op op_cat (pe_slice sl_list (pv 2) po_none (po_some (pv 5))) (pe_lst (pa_cons (pe_ix ix_list (pv 2) (pe_op op_add (pv 5) pe_int) (fun _ _ => rfl)) (pa_cons (pe_ix ix_list (pv 2) (pv 5) (fun _ _ => rfl)) pa_nil)))) (pe_slice sl_list (pv 2) (po_some (pe_op op_add (pv 5) pe_int)) po_none))))))))) pss_nil)
      (pss_cons (ps_set (i := 5) sc_law_other.nd rfl (.inl rfl) (pe_g c_law_take g (hr.mono (by decide)) pass0 (pa_cons (pv 0) (pa_cons (pe_op op_add (pe_callB call_len_seq rfl B.n_len PySem.boot_len (pa_cons (pv 1) pa_nil)) pe_int) pa_nil))))
      (pss_one (ps_ret (pe_ifExp (pt_cmpR (op_eq) (pv 3) pe_int (nomark _)) (pe_op op_cat (pe_slice sl_list (pv 2) (po_some (pv 5)) po_none) (pe_slice sl_list (pv 2) po_none (po_some (pv 5)))) (pv 2)))))))))), ?_⟩
  have mk : ∀ (c1 way : Int) (H' : Hp) (O : Addr) (ws : List Str) (a b : Option V), Fresh H O → H' O = some (.lst (ws.map V.str)) → zs.Perm ws → Pot H' p (c + c1) → Grow [p] H H' → I c1 [some (.ref p), some (.ref l), some (.ref O), some (.int way), a, b] H' := fun c1 way H' O ws a b h1 h2 h3 h4 h5 => by
    rw [hI]
    exact ⟨O, ws, way, a, b, rfl, h1, h2, h3, h4, h5⟩
  have ul : ∀ {H' : Hp}, Grow [p] H H' → H' l = some (.lst (zs.map V.str)) := fun g => g.lst (by simpa using lp) hl
  have zl := bz.len
  refine ⟨.ref l, rfl, l, _, rfl, .inl (.inl (.inl hl)), fun O nO => ?_⟩
  have Op : O ≠ p := by
    obtain ⟨a, b, k, e, _⟩ := hp
    intro z
    rw [z, e] at nO
    cases nO
  refine ⟨.ref p, rfl, p, 6, c, rfl, by decide, by decide, by omega, hp.new nO, fun way H1 w0 w1 g1 pot1 => ⟨?_, fun σ2 H2 h2 => ⟨?_, fun σ3 H3 h3 => ⟨?_, fun σ4 H4 h4 => ?_⟩⟩⟩⟩
  · have eO : H1 O = some (.lst (zs.map V.str)) := g1.lst (by simpa using Op) upd_same
    have gO : Grow [p] H H1 := (grow_new nO).any.trans g1
    refine ⟨.int way, rfl, rfl, _, rfl, ite2 (fun _ => ?_) fun _ => ?_⟩
    · refine ⟨.ref O, rfl, tyl eO, O, _, rfl, rfl, eO, ?_⟩
      exact mk 1 way _ O zs.reverse none none (fresh_none nO) (by rw [upd_same, List.map_reverse]) (List.reverse_perm zs).symm (pot1.at Op.symm) (gO.put (fresh_none nO) eO (fun ps z => by cases z))
    · exact mk 1 way H1 O zs none none (fresh_none nO) eO (.refl _) pot1 gO
  · rw [hI] at h2
    obtain ⟨O2, ws, way2, a, b, rfl, f2, e2, pm, pot2, gr2⟩ := h2
    refine ⟨.int way2, rfl, rfl, _, rfl, ite2 (fun _ => ?_) fun _ => ?_⟩
    · refine ⟨.ref p, rfl, .ref l, rfl, .inl ⟨p, l, 99, _, zs, rfl, pot2, by omega, .inl (.inl (ul gr2)), bz.nm, zl, fun D H5 ys rest fr g5 e5 pm5 ln pot5 => ?_⟩⟩
      rw [Nat.min_eq_right z99] at ln
      have hr : rest = [] := List.eq_nil_of_length_eq_zero (by have := pm5.length_eq; rw [List.length_append] at this; omega)
      rw [hr, List.append_nil] at pm5
      exact mk 201 way2 H5 D ys a b (Fresh.back fr gr2 pot2) e5 pm5.symm (pot5.mono (by omega)) (gr2.trans g5)
    · exact mk 201 way2 H2 O2 ws a b f2 e2 pm (pot2.mono (by omega)) gr2
  · rw [hI] at h3
    obtain ⟨O3, ws, way3, a, b, rfl, f3, e3, pm, pot3, gr3⟩ := h3
    refine ⟨.int way3, rfl, _, _, rfl, rfl, _, rfl, ite2 (fun _ => ?_) fun _ => iteF ?_⟩
    · refine ⟨.ref l, rfl, l, _, rfl, .inl (.inl (.inl (ul gr3))), _, _, rfl, rfl, _, rfl, ite2 (fun h1 => ?_) fun _ => ?_⟩
      · rw [List.length_map] at h1
        replace h1 := of_decide_eq_true h1
        have cm : CMulX 3 ((zs.map V.str).length : Nat) := by
          have q1 : Builtin.Int.intBits (((zs.map V.str).length : Nat) : Int) ≤ 8 := bits_le (by decide) (by rw [List.length_map]; omega)
          have q2 : Builtin.Int.intBits 3 ≤ 2 := bits_le (by decide) (by decide)
          unfold CMulX
          omega
        refine ⟨.ref p, rfl, .ref l, rfl, l, _, rfl, .inl (.inl (.inl (ul gr3))), _, _, rfl, rfl, cm, p, _, _, rfl, by rw [List.length_map]; omega, by rw [List.length_map]; omega, by omega, pot3, fun v H5 v0 v1 g5 pot5 => ⟨v, rfl, by omega, ?_, ?_⟩⟩
        · rw [List.length_map] at v1
          omega
        · rw [List.length_map] at v1
          have Op3 : O3 ≠ p := by
            obtain ⟨x, y, k, e, _⟩ := hp
            exact (f3.ne e (fun ps z => by cases z)).symm
          refine for_it walk_range (fun i σ H' => ∃ (O : Addr) (ws : List Str) (a b : Option V), σ = [some (.ref p), some (.ref l), some (.ref O), some (.int way3), a, b] ∧ Fresh H O ∧ H' O = some (.lst (ws.map V.str)) ∧ zs.Perm ws ∧ Pot H' p (c + 202 + i) ∧ Grow [p] H H')
            ⟨O3, ws, a, b, rfl, f3, g5.lst (by simpa using Op3) e3, pm, pot5.mono (by omega), gr3.trans g5⟩ (fun _ _ _ _ _ => trivial) (fun i x σ H6 H7 hi hw hy => ?_) (fun σ H6 hw => ?_)
          · obtain ⟨O, ws, a, b, rfl, fO, eO, pm, pot, gr⟩ := hw
            obtain ⟨rfl, rfl⟩ := hy
            have Op : O ≠ p := by
              obtain ⟨x, y, k, e, _⟩ := hp
              exact (fO.ne e (fun ps z => by cases z)).symm
            refine ⟨.ref p, rfl, .ref l, rfl, l, _, rfl, .inl (.inl (.inl (ul gr))), _, _, rfl, rfl, p, _, _, rfl, by rw [List.length_map]; omega, by rw [List.length_map]; omega, by omega, pot, fun v2 H8 u0 u1 g8 pot8 => ?_⟩
            rw [List.length_map] at u1
            obtain ⟨k, rfl⟩ : ∃ k : Nat, v2 = k := ⟨v2.toNat, (Int.toNat_of_nonneg u0).symm⟩
            have lw := pm.length_eq
            have eO8 : H8 O = some (.lst (ws.map V.str)) := g8.lst (by simpa using Op) eO
            have g9 := gr.trans g8
            have hk1 : k + 1 < ws.length := by omega
            have at1 : atI (ws.map V.str) ((k : Int) + 1) = some (.str ws[k + 1]) := by
              have := atI_nat (xs := ws.map V.str) (j := k + 1) (v := .str ws[k + 1]) (by rw [List.getElem?_map, List.getElem?_eq_getElem hk1]; rfl)
              rwa [Int.natCast_add] at this
            have at0 : atI (ws.map V.str) (k : Int) = some (.str ws[k]) := atI_nat (by rw [List.getElem?_map, List.getElem?_eq_getElem (by omega)]; rfl)
            refine ⟨.ref O, rfl, .int k, rfl, _, rfl, O, _, rfl, .inl (.inl eO8), fun S1 n1 => ?_⟩
            rw [cut_hi]
            have x1 : upd H8 S1 (.lst ((ws.map V.str).take k)) O = some (.lst (ws.map V.str)) := by rw [upd_ne (ne_of_none eO8 n1)]; exact eO8
            refine ⟨.ref O, rfl, .int k, rfl, _, _, rfl, rfl, O, _, _, _, rfl, rfl, .inl (.inl x1), at1, .ref O, rfl, .int k, rfl, O, _, _, _, rfl, rfl, .inl (.inl x1), at0, by show 2 ≤ sizeLine; decide, fun S2 n2 => ?_⟩
            have x2 : upd (upd H8 S1 (.lst ((ws.map V.str).take k))) S2 (.lst [.str ws[k + 1], .str ws[k]]) S1 = some (.lst ((ws.map V.str).take k)) := by
              rw [upd_ne (ne_of_none upd_same n2)]
              exact upd_same
            refine ⟨S1, S2, _, _, rfl, rfl, x2, upd_same, ?_, fun S3 n3 => ?_⟩
            · rw [List.length_take, List.length_map]
              simp only [List.length_cons, List.length_nil]
              unfold sizeLine
              omega
            have x3 : upd (upd (upd H8 S1 (.lst ((ws.map V.str).take k))) S2 (.lst [.str ws[k + 1], .str ws[k]])) S3 (.lst ((ws.map V.str).take k ++ [.str ws[k + 1], .str ws[k]])) O = some (.lst (ws.map V.str)) := by
              have y : upd (upd H8 S1 (.lst ((ws.map V.str).take k))) S2 (.lst [.str ws[k + 1], .str ws[k]]) O = some (.lst (ws.map V.str)) := by rw [upd_ne (ne_of_none x1 n2)]; exact x1
              rw [upd_ne (ne_of_none y n3)]
              exact y
            refine ⟨.ref O, rfl, .int k, rfl, _, _, rfl, rfl, _, rfl, O, _, rfl, .inl (.inl x3), fun S4 n4 => ?_⟩
            have ec : cutV (ws.map V.str) (some ((k : Int) + 2)) none = (ws.map V.str).drop (k + 2) := by
              have := cut_lo (ws.map V.str) (k + 2)
              rwa [Int.natCast_add] at this
            rw [ec]
            refine ⟨S3, S4, _, _, rfl, rfl, by rw [upd_ne (ne_of_none upd_same n4)]; exact upd_same, upd_same, ?_, fun S5 n5 => ?_⟩
            · rw [List.length_append, List.length_take, List.length_drop, List.length_map]
              simp only [List.length_cons, List.length_nil]
              unfold sizeLine
              omega
            have f5 : Fresh H8 S5 := by
              have m4 : S5 ≠ S4 := fun z => by rw [z, upd_same] at n5; cases n5
              rw [upd_ne m4] at n5
              have m3 : S5 ≠ S3 := fun z => by rw [z, upd_same] at n5; cases n5
              rw [upd_ne m3] at n5
              have m2 : S5 ≠ S2 := fun z => by rw [z, upd_same] at n5; cases n5
              rw [upd_ne m2] at n5
              have m1 : S5 ≠ S1 := fun z => by rw [z, upd_same] at n5; cases n5
              rw [upd_ne m1] at n5
              exact fresh_none n5
            refine ⟨S5, ws.take k ++ [ws[k + 1], ws[k]] ++ ws.drop (k + 2), _, _, rfl, Fresh.back f5 g9 pot8, ?_, pm.trans (swap_perm ws k hk1).symm, ?_, ((((g9.new n1).new n2).new n3).new n4).new n5⟩
            · rw [upd_same, List.map_append, List.map_append, List.map_take, List.map_drop]
              rfl
            · exact (((((pot8.new n1).new n2).new n3).new n4).new n5).mono (by omega)
          · obtain ⟨O, ws, a, b, rfl, fO, eO, pm, pot, gr⟩ := hw
            exact mk 802 way3 H6 O ws a b fO eO pm (pot.mono (by omega)) gr
      · exact mk 802 way3 H3 O3 ws a b f3 e3 pm (pot3.mono (by omega)) gr3
    · exact mk 802 way3 H3 O3 ws a b f3 e3 pm (pot3.mono (by omega)) gr3
  · rw [hI] at h4
    obtain ⟨O4, ws, way4, a, b, rfl, f4, e4, pm, pot4, gr4⟩ := h4
    refine ⟨.ref p, rfl, .ref l, rfl, l, _, rfl, .inl (.inl (.inl (ul gr4))), _, _, rfl, rfl, p, _, _, rfl, by omega, by rw [List.length_map]; omega, by omega, pot4, fun v H5 v0 v1 g5 pot5 => ?_⟩
    rw [List.length_map] at v1
    obtain ⟨i, rfl⟩ : ∃ i : Nat, v = i := ⟨v.toNat, (Int.toNat_of_nonneg v0).symm⟩
    have g6 := gr4.trans g5
    have Op : O4 ≠ p := by
      obtain ⟨x, y, k, e, _⟩ := hp
      exact (f4.ne e (fun ps z => by cases z)).symm
    have e5 : H5 O4 = some (.lst (ws.map V.str)) := g5.lst (by simpa using Op) e4
    refine ⟨.int way4, rfl, rfl, _, rfl, ite2 (fun _ => ?_) fun _ => ?_⟩
    · refine ⟨.ref O4, rfl, .int i, rfl, _, rfl, O4, _, rfl, .inl (.inl e5), fun S1 n1 => ?_⟩
      have e6 : upd H5 S1 (.lst (cutV (ws.map V.str) (some (i : Int)) none)) O4 = some (.lst (ws.map V.str)) := by rw [upd_ne (ne_of_none e5 n1)]; exact e5
      refine ⟨.ref O4, rfl, .int i, rfl, _, rfl, O4, _, rfl, .inl (.inl e6), fun S2 n2 => ?_⟩
      have e7 : upd (upd H5 S1 (.lst (cutV (ws.map V.str) (some (i : Int)) none))) S2 (.lst (cutV (ws.map V.str) none (some (i : Int)))) S1 = some (.lst (cutV (ws.map V.str) (some (i : Int)) none)) := by
        rw [upd_ne (ne_of_none upd_same n2)]
        exact upd_same
      refine ⟨S1, S2, _, _, rfl, rfl, e7, upd_same, ?_, fun S3 n3 => ?_⟩
      · have h1 := cutV_length (ws.map V.str) (some (i : Int)) none
        have h2 := cutV_length (ws.map V.str) none (some (i : Int))
        have h3 := pm.length_eq
        rw [List.length_map] at h1 h2
        unfold sizeLine
        omega
      · rw [cut_lo, cut_hi] at n3 ⊢
        rw [cut_lo] at n2
        have g7 := ((g6.new (o := .lst ((ws.map V.str).drop i)) (by assumption)).new (o := .lst ((ws.map V.str).take i)) n2).new (o := .lst ((ws.map V.str).drop i ++ (ws.map V.str).take i)) n3
        refine q S3 _ (ws.drop i ++ ws.take i) (Fresh.back (fresh_none (p := S3) (H := H5) ?_) g6 pot5) g7 ?_ (pm.trans (turn_perm ws i).symm) ?_
        · have m1 : S3 ≠ S2 := fun z => by rw [z, upd_same] at n3; cases n3
          rw [upd_ne m1] at n3
          have m2 : S3 ≠ S1 := fun z => by rw [z, upd_same] at n3; cases n3
          rwa [upd_ne m2] at n3
        · rw [upd_same, List.map_append, List.map_drop, List.map_take]
        · exact (((pot5.new n1).new n2).new n3).mono (by omega)
    · exact ⟨.ref O4, rfl, q O4 H5 ws f4 g6 e5 pm (pot5.mono (by omega))⟩
end

section
variable {P : Program} {w : World} {K : PySem.W.Frag} {mg : Str → Option Value} {base : Heap}
/-! ### _law_turned -/
def spDue (K : PySem.W.Frag) : Sp := fun vs H Q _ => ∃ (l m : Addr) (zs ws : List Str), vs = [.ref l, .ref m] ∧ H l = some (.lst (zs.map V.str)) ∧ H m = some (.lst (ws.map V.str)) ∧ Bk zs ∧ zs.Perm ws ∧
  ∀ (D : Addr) (H' : Hp), Fresh H D → Grow [] H H' → LstT K H' D ((prsTo (later ws) zs zs.length).map encP) → Q (.ref D) H'
theorem ok_law_turned {f c : Addr} {fd : FuncData} (B : Nb mg) (D : DefIs K "_law_turned" "_law_turned" st_law_turned f fd (.ref c)) : FnG P w K mg base CX0 4 f fd ["book", "other"] (spDue K) := by
  refine D.ok0 (k := 3) sc_law_turned (fun vs H Q E h => ?_) (fun A outer s H vs Q E g hr h => ?_)
  · obtain ⟨l, m, zs, ws, rfl, _⟩ := h
    rfl
  obtain ⟨l, m, zs, ws, rfl, hl, hm, bz, pm, q⟩ := h
  have bw := bz.perm pm
  refine ⟨_,
      (pss_cons (ps_set (i := 2) sc_law_turned.nd rfl (.inl rfl) (pe_lst pa_nil))
      (pss_cons (ps_for PassesOwn.never rfl (pi_enum rfl B.n_enumerate (pa_cons (pv 0) pa_nil)) (pg_tup rfl (pgs_cons (pg_name (i := 3) sc_law_turned.nd rfl (.inl rfl)) (pgs_cons (pg_name (i := 4) sc_law_turned.nd rfl (.inr rfl)) pgs_nil))) (
        (pss_one (ps_expr (pe_bm PySem.F.plainAttrs_list PySem.F.slot_list_extend PySem.F.type_list_extend mt_extend (pv 2) (pa_cons (pe_lc (own := [("b", 5)]) (g := (gName 5)) rfl sc_law_turned.nd (pi_list (pe_slice sl_list (pv 0) (po_some (pe_op op_add (pv 3) pe_int)) po_none)) (blkOk_by (N := N_law_turned) (sc := defScope st_law_turned) (by decide +kernel)) (fun _ _ _ _ _ => (pg_name (i := 5) sc_law_turned.nd rfl (.inl rfl))) (fun _ _ _ _ _ => pts_to (pts_one (pt_cmpR (op_lt) (pe_bm PySem.F.plainAttrs_list PySem.F.slot_list_index PySem.F.type_list_index mt_index (pv 1) (pa_cons (pv 5) pa_nil)) (pe_bm PySem.F.plainAttrs_list PySem.F.slot_list_index PySem.F.type_list_index mt_index (pv 1) (pa_cons (pv 4) pa_nil)) (nomark _)))) (fun _ _ _ _ _ => pe_to (pe_tup (pa_cons (pv 4) (pa_cons (pv 5) pa_nil))))) pa_nil))))))
      (pss_one (ps_ret (pv 2))))), ?_⟩
  refine ⟨by show 0 ≤ sizeLine; decide, fun F nF => ?_⟩
  refine ⟨.ref l, rfl, l, _, rfl, .inl (.inl ((grow_new (ex := []) nF).lst (by simp) hl)), ?_⟩
  refine for_it walk_enum (fun i σ H' => ∃ a b c : Option V, σ = [some (.ref l), some (.ref m), some (.ref F), a, b, c] ∧ Grow [] H H' ∧ LstT K H' F ((prsTo (later ws) zs i).map encP)) ⟨none, none, none, rfl, grow_new nF, [], upd_same, .nil⟩
    (fun i σ H' _ h => by
      obtain ⟨_, _, _, _, g, _⟩ := h
      exact g.seq0 (.inl (.inl hl))) (fun i x σ H2 H3 hi hp hy => ?_) (fun σ H' hp => ?_)
  · obtain ⟨a0, b0, c0, rfl, gr, hF⟩ := hp
    obtain ⟨T, x1, x2, rfl, nT, rfl, ei, ex⟩ := hy
    replace ex : (zs.map V.str)[i]? = some x2 := ex
    rw [List.getElem?_map] at ex
    cases ez : zs[i]? with
    | none => rw [ez] at ex; cases ex
    | some a =>
      rw [ez] at ex
      cases ex
      cases ei
      have gr2 : Grow [] H (upd H2 T (.tup [.int (i : Nat), .str a])) := gr.new nT
      have hF2 : LstT K (upd H2 T (.tup [.int (i : Nat), .str a])) F ((prsTo (later ws) zs i).map encP) := hF.grow (grow_new nT) (lists_none _) (by simp)
      have tF : tyV K "list" (.ref F) (upd H2 T (.tup [.int (i : Nat), .str a])) := by
        obtain ⟨_, e, _⟩ := hF2
        exact tyl e
      refine ⟨T, _, rfl, .inl (.inl upd_same), rfl, _, _, rfl, _, _, rfl, rfl, .ref F, rfl, tF, .ref l, rfl, .int i, rfl, _, _, rfl, rfl, _, rfl, l, _, rfl, gr2.seq0 (.inl (.inl hl)), fun L nL => ⟨L, rfl, ⟨_, .inl (.inl upd_same)⟩, fun D1 n1 => ?_⟩⟩
      rw [show cutV (zs.map V.str) (some ((i : Int) + 1)) none = (zs.drop (i + 1)).map V.str by rw [cut_from, List.map_drop]] at n1 ⊢
      have gL := gr2.new (o := .lst ((zs.drop (i + 1)).map V.str)) nL
      have eL : upd (upd H2 T (.tup [.int (i : Nat), .str a])) L (.lst ((zs.drop (i + 1)).map V.str)) L = some (.lst ((zs.drop (i + 1)).map V.str)) := upd_same
      have hF3 := hF2.grow (grow_new (ex := []) (o := .lst ((zs.drop (i + 1)).map V.str)) nL) (lists_none _) (by simp)
      refine lc_it (walk_list (xs := (zs.drop (i + 1)).map V.str)) (fun j H' => Grow [] (upd (upd H2 T (.tup [.int (i : Nat), .str a])) L (.lst ((zs.drop (i + 1)).map V.str))) H' ∧ LstT K H' D1 (((((zs.drop (i + 1)).take j).filter (later ws a)).map fun b => (a, b)).map encP))
        ⟨grow_new n1, [], upd_same, .nil⟩ (fun j H' _ h => h.1.seq0 (.inl (.inl eL))) (fun j x H4 H5 hj hp hy => ?_) (fun H' hp => ?_)
      · obtain ⟨gj, hDj⟩ := hp
        obtain ⟨rfl, ex⟩ := hy
        rw [List.getElem?_map] at ex
        cases eb : (zs.drop (i + 1))[j]? with
        | none => rw [eb] at ex; cases ex
        | some b =>
          rw [eb] at ex
          cases ex
          have hb : b ∈ zs := List.mem_of_mem_drop (List.mem_of_getElem? eb)
          have ha : a ∈ zs := List.mem_of_getElem? ez
          have ta : (zs.drop (i + 1)).take (j + 1) = (zs.drop (i + 1)).take j ++ [b] := by
            rw [List.take_add_one, eb]
            rfl
          have em := (gL.trans gj).lst (by simp) hm
          refine ⟨rfl, .ref m, rfl, tyl em, .str b, rfl, ?_⟩
          dsimp only [tNil]
          refine index_str (.inl (.inl em)) (pm.mem_iff.mp hb) ⟨.ref m, rfl, tyl em, .str a, rfl, ?_⟩
          dsimp only [tNil]
          refine index_str (.inl (.inl em)) (pm.mem_iff.mp ha) ⟨_, _, rfl, rfl, _, rfl, ?_⟩
          rw [ta]
          refine ite2 (fun hlt => ?_) fun hlt => ?_
          · have lt : later ws a b = true := decide_eq_true (by have := of_decide_eq_true hlt; omega)
            rw [show ((((zs.drop (i + 1)).take j ++ [b]).filter (later ws a)).map fun b => (a, b)).map encP = ((((zs.drop (i + 1)).take j).filter (later ws a)).map fun b => (a, b)).map encP ++ [encP (a, b)] by simp [List.filter_append, lt]]
            refine ⟨_, rfl, _, rfl, by show 2 ≤ sizeLine; decide, fun p np => ?_⟩
            have e5 : upd H5 p (.tup [.str a, .str b]) p = some (.tup [.str a, .str b]) := upd_same
            obtain ⟨acc, q1, q2, q3⟩ := hDj.push (grow_new np) (.tup e5 (.cons (dpT_str a) (.cons (dpT_str b) .nil)))
            refine ⟨acc, q1, ?_, (gj.new np).put (fresh_none n1) q1 (fun ps z => by cases z), q3⟩
            rw [q2, List.length_map, List.length_map]
            have h2 := List.length_filter_le (later ws a) ((zs.drop (i + 1)).take j)
            have h3 : ((zs.drop (i + 1)).take j).length ≤ zs.length := by
              rw [List.length_take, List.length_drop]
              omega
            have h4 := bz.len
            unfold sizeLine
            omega
          · have lt : ¬ later ws a b = true := fun z => by
              have h1 := of_decide_eq_true z
              exact hlt (decide_eq_true (by omega))
            rw [show ((zs.drop (i + 1)).take j ++ [b]).filter (later ws a) = ((zs.drop (i + 1)).take j).filter (later ws a) by simp [List.filter_append, lt]]
            exact ⟨gj, hDj⟩
      · obtain ⟨gj, hDj⟩ := hp
        rw [List.length_map, List.take_length] at hDj
        have hF4 := hF3.grow gj (lists_none _) (by simp)
        obtain ⟨xs, ys, q1, q2, q3, q4, q5⟩ := hF4.ext hDj
        have e : zs.getD i Str.empty = a := by
          rw [List.getD_eq_getElem?_getD, ez]
          rfl
        refine ⟨F, D1, xs, ys, rfl, rfl, q1, q2, ?_, _, _, _, rfl, (gL.trans gj).put (fresh_none nF) q1 (fun ps z => by cases z), ?_⟩
        · rw [q3, q4, List.length_map, List.length_map, List.length_map]
          have h1 := prsTo_len (later ws) zs i
          have h2 := List.length_filter_le (later ws a) (zs.drop (i + 1))
          rw [List.length_drop] at h2
          have h4 := bz.len
          have h5 : i * zs.length ≤ 200 * 200 := Nat.mul_le_mul (by rw [List.length_map] at hi; omega) h4
          unfold sizeLine
          omega
        · rw [prsTo, e, List.map_append]
          exact q5
  · obtain ⟨a0, b0, c0, rfl, gr, hF⟩ := hp
    rw [List.length_map] at hF
    exact ⟨.ref F, rfl, q F H' (fresh_none nF) gr hF⟩
end

/-! ### the pairs of two books, either way -/
theorem mem_prsTo {lt : Str → Str → Bool} {zs : List Str} {x : Str × Str} : ∀ {k : Nat}, k ≤ zs.length → (x ∈ prsTo lt zs k ↔ ∃ i j : Nat, i < k ∧ i < j ∧ zs[i]? = some x.1 ∧ zs[j]? = some x.2 ∧ lt x.1 x.2 = true)
  | 0, _ => by
    constructor
    · intro h
      cases h
    · rintro ⟨i, j, h, _⟩
      omega
  | k + 1, hk => by
    have hz : zs[k]? = some (zs.getD k Str.empty) := by
      rw [List.getD_eq_getElem?_getD, List.getElem?_eq_getElem (by omega)]
      rfl
    rw [prsTo, List.mem_append, mem_prsTo (k := k) (by omega)]
    constructor
    · rintro (⟨i, j, h1, h2⟩ | h)
      · exact ⟨i, j, by omega, h2⟩
      · unfold prsAt at h
        obtain ⟨b, hb, rfl⟩ := List.mem_map.mp h
        obtain ⟨hb, hlt⟩ := List.mem_filter.mp hb
        obtain ⟨j, hj⟩ := List.mem_iff_getElem?.mp hb
        rw [List.getElem?_drop] at hj
        exact ⟨k, k + 1 + j, by omega, by omega, hz, hj, hlt⟩
    · rintro ⟨i, j, h1, h2, h3, h4, h5⟩
      by_cases hi : i < k
      · exact .inl ⟨i, j, hi, h2, h3, h4, h5⟩
      · have e : i = k := by omega
        subst e
        rw [hz] at h3
        refine .inr ?_
        unfold prsAt
        have e := Option.some.inj h3
        refine List.mem_map.mpr ⟨x.2, List.mem_filter.mpr ⟨List.mem_iff_getElem?.mpr ⟨j - (i + 1), ?_⟩, by rw [e]; exact h5⟩, by rw [e]⟩
        rw [List.getElem?_drop, show i + 1 + (j - (i + 1)) = j by omega]
        exact h4
theorem idx_at {zs : List Str} (nd : zs.Nodup) {i : Nat} {a : Str} (h : zs[i]? = some a) : i = zs.idxOf a := by
  have hi := (List.getElem?_eq_some_iff.mp h).1
  have hm : a ∈ zs := List.mem_of_getElem? h
  have h1 := List.idxOf_lt_length_of_mem hm
  refine (List.getElem?_inj hi nd).mp ?_
  rw [h, List.getElem?_eq_getElem h1, List.getElem_idxOf h1]
theorem mem_prs {zs ws : List Str} (nd : zs.Nodup) {a b : Str} : (a, b) ∈ prsTo (later ws) zs zs.length ↔ a ∈ zs ∧ b ∈ zs ∧ zs.idxOf a < zs.idxOf b ∧ ws.idxOf b < ws.idxOf a := by
  rw [mem_prsTo (Nat.le_refl _)]
  constructor
  · rintro ⟨i, j, h1, h2, h3, h4, h5⟩
    have e1 := idx_at nd h3
    have e2 := idx_at nd h4
    exact ⟨List.mem_of_getElem? h3, List.mem_of_getElem? h4, by rw [← e1, ← e2]; exact h2, of_decide_eq_true h5⟩
  · rintro ⟨h1, h2, h3, h4⟩
    have l1 := List.idxOf_lt_length_of_mem h1
    have l2 := List.idxOf_lt_length_of_mem h2
    exact ⟨_, _, l1, h3, by rw [List.getElem?_eq_getElem l1, List.getElem_idxOf l1], by rw [List.getElem?_eq_getElem l2, List.getElem_idxOf l2], decide_eq_true h4⟩
theorem nd_prsTo {lt : Str → Str → Bool} {zs : List Str} (nd : zs.Nodup) : ∀ {k : Nat}, k ≤ zs.length → (prsTo lt zs k).Nodup
  | 0, _ => List.nodup_nil
  | k + 1, hk => by
    rw [prsTo, List.nodup_append]
    refine ⟨nd_prsTo nd (by omega), ?_, fun x hx y hy e => ?_⟩
    · unfold prsAt
      exact List.pairwise_map.mpr (((nd.sublist (List.drop_sublist _ _)).filter _).imp fun q e => q (Prod.mk.inj e).2)
    · subst e
      obtain ⟨i, j, h1, h2, h3, _⟩ := (mem_prsTo (by omega)).mp hx
      unfold prsAt at hy
      obtain ⟨b, hb, rfl⟩ := List.mem_map.mp hy
      have hz : zs[k]? = some (zs.getD k Str.empty) := by
        rw [List.getD_eq_getElem?_getD, List.getElem?_eq_getElem (by omega)]
        rfl
      have := (List.getElem?_inj (by omega) nd).mp (h3.trans hz.symm)
      omega
theorem prs_swap {zs ws : List Str} (nd : zs.Nodup) (pm : zs.Perm ws) : ((prsTo (later zs) ws ws.length).map fun p => (p.2, p.1)).Perm (prsTo (later ws) zs zs.length) := by
  have nw := pm.nodup_iff.mp nd
  refine (List.perm_ext_iff_of_nodup (List.pairwise_map.mpr ((nd_prsTo nw (Nat.le_refl _)).imp fun q e => q (Prod.ext (Prod.mk.inj e).2 (Prod.mk.inj e).1))) (nd_prsTo nd (Nat.le_refl _))).mpr fun x => ?_
  obtain ⟨a, b⟩ := x
  rw [mem_prs nd, List.mem_map]
  constructor
  · rintro ⟨⟨u, v⟩, h, e⟩
    cases e
    obtain ⟨h1, h2, h3, h4⟩ := (mem_prs nw).mp h
    exact ⟨pm.mem_iff.mpr h2, pm.mem_iff.mpr h1, h4, h3⟩
  · rintro ⟨h1, h2, h3, h4⟩
    exact ⟨(b, a), (mem_prs nw).mpr ⟨pm.mem_iff.mp h2, pm.mem_iff.mp h1, h4, h3⟩, rfl⟩
theorem prs_self {zs : List Str} (nd : zs.Nodup) : prsTo (later zs) zs zs.length = [] := by
  refine List.eq_nil_iff_forall_not_mem.mpr fun x h => ?_
  obtain ⟨a, b⟩ := x
  obtain ⟨_, _, h3, h4⟩ := (mem_prs nd).mp h
  omega
theorem fine_pairs {qs : List (Str × Str)} (h : ∀ p ∈ qs, isNm p.1 = true ∧ isNm p.2 = true) (hl : qs.length ≤ 40000) : Fine (.list (qs.map encP)) 2 760000 := by
  refine Fine.list (n := 1) (m := 18) (fun d hd => ?_) ?_
  · obtain ⟨⟨a, b⟩, hp, rfl⟩ := List.mem_map.mp hd
    obtain ⟨h1, h2⟩ := h _ hp
    refine Fine.tuple (n := 0) (m := 8) (fun d hd => ?_) (Nat.le_refl _)
    rcases List.mem_cons.mp hd with rfl | hd
    · exact fine_name h1
    · rw [List.mem_singleton.mp hd]
      exact fine_name h2
  · rw [List.length_map]
    omega
theorem prs_nm {zs ws : List Str} (bz : Bk zs) : ∀ p ∈ prsTo (later ws) zs zs.length, isNm p.1 = true ∧ isNm p.2 = true := fun p hp => by
  obtain ⟨h1, h2, _⟩ := (mem_prs bz.nd).mp hp
  exact ⟨List.all_eq_true.mp bz.nm _ h1, List.all_eq_true.mp bz.nm _ h2⟩
theorem prs_len {zs ws : List Str} (bz : Bk zs) : (prsTo (later ws) zs zs.length).length ≤ 40000 := by
  have h1 := prsTo_len (later ws) zs zs.length
  have h2 : zs.length * zs.length ≤ 200 * 200 := Nat.mul_le_mul bz.len bz.len
  omega
theorem fine_prs {zs ws : List Str} (bz : Bk zs) : Fine (.list ((prsTo (later ws) zs zs.length).map encP)) 2 760000 := fine_pairs (prs_nm bz) (prs_len bz)

end Lw

namespace Lw
open PySem PySem.Spec PyProof.Rows L2 GxR Gx
/-! ### ranks -/
def topI : List Int → Int
  | [] => 0
  | x :: r => r.foldl max x
theorem topI_le : ∀ (r : List Int) (x : Int), x ≤ r.foldl max x ∧ (∀ y ∈ r, y ≤ r.foldl max x) ∧ (r.foldl max x = x ∨ r.foldl max x ∈ r)
  | [], x => ⟨Int.le_refl _, fun y h => (by cases h), .inl rfl⟩
  | z :: r, x => by
    obtain ⟨h1, h2, h3⟩ := topI_le r (max x z)
    refine ⟨by show x ≤ r.foldl max (max x z); omega, fun y hy => ?_, ?_⟩
    · show y ≤ r.foldl max (max x z)
      rcases List.mem_cons.mp hy with rfl | hy
      · omega
      · exact h2 y hy
    · show r.foldl max (max x z) = x ∨ r.foldl max (max x z) ∈ z :: r
      rcases h3 with h | h
      · rw [h]
        by_cases hxz : x ≤ z
        · exact .inr (by rw [show max x z = z by omega]; exact List.mem_cons_self)
        · exact .inl (by omega)
      · exact .inr (List.mem_cons_of_mem _ h)
theorem topI_of {ns : List Int} {m : Int} (h : TopOf 0 ns m) : m = topI ns := by
  cases ns with
  | nil =>
    rcases h with ⟨_, h⟩ | ⟨h, _⟩
    · exact h
    · cases h
  | cons x r =>
    obtain ⟨h1, h2, h3⟩ := topI_le r x
    rcases h with ⟨h, _⟩ | ⟨h, hm⟩
    · cases h
    · show m = r.foldl max x
      have a1 : m ≤ r.foldl max x := by
        rcases List.mem_cons.mp h with rfl | h
        · exact h1
        · exact h2 m h
      have a2 : r.foldl max x ≤ m := by
        rcases h3 with e | e
        · rw [e]
          exact hm x List.mem_cons_self
        · exact hm _ (List.mem_cons_of_mem _ e)
      omega
/-- the ranks of those that stand ahead of w turned -/
def aheadR (lt : Str → Str → Bool) (acc : List (Str × Int)) (w : Str) : List Int := (acc.filter fun p => lt p.1 w).map Prod.snd
def ranksTo (lt : Str → Str → Bool) (zs : List Str) : Nat → List (Str × Int)
  | 0 => []
  | i + 1 => ranksTo lt zs i ++ [(zs.getD i Str.empty, 1 + topI (aheadR lt (ranksTo lt zs i) (zs.getD i Str.empty)))]
def kvR (ps : List (Str × Int)) : List (Key × V) := ps.map fun p => (Sum.inr p.1, V.int p.2)
theorem ranksTo_len (lt : Str → Str → Bool) (zs : List Str) : ∀ i, (ranksTo lt zs i).length = i
  | 0 => rfl
  | i + 1 => by rw [ranksTo, List.length_append, ranksTo_len lt zs i]; rfl
theorem ranksTo_keys (lt : Str → Str → Bool) (zs : List Str) : ∀ i, i ≤ zs.length → (ranksTo lt zs i).map Prod.fst = zs.take i
  | 0, _ => rfl
  | i + 1, h => by
    have hz : zs[i]? = some (zs.getD i Str.empty) := by
      rw [List.getD_eq_getElem?_getD, List.getElem?_eq_getElem (by omega)]
      rfl
    rw [ranksTo, List.map_append, ranksTo_keys lt zs i (by omega), List.take_add_one, hz]
    rfl

/-! ### how_many_above -/
section
variable {S : Type}
/-- the lasts of rows: what the numbers in ls tell of the ranks in acc -/
structure Lasts (pl : S → Int) (acc : List (S × Int)) (ls : List Int) : Prop where
  has : ∀ p ∈ acc, ∃ k x, p.2 = ((k : Nat) : Int) + 1 ∧ ls[k]? = some x ∧ pl p.1 ≤ x
  one : ∀ (k : Nat) (x : Int), ls[k]? = some x → ∃ p ∈ acc, p.2 = (k : Int) + 1 ∧ pl p.1 = x
  fall : ∀ (j k : Nat) (x y : Int), j < k → ls[j]? = some x → ls[k]? = some y → y < x
/-- m of ls are greater than p: the first m -/
def CutAt (ls : List Int) (p : Int) (m : Nat) : Prop := m ≤ ls.length ∧ ∀ (k : Nat) (x : Int), ls[k]? = some x → (k < m ↔ p < x)
theorem lasts_nil (pl : S → Int) : Lasts pl [] [] :=
  ⟨fun p h => (by cases h), fun k x h => (by cases h), fun j k x y _ h => (by cases h)⟩
theorem lasts_top {pl : S → Int} {acc : List (S × Int)} {ls : List Int} {p : Int} {m : Nat} (h : Lasts pl acc ls) (c : CutAt ls p m) :
    TopOf 0 ((acc.filter fun q => decide (p < pl q.1)).map Prod.snd) (m : Int) := by
  have le : ∀ y ∈ (acc.filter fun q => decide (p < pl q.1)).map Prod.snd, 1 ≤ y ∧ y ≤ (m : Int) := by
    intro y hy
    obtain ⟨q, hq, rfl⟩ := List.mem_map.mp hy
    obtain ⟨hq, lt⟩ := List.mem_filter.mp hq
    have lt := of_decide_eq_true lt
    obtain ⟨k, x, e, hk, hx⟩ := h.has q hq
    have := (c.2 k x hk).mpr (by omega)
    omega
  by_cases hm : m = 0
  · left
    refine ⟨?_, by omega⟩
    cases hl : (acc.filter fun q => decide (p < pl q.1)).map Prod.snd with
    | nil => rfl
    | cons y r =>
      have := le y (by rw [hl]; exact List.mem_cons_self)
      omega
  · right
    refine ⟨?_, fun y hy => (le y hy).2⟩
    have hlt : m - 1 < ls.length := by have := c.1; omega
    have hk : ls[m - 1]? = some ls[m - 1] := List.getElem?_eq_getElem hlt
    obtain ⟨q, hq, e, hx⟩ := h.one _ _ hk
    have := (c.2 _ _ hk).mp (by omega)
    refine List.mem_map.mpr ⟨q, List.mem_filter.mpr ⟨hq, decide_eq_true (by omega)⟩, by omega⟩
theorem put_get (ls : List Int) (p : Int) (m : Nat) (hm : m ≤ ls.length) (k : Nat) : (ls.take m ++ [p] ++ ls.drop (m + 1))[k]? = if k = m then some p else ls[k]? := by
  rw [List.append_assoc]
  by_cases h1 : k < m
  · rw [List.getElem?_append_left (by rw [List.length_take]; omega), List.getElem?_take_of_lt h1, if_neg (by omega)]
  · rw [List.getElem?_append_right (by rw [List.length_take]; omega), List.length_take, Nat.min_eq_left hm]
    by_cases h2 : k = m
    · subst h2
      rw [Nat.sub_self, if_pos rfl]
      rfl
    · rw [if_neg h2]
      obtain ⟨j, rfl⟩ : ∃ j, k = m + 1 + j := ⟨k - m - 1, by omega⟩
      rw [show m + 1 + j - m = j + 1 by omega, List.singleton_append, List.getElem?_cons_succ, List.getElem?_drop]
theorem lasts_next {pl : S → Int} {acc : List (S × Int)} {ls : List Int} {w : S} {m : Nat} (h : Lasts pl acc ls) (c : CutAt ls (pl w) m) :
    Lasts pl (acc ++ [(w, 1 + (m : Int))]) (ls.take m ++ [pl w] ++ ls.drop (m + 1)) := by
  refine ⟨fun p hp => ?_, fun k x hk => ?_, fun j k x y hjk hj hk => ?_⟩
  · rcases List.mem_append.mp hp with hp | hp
    · obtain ⟨k, x, e, hk, hx⟩ := h.has p hp
      by_cases hkm : k = m
      · subst hkm
        refine ⟨k, pl w, e, by rw [put_get _ _ _ c.1, if_pos rfl], ?_⟩
        have := mt (c.2 k x hk).mpr (by omega)
        omega
      · exact ⟨k, x, e, by rw [put_get _ _ _ c.1, if_neg hkm]; exact hk, hx⟩
    · rw [List.mem_singleton.mp hp]
      exact ⟨m, pl w, by show 1 + (m : Int) = m + 1; omega, by rw [put_get _ _ _ c.1, if_pos rfl], Int.le_refl _⟩
  · rw [put_get _ _ _ c.1] at hk
    by_cases hkm : k = m
    · rw [if_pos hkm] at hk
      cases hk
      exact ⟨(w, 1 + (m : Int)), List.mem_append_right _ (List.mem_singleton.mpr rfl), by show 1 + (m : Int) = k + 1; omega, rfl⟩
    · rw [if_neg hkm] at hk
      obtain ⟨p, hp, e, hx⟩ := h.one k x hk
      exact ⟨p, List.mem_append_left _ hp, e, hx⟩
  · rw [put_get _ _ _ c.1] at hj hk
    by_cases h1 : j = m
    · rw [if_pos h1] at hj
      cases hj
      rw [if_neg (by omega)] at hk
      have hm : m < ls.length := by
        have := (List.getElem?_eq_some_iff.mp hk).1
        omega
      have em : ls[m]? = some ls[m] := List.getElem?_eq_getElem hm
      have a := mt (c.2 _ _ em).mpr (by omega)
      have b := h.fall m k _ _ (by omega) em hk
      omega
    · rw [if_neg h1] at hj
      by_cases h2 : k = m
      · rw [if_pos h2] at hk
        cases hk
        have := (c.2 j x hj).mp (by omega)
        omega
      · rw [if_neg h2] at hk
        exact h.fall j k x y hjk hj hk
/-- halving: what is told of the middle narrows the cut -/
theorem cut_step {ls : List Int} {p x : Int} {lo hi mid : Nat} (fall : ∀ (j k : Nat) (x y : Int), j < k → ls[j]? = some x → ls[k]? = some y → y < x)
    (hl : ∀ (k : Nat) (x : Int), k < lo → ls[k]? = some x → p < x) (hh : ∀ (k : Nat) (x : Int), hi ≤ k → ls[k]? = some x → x ≤ p) (hm : ls[mid]? = some x) :
    (p < x → ∀ (k : Nat) (y : Int), k < mid + 1 → ls[k]? = some y → p < y) ∧ (x ≤ p → ∀ (k : Nat) (y : Int), mid ≤ k → ls[k]? = some y → y ≤ p) := by
  constructor
  · intro hx k y hk hy
    by_cases e : k = mid
    · subst e; rw [hm] at hy; cases hy; exact hx
    · have := fall k mid y x (by omega) hy hm; omega
  · intro hx k y hk hy
    by_cases e : k = mid
    · subst e; rw [hm] at hy; cases hy; exact hx
    · have := fall mid k x y (by omega) hm hy; omega
theorem cut_end {ls : List Int} {p : Int} {lo hi : Nat} (hl : ∀ (k : Nat) (x : Int), k < lo → ls[k]? = some x → p < x) (hh : ∀ (k : Nat) (x : Int), hi ≤ k → ls[k]? = some x → x ≤ p)
    (h : hi ≤ lo) (hz : lo ≤ ls.length) : CutAt ls p lo :=
  ⟨hz, fun k x hk => ⟨fun lt => hl k x lt hk, fun lt => by
    by_cases e : k < lo
    · exact e
    · have := hh k x (by omega) hk
      omega⟩⟩
end
section
variable {P : Program} {w : World} {K : PySem.W.Frag} {mg : Str → Option Value} {base : Heap}
def spAbove (K : PySem.W.Frag) : Sp := fun vs H Q _ => ∃ (l : Addr) (ls : List Int) (p : Int), vs = [.ref l, .int p] ∧ H l = some (.lst (ls.map V.int)) ∧ ls.length ≤ 4000 ∧
  (∀ (j k : Nat) (x y : Int), j < k → ls[j]? = some x → ls[k]? = some y → y < x) ∧ ∀ m : Nat, CutAt ls p m → Q (.int (m : Nat)) H
theorem ok_how_many_above {f c : Addr} {fd : FuncData} (B : Nb mg) (D : DefIs K "how_many_above" "how_many_above" st_how_many_above f fd (.ref c)) :
    FnG P w K mg base CX0 1 f fd ["falling", "least"] (spAbove K) := by
  refine D.ok0 (k := 0) sc_how_many_above (fun vs H Q E h => ?_) (fun A outer s H vs Q E g hr h => ?_)
  · obtain ⟨l, ls, p, rfl, _⟩ := h
    rfl
  obtain ⟨l, ls, p, rfl, hl, hz, fall, q⟩ := h
  refine ⟨_,
      (pss_cons (ps_set (i := 2) sc_how_many_above.nd rfl (.inl rfl) pe_int)
      (pss_cons (ps_set (i := 3) sc_how_many_above.nd rfl (.inl rfl) (pe_callB call_len_seq rfl B.n_len PySem.boot_len (pa_cons (pv 0) pa_nil)))
      (pss_cons (ps_while PassesOwn.never (pt_cmpR (op_lt) (pv 2) (pv 3) (nomark _)) (
        (pss_cons (ps_set (i := 4) sc_how_many_above.nd rfl (.inl rfl) (pe_op op_fdiv (pe_op op_add (pv 2) (pv 3)) pe_int))
        (pss_one (ps_if (pt_cmpR (op_gt) (pe_ix ix_list (pv 0) (pv 4) (fun _ _ => rfl)) (pv 1) (nomark _)) (
          (pss_one (ps_set (i := 2) sc_how_many_above.nd rfl (.inl rfl) (pe_op op_add (pv 4) pe_int)))) (
          (pss_one (ps_set (i := 3) sc_how_many_above.nd rfl (.inl rfl) (pv 4)))))))))
      (pss_one (ps_ret (pv 2)))))), ?_⟩
  refine ⟨.ref l, rfl, l, _, rfl, .inl (.inl (.inl hl)), ?_⟩
  rw [List.length_map]
  refine ⟨fun m σ H' => ∃ (lo hi : Nat) (a : Option V), σ = [some (.ref l), some (.int p), some (.int (lo : Nat)), some (.int (hi : Nat)), a] ∧ H' = H ∧ m = hi - lo ∧ lo ≤ hi ∧ hi ≤ ls.length ∧
    (∀ (k : Nat) (x : Int), k < lo → ls[k]? = some x → p < x) ∧ (∀ (k : Nat) (x : Int), hi ≤ k → ls[k]? = some x → x ≤ p), ⟨ls.length, 0, ls.length, none, rfl, rfl, by omega, by omega, by omega, fun k x h => by omega, fun k x h e => ?_⟩, ?_⟩
  · rw [List.getElem?_eq_none h] at e
    cases e
  rintro m σ H' ⟨lo, hi, a, rfl, rfl, rfl, hlh, hhl, h1, h2⟩
  refine ⟨_, rfl, _, rfl, _, _, rfl, rfl, ?_⟩
  refine ⟨_, rfl, ite2 (fun lt => ?_) fun lt => ?_⟩
  · have lt := of_decide_eq_true lt
    have e2 : ((lo : Int) + (hi : Int)) / 2 = (((lo + hi) / 2 : Nat) : Int) := by omega
    have hm : (lo + hi) / 2 < ls.length := by omega
    have em : ls[(lo + hi) / 2]? = some ls[(lo + hi) / 2] := List.getElem?_eq_getElem hm
    obtain ⟨x, ex⟩ : ∃ x, ls[(lo + hi) / 2] = x := ⟨_, rfl⟩
    rw [ex] at em
    have ea : atI (ls.map V.int) (((lo + hi) / 2 : Nat) : Int) = some (.int x) := by
      exact atI_nat (by rw [List.getElem?_map, em]; rfl)
    obtain ⟨s1, s2⟩ := cut_step fall h1 h2 em
    refine ⟨_, fun _ _ h => h, _, rfl, _, rfl, _, _, rfl, rfl, _, _, rfl, rfl, ⟨by decide, by decide⟩, ?_⟩
    dsimp only
    rw [e2]
    refine ⟨.ref l, rfl, _, rfl, l, _, _, _, rfl, rfl, .inl (.inl hl), ea, _, rfl, _, _, rfl, rfl, ?_⟩
    refine ⟨_, rfl, ite2 (fun hx => ?_) fun hx => ?_⟩
    · refine ⟨_, rfl, _, _, rfl, rfl, hi - ((lo + hi) / 2 + 1), by omega, (lo + hi) / 2 + 1, hi, _, by simp only [List.set]; rw [show (((lo + hi) / 2 : Nat) : Int) + 1 = (((lo + hi) / 2 + 1 : Nat) : Int) by omega], rfl, rfl, by omega, hhl, s1 (of_decide_eq_true hx), h2⟩
    · refine ⟨_, rfl, (lo + hi) / 2 - lo, by omega, lo, (lo + hi) / 2, some (.int (((lo + hi) / 2 : Nat) : Int)), by simp only [List.set], rfl, rfl, by omega, by omega, h1, s2 ?_⟩
      have := mt (fun z : p < x => decide_eq_true z) hx
      omega
  · have lt : ¬ lo < hi := fun z => lt (decide_eq_true (by omega))
    exact ⟨_, rfl, q lo (cut_end h1 h2 (by omega) (by omega))⟩
end

/-! ### ranks_of -/
section
variable {P : Program} {w : World} {K : PySem.W.Frag} {mg : Str → Option Value} {base : Heap}
def spRanks (K : PySem.W.Frag) : Sp := fun vs H Q _ => ∃ (l m : Addr) (zs ws : List Str), vs = [.ref l, .ref m] ∧ SqL K H l (zs.map V.str) ∧ SqL K H m (ws.map V.str) ∧ Bk zs ∧ zs.Perm ws ∧
  ∀ (D : Addr) (H' : Hp), Fresh H D → Grow [] H H' → H' D = some (.dK (kvR (ranksTo (later ws) zs zs.length))) → Q (.ref D) H'
theorem ok_ranks_of {f c : Addr} {fd : FuncData} (B : Nb mg) (D : DefIs K "ranks_of" "ranks_of" st_ranks_of f fd (.ref c))
    (c_places_of : Callee P w K mg base CX0 4 "places_of" ["book"] (spPlaces K)) (c_how_many_above : Callee P w K mg base CX0 1 "how_many_above" ["falling", "least"] (spAbove K)) : FnG P w K mg base CX0 5 f fd ["book", "other"] (spRanks K) := by
  refine D.ok0 (k := 4) sc_ranks_of (fun vs H Q E h => ?_) (fun A outer s H vs Q E g hr h => ?_)
  · obtain ⟨l, m, zs, ws, rfl, _⟩ := h
    rfl
  obtain ⟨l, m, zs, ws, rfl, hl, hm, bz, pm, q⟩ := h
  have bw := bz.perm pm
  refine ⟨_,
      (pss_cons (ps_set (i := 2) sc_ranks_of.nd rfl (.inl rfl) (pe_g c_places_of g (hr.mono (by decide)) pass0 (pa_cons (pv 1) pa_nil)))
      (pss_cons (ps_set (i := 3) sc_ranks_of.nd rfl (.inl rfl) pe_dnewK)
      (pss_cons (ps_set (i := 4) sc_ranks_of.nd rfl (.inl rfl) (pe_lst pa_nil))
      (pss_cons (ps_for PassesOwn.never rfl (pi_list (pv 0)) (pg_name (i := 5) sc_ranks_of.nd rfl (.inl rfl)) (
        (pss_cons (ps_set (i := 6) sc_ranks_of.nd rfl (.inl rfl) (pe_g c_how_many_above g (hr.mono (by decide)) pass0 (pa_cons (pv 4) (pa_cons (pe_dget (hu_of hr) (pv 2) (pv 5) (fun _ _ => rfl)) pa_nil))))
        (pss_cons (ps_slc (pv 4) (po_some (pv 6)) (po_some (pe_op op_add (pv 6) pe_int)) (pe_lst (pa_cons (pe_dget (hu_of hr) (pv 2) (pv 5) (fun _ _ => rfl)) pa_nil)) rfl)
        (pss_one (ps_asg (pe_op op_add (pv 6) pe_int) (pg_sub (pv 3) (pv 5) (set_dict (hu_of hr)))))))))
      (pss_one (ps_ret (pv 3))))))), ?_⟩
  refine ⟨.ref m, rfl, m, ws, rfl, hm, bw.nd, bw.len, fun P0 H1 kvs fP g1 eP hP _ => ?_⟩
  refine fun R nR => ⟨by show 0 ≤ sizeLine; decide, fun L nL => ?_⟩
  have LR : L ≠ R := fun z => by
    rw [z, upd_same] at nL
    cases nL
  have nL1 : H1 L = none := by
    rw [upd_ne LR] at nL
    exact nL
  have fR : Fresh H1 R := fresh_none nR
  have fL : Fresh H1 L := fresh_none nL1
  have gRL : Grow [] H1 (upd (upd H1 R (.dK [])) L (.lst [])) := (grow_new nR).new nL
  refine ⟨.ref l, rfl, l, rfl, ⟨_, gRL.seq0 (g1.seq0 hl)⟩, ?_⟩
  refine for_it (walk_list (xs := zs.map V.str)) (fun i σ H' => ∃ a b : Option V, σ = [some (.ref l), some (.ref m), some (.ref P0), some (.ref R), some (.ref L), a, b] ∧ Grow [] H1 H' ∧ H' R = some (.dK (kvR (ranksTo (later ws) zs i))) ∧
      ∃ ls : List Int, H' L = some (.lst (ls.map V.int)) ∧ ls.length ≤ i ∧ Lasts (fun a => ((ws.idxOf a : Nat) : Int)) (ranksTo (later ws) zs i) ls)
    ⟨none, none, rfl, gRL, by rw [upd_ne (Ne.symm LR), upd_same]; rfl, [], upd_same, Nat.le_refl _, lasts_nil _⟩
    (fun i σ H' _ h => by
      obtain ⟨_, _, _, g, _⟩ := h
      exact (g1.trans g).seq0 hl) (fun i x σ H2 H3 hi hp hy => ?_) (fun σ H' hp => ?_)
  · obtain ⟨a0, b0, rfl, gr, hR, ls, hL, hz, la⟩ := hp
    obtain ⟨rfl, ex⟩ := hy
    rw [List.getElem?_map] at ex
    rw [List.length_map] at hi
    have ez : zs[i]? = some (zs.getD i Str.empty) := by
      rw [List.getD_eq_getElem?_getD, List.getElem?_eq_getElem hi]
      rfl
    rw [ez] at ex
    cases ex
    obtain ⟨wd, ewd⟩ : ∃ wd, zs.getD i Str.empty = wd := ⟨_, rfl⟩
    rw [ewd] at ez ⊢
    obtain ⟨acc, hacc⟩ : ∃ acc, ranksTo (later ws) zs i = acc := ⟨_, rfl⟩
    have hnext : ranksTo (later ws) zs (i + 1) = acc ++ [(wd, 1 + topI (aheadR (later ws) acc wd))] := by rw [ranksTo, hacc, ewd]
    have hkeys : acc.map Prod.fst = zs.take i := by rw [← hacc, ranksTo_keys _ _ _ (by omega)]
    have hlen : acc.length = i := by rw [← hacc, ranksTo_len]
    rw [hacc] at hR la
    rw [hnext]
    have hwd : wd ∈ zs := List.mem_of_getElem? ez
    have new : valV (kvR acc) (.inr wd) = none := valV_none (by
      rw [show (kvR acc).map Prod.fst = (acc.map Prod.fst).map Sum.inr by unfold kvR; rw [List.map_map, List.map_map]; rfl, hkeys]
      intro h
      obtain ⟨z, hz, e⟩ := List.mem_map.mp h
      cases e
      obtain ⟨j, hj⟩ := List.mem_iff_getElem?.mp hz
      rw [List.getElem?_take] at hj
      by_cases hji : j < i
      · rw [if_pos hji] at hj
        have := (List.getElem?_inj (List.getElem?_eq_some_iff.mp hj).1 bz.nd).mp (hj.trans ez.symm)
        omega
      · rw [if_neg hji] at hj
        cases hj)
    have zl := bz.len
    have dg : ∀ H' : Hp, Grow [] H1 H' → DGet H' P0 (.str wd) (some (.int (ws.idxOf wd : Nat))) := fun H' g => by
      rw [← hP wd (pm.mem_iff.mp hwd)]
      exact DGet.k (k := .inr wd) (g.keep P0 _ (by simp) eP fun ps z => by cases z)
    refine ⟨.ref L, rfl, .ref P0, rfl, .str wd, rfl, P0, _, rfl, dg _ gr, L, ls, ((ws.idxOf wd : Nat) : Int), rfl, hL, by omega, la.fall, fun mm cut => ?_⟩
    have et : topI (aheadR (later ws) acc wd) = (mm : Int) := by
      have := topI_of (lasts_top la cut)
      rw [this]
      unfold aheadR
      congr 2
      refine List.filter_congr fun q _ => ?_
      exact decide_eq_decide.mpr (by show ws.idxOf wd < ws.idxOf q.1 ↔ ((ws.idxOf wd : Nat) : Int) < ((ws.idxOf q.1 : Nat) : Int); omega)
    have la2 := lasts_next (w := wd) la cut
    refine ⟨.ref P0, rfl, .str wd, rfl, P0, _, rfl, dg _ gr, by show 1 ≤ sizeLine; decide, fun N nN => ?_⟩
    have NL : L ≠ N := fun z => by
      rw [← z, hL] at nN
      cases nN
    have NR : R ≠ N := fun z => by
      rw [← z, hR] at nN
      cases nN
    refine ⟨.ref L, rfl, .int mm, rfl, mm, rfl, .int mm, rfl, _, _, rfl, rfl, (mm : Int) + 1, rfl, L, N, ls.map V.int, [.int ((ws.idxOf wd : Nat) : Int)], mm, rfl, rfl, rfl, rfl, NL, by rw [upd_ne NL]; exact hL, upd_same, by rw [List.length_map]; exact cut.1, ?_, ?_⟩
    · rw [List.length_map]
      show ls.length + 1 ≤ sizeLine
      unfold sizeLine
      omega
    have g5 := (gr.new (o := .lst [.int ((ws.idxOf wd : Nat) : Int)]) nN).put fL (by rw [upd_ne NL]; exact hL) (o := .lst ((ls.map V.int).take mm ++ [.int ((ws.idxOf wd : Nat) : Int)] ++ (ls.map V.int).drop (mm + 1))) (fun ps z => by cases z)
    refine ⟨.int mm, rfl, _, _, rfl, rfl, .ref R, rfl, .str wd, rfl, R, _, rfl, .inl ⟨kvR acc, .inr wd, by rw [upd_ne (Ne.symm LR), upd_ne NR]; exact hR, rfl, ?_, rfl⟩, _, _, rfl, ?_, ?_, ls.take mm ++ [((ws.idxOf wd : Nat) : Int)] ++ ls.drop (mm + 1), ?_, ?_, ?_⟩
    · have lk : (kvR acc).length = acc.length := by unfold kvR; rw [List.length_map]
      unfold sizeLine
      omega
    · exact g5.put fR (by rw [upd_ne (Ne.symm LR), upd_ne NR]; exact hR) (fun ps z => by cases z)
    · rw [upd_same, putK_new _ new, et]
      unfold kvR
      rw [List.map_append]
      show some (HO.dK (_ ++ [(Sum.inr wd, V.int ((mm : Int) + 1))])) = some (HO.dK (_ ++ [(Sum.inr wd, V.int (1 + (mm : Int)))]))
      rw [Int.add_comm]
    · rw [upd_ne LR, upd_same, List.map_append, List.map_append, List.map_take, List.map_drop]
      rfl
    · rw [List.length_append, List.length_append, List.length_take, List.length_drop]
      have := cut.1
      show min mm ls.length + 1 + (ls.length - (mm + 1)) ≤ i + 1
      omega
    · rw [et]
      exact la2
  · obtain ⟨a0, b0, rfl, gr, hR, _⟩ := hp
    rw [List.length_map] at hR
    exact ⟨.ref R, rfl, q R H' (g1.fresh (by simp) fR) (g1.trans gr) hR⟩
end

/-! ### the longest rank -/
def topD (d : Int) (ns : List Int) : Int := if ns = [] then d else topI ns
theorem topD_of {d : Int} {ns : List Int} {m : Int} (h : TopOf d ns m) : m = topD d ns := by
  unfold topD
  rcases h with ⟨h, e⟩ | ⟨h, hm⟩
  · rw [if_pos h]
    exact e
  · rw [if_neg (fun z => by rw [z] at h; cases h)]
    exact topI_of (.inr ⟨h, hm⟩)
def ranksOf (ws zs : List Str) : List Int := (ranksTo (later ws) zs zs.length).map Prod.snd

end Lw

namespace Lw
open PySem PySem.Spec PyProof.Rows L2 GxR Gx
/-! ### what the ranks are -/
def rkAt (lt : Str → Str → Bool) (zs : List Str) (i : Nat) : Int := 1 + topI (aheadR lt (ranksTo lt zs i) (zs.getD i Str.empty))
theorem ranksTo_at (lt : Str → Str → Bool) (zs : List Str) : ∀ {n i : Nat}, i < n → (ranksTo lt zs n)[i]? = some (zs.getD i Str.empty, rkAt lt zs i)
  | n + 1, i, h => by
    rw [ranksTo]
    by_cases hi : i < n
    · rw [List.getElem?_append_left (by rw [ranksTo_len]; exact hi)]
      exact ranksTo_at lt zs hi
    · have e : i = n := by omega
      subst e
      rw [List.getElem?_append_right (by rw [ranksTo_len]; exact Nat.le_refl _), ranksTo_len, Nat.sub_self]
      rfl
theorem mem_ahead {lt : Str → Str → Bool} {zs : List Str} {i : Nat} {r : Int} : r ∈ aheadR lt (ranksTo lt zs i) (zs.getD i Str.empty) ↔ ∃ a, a < i ∧ lt (zs.getD a Str.empty) (zs.getD i Str.empty) = true ∧ rkAt lt zs a = r := by
  unfold aheadR
  rw [List.mem_map]
  constructor
  · rintro ⟨p, hp, rfl⟩
    obtain ⟨h1, h2⟩ := List.mem_filter.mp hp
    obtain ⟨a, ha⟩ := List.mem_iff_getElem?.mp h1
    have hai : a < i := by
      have := (List.getElem?_eq_some_iff.mp ha).1
      rwa [ranksTo_len] at this
    rw [ranksTo_at lt zs hai] at ha
    cases ha
    exact ⟨a, hai, h2, rfl⟩
  · rintro ⟨a, h1, h2, rfl⟩
    exact ⟨(zs.getD a Str.empty, rkAt lt zs a), List.mem_filter.mpr ⟨List.mem_iff_getElem?.mpr ⟨a, ranksTo_at lt zs h1⟩, h2⟩, rfl⟩
theorem topI_ge {ns : List Int} {y : Int} (h : y ∈ ns) : y ≤ topI ns := by
  cases ns with
  | nil => cases h
  | cons x r =>
    obtain ⟨h1, h2, _⟩ := topI_le r x
    rcases List.mem_cons.mp h with rfl | h
    · exact h1
    · exact h2 y h
theorem topI_mem {ns : List Int} (h : ns ≠ []) : topI ns ∈ ns := by
  cases ns with
  | nil => exact absurd rfl h
  | cons x r =>
    obtain ⟨_, _, h3⟩ := topI_le r x
    rcases h3 with e | e
    · show r.foldl max x ∈ x :: r
      rw [e]
      exact List.mem_cons_self
    · exact List.mem_cons_of_mem _ e
theorem rk_pos (lt : Str → Str → Bool) (zs : List Str) : ∀ (n i : Nat), i < n → 1 ≤ rkAt lt zs i
  | n + 1, i, h => by
    unfold rkAt
    by_cases e : aheadR lt (ranksTo lt zs i) (zs.getD i Str.empty) = []
    · rw [e]
      exact Int.le_refl _
    · obtain ⟨a, h1, _, h3⟩ := mem_ahead.mp (topI_mem e)
      have := rk_pos lt zs n a (by omega)
      omega
theorem rk_up {lt : Str → Str → Bool} {zs : List Str} {a i : Nat} (h : a < i) (hl : lt (zs.getD a Str.empty) (zs.getD i Str.empty) = true) : rkAt lt zs a + 1 ≤ rkAt lt zs i := by
  have := topI_ge (mem_ahead.mpr ⟨a, h, hl, rfl⟩)
  show _ ≤ 1 + topI _
  omega
theorem rk_down {lt : Str → Str → Bool} {zs : List Str} {i : Nat} (h : 2 ≤ rkAt lt zs i) : ∃ a, a < i ∧ lt (zs.getD a Str.empty) (zs.getD i Str.empty) = true ∧ rkAt lt zs a = rkAt lt zs i - 1 := by
  have e : aheadR lt (ranksTo lt zs i) (zs.getD i Str.empty) ≠ [] := fun z => by
    unfold rkAt at h
    rw [z] at h
    exact absurd h (by decide)
  obtain ⟨a, h1, h2, h3⟩ := mem_ahead.mp (topI_mem e)
  refine ⟨a, h1, h2, ?_⟩
  rw [h3]
  show _ = 1 + topI _ - 1
  omega
theorem mem_ranksOf {ws zs : List Str} {r : Int} : r ∈ ranksOf ws zs ↔ ∃ i, i < zs.length ∧ rkAt (later ws) zs i = r := by
  unfold ranksOf
  rw [List.mem_map]
  constructor
  · rintro ⟨p, hp, rfl⟩
    obtain ⟨a, ha⟩ := List.mem_iff_getElem?.mp hp
    have hai := (List.getElem?_eq_some_iff.mp ha).1
    rw [ranksTo_len] at hai
    rw [ranksTo_at _ _ hai] at ha
    cases ha
    exact ⟨a, hai, rfl⟩
  · rintro ⟨i, h, rfl⟩
    exact ⟨_, List.mem_iff_getElem?.mpr ⟨i, ranksTo_at _ _ h⟩, rfl⟩
/-- turned, of two that stand in both books -/
theorem later_not {ws : List Str} {a b : Str} (ha : a ∈ ws) (hb : b ∈ ws) (ne : a ≠ b) (h : later ws a b = false) : later ws b a = true := by
  have h1 := of_decide_eq_false h
  refine decide_eq_true ?_
  have l1 := List.idxOf_lt_length_of_mem ha
  have l2 := List.idxOf_lt_length_of_mem hb
  have : ws.idxOf a ≠ ws.idxOf b := fun e => ne (by rw [← List.getElem_idxOf l1, ← List.getElem_idxOf l2]; congr 1)
  omega
theorem later_trans {ws : List Str} {a b c : Str} (h : later ws a b = true) (k : later ws b c = true) : later ws a c = true := by
  have h1 := of_decide_eq_true h
  have h2 := of_decide_eq_true k
  exact decide_eq_true (by omega)

/-! ### longest_turned -/
/-- a row of words that stand so in the one book and the other way about in the other -/
def TurnedRow (ws zs ys : List Str) : Prop := ys.Sublist zs ∧ ys.Pairwise fun a b => later ws a b = true
/-- what holds when all words from n - j on have been looked at: the row rw (the last first), wd still wanted -/
structure RowInv (ws zs rw : List Str) (j : Nat) (wd : Int) : Prop where
  sub : rw.reverse.Sublist (zs.drop (zs.length - j))
  turned : rw.reverse.Pairwise fun a b => later ws a b = true
  wanted : wd = topD 0 (ranksOf ws zs) - rw.length
  pos : 0 ≤ wd
  at_ : (rw = [] ∧ ∀ p, zs.length - j ≤ p → p < zs.length → rkAt (later ws) zs p ≠ wd) ∨
    ∃ q, zs.length - j ≤ q ∧ q < zs.length ∧ rw.getLast? = some (zs.getD q Str.empty) ∧ rkAt (later ws) zs q = wd + 1 ∧ (∀ p, zs.length - j ≤ p → p < q → rkAt (later ws) zs p ≠ wd) ∧ ∀ y ∈ rw, later ws (zs.getD q Str.empty) y = true ∨ y = zs.getD q Str.empty
theorem getD_in {zs : List Str} {i : Nat} (h : i < zs.length) : zs[i]? = some (zs.getD i Str.empty) := by
  rw [List.getD_eq_getElem?_getD, List.getElem?_eq_getElem h]
  rfl
theorem getD_mem {zs : List Str} {i : Nat} (h : i < zs.length) : zs.getD i Str.empty ∈ zs := List.mem_of_getElem? (getD_in h)
theorem drop_at {zs : List Str} {i : Nat} (h : i < zs.length) : zs.drop i = zs.getD i Str.empty :: zs.drop (i + 1) := by
  rw [List.drop_eq_getElem_cons h]
  have := getD_in h
  rw [List.getElem?_eq_getElem h] at this
  rw [Option.some.inj this]
theorem topD_pos {ws zs : List Str} : 0 ≤ topD 0 (ranksOf ws zs) := by
  unfold topD
  by_cases e : ranksOf ws zs = []
  · rw [if_pos e]
    exact Int.le_refl _
  · rw [if_neg e]
    obtain ⟨i, h1, h2⟩ := mem_ranksOf.mp (topI_mem e)
    have := rk_pos (later ws) zs _ i h1
    omega
theorem RowInv.start (ws zs : List Str) : RowInv ws zs [] 0 (topD 0 (ranksOf ws zs)) :=
  ⟨List.nil_sublist _, .nil, by simp, topD_pos, .inl ⟨rfl, fun p h1 h2 => by omega⟩⟩
theorem RowInv.skip {ws zs rw : List Str} {j : Nat} {wd : Int} (I : RowInv ws zs rw j wd) (hj : j < zs.length) (ne : rkAt (later ws) zs (zs.length - 1 - j) ≠ wd) : RowInv ws zs rw (j + 1) wd := by
  have e1 : zs.length - (j + 1) = zs.length - 1 - j := by omega
  have e2 : zs.length - 1 - j + 1 = zs.length - j := by omega
  refine ⟨?_, I.turned, I.wanted, I.pos, ?_⟩
  · rw [e1, drop_at (by omega), e2]
    exact I.sub.cons _
  · have near : ∀ p q, (∀ p, zs.length - j ≤ p → p < q → rkAt (later ws) zs p ≠ wd) → zs.length - (j + 1) ≤ p → p < q → rkAt (later ws) zs p ≠ wd := fun p q h h1 h2 => by
      by_cases e : p = zs.length - 1 - j
      · rw [e]
        exact ne
      · exact h p (by omega) h2
    rcases I.at_ with ⟨h1, h2⟩ | ⟨q, h1, h2, h3, h4, h5, h6⟩
    · exact .inl ⟨h1, fun p a b => near p _ h2 a b⟩
    · exact .inr ⟨q, by omega, h2, h3, h4, fun p a b => near p q h5 a b, h6⟩
theorem RowInv.pick {ws zs rw : List Str} {j : Nat} {wd : Int} (I : RowInv ws zs rw j wd) (nd : zs.Nodup) (pm : zs.Perm ws) (hj : j < zs.length) (eq : rkAt (later ws) zs (zs.length - 1 - j) = wd) :
    RowInv ws zs (rw ++ [zs.getD (zs.length - 1 - j) Str.empty]) (j + 1) (wd - 1) := by
  obtain ⟨i, hi⟩ : ∃ i, zs.length - 1 - j = i := ⟨_, rfl⟩
  rw [hi] at eq ⊢
  have e1 : zs.length - (j + 1) = i := by omega
  have e2 : zs.length - j = i + 1 := by omega
  have il : i < zs.length := by omega
  have rp := rk_pos (later ws) zs _ i il
  have all : ∀ y ∈ rw, later ws (zs.getD i Str.empty) y = true := fun y hy => by
    rcases I.at_ with ⟨h1, _⟩ | ⟨q, h1, h2, h3, h4, h5, h6⟩
    · rw [h1] at hy
      cases hy
    · have lq : later ws (zs.getD i Str.empty) (zs.getD q Str.empty) = true := by
        obtain ⟨a, a1, a2, a3⟩ := rk_down (lt := later ws) (zs := zs) (i := q) (by omega)
        have ai : a < i + 1 := by
          by_cases h : a < i + 1
          · exact h
          · exact absurd (show rkAt (later ws) zs a = wd by omega) (h5 a (by omega) a1)
        by_cases e : a = i
        · rw [← e]
          exact a2
        · have ne : zs.getD a Str.empty ≠ zs.getD i Str.empty := fun z => e ((List.getElem?_inj (by omega) nd).mp (by rw [getD_in (by omega), getD_in il, z]))
          have nl : later ws (zs.getD a Str.empty) (zs.getD i Str.empty) = false := by
            cases hc : later ws (zs.getD a Str.empty) (zs.getD i Str.empty) with
            | false => rfl
            | true =>
              have := rk_up (lt := later ws) (zs := zs) (show a < i by omega) hc
              omega
          exact later_trans (later_not (pm.mem_iff.mp (getD_mem (by omega))) (pm.mem_iff.mp (getD_mem il)) ne nl) a2
      rcases h6 y hy with h | h
      · exact later_trans lq h
      · rw [h]
        exact lq
  refine ⟨?_, ?_, ?_, by omega, .inr ⟨i, by omega, il, by simp, by omega, fun p a b => by omega, fun y hy => ?_⟩⟩
  · rw [List.reverse_append, e1, drop_at il, ← e2]
    exact I.sub.cons_cons _
  · rw [List.reverse_append]
    exact List.pairwise_cons.mpr ⟨fun y hy => all y (List.mem_reverse.mp hy), I.turned⟩
  · rw [List.length_append, I.wanted]
    simp only [List.length_cons, List.length_nil]
    omega
  · rcases List.mem_append.mp hy with h | h
    · exact .inl (all y h)
    · exact .inr (List.mem_singleton.mp h)
theorem RowInv.done {ws zs rw : List Str} {wd : Int} (I : RowInv ws zs rw zs.length wd) : TurnedRow ws zs rw.reverse ∧ (rw.reverse.length : Int) = topD 0 (ranksOf ws zs) := by
  have s := I.sub
  rw [Nat.sub_self, List.drop_zero] at s
  refine ⟨⟨s, I.turned⟩, ?_⟩
  have w0 : wd = 0 := by
    have hp := I.pos
    have hw := I.wanted
    by_cases h : wd = 0
    · exact h
    · exfalso
      rcases I.at_ with ⟨h1, h2⟩ | ⟨q, h1, h2, h3, h4, h5, h6⟩
      · rw [h1] at hw
        simp only [List.length_nil] at hw
        have e : ranksOf ws zs ≠ [] := fun z => by
          unfold topD at hw
          rw [if_pos z] at hw
          omega
        unfold topD at hw
        rw [if_neg e] at hw
        obtain ⟨i, i1, i2⟩ := mem_ranksOf.mp (topI_mem e)
        exact h2 i (by omega) i1 (by omega)
      · obtain ⟨a, a1, a2, a3⟩ := rk_down (lt := later ws) (zs := zs) (i := q) (by omega)
        exact h5 a (by omega) a1 (by omega)
  have hw := I.wanted
  rw [List.length_reverse]
  omega
section
variable {P : Program} {w : World} {K : PySem.W.Frag} {mg : Str → Option Value} {base : Heap}
def spLongest (K : PySem.W.Frag) (T1 T : Addr) : Sp := fun vs H Q _ => ∃ (l m : Addr) (zs ws : List Str), vs = [.ref l, .ref m] ∧ TabG H T1 ∧ TabG H T ∧ SqL K H l (zs.map V.str) ∧ SqL K H m (ws.map V.str) ∧ Bk zs ∧ zs.Perm ws ∧
  ∀ (D : Addr) (H' : Hp) (ys : List Str), Fresh H D → Grow [] H H' → H' D = some (.lst (ys.map V.str)) → TurnedRow ws zs ys → (ys.length : Int) = topD 0 (ranksOf ws zs) → Q (.ref D) H'
theorem ok_longest_turned {f c T1 T : Addr} {fd : FuncData} (B : Nb mg) (D : DefIs K "longest_turned" "longest_turned" st_longest_turned f fd (.ref c))
    (c_check_books : Callee P w K mg base CX0 10 "check_books" ["book", "other"] (spCheck K T1 T)) (c_ranks_of : Callee P w K mg base CX0 5 "ranks_of" ["book", "other"] (spRanks K)) :
    FnG P w K mg base CX0 11 f fd ["book", "other"] (spLongest K T1 T) := by
  refine D.ok0 (k := 10) sc_longest_turned (fun vs H Q E h => ?_) (fun A outer s H vs Q E g hr h => ?_)
  · obtain ⟨l, m, zs, ws, rfl, _⟩ := h
    rfl
  obtain ⟨l, m, zs, ws, rfl, t1, tT, hl, hm, bz, pm, q⟩ := h
  refine ⟨_,
      (pss_cons (ps_expr (pe_g c_check_books g (hr.mono (by decide)) pass0 (pa_cons (pv 0) (pa_cons (pv 1) pa_nil))))
      (pss_cons (ps_set (i := 2) sc_longest_turned.nd rfl (.inl rfl) (pe_g c_ranks_of g (hr.mono (by decide)) pass0 (pa_cons (pv 0) (pa_cons (pv 1) pa_nil))))
      (pss_cons (ps_set (i := 3) sc_longest_turned.nd rfl (.inl rfl) (pe_lst pa_nil))
      (pss_cons (ps_set (i := 4) sc_longest_turned.nd rfl (.inl rfl) (pe_maxVals rfl rfl B.n_max (pv 2)))
      (pss_cons (ps_for PassesOwn.never rfl (pi_reversed rfl B.n_reversed (pa_cons (pv 0) pa_nil)) (pg_name (i := 5) sc_longest_turned.nd rfl (.inl rfl)) (
        (pss_one (ps_if (pt_cmpR (op_eq) (pe_dget (hu_of hr) (pv 2) (pv 5) (fun _ _ => rfl)) (pv 4) (nomark _)) (
          (pss_cons (ps_expr (pe_bm PySem.F.plainAttrs_list PySem.F.slot_list_append PySem.F.type_list_append mt_append (pv 3) (pa_cons (pv 5) pa_nil)))
          (pss_one (ps_aug (i := 4) sc_longest_turned.nd rfl (.inl rfl) pe_int ip_sub)))) pss_nil))))
      (pss_one (ps_ret (pe_revL (pv 3))))))))), ?_⟩
  refine ⟨.ref l, rfl, .ref m, rfl, l, m, zs, ws, rfl, t1, tT, hl, hm, bz, pm, fun H1 g1 => ?_⟩
  refine ⟨.ref l, rfl, .ref m, rfl, l, m, zs, ws, rfl, g1.seq0 hl, g1.seq0 hm, bz, pm, fun R H2 fR g2 eR => ?_⟩
  refine ⟨by show 0 ≤ sizeLine; decide, fun F nF => ?_⟩
  have fF : Fresh H2 F := fresh_none nF
  have g12 := g1.trans g2
  have eR3 : upd H2 F (.lst []) R = some (.dK (kvR (ranksTo (later ws) zs zs.length))) := by rw [upd_ne (ne_of_none eR nF)]; exact eR
  have g3 : Grow [] H2 (upd H2 F (.lst [])) := grow_new nF
  refine ⟨.ref R, rfl, R, _, ranksOf ws zs, rfl, eR3, by unfold kvR ranksOf; rw [List.map_map, List.map_map]; rfl, fun mx top => ?_⟩
  have et := topD_of top
  subst et
  refine ⟨.ref l, rfl, l, zs.map V.str, rfl, (g12.trans g3).seq0 hl, ?_⟩
  have dr : ∀ {H' : Hp} {i : Nat}, Grow [] H2 H' → i < zs.length → DGet H' R (.str (zs.getD i Str.empty)) (some (.int (rkAt (later ws) zs i))) := fun {H' i} gr hi => by
    have e := gr.keep R _ (by simp) eR fun ps z => by cases z
    have e1 : valV (kvR (ranksTo (later ws) zs zs.length)) (.inr (zs.getD i Str.empty)) = some (.int (rkAt (later ws) zs i)) := valV_some (j := i) (by
      rw [show (kvR (ranksTo (later ws) zs zs.length)).map Prod.fst = ((ranksTo (later ws) zs zs.length).map Prod.fst).map Sum.inr by unfold kvR; rw [List.map_map, List.map_map]; rfl, ranksTo_keys _ _ _ (Nat.le_refl _), List.take_length]
      exact List.pairwise_map.mpr (bz.nd.imp fun q e => q (Sum.inr.inj e))) (by unfold kvR; rw [List.getElem?_map, ranksTo_at _ _ hi]; rfl)
    rw [← e1]
    exact DGet.k (k := .inr (zs.getD i Str.empty)) e
  refine for_it walk_rev (fun j σ H' => ∃ (rw_ : List Str) (wd : Int) (a : Option V), σ = [some (.ref l), some (.ref m), some (.ref R), some (.ref F), some (.int wd), a] ∧ RowInv ws zs rw_ j wd ∧ H' F = some (.lst (rw_.map V.str)) ∧ Grow [] H2 H') ⟨[], _, none, rfl, RowInv.start ws zs, upd_same, g3⟩
    (fun j σ H' _ h => by
      obtain ⟨_, _, _, _, _, _, g⟩ := h
      exact (g12.trans g).seq0 hl) (fun j x σ H3 H4 hj hp hy => ?_) (fun σ H' hp => ?_)
  · obtain ⟨rw_, wd, a0, rfl, I, eF, gr⟩ := hp
    obtain ⟨rfl, ex⟩ := hy
    rw [List.length_map] at hj
    rw [List.length_map, List.getElem?_map, getD_in (by omega : zs.length - 1 - j < zs.length)] at ex
    cases ex
    refine ⟨.ref R, rfl, .str _, rfl, R, _, rfl, dr gr (by omega : zs.length - 1 - j < zs.length), .int wd, rfl, rfl, _, rfl, ite2 (fun h => ?_) fun h => ?_⟩
    · have e : rkAt (later ws) zs (zs.length - 1 - j) = wd := V.int.inj (of_decide_eq_true h)
      have hs := I.sub.length_le
      rw [List.length_reverse, List.length_drop] at hs
      refine ⟨.ref F, rfl, tyl eF, .str _, rfl, F, _, _, rfl, rfl, eF, by rw [List.length_map]; have := bz.len; unfold sizeLine; omega, ?_⟩
      exact ⟨.int wd, rfl, _, _, rfl, rfl, _, _, _, rfl, I.pick bz.nd pm hj e, by rw [upd_same, List.map_append]; rfl, gr.put fF eF (fun ps z => by cases z)⟩
    · have ne : rkAt (later ws) zs (zs.length - 1 - j) ≠ wd := fun z => h (decide_eq_true (by rw [z]))
      exact ⟨rw_, wd, _, rfl, I.skip hj ne, eF, gr⟩
  · obtain ⟨rw_, wd, a0, rfl, I, eF, gr⟩ := hp
    rw [List.length_map] at I
    obtain ⟨d1, d2⟩ := I.done
    refine ⟨.ref F, rfl, F, _, rfl, .inl (.inl eF), fun D1 n1 => ?_⟩
    exact q D1 _ rw_.reverse (g12.fresh (by simp) (gr.fresh0 n1)) ((g12.trans gr).new n1) (by rw [upd_same, List.map_reverse]) d1 d2
end

/-! ### rows and ranks -/
theorem row_rank {ws zs : List Str} : ∀ {n : Nat}, n ≤ zs.length → ∀ {r q : List Str} {x : Str}, r.Sublist (zs.take n) → r.Pairwise (fun a b => later ws a b = true) → r = q ++ [x] → ∃ i, i < n ∧ zs.getD i Str.empty = x ∧ (r.length : Int) ≤ rkAt (later ws) zs i
  | 0, _, r, q, x, s, _, e => by
    rw [List.take_zero, List.sublist_nil] at s
    rw [s] at e
    exact absurd e (by simp)
  | n + 1, hn, r, q, x, s, pw, e => by
    have ez := getD_in (zs := zs) (i := n) (by omega)
    rw [List.take_add_one, ez, List.sublist_append_iff] at s
    obtain ⟨l1, l2, e1, s1, s2⟩ := s
    have s2' : l2.Sublist [zs.getD n Str.empty] := s2
    have short : l2 = [] ∨ l2 = [zs.getD n Str.empty] := by
      cases s2' with
      | cons _ h => exact .inl (List.sublist_nil.mp h)
      | cons_cons _ h => exact .inr (by rw [List.sublist_nil.mp h])
    rcases short with h | h
    · rw [h, List.append_nil] at e1
      rw [← e1] at s1
      obtain ⟨i, h1, h2, h3⟩ := row_rank (n := n) (by omega) s1 pw e
      exact ⟨i, by omega, h2, h3⟩
    · rw [h] at e1
      have ex : l1 = q ∧ zs.getD n Str.empty = x := by
        have := e1.symm.trans e
        have h1 := List.append_inj' this rfl
        exact ⟨h1.1, by simpa using h1.2⟩
      refine ⟨n, by omega, ex.2, ?_⟩
      rw [e1] at pw ⊢
      rw [List.pairwise_append] at pw
      by_cases hl : l1 = []
      · rw [hl]
        exact rk_pos (later ws) zs (n + 1) n (by omega)
      · have el := (List.dropLast_concat_getLast hl).symm
        obtain ⟨i, h1, h2, h3⟩ := row_rank (n := n) (by omega) s1 pw.1 el
        have lt : later ws (zs.getD i Str.empty) (zs.getD n Str.empty) = true := by
          rw [h2]
          exact pw.2.2 _ (List.getLast_mem hl) _ List.mem_cons_self
        have := rk_up (lt := later ws) (zs := zs) h1 lt
        rw [List.length_append, List.length_singleton]
        omega
theorem row_top {ws zs r : List Str} (t : TurnedRow ws zs r) : (r.length : Int) ≤ topD 0 (ranksOf ws zs) := by
  by_cases hl : r = []
  · rw [hl]
    exact topD_pos
  · obtain ⟨i, h1, h2, h3⟩ := row_rank (Nat.le_refl _) (by rw [List.take_length]; exact t.1) t.2 (List.dropLast_concat_getLast hl).symm
    have m := (mem_ranksOf (ws := ws) (zs := zs)).mpr ⟨i, h1, rfl⟩
    have := topI_ge m
    unfold topD
    rw [if_neg (fun z => by rw [z] at m; cases m)]
    omega
theorem row_exists {ws zs : List Str} (nd : zs.Nodup) (pm : zs.Perm ws) : ∃ r, TurnedRow ws zs r ∧ (r.length : Int) = topD 0 (ranksOf ws zs) := by
  have step : ∀ j, j ≤ zs.length → ∃ rw_ wd, RowInv ws zs rw_ j wd := fun j => by
    induction j with
    | zero => exact fun _ => ⟨_, _, RowInv.start ws zs⟩
    | succ j ih =>
      intro hj
      obtain ⟨rw_, wd, I⟩ := ih (by omega)
      by_cases e : rkAt (later ws) zs (zs.length - 1 - j) = wd
      · exact ⟨_, _, I.pick nd pm (by omega) e⟩
      · exact ⟨_, _, I.skip (by omega) e⟩
  obtain ⟨rw_, wd, I⟩ := step _ (Nat.le_refl _)
  exact ⟨_, I.done⟩

/-! ### are_words_of -/
def wordIn (kvs : List (Key × V)) : V → Bool
  | .str z => (valV kvs (.inr z)).isSome
  | _ => false
section
variable {P : Program} {w : World} {K : PySem.W.Frag} {mg : Str → Option Value} {base : Heap}
def spWordsOf (K : PySem.W.Frag) (T : Addr) : Sp := fun vs H Q _ => ∃ (P0 : Addr) (x : V) (kvs : List (Key × V)), vs = [.ref P0, x] ∧ TabG H T ∧ H P0 = some (.dK kvs) ∧
  ((∃ (l : Addr) (xs : List V), x = .ref l ∧ SqL K H l xs ∧ (∀ x ∈ xs, Known K H x) ∧ ∀ H', Grow [] H H' → Q (.bl (xs.all (wordIn kvs))) H') ∨ ∃ U, U ≠ "list" ∧ TyB K H x U ∧ Q (.bl false) H)
theorem ok_are_words_of {f c T : Addr} {fd : FuncData} (B : Nb mg) (D : DefIs K "are_words_of" "are_words_of" st_are_words_of f fd (.ref c)) (x_are_words_of : TabB base mg c T) :
    FnG P w K mg base CX0 5 f fd ["places", "thing"] (spWordsOf K T) := by
  refine D.ok0 (k := 4) sc_are_words_of (fun vs H Q E h => ?_) (fun A outer s H vs Q E g hr h => ?_)
  · obtain ⟨P0, x, kvs, rfl, _⟩ := h
    rfl
  obtain ⟨P0, x, kvs, rfl, tT, eP, h⟩ := h
  refine ⟨_,
      (pss_one (ps_ret (pe_and (pe_cmpR (op_isTyB) (pe_callTy call_type1 rfl B.n_type (by decide +kernel) (pa_cons (pv 1) pa_nil)) (pe_bltn (v := .ty "list") rfl B.n_list (by decide +kernel) rfl) (nomark _)) (pe_one (pe_allG (own := [("word", 2)]) hr (gx_ok (N := N_are_words_of) (dsc := defScope st_are_words_of) x_are_words_of sc_are_words_of.nd (by decide +kernel) (by decide +kernel)) rfl B.n_all (by decide +kernel) (pi_list (pv 1)) (fun _ _ _ _ _ => (pg_name (i := 2) sc_are_words_of.nd rfl (.inl rfl))) (fun _ _ _ _ _ => pe_to (pe_and (pe_cmpR (op_isTyB) (pe_callTy call_type1 rfl B.n_type (by decide +kernel) (pa_cons (pv 2) pa_nil)) (pe_bltn (v := .ty "str") rfl B.n_str (by decide +kernel) rfl) (nomark _)) (pe_one (pe_cmp (pc_din (hu_of (room_gx hr)) (pv 2) (pv 0))))))))))), ?_⟩
  rcases h with ⟨l, xs, rfl, hl, hk, q⟩ | ⟨U, hU, ty, q⟩
  · refine ⟨.ref l, rfl, _, "list", rfl, .lst hl, "list", "list", rfl, rfl, _, rfl, iteT ?_⟩
    refine ⟨.ref l, rfl, l, rfl, ⟨xs, hl⟩, tT, ?_⟩
    refine truth_list (xs := xs) (fun i H' => Grow [] H H' ∧ (xs.take i).all (wordIn kvs) = true) (fun H2 t => ⟨grow_tab tT t, rfl⟩) (fun i H' hp => hp.1.seq0 hl) (fun i x H' hx hp => ?_) fun H' hp => ?_
    · have eP2 : H' P0 = some (.dK kvs) := hp.1.keep P0 _ (by simp) eP fun ps z => by cases z
      have out : wordIn kvs x = false → Q (.bl false) H' := fun e => by
        have ea : xs.all (wordIn kvs) = false := List.all_eq_false.mpr ⟨x, List.mem_of_getElem? hx, by rw [e]; exact Bool.false_ne_true⟩
        rw [← ea]
        exact q H' hp.1
      have on : wordIn kvs x = true → Grow [] H H' ∧ (xs.take (i + 1)).all (wordIn kvs) = true := fun e => by
        refine ⟨hp.1, ?_⟩
        rw [List.take_add_one, hx, List.all_append, hp.2]
        show (true && (wordIn kvs x && true)) = true
        rw [e]
        rfl
      rcases (hk x (List.mem_of_getElem? hx)).grow hp.1 with ⟨z, rfl, hz⟩ | ⟨U, nU, tU⟩
      · refine ⟨rfl, .str z, rfl, _, "str", rfl, .str z, "str", "str", rfl, rfl, _, rfl, iteT ⟨.str z, rfl, .ref P0, rfl, P0, valV kvs (.inr z), rfl, DGet.k (k := .inr z) eP2, _, rfl, ?_⟩⟩
        refine ite2 (fun e => out e) fun e => on ?_
        show (valV kvs (.inr z)).isSome = true
        cases hv : (valV kvs (.inr z)).isSome with
        | true => rfl
        | false => exact absurd hv e
      · have e : wordIn kvs x = false := by
          cases tU with
          | str z => exact absurd rfl nU
          | _ => rfl
        refine ⟨rfl, x, rfl, _, U, rfl, tU, U, "str", rfl, rfl, _, rfl, ?_⟩
        rw [decide_eq_false nU]
        refine iteF ⟨false, rfl, ?_⟩
        rw [if_pos rfl]
        exact out e
    · have := hp.2
      rw [List.take_length] at this
      have qq := q H' hp.1
      rw [this] at qq
      exact qq
  · refine ⟨x, rfl, _, U, rfl, ty, U, "list", rfl, rfl, _, rfl, ?_⟩
    rw [decide_eq_false hU]
    exact iteF q
end

/-! ### is_turned_row -/
def stepOk (zs ws : List Str) (a b : Str) : Bool := decide (zs.idxOf a < zs.idxOf b) && later ws a b
def stepsOk (zs ws : List Str) : List Str → Bool
  | a :: b :: r => stepOk zs ws a b && stepsOk zs ws (b :: r)
  | _ => true
def inB (zs : List Str) : V → Bool
  | .str z => decide (z ∈ zs)
  | _ => false
def rowB (zs ws : List Str) (xs : List V) : Bool := xs.all (inB zs) && stepsOk zs ws (xs.map theStr)
theorem wordIn_inB {kvs : List (Key × V)} {zs : List Str} (h1 : ∀ z ∈ zs, (valV kvs (.inr z)).isSome = true) (h2 : ∀ z, z ∉ zs → (valV kvs (.inr z)).isSome = false) (x : V) : wordIn kvs x = inB zs x := by
  cases x with
  | str z =>
    show (valV kvs (.inr z)).isSome = decide (z ∈ zs)
    by_cases h : z ∈ zs
    · rw [h1 z h, decide_eq_true h]
    · rw [h2 z h, decide_eq_false h]
  | _ => rfl
theorem steps_zip (zs ws : List Str) : ∀ ys : List Str, ((ys.zip (ys.drop 1)).map fun p => stepOk zs ws p.1 p.2).all id = stepsOk zs ws ys
  | [] => rfl
  | [_] => rfl
  | a :: b :: r => by
    have h := steps_zip zs ws (b :: r)
    show (stepOk zs ws a b && (((b :: r).zip r).map fun p => stepOk zs ws p.1 p.2).all id) = (stepOk zs ws a b && stepsOk zs ws (b :: r))
    rw [← h]
    rfl
section
variable {P : Program} {w : World} {K : PySem.W.Frag} {mg : Str → Option Value} {base : Heap}
def spIsRow (K : PySem.W.Frag) (T1 T T3 : Addr) : Sp := fun vs H Q _ => ∃ (l m : Addr) (x : V) (zs ws : List Str), vs = [.ref l, .ref m, x] ∧ TabG H T1 ∧ TabG H T ∧ TabG H T3 ∧ SqL K H l (zs.map V.str) ∧ SqL K H m (ws.map V.str) ∧ Bk zs ∧ zs.Perm ws ∧
  ((∃ (t : Addr) (xs : List V), x = .ref t ∧ SqL K H t xs ∧ xs.length ≤ 4000 ∧ (∀ x ∈ xs, Known K H x) ∧ ∀ H', Grow [] H H' → Q (.bl (rowB zs ws xs)) H') ∨ ∃ U, U ≠ "list" ∧ TyB K H x U ∧ ∀ H', Grow [] H H' → Q (.bl false) H')
theorem ok_is_turned_row {f c T1 T T3 : Addr} {fd : FuncData} (B : Nb mg) (D : DefIs K "is_turned_row" "is_turned_row" st_is_turned_row f fd (.ref c))
    (c_check_books : Callee P w K mg base CX0 10 "check_books" ["book", "other"] (spCheck K T1 T)) (c_places_of : Callee P w K mg base CX0 4 "places_of" ["book"] (spPlaces K)) (c_are_words_of : Callee P w K mg base CX0 5 "are_words_of" ["places", "thing"] (spWordsOf K T3)) :
    FnG P w K mg base CX0 11 f fd ["book", "other", "thing"] (spIsRow K T1 T T3) := by
  refine D.ok0 (k := 10) sc_is_turned_row (fun vs H Q E h => ?_) (fun A outer s H vs Q E g hr h => ?_)
  · obtain ⟨l, m, x, zs, ws, rfl, _⟩ := h
    rfl
  obtain ⟨l, m, x, zs, ws, rfl, t1, tT, t3, hl, hm, bz, pm, h⟩ := h
  have bw := bz.perm pm
  refine ⟨_,
      (pss_cons (ps_expr (pe_g c_check_books g (hr.mono (by decide)) pass0 (pa_cons (pv 0) (pa_cons (pv 1) pa_nil))))
      (pss_cons (ps_set (i := 3) sc_is_turned_row.nd rfl (.inr rfl) (pe_g c_places_of g (hr.mono (by decide)) pass0 (pa_cons (pv 0) pa_nil)))
      (pss_cons (ps_set (i := 4) sc_is_turned_row.nd rfl (.inr rfl) (pe_g c_places_of g (hr.mono (by decide)) pass0 (pa_cons (pv 1) pa_nil)))
      (pss_cons (ps_if (pt_not (pt_val (pe_g c_are_words_of g (hr.mono (by decide)) pass0 (pa_cons (pv 3) (pa_cons (pv 2) pa_nil))))) (
        (pss_one (ps_ret pe_bl))) pss_nil)
      (pss_one (ps_ret (pe_callB (cr_all rfl) rfl B.n_all (by decide +kernel) (pa_cons (pe_lc (own := [("a", 5), ("b", 6)]) (tt := tYes) (g := (gTup _ 2 (gCons (gName 5) (gCons (gName 6) gNil)))) rfl sc_is_turned_row.nd (pi_zip rfl B.n_zip (pa_cons (pv 2) (pa_cons (pe_slice sl_list (pv 2) (po_some pe_int) po_none) pa_nil))) (blkOk_by (N := N_is_turned_row) (sc := defScope st_is_turned_row) (by decide +kernel)) (fun _ _ _ _ _ => (pg_tup rfl (pgs_cons (pg_name (i := 5) sc_is_turned_row.nd rfl (.inl rfl)) (pgs_cons (pg_name (i := 6) sc_is_turned_row.nd rfl (.inl rfl)) pgs_nil)))) (fun _ _ _ _ _ => pts_nil) (fun _ _ _ _ _ => pe_to (pe_and (pe_cmpR (op_lt) (pe_dget (hu_of hr) (pv 3) (pv 5) (fun _ _ => rfl)) (pe_dget (hu_of hr) (pv 3) (pv 6) (fun _ _ => rfl)) (nomark _)) (pe_one (pe_cmpR (op_gt) (pe_dget (hu_of hr) (pv 4) (pv 5) (fun _ _ => rfl)) (pe_dget (hu_of hr) (pv 4) (pv 6) (fun _ _ => rfl)) (nomark _)))))) pa_nil)))))))), ?_⟩
  refine ⟨.ref l, rfl, .ref m, rfl, l, m, zs, ws, rfl, t1, tT, hl, hm, bz, pm, fun H1 g1 => ?_⟩
  refine ⟨.ref l, rfl, l, zs, rfl, g1.seq0 hl, bz.nd, bz.len, fun P0 H2 kvs f0 g2 e0 h0 k0 => ?_⟩
  refine ⟨.ref m, rfl, m, ws, rfl, (g1.trans g2).seq0 hm, bw.nd, bw.len, fun P1 H3 kws f1 g3 e1 h1 _ => ?_⟩
  have g12 := g1.trans g2
  have g13 := g12.trans g3
  have e03 : H3 P0 = some (.dK kvs) := g3.keep P0 _ (by simp) e0 fun ps z => by cases z
  have wi : ∀ x, wordIn kvs x = inB zs x := wordIn_inB (fun z hz => by rw [h0 z hz]; rfl) (fun z hz => by
    rw [valV_none (by
      rw [k0]
      intro h
      obtain ⟨y, hy, e⟩ := List.mem_map.mp h
      cases e
      exact hz hy)]
    rfl)
  refine ⟨.ref P0, rfl, x, rfl, P0, x, kvs, rfl, g13.tabs _ t3, e03, ?_⟩
  rcases h with ⟨t, xs, rfl, hx, hz, hk, q⟩ | ⟨U, hU, ty, q⟩
  · refine .inl ⟨t, xs, rfl, g13.seq0 hx, fun x hx => (hk x hx).grow g13, fun H4 g4 => ?_⟩
    have ew : xs.all (wordIn kvs) = xs.all (inB zs) := by congr 1; funext x; exact wi x
    have g14 := g13.trans g4
    rw [ew]
    cases hb : xs.all (inB zs) with
    | false =>
      refine ⟨false, rfl, iteT ?_⟩
      have qq := q H4 g14
      unfold rowB at qq
      rw [hb] at qq
      exact qq
    | true =>
      refine ⟨true, rfl, iteF ?_⟩
      have ex : xs = (xs.map theStr).map V.str := strs_of (p := inB zs) (fun x hx => by
        cases x with
        | str z => exact ⟨z, rfl⟩
        | _ => cases hx) hb
      obtain ⟨ys, hys⟩ : ∃ ys, xs.map theStr = ys := ⟨_, rfl⟩
      rw [hys] at ex
      have inz : ∀ y ∈ ys, y ∈ zs := fun y hy => by
        have h1 := List.all_eq_true.mp hb (V.str y) (by rw [ex]; exact List.mem_map.mpr ⟨y, hy, rfl⟩)
        exact of_decide_eq_true h1
      have ly : xs.length = ys.length := by rw [ex, List.length_map]
      have hx4 : SqL K H4 t (ys.map V.str) := by rw [← ex]; exact g14.seq0 hx
      have e04 : H4 P0 = some (.dK kvs) := g4.keep P0 _ (by simp) e03 fun ps z => by cases z
      have e14 : H4 P1 = some (.dK kws) := g4.keep P1 _ (by simp) e1 fun ps z => by cases z
      refine ⟨.ref t, rfl, .ref t, rfl, 1, rfl, t, _, rfl, hx4, fun L nL => ?_⟩
      have ec : cutV (ys.map V.str) (some 1) none = (ys.drop 1).map V.str := by
        have := cut_lo (ys.map V.str) 1
        rw [List.map_drop]
        exact this
      rw [ec]
      have gL : Grow [] H4 (upd H4 L (.lst ((ys.drop 1).map V.str))) := grow_new nL
      refine ⟨t, L, _, _, rfl, gL.seq0 hx4, .inl (.inl upd_same), fun D1 n1 => ?_⟩
      have eL : upd H4 L (.lst ((ys.drop 1).map V.str)) L = some (.lst ((ys.drop 1).map V.str)) := upd_same
      refine lc_it (walk_zip (xs := ys.map V.str) (ys := (ys.drop 1).map V.str) (n := (ys.zip (ys.drop 1)).length) (by rw [List.length_map, List.length_map, List.length_zip])) (fun j H' => Grow [] (upd H4 L (.lst ((ys.drop 1).map V.str))) H' ∧ H' D1 = some (.lst ((((ys.zip (ys.drop 1)).take j).map fun p => stepOk zs ws p.1 p.2).map V.bl)))
        ⟨grow_new n1, upd_same⟩ (fun j H' _ h => ⟨h.1.seq0 (gL.seq0 hx4), h.1.seq0 (.inl (.inl eL))⟩) (fun j x H6 H7 hj hp hy => ?_) (fun H6 hp => ?_)
      · obtain ⟨gj, eD⟩ := hp
        obtain ⟨T0, x1, x2, rfl, nT, rfl, ea, eb⟩ := hy
        replace ea : (ys.map V.str)[j]? = some x1 := ea
        replace eb : ((ys.drop 1).map V.str)[j]? = some x2 := eb
        rw [List.getElem?_map] at ea eb
        cases ha : ys[j]? with
        | none => rw [ha] at ea; cases ea
        | some a =>
        cases hbb : (ys.drop 1)[j]? with
        | none => rw [hbb] at eb; cases eb
        | some b =>
        rw [ha] at ea
        rw [hbb] at eb
        cases ea
        cases eb
        have az := inz a (List.mem_of_getElem? ha)
        have bz' := inz b (List.mem_of_mem_drop (List.mem_of_getElem? hbb))
        have gj2 : Grow [] (upd H4 L (.lst ((ys.drop 1).map V.str))) (upd H6 T0 (.tup [.str a, .str b])) := gj.new nT
        have eD2 : upd H6 T0 (.tup [.str a, .str b]) D1 = some (.lst ((((ys.zip (ys.drop 1)).take j).map fun p => stepOk zs ws p.1 p.2).map V.bl)) := by rw [upd_ne (ne_of_none eD nT)]; exact eD
        have f0' := (gL.trans gj2).keep P0 _ (by simp) e04 fun ps z => by cases z
        have f1' := (gL.trans gj2).keep P1 _ (by simp) e14 fun ps z => by cases z
        have d0 : ∀ z ∈ zs, DGet (upd H6 T0 (.tup [.str a, .str b])) P0 (.str z) (some (.int (zs.idxOf z : Nat))) := fun z hz => by
          rw [← h0 z hz]
          exact DGet.k (k := .inr z) f0'
        have d1 : ∀ z ∈ zs, DGet (upd H6 T0 (.tup [.str a, .str b])) P1 (.str z) (some (.int (ws.idxOf z : Nat))) := fun z hz => by
          rw [← h1 z (pm.mem_iff.mp hz)]
          exact DGet.k (k := .inr z) f1'
        have tk : (ys.zip (ys.drop 1)).take (j + 1) = (ys.zip (ys.drop 1)).take j ++ [(a, b)] := by
          rw [List.take_add_one, (List.getElem?_zip_eq_some (z := (a, b))).mpr ⟨ha, hbb⟩]
          rfl
        have lenD : ((((ys.zip (ys.drop 1)).take j).map fun p => stepOk zs ws p.1 p.2).map V.bl).length < sizeLine := by
          rw [List.length_map, List.length_map, List.length_take, List.length_zip]
          unfold sizeLine
          omega
        have put : ∀ v : Bool, v = stepOk zs ws a b → ∃ acc, upd H6 T0 (.tup [.str a, .str b]) D1 = some (.lst acc) ∧ acc.length < sizeLine ∧ Grow [] (upd H4 L (.lst ((ys.drop 1).map V.str))) (upd (upd H6 T0 (.tup [.str a, .str b])) D1 (.lst (acc ++ [.bl v]))) ∧
            upd (upd H6 T0 (.tup [.str a, .str b])) D1 (.lst (acc ++ [.bl v])) D1 = some (.lst ((((ys.zip (ys.drop 1)).take (j + 1)).map fun p => stepOk zs ws p.1 p.2).map V.bl)) := fun v hv => by
          refine ⟨_, eD2, lenD, gj2.put (fresh_none n1) eD2 (fun ps z => by cases z), ?_⟩
          rw [upd_same, tk, List.map_append, List.map_append, hv]
          rfl
        refine ⟨T0, _, rfl, .inl (.inl upd_same), rfl, _, _, rfl, _, _, rfl, rfl, rfl, yes_if ?_⟩
        refine ⟨.ref P0, rfl, .str a, rfl, P0, _, rfl, d0 a az, .ref P0, rfl, .str b, rfl, P0, _, rfl, d0 b bz', _, _, rfl, rfl, _, rfl, ite2 (fun hlt => ?_) fun hlt => ?_⟩
        · refine ⟨.ref P1, rfl, .str a, rfl, P1, _, rfl, d1 a az, .ref P1, rfl, .str b, rfl, P1, _, rfl, d1 b bz', _, _, rfl, rfl, put _ ?_⟩
          have h5 := of_decide_eq_true hlt
          unfold stepOk later
          rw [decide_eq_true (by omega : zs.idxOf a < zs.idxOf b), Bool.true_and]
          exact decide_eq_decide.mpr (by omega)
        · refine put false ?_
          unfold stepOk
          rw [decide_eq_false (fun h5 => hlt (decide_eq_true (by omega))), Bool.false_and]
      · obtain ⟨gj, eD⟩ := hp
        rw [List.take_length] at eD
        dsimp only [tNil]
        refine ⟨D1, _, rfl, .inl (.inl eD), ?_⟩
        have qq := q H6 ((g14.trans gL).trans gj)
        unfold rowB at qq
        rw [hb, hys, ← steps_zip] at qq
        exact qq
  · exact .inr ⟨U, hU, ty.grow g13, false, rfl, iteT (q H3 g13)⟩
end

end Lw

namespace Lw
open PySem PySem.Spec PyProof.Rows L2 GxR Gx
/-! ### rows from either side; whole numbers in order -/
theorem lt_ext {ms ns : List Int} (h1 : ms.Pairwise (· < ·)) (h2 : ns.Pairwise (· < ·)) (h : ∀ k, k ∈ ms ↔ k ∈ ns) : ms = ns := by
  have p : ms.Perm ns := (List.perm_ext_iff_of_nodup (h1.imp fun q => Int.ne_of_lt q) (h2.imp fun q => Int.ne_of_lt q)).mpr h
  exact p.eq_of_pairwise (fun a b _ _ x y => by omega) h1 h2
theorem Fine.int {i : Int} (h : i.natAbs < 10 ^ 7) : Fine (.int i) 0 0 := by
  refine ⟨rfl, ?_, rfl, ?_, Nat.le_refl _, Nat.le_refl _⟩
  · show decide (i.natAbs.log2 < 1920) = true
    exact decide_eq_true (PySem.Flt.log2_lt_of (by decide) (Nat.lt_trans h (by decide)))
  · show decide ((PyData.shown (.int i)).length ≤ 8) = true
    refine decide_eq_true ?_
    have t7 := int_text_length_le10 (a := i) (k := 7) (by decide) h
    have e8 : (PyData.shown (.int i)).length = (toString i).length := PySem.ofString_length (toString i)
    omega
theorem dp_ints {K : PySem.W.Frag} {H : Hp} : ∀ xs : List Int, DpAll K H (xs.map V.int) (xs.map PyData.int)
  | [] => .nil
  | x :: r => .cons (.int x) (dp_ints r)
theorem fine_ints {ns : List Int} {k : Nat} (h : ∀ i ∈ ns, i.natAbs < 10 ^ 7) (hk : ns.length ≤ k) : Fine (.list (ns.map PyData.int)) 1 k := Fine.list (n := 0) (m := 0) (fun d hd => by
  obtain ⟨i, hi, rfl⟩ := List.mem_map.mp hd
  exact Fine.int (h i hi)) (by rw [List.length_map]; omega)
theorem idx_up {zs : List Str} (nd : zs.Nodup) {r : List Str} (s : r.Sublist zs) : r.Pairwise fun a b => zs.idxOf a < zs.idxOf b := by
  have all : zs.Pairwise fun a b => zs.idxOf a < zs.idxOf b := by
    rw [List.pairwise_iff_getElem]
    intro i j hi hj hij
    have e1 := idx_at nd (List.getElem?_eq_getElem hi)
    have e2 := idx_at nd (List.getElem?_eq_getElem hj)
    omega
  exact all.sublist s
theorem sub_of_idx {ws r : List Str} (nd : ws.Nodup) (m : ∀ a ∈ r, a ∈ ws) (up : r.Pairwise fun a b => ws.idxOf a < ws.idxOf b) : r.Sublist ws := by
  have rn : r.Nodup := up.imp fun q e => by rw [e] at q; exact Nat.lt_irrefl _ q
  have fs : (ws.filter fun a => decide (a ∈ r)).Sublist ws := List.filter_sublist
  have p : r.Perm (ws.filter fun a => decide (a ∈ r)) := (List.perm_ext_iff_of_nodup rn (nd.sublist fs)).mpr fun a => by
    rw [List.mem_filter, decide_eq_true_iff]
    exact ⟨fun h => ⟨m a h, h⟩, fun h => h.2⟩
  have e := p.eq_of_pairwise (le := fun a b => ws.idxOf a < ws.idxOf b) (fun a b _ _ x y => absurd x (by omega)) up (idx_up nd fs)
  rw [e]
  exact fs
theorem turned_swap {zs ws r : List Str} (nd : zs.Nodup) (pm : zs.Perm ws) (t : TurnedRow ws zs r) : TurnedRow zs ws r.reverse := by
  have nw := pm.nodup_iff.mp nd
  refine ⟨sub_of_idx nw (fun a ha => pm.mem_iff.mp (t.1.subset (List.mem_reverse.mp ha))) ?_, ?_⟩
  · rw [List.pairwise_reverse]
    exact t.2.imp fun q => of_decide_eq_true q
  · rw [List.pairwise_reverse]
    exact (idx_up nd t.1).imp fun q => decide_eq_true q
theorem top_swap {zs ws : List Str} (nd : zs.Nodup) (pm : zs.Perm ws) : topD 0 (ranksOf zs ws) = topD 0 (ranksOf ws zs) := by
  have nw := pm.nodup_iff.mp nd
  obtain ⟨r, h1, h2⟩ := row_exists (ws := ws) nd pm
  obtain ⟨q, k1, k2⟩ := row_exists (ws := zs) nw pm.symm
  have a := row_top (turned_swap nd pm h1)
  have b := row_top (turned_swap nw pm.symm k1)
  rw [List.length_reverse] at a b
  omega
theorem top_roads (ws zs : List Str) : topD 1 (ranksOf ws zs) - 1 = if topD 0 (ranksOf ws zs) - 1 > 0 then topD 0 (ranksOf ws zs) - 1 else 0 := by
  have h : topD 1 (ranksOf ws zs) = 1 ∧ topD 0 (ranksOf ws zs) = 0 ∨ topD 1 (ranksOf ws zs) = topD 0 (ranksOf ws zs) ∧ 1 ≤ topD 0 (ranksOf ws zs) := by
    unfold topD
    by_cases e : ranksOf ws zs = []
    · rw [if_pos e, if_pos e]
      exact .inl ⟨rfl, rfl⟩
    · rw [if_neg e, if_neg e]
      obtain ⟨i, h1, h2⟩ := mem_ranksOf.mp (topI_mem e)
      have := rk_pos (later ws) zs _ i h1
      exact .inr ⟨rfl, by omega⟩
  split <;> omega
theorem top_le {ws zs : List Str} (nd : zs.Nodup) (pm : zs.Perm ws) : topD 0 (ranksOf ws zs) ≤ (zs.length : Nat) := by
  obtain ⟨r, h1, h2⟩ := row_exists (ws := ws) nd pm
  have := h1.1.length_le
  omega

/-! ### lists of lists -/
/-- lists that stand at as -/
structure LL (H : Hp) (as : List Addr) (rs : List (List V)) : Prop where
  len : as.length = rs.length
  at_ : ∀ (i : Nat) (a : Addr) (r : List V), as[i]? = some a → rs[i]? = some r → H a = some (.lst r)
theorem LL.grow {ex : List Addr} {H H' : Hp} {as : List Addr} {rs : List (List V)} (h : LL H as rs) (g : Grow ex H H') (n : ∀ a ∈ as, a ∉ ex) : LL H' as rs :=
  ⟨h.len, fun i a r e q => g.lst (n a (List.mem_of_getElem? e)) (h.at_ i a r e q)⟩
theorem LL.grow0 {H H' : Hp} {as : List Addr} {rs : List (List V)} (h : LL H as rs) (g : Grow [] H H') : LL H' as rs := h.grow g fun _ _ => by simp
theorem LL.set {H : Hp} {as : List Addr} {rs : List (List V)} {j : Nat} {a : Addr} {r : List V} (h : LL H as rs) (nd : as.Nodup) (e : as[j]? = some a) : LL (upd H a (.lst r)) as (rs.set j r) := by
  refine ⟨by rw [List.length_set]; exact h.len, fun i b q e1 e2 => ?_⟩
  rw [List.getElem?_set] at e2
  by_cases hij : j = i
  · subst hij
    rw [e] at e1
    cases e1
    rw [if_pos rfl] at e2
    split at e2
    · cases e2
      exact upd_same
    · cases e2
  · rw [if_neg hij] at e2
    have ne : b ≠ a := fun z => hij ((List.getElem?_inj (List.getElem?_eq_some_iff.mp e).1 nd).mp (by rw [e, e1, z]))
    rw [upd_ne ne]
    exact h.at_ i b q e1 e2
theorem LL.push {H : Hp} {as : List Addr} {rs : List (List V)} {a : Addr} {r : List V} (h : LL H as rs) (e : H a = some (.lst r)) : LL H (as ++ [a]) (rs ++ [r]) := by
  refine ⟨by rw [List.length_append, List.length_append, h.len]; rfl, fun i b q e1 e2 => ?_⟩
  by_cases hi : i < as.length
  · rw [List.getElem?_append_left hi] at e1
    rw [List.getElem?_append_left (by rw [← h.len]; exact hi)] at e2
    exact h.at_ i b q e1 e2
  · rw [List.getElem?_append_right (by omega)] at e1
    rw [List.getElem?_append_right (by rw [← h.len]; omega), ← h.len] at e2
    have hz : i - as.length = 0 := by
      have := (List.getElem?_eq_some_iff.mp e1).1
      rw [List.length_singleton] at this
      omega
    rw [hz] at e1 e2
    cases e1
    cases e2
    exact e
theorem LL.dp {K : PySem.W.Frag} {H : Hp} : ∀ {as : List Addr} {rs : List (List Str)}, LL H as (rs.map fun r => r.map V.str) → DpAll K H (as.map V.ref) (rs.map fun r => PyData.list (r.map PyData.str))
  | [], [], _ => .nil
  | [], _ :: _, h => by have := h.len; simp at this
  | _ :: _, [], h => by have := h.len; simp at this
  | a :: as, r :: rs, h => .cons (dp_book (.inl (.inl (h.at_ 0 a _ rfl rfl)))) (LL.dp ⟨Nat.succ.inj h.len, fun i b q e1 e2 => h.at_ (i + 1) b q e1 e2⟩)

/-! ### lots -/
def rkW (ws zs : List Str) (w : Str) : Int := rkAt (later ws) zs (zs.idxOf w)
/-- of the first i words those that end a longest row of k + 1 -/
def lotAt (ws zs : List Str) (i k : Nat) : List Str := (zs.take i).filter fun w => decide (rkW ws zs w = (k : Int) + 1)
def topN (ws zs : List Str) : Nat := (topD 0 (ranksOf ws zs)).toNat
def lotsTo (ws zs : List Str) (i : Nat) : List (List Str) := (List.range (topN ws zs)).map (lotAt ws zs i)
theorem topN_eq (ws zs : List Str) : (topN ws zs : Int) = topD 0 (ranksOf ws zs) := by
  unfold topN
  have := topD_pos (ws := ws) (zs := zs)
  omega
theorem rk_top {ws zs : List Str} {i : Nat} (h : i < zs.length) : 1 ≤ rkAt (later ws) zs i ∧ rkAt (later ws) zs i ≤ (topN ws zs : Int) := by
  refine ⟨rk_pos (later ws) zs _ i h, ?_⟩
  have m := (mem_ranksOf (ws := ws) (zs := zs)).mpr ⟨i, h, rfl⟩
  have := topI_ge m
  rw [topN_eq]
  unfold topD
  rw [if_neg (fun z => by rw [z] at m; cases m)]
  exact this
theorem rkW_at {ws zs : List Str} (nd : zs.Nodup) {i : Nat} (h : i < zs.length) : rkW ws zs (zs.getD i Str.empty) = rkAt (later ws) zs i := by
  unfold rkW
  rw [← idx_at nd (getD_in h)]
theorem lots_next {ws zs : List Str} (nd : zs.Nodup) {i : Nat} (h : i < zs.length) {k : Nat} (hk : rkAt (later ws) zs i = (k : Int) + 1) :
    lotsTo ws zs (i + 1) = (lotsTo ws zs i).set k (lotAt ws zs i k ++ [zs.getD i Str.empty]) := by
  have tk : zs.take (i + 1) = zs.take i ++ [zs.getD i Str.empty] := by rw [List.take_add_one, getD_in h]; rfl
  have rw_ := rkW_at (ws := ws) nd h
  refine List.ext_getElem? fun j => ?_
  unfold lotsTo
  rw [List.getElem?_set, List.length_map, List.length_range, List.getElem?_map, List.getElem?_map]
  by_cases hj : j < topN ws zs
  · rw [List.getElem?_range hj]
    by_cases e : k = j
    · subst e
      rw [if_pos rfl, if_pos hj]
      show some (lotAt ws zs (i + 1) k) = _
      unfold lotAt
      rw [tk, List.filter_append, List.filter_cons_of_pos (by rw [rw_, hk]; exact decide_eq_true rfl), List.filter_nil]
    · rw [if_neg e]
      show some (lotAt ws zs (i + 1) j) = some (lotAt ws zs i j)
      unfold lotAt
      rw [tk, List.filter_append, List.filter_cons_of_neg (by
        rw [rw_, hk, decide_eq_true_iff]
        omega), List.filter_nil, List.append_nil]
  · have hn : (List.range (topN ws zs))[j]? = none := by
      rw [List.getElem?_eq_none_iff, List.length_range]
      omega
    rw [hn]
    by_cases e : k = j
    · rw [if_pos e, if_neg (by omega)]
      rfl
    · rw [if_neg e]
      rfl
theorem rk_all {ws zs : List Str} {k : Nat} (h1 : 1 ≤ k) : ∀ {n i : Nat}, i < zs.length → rkAt (later ws) zs i = ((k + n : Nat) : Int) → ∃ j, j < zs.length ∧ rkAt (later ws) zs j = (k : Int)
  | 0, i, hi, e => ⟨i, hi, e⟩
  | n + 1, i, hi, e => by
    obtain ⟨a, a1, _, a3⟩ := rk_down (lt := later ws) (zs := zs) (i := i) (by omega)
    exact rk_all h1 (n := n) (i := a) (by omega) (by omega)
/-- what each lot is -/
theorem lot_ok {ws zs : List Str} (nd : zs.Nodup) (pm : zs.Perm ws) {k : Nat} (hk : k < topN ws zs) : lotAt ws zs zs.length k ≠ [] ∧ (lotAt ws zs zs.length k).Sublist zs ∧ (lotAt ws zs zs.length k).Pairwise fun a b => ws.idxOf a < ws.idxOf b := by
  unfold lotAt
  rw [List.take_length]
  refine ⟨fun z => ?_, List.filter_sublist, ?_⟩
  · have ht := topN_eq ws zs
    have ne : ranksOf ws zs ≠ [] := fun e => by
      unfold topD at ht
      rw [if_pos e] at ht
      omega
    unfold topD at ht
    rw [if_neg ne] at ht
    obtain ⟨i, i1, i2⟩ := mem_ranksOf.mp (topI_mem ne)
    obtain ⟨j, j1, j2⟩ := rk_all (ws := ws) (zs := zs) (k := k + 1) (by omega) (n := topN ws zs - (k + 1)) i1 (by rw [i2, ← ht]; omega)
    have := List.filter_eq_nil_iff.mp z (zs.getD j Str.empty) (getD_mem j1)
    rw [rkW_at nd j1, j2] at this
    exact this (decide_eq_true (by omega))
  · have up := idx_up nd (List.filter_sublist (l := zs) (p := fun w => decide (rkW ws zs w = (k : Int) + 1)))
    refine (List.pairwise_iff_getElem.mpr fun i j hi hj hij => ?_)
    have u := List.pairwise_iff_getElem.mp up i j hi hj hij
    obtain ⟨m1, r1⟩ := List.mem_filter.mp (List.getElem_mem hi)
    obtain ⟨m2, r2⟩ := List.mem_filter.mp (List.getElem_mem hj)
    generalize (zs.filter fun w => decide (rkW ws zs w = (k : Int) + 1))[i] = a at *
    generalize (zs.filter fun w => decide (rkW ws zs w = (k : Int) + 1))[j] = b at *
    have r1' := of_decide_eq_true r1
    have r2' := of_decide_eq_true r2
    have l1 := List.idxOf_lt_length_of_mem m1
    have l2 := List.idxOf_lt_length_of_mem m2
    have ga : zs.getD (zs.idxOf a) Str.empty = a := by rw [List.getD_eq_getElem?_getD, List.getElem?_eq_getElem l1, List.getElem_idxOf l1]; rfl
    have gb : zs.getD (zs.idxOf b) Str.empty = b := by rw [List.getD_eq_getElem?_getD, List.getElem?_eq_getElem l2, List.getElem_idxOf l2]; rfl
    have nl : later ws a b = false := by
      cases hc : later ws a b with
      | false => rfl
      | true =>
        have := rk_up (lt := later ws) (zs := zs) u (by rw [ga, gb]; exact hc)
        unfold rkW at r1' r2'
        omega
    have ne : a ≠ b := fun z => by rw [z] at u; exact Nat.lt_irrefl _ u
    exact of_decide_eq_true (later_not (pm.mem_iff.mp m1) (pm.mem_iff.mp m2) ne nl)
theorem lots_perm {ws zs : List Str} (nd : zs.Nodup) : (lotsTo ws zs zs.length).flatten.Perm zs := by
  have fl : ∀ w, w ∈ (lotsTo ws zs zs.length).flatten ↔ w ∈ zs := fun w => by
    rw [List.mem_flatten]
    unfold lotsTo lotAt
    constructor
    · rintro ⟨r, hr, hw⟩
      obtain ⟨k, _, rfl⟩ := List.mem_map.mp hr
      rw [List.take_length] at hw
      exact (List.mem_filter.mp hw).1
    · intro hw
      have l := List.idxOf_lt_length_of_mem hw
      obtain ⟨h1, h2⟩ := rk_top (ws := ws) l
      refine ⟨_, List.mem_map.mpr ⟨(rkW ws zs w - 1).toNat, List.mem_range.mpr ?_, rfl⟩, ?_⟩
      · unfold rkW
        omega
      · rw [List.take_length]
        refine List.mem_filter.mpr ⟨hw, decide_eq_true ?_⟩
        unfold rkW
        omega
  refine (List.perm_ext_iff_of_nodup ?_ nd).mpr fl
  show List.Pairwise _ _
  rw [List.pairwise_flatten]
  constructor
  · intro r hr
    unfold lotsTo lotAt at hr
    obtain ⟨k, _, rfl⟩ := List.mem_map.mp hr
    rw [List.take_length]
    exact nd.sublist List.filter_sublist
  · unfold lotsTo
    rw [List.pairwise_map]
    refine List.pairwise_lt_range.imp fun {a b} hab x hx y hy e => ?_
    unfold lotAt at hx hy
    have h1 := of_decide_eq_true (List.mem_filter.mp hx).2
    have h2 := of_decide_eq_true (List.mem_filter.mp hy).2
    rw [e] at h1
    omega

end Lw

namespace Lw
open PySem PySem.Spec PyProof.Rows L2 GxR Gx
/-! ### fewest_lots -/
section
variable {P : Program} {w : World} {K : PySem.W.Frag} {mg : Str → Option Value} {base : Heap}
def spFewest (K : PySem.W.Frag) (T1 T : Addr) : Sp := fun vs H Q _ => ∃ (l m : Addr) (zs ws : List Str), vs = [.ref l, .ref m] ∧ TabG H T1 ∧ TabG H T ∧ SqL K H l (zs.map V.str) ∧ SqL K H m (ws.map V.str) ∧ Bk zs ∧ zs.Perm ws ∧
  ∀ (D : Addr) (H' : Hp) (as : List Addr), Fresh H D → Grow [] H H' → H' D = some (.lst (as.map V.ref)) → as.Nodup → (∀ a ∈ as, Fresh H a ∧ a ≠ D) → LL H' as ((lotsTo ws zs zs.length).map fun r => r.map V.str) → Q (.ref D) H'
theorem ok_fewest_lots {f c T1 T : Addr} {fd : FuncData} (B : Nb mg) (D : DefIs K "fewest_lots" "fewest_lots" st_fewest_lots f fd (.ref c))
    (c_check_books : Callee P w K mg base CX0 10 "check_books" ["book", "other"] (spCheck K T1 T)) (c_ranks_of : Callee P w K mg base CX0 5 "ranks_of" ["book", "other"] (spRanks K)) :
    FnG P w K mg base CX0 11 f fd ["book", "other"] (spFewest K T1 T) := by
  refine D.ok0 (k := 10) sc_fewest_lots (fun vs H Q E h => ?_) (fun A outer s H vs Q E g hr h => ?_)
  · obtain ⟨l, m, zs, ws, rfl, _⟩ := h
    rfl
  obtain ⟨l, m, zs, ws, rfl, t1, tT, hl, hm, bz, pm, q⟩ := h
  refine ⟨_,
      (pss_cons (ps_expr (pe_g c_check_books g (hr.mono (by decide)) pass0 (pa_cons (pv 0) (pa_cons (pv 1) pa_nil))))
      (pss_cons (ps_set (i := 2) sc_fewest_lots.nd rfl (.inl rfl) (pe_g c_ranks_of g (hr.mono (by decide)) pass0 (pa_cons (pv 0) (pa_cons (pv 1) pa_nil))))
      (pss_cons (ps_setLc (i := 3) (own := [("_", 4)]) (tt := tYes) (g := (gName 4)) rfl sc_fewest_lots.nd rfl rfl (sw_true rfl rfl rfl (by decide +kernel)) (pi_range1 rfl B.n_range (pa_cons (pe_maxVals rfl rfl B.n_max (pv 2)) pa_nil)) (blkOk_by (N := N_fewest_lots) (sc := defScope st_fewest_lots) (by decide +kernel)) (fun _ _ _ _ _ => (pg_name (i := 4) sc_fewest_lots.nd rfl (.inl rfl))) (fun _ _ _ _ _ => pts_nil) (fun _ _ _ _ _ => pe_to (pe_lst pa_nil)))
      (pss_cons (ps_for PassesOwn.never rfl (pi_list (pv 0)) (pg_name (i := 5) sc_fewest_lots.nd rfl (.inl rfl)) (
        (pss_one (ps_expr (pe_bm PySem.F.plainAttrs_list PySem.F.slot_list_append PySem.F.type_list_append mt_append (pe_ix ix_list (pv 3) (pe_op op_sub (pe_dget (hu_of hr) (pv 2) (pv 5) (fun _ _ => rfl)) pe_int) (fun _ _ => rfl)) (pa_cons (pv 5) pa_nil))))))
      (pss_one (ps_ret (pv 3))))))), ?_⟩
  refine ⟨.ref l, rfl, .ref m, rfl, l, m, zs, ws, rfl, t1, tT, hl, hm, bz, pm, fun H1 g1 => ?_⟩
  refine ⟨.ref l, rfl, .ref m, rfl, l, m, zs, ws, rfl, g1.seq0 hl, g1.seq0 hm, bz, pm, fun R H2 fR g2 eR => ?_⟩
  have g12 := g1.trans g2
  have ekv : (kvR (ranksTo (later ws) zs zs.length)).map Prod.snd = (ranksOf ws zs).map V.int := by
    unfold kvR ranksOf
    rw [List.map_map, List.map_map]
    rfl
  refine ⟨.ref R, rfl, R, _, ranksOf ws zs, rfl, eR, ekv, fun mx top => ?_⟩
  have et := topD_of top
  subst et
  have tl := top_le (ws := ws) bz.nd pm
  have t0 := topD_pos (ws := ws) (zs := zs)
  have bl := bz.len
  refine ⟨_, rfl, by omega, by omega, fun D1 n1 => ?_⟩
  have fD : Fresh H2 D1 := fresh_none n1
  refine lc_it walk_range (fun j H' => Grow [] H2 H' ∧ ∃ as : List Addr, as.length = j ∧ H' D1 = some (.lst (as.map V.ref)) ∧ as.Nodup ∧ ∀ a ∈ as, Fresh H2 a ∧ a ≠ D1 ∧ H' a = some (.lst [])) ⟨grow_new n1, [], rfl, upd_same, List.nodup_nil, fun a h => by cases h⟩
    (fun _ _ _ _ => trivial) (fun j x H3 H4 hj hp hy => ?_) (fun H3 hp => ?_)
  · obtain ⟨gj, as, la, eD, nd, ha⟩ := hp
    obtain ⟨rfl, rfl⟩ := hy
    refine ⟨rfl, yes_if ⟨by show 0 ≤ sizeLine; decide, fun p np => ?_⟩⟩
    have eD2 : upd H4 p (.lst []) D1 = some (.lst (as.map V.ref)) := by rw [upd_ne (ne_of_none eD np)]; exact eD
    have pD : p ≠ D1 := (ne_of_none eD np).symm
    have pa : p ∉ as := fun h => by
      have e := (ha p h).2.2
      rw [np] at e
      cases e
    refine ⟨_, eD2, by rw [List.length_map, la]; unfold sizeLine; omega, (gj.new np).put fD eD2 (fun ps z => by cases z), as ++ [p], by rw [List.length_append, la]; rfl, by rw [upd_same, List.map_append]; rfl, ?_, fun a h => ?_⟩
    · rw [List.nodup_append]
      refine ⟨nd, by simp, fun a h b hb e => ?_⟩
      rw [List.mem_singleton.mp hb] at e
      exact pa (e ▸ h)
    · rcases List.mem_append.mp h with h | h
      · obtain ⟨h1, h2, h3⟩ := ha a h
        exact ⟨h1, h2, by rw [upd_ne h2, upd_ne (ne_of_none h3 np)]; exact h3⟩
      · rw [List.mem_singleton.mp h]
        exact ⟨gj.fresh0 np, pD, by rw [upd_ne pD]; exact upd_same⟩
  · obtain ⟨g3, as, la, eD, nd, ha⟩ := hp
    have la' : as.length = topN ws zs := la
    have hL : LL H3 as ((lotsTo ws zs 0).map fun r => r.map V.str) := by
      refine ⟨by unfold lotsTo; rw [la', List.length_map, List.length_map, List.length_range], fun i a r e1 e2 => ?_⟩
      rw [(ha a (List.mem_of_getElem? e1)).2.2]
      unfold lotsTo lotAt at e2
      obtain ⟨y, hy, rfl⟩ := List.mem_map.mp (List.mem_of_getElem? e2)
      obtain ⟨k, _, rfl⟩ := List.mem_map.mp hy
      rfl
    refine ⟨.ref l, rfl, l, rfl, ⟨_, (g12.trans g3).seq0 hl⟩, ?_⟩
    refine for_it (walk_list (xs := zs.map V.str)) (fun i σ H' => ∃ a b : Option V, σ = [some (.ref l), some (.ref m), some (.ref R), some (.ref D1), a, b] ∧ Grow [] H2 H' ∧ H' D1 = some (.lst (as.map V.ref)) ∧ LL H' as ((lotsTo ws zs i).map fun r => r.map V.str))
      ⟨_, _, rfl, g3, eD, hL⟩ (fun i σ H' _ h => by
        obtain ⟨_, _, _, g, _⟩ := h
        exact (g12.trans g).seq0 hl) (fun i x σ H4 H5 hi hp hy => ?_) (fun σ H4 hp => ?_)
    · obtain ⟨a0, b0, rfl, gr, eD5, hL5⟩ := hp
      obtain ⟨rfl, ex⟩ := hy
      rw [List.length_map] at hi
      rw [List.getElem?_map, getD_in hi] at ex
      cases ex
      obtain ⟨k, hk⟩ : ∃ k : Nat, rkAt (later ws) zs i = (k : Int) + 1 := ⟨(rkAt (later ws) zs i - 1).toNat, by have := rk_top (ws := ws) hi; omega⟩
      have kt : k < topN ws zs := by have := rk_top (ws := ws) hi; omega
      have dr : DGet H5 R (.str (zs.getD i Str.empty)) (some (.int ((k : Int) + 1))) := by
        have e := gr.keep R _ (by simp) eR fun ps z => by cases z
        have e1 : valV (kvR (ranksTo (later ws) zs zs.length)) (.inr (zs.getD i Str.empty)) = some (.int ((k : Int) + 1)) := valV_some (j := i) (by
          rw [show (kvR (ranksTo (later ws) zs zs.length)).map Prod.fst = ((ranksTo (later ws) zs zs.length).map Prod.fst).map Sum.inr by unfold kvR; rw [List.map_map, List.map_map]; rfl, ranksTo_keys _ _ _ (Nat.le_refl _), List.take_length]
          exact List.pairwise_map.mpr (bz.nd.imp fun q e => q (Sum.inr.inj e))) (by unfold kvR; rw [List.getElem?_map, ranksTo_at _ _ hi, hk]; rfl)
        rw [← e1]
        exact DGet.k (k := .inr (zs.getD i Str.empty)) e
      have ea : as[k]? = some (as[k]'(by omega)) := List.getElem?_eq_getElem (by omega)
      obtain ⟨a, eqa⟩ : ∃ a, as[k]'(by omega) = a := ⟨_, rfl⟩
      rw [eqa] at ea
      have er : ((lotsTo ws zs i).map fun r => r.map V.str)[k]? = some ((lotAt ws zs i k).map V.str) := by
        unfold lotsTo
        rw [List.map_map, List.getElem?_map, List.getElem?_range kt]
        rfl
      have eA := hL5.at_ k a _ ea er
      have fa := ha a (List.mem_of_getElem? ea)
      have ll : (lotAt ws zs i k).length ≤ 200 := by
        unfold lotAt
        have h2 := List.length_filter_le (fun w => decide (rkW ws zs w = (k : Int) + 1)) (zs.take i)
        rw [List.length_take] at h2
        omega
      refine ⟨.ref D1, rfl, .ref R, rfl, .str _, rfl, R, _, rfl, dr, _, _, rfl, rfl, D1, _, _, .ref a, rfl, rfl, .inl (.inl eD5), ?_, tyl eA, .str _, rfl, a, _, _, rfl, rfl, eA, by rw [List.length_map]; unfold sizeLine; omega, ?_⟩
      · rw [Int.add_sub_cancel]
        exact atI_nat (by rw [List.getElem?_map, ea]; rfl)
      · refine ⟨_, _, rfl, gr.put fa.1 eA (fun ps z => by cases z), by rw [upd_ne fa.2.1.symm]; exact eD5, ?_⟩
        rw [lots_next bz.nd hi hk]
        have := hL5.set (r := (lotAt ws zs i k).map V.str ++ [.str (zs.getD i Str.empty)]) nd ea
        rw [List.map_set, List.map_append]
        exact this
    · obtain ⟨a0, b0, rfl, gr, eD5, hL5⟩ := hp
      rw [List.length_map] at hL5
      exact ⟨.ref D1, rfl, q D1 H4 as (g12.fresh (by simp) fD) (g12.trans gr) eD5 nd (fun a h => ⟨g12.fresh (by simp) (ha a h).1, (ha a h).2.1⟩) hL5⟩
end

end Lw

namespace Lw
open PySem PySem.Spec PyProof.Rows L2 GxR Gx
/-! ### is_lot -/
/-- the places of a word in both books -/
def spotOf (zs ws : List Str) (a : Str) : Int × Int := ((zs.idxOf a : Nat), (ws.idxOf a : Nat))
def encI (p : Int × Int) : PyData := .tuple [.int p.1, .int p.2]
theorem leI {p q : Int × Int} (h : p.1 < q.1) : PySem.W.dataLe false encI p q = true := by
  show (!(listOrd itemOrd).blt (PySem.W.keyToks (encI q)) (PySem.W.keyToks (encI p))) = true
  have e : (listOrd itemOrd).blt (PySem.W.keyToks (encI q)) (PySem.W.keyToks (encI p)) = false := by
    unfold encI
    simp only [PySem.W.keyToks, PySem.W.keyToksAll]
    refine lex_false.mpr ⟨rfl, .inr (lex_false.mpr ⟨?_, .inl ?_⟩)⟩
    · show decide (q.1 < p.1) = false
      exact decide_eq_false (by omega)
    · show decide (p.1 < q.1) = true
      exact decide_eq_true h
  rw [e]
  rfl
theorem alike_I (ps : List (Int × Int)) : PySem.W.AllAlike (ps.map encI) := PySem.W.AllAlike.of fun b b' => by simp [encI, PySem.W.alike, PySem.W.alikeAll]
theorem sortable_I (ps : List (Int × Int)) : PySem.W.Sortable (ps.map encI) := PySem.W.Sortable.tuples fun b => ⟨_, _, rfl⟩
theorem spot_inv {K : PySem.W.Frag} {H : Hp} {x : V} {p : Int × Int} (h : DpT K H x (encI p)) : ∃ r, x = .ref r ∧ H r = some (.tup [.int p.1, .int p.2]) := by
  unfold encI at h
  cases h with
  | tup e t =>
    cases t with
    | cons a t =>
      cases t with
      | cons b t =>
        cases t
        cases a
        cases b
        exact ⟨_, rfl, e⟩

theorem toks_I {a b : Int × Int} (h : PySem.W.keyToks (encI a) = PySem.W.keyToks (encI b)) : a = b := by
  unfold encI at h
  simp only [PySem.W.keyToks, PySem.W.keyToksAll] at h
  simp at h
  exact Prod.ext h.1 h.2
theorem le_anti {p q : Int × Int} (h : PySem.W.dataLe false encI p q = true) (k : PySem.W.dataLe false encI q p = true) : p = q := by
  have h1 : (listOrd itemOrd).blt (PySem.W.keyToks (encI q)) (PySem.W.keyToks (encI p)) = false := by simpa [PySem.W.dataLe, PySem.W.sortLe] using h
  have h2 : (listOrd itemOrd).blt (PySem.W.keyToks (encI p)) (PySem.W.keyToks (encI q)) = false := by simpa [PySem.W.dataLe, PySem.W.sortLe] using k
  exact toks_I ((listOrd itemOrd).total _ _ h2 h1)
theorem nm_short {z : Str} (h : isNm z = true) : z.length ≤ 8 := by
  unfold isNm at h
  rw [Bool.and_eq_true, Bool.and_eq_true, decide_eq_true_iff, decide_eq_true_iff] at h
  exact h.1.2
/-- sorted of a list of names -/
def sortI (ps : List (Int × Int)) : List (Int × Int) := ps.mergeSort (PySem.W.dataLe false encI)
theorem sortI_pw (ps : List (Int × Int)) : (sortI ps).Pairwise fun a b => PySem.W.dataLe false encI a b = true :=
  PySem.W.sort_pairwise (PySem.W.sortLe_total (listOrd itemOrd) false fun b => PySem.W.keyToks (encI b)) ps
theorem sort_I {K : PySem.W.Frag} {H : Hp} {D : Addr} {ps : List (Int × Int)} {Q : VK} (h : LstT K H D (ps.map encI)) (hl : ps.length ≤ 1000000)
    (q : ∀ p o, H p = none → LstT K (upd H p o) p ((sortI ps).map encI) → Q (.ref p) (upd H p o)) : rSortG K Prod.fst Prod.snd [.ref D] H Q := by
  obtain ⟨xs, e, t⟩ := h
  have hlen := t.length
  have m1 : (xs.zip (ps.map encI)).map Prod.fst = xs := List.map_fst_zip (Nat.le_of_eq hlen)
  have m2 : (xs.zip (ps.map encI)).map Prod.snd = ps.map encI := List.map_snd_zip (Nat.le_of_eq hlen.symm)
  refine ⟨D, xs.zip (ps.map encI), rfl, .inl (.inl (by rw [m1]; exact e)), fun b hb => ⟨(t.zip b hb).dp, ?_⟩, by rw [m2]; exact alike_I ps, by rw [m2]; exact sortable_I ps, ?_, fun p np => q p _ np ⟨_, upd_same, ?_⟩⟩
  · have := List.mem_map_of_mem (f := Prod.snd) hb
    rw [m2] at this
    obtain ⟨y, _, hy⟩ := List.mem_map.mp this
    rw [← hy]
    simp [encI, PyData.depth, PyData.depthAll]
  · rw [List.length_zip, hlen, Nat.min_self, List.length_map]
    unfold sizeLine
    omega
  · have k : ((xs.zip (ps.map encI)).mergeSort (PySem.W.dataLe false Prod.snd)).map Prod.snd = (sortI ps).map encI := by
      unfold sortI
      rw [List.map_mergeSort (f := Prod.snd) (r := PySem.W.dataLe false Prod.snd) (s := PySem.W.dataLe false id) fun a _ b _ => rfl, m2,
        ← List.map_mergeSort (f := encI) (r := PySem.W.dataLe false encI) (s := PySem.W.dataLe false id) fun a _ b _ => rfl]
    rw [← k]
    exact (dpTs_of fun b hb => t.zip b ((List.mergeSort_perm _ _).mem_iff.mp hb)).grow (grow_new (ex := []) np) (lists_none _)
theorem steps_pw {β : Type} {R : β → β → Prop} (tr : ∀ a b c, R a b → R b c → R a c) : ∀ l : List β, (∀ p ∈ l.zip (l.drop 1), R p.1 p.2) → l.Pairwise R
  | [], _ => .nil
  | [a], _ => List.pairwise_singleton _ _
  | a :: b :: l, h => by
    have ih := steps_pw tr (b :: l) fun p hp => h p (List.mem_cons_of_mem _ hp)
    have ab := h (a, b) List.mem_cons_self
    refine List.pairwise_cons.mpr ⟨fun c hc => ?_, ih⟩
    rcases List.mem_cons.mp hc with e | hc
    · rw [e]; exact ab
    · exact tr a b c ab ((List.pairwise_cons.mp ih).1 c hc)
theorem pw_steps {β : Type} {R : β → β → Prop} : ∀ l : List β, l.Pairwise R → ∀ p ∈ l.zip (l.drop 1), R p.1 p.2
  | [], _, p, hp => nomatch hp
  | [a], _, p, hp => nomatch hp
  | a :: b :: l, h, p, hp => by
    have h2 := List.pairwise_cons.mp h
    rcases List.mem_cons.mp hp with e | hp
    · rw [e]; exact h2.1 b List.mem_cons_self
    · exact pw_steps (b :: l) h2.2 p hp
theorem pw_two {β : Type} {R : β → β → Prop} {l : List β} (h : l.Pairwise R) {x y : β} (hx : x ∈ l) (hy : y ∈ l) (ne : x ≠ y) : R x y ∨ R y x := by
  obtain ⟨i, hi, ei⟩ := List.getElem_of_mem hx
  obtain ⟨j, hj, ej⟩ := List.getElem_of_mem hy
  have h2 := List.pairwise_iff_getElem.mp h
  rcases Nat.lt_trichotomy i j with c | c | c
  · have := h2 i j hi hj c
    rw [ei, ej] at this
    exact .inl this
  · subst c
    exact absurd (ei.symm.trans ej) ne
  · have := h2 j i hj hi c
    rw [ei, ej] at this
    exact .inr this
/-- no two words of a list stand the other way about in the two books -/
def noTurn (zs ws r : List Str) : Bool := r.all fun a => r.all fun b => !decide (zs.idxOf a < zs.idxOf b) || decide (ws.idxOf a < ws.idxOf b)
theorem noTurn_iff {zs ws r : List Str} : noTurn zs ws r = true ↔ ∀ a ∈ r, ∀ b ∈ r, zs.idxOf a < zs.idxOf b → ws.idxOf a < ws.idxOf b := by
  unfold noTurn
  rw [List.all_eq_true]
  refine forall_congr' fun a => forall_congr' fun _ => ?_
  rw [List.all_eq_true]
  refine forall_congr' fun b => forall_congr' fun _ => ?_
  by_cases c : zs.idxOf a < zs.idxOf b
  · simp [c]
  · simp [c]
def lotB (zs ws r : List Str) : Bool := r.all (fun a => decide (a ∈ zs)) && (decide (r ≠ []) && (decide r.Nodup && noTurn zs ws r))
theorem idx_inj {l : List Str} {a b : Str} (ha : a ∈ l) (hb : b ∈ l) (e : l.idxOf a = l.idxOf b) : a = b := by
  have h1 := List.getElem_idxOf (List.idxOf_lt_length_of_mem ha)
  have h2 := List.getElem_idxOf (List.idxOf_lt_length_of_mem hb)
  rw [← h1, ← h2]
  congr 1
theorem spots_all {zs ws r : List Str} (hr : ∀ a ∈ r, a ∈ zs) :
    (((sortI (r.map (spotOf zs ws))).zip ((sortI (r.map (spotOf zs ws))).drop 1)).map fun p => decide (p.1.2 < p.2.2)).all id = (decide r.Nodup && noTurn zs ws r) := by
  have pm : (sortI (r.map (spotOf zs ws))).Perm (r.map (spotOf zs ws)) := List.mergeSort_perm _ _
  have le := sortI_pw (r.map (spotOf zs ws))
  generalize sortI (r.map (spotOf zs ws)) = ss at pm le
  have inj : ∀ a ∈ r, ∀ b ∈ r, (spotOf zs ws a).1 = (spotOf zs ws b).1 → a = b := fun a ha b hb e => idx_inj (hr a ha) (hr b hb) (by
    have : ((zs.idxOf a : Nat) : Int) = (zs.idxOf b : Nat) := e
    omega)
  rw [Bool.eq_iff_iff, List.all_map, List.all_eq_true, Bool.and_eq_true, decide_eq_true_iff, noTurn_iff]
  constructor
  · intro h
    have pw : ss.Pairwise fun p q => p.2 < q.2 := steps_pw (fun a b c h1 h2 => by omega) ss fun p hp => of_decide_eq_true (h p hp)
    have nd : ss.Nodup := pw.imp fun h1 e => by rw [e] at h1; omega
    have ndr := pm.nodup_iff.mp nd
    refine ⟨(List.pairwise_map.mp ndr).imp fun h1 e => h1 (congrArg _ e), fun a ha b hb lt => ?_⟩
    have ma : spotOf zs ws a ∈ ss := pm.mem_iff.mpr (List.mem_map.mpr ⟨a, ha, rfl⟩)
    have mb : spotOf zs ws b ∈ ss := pm.mem_iff.mpr (List.mem_map.mpr ⟨b, hb, rfl⟩)
    have lt1 : (spotOf zs ws a).1 < (spotOf zs ws b).1 := by show ((zs.idxOf a : Nat) : Int) < (zs.idxOf b : Nat); omega
    have ne : spotOf zs ws a ≠ spotOf zs ws b := fun e => by rw [e] at lt1; omega
    rcases pw_two (List.pairwise_and_iff.mpr ⟨le, pw⟩) ma mb ne with c | c
    · have := c.2
      have : ((ws.idxOf a : Nat) : Int) < (ws.idxOf b : Nat) := this
      omega
    · exact absurd (le_anti (leI lt1) c.1) ne
  · rintro ⟨nd, nt⟩
    have nds : ss.Nodup := pm.nodup_iff.mpr (List.pairwise_map.mpr (nd.imp_of_mem fun {a b} ha hb h1 e => h1 (inj a ha b hb (congrArg Prod.fst e))))
    have pw : ss.Pairwise fun p q => p.2 < q.2 := by
      refine (List.pairwise_and_iff.mpr ⟨le, nds⟩).imp_of_mem fun {p q} hp hq hh => ?_
      obtain ⟨a, ha, rfl⟩ := List.mem_map.mp (pm.mem_iff.mp hp)
      obtain ⟨b, hb, rfl⟩ := List.mem_map.mp (pm.mem_iff.mp hq)
      rcases Nat.lt_trichotomy (zs.idxOf a) (zs.idxOf b) with c | c | c
      · have := nt a ha b hb c
        show ((ws.idxOf a : Nat) : Int) < (ws.idxOf b : Nat)
        omega
      · exact absurd (congrArg (spotOf zs ws) (idx_inj (hr a ha) (hr b hb) c)) hh.2
      · have lt1 : (spotOf zs ws b).1 < (spotOf zs ws a).1 := by show ((zs.idxOf b : Nat) : Int) < (zs.idxOf a : Nat); omega
        exact absurd (le_anti hh.1 (leI lt1)) hh.2
    intro p hp
    exact decide_eq_true (pw_steps ss pw p hp)
section
variable {P : Program} {w : World} {K : PySem.W.Frag} {mg : Str → Option Value} {base : Heap}
/-- names, so many -/
def NmL (r : List Str) : Prop := r.all isNm = true ∧ r.length ≤ 200
def spIsLot (K : PySem.W.Frag) (T3 : Addr) : Sp := fun vs H Q _ => ∃ (P0 P1 : Addr) (x : V) (kvs kws : List (Key × V)) (zs ws : List Str), vs = [.ref P0, .ref P1, x] ∧ TabG H T3 ∧ H P0 = some (.dK kvs) ∧ H P1 = some (.dK kws) ∧
  (∀ z ∈ zs, valV kvs (.inr z) = some (.int (zs.idxOf z : Nat))) ∧ (∀ z, z ∉ zs → valV kvs (.inr z) = none) ∧ (∀ z ∈ ws, valV kws (.inr z) = some (.int (ws.idxOf z : Nat))) ∧ Bk zs ∧ zs.Perm ws ∧
  ((∃ (t : Addr) (r : List Str), x = .ref t ∧ H t = some (.lst (r.map V.str)) ∧ NmL r ∧ ∀ H', Grow [] H H' → Q (.bl (lotB zs ws r)) H') ∨ ∃ U, U ≠ "list" ∧ TyB K H x U ∧ Q (.bl false) H)
theorem ok_is_lot {f c T3 : Addr} {fd : FuncData} (B : Nb mg) (D : DefIs K "is_lot" "is_lot" st_is_lot f fd (.ref c))
    (c_are_words_of : Callee P w K mg base CX0 5 "are_words_of" ["places", "thing"] (spWordsOf K T3)) : FnG P w K mg base CX0 6 f fd ["ones", "others", "thing"] (spIsLot K T3) := by
  refine D.ok0 (k := 5) sc_is_lot (fun vs H Q E h => ?_) (fun A outer s H vs Q E g hr h => ?_)
  · obtain ⟨P0, P1, x, kvs, kws, zs, ws, rfl, _⟩ := h
    rfl
  obtain ⟨P0, P1, x, kvs, kws, zs, ws, rfl, t3, e0, e1, h0, h0n, h1, bz, pm, h⟩ := h
  have bw := bz.perm pm
  refine ⟨_,
      (pss_cons (ps_if (PW.pt (pw_or (pt_not (pt_val (pe_g c_are_words_of g (hr.mono (by decide)) pass0 (pa_cons (pv 0) (pa_cons (pv 2) pa_nil))))) (pw_or1 (pt_cmpR (op_eqD hr.units) (pv 2) (pe_lst pa_nil) (nomark _))))) (
        (pss_one (ps_ret pe_bl))) pss_nil)
      (pss_cons (ps_set (i := 3) sc_is_lot.nd rfl (.inl rfl) (pe_callB (cr_sortG (val := Prod.fst) (enc := Prod.snd) hr.units) rfl B.n_sorted (by decide +kernel) (pa_cons (pe_lc (own := [("word", 4)]) (tt := tYes) (g := (gName 4)) rfl sc_is_lot.nd (pi_list (pv 2)) (blkOk_by (N := N_is_lot) (sc := defScope st_is_lot) (by decide +kernel)) (fun _ _ _ _ _ => (pg_name (i := 4) sc_is_lot.nd rfl (.inl rfl))) (fun _ _ _ _ _ => pts_nil) (fun _ _ _ _ _ => pe_to (pe_tup (pa_cons (pe_dget (hu_of hr) (pv 0) (pv 4) (fun _ _ => rfl)) (pa_cons (pe_dget (hu_of hr) (pv 1) (pv 4) (fun _ _ => rfl)) pa_nil))))) pa_nil)))
      (pss_one (ps_ret (pe_callB (cr_all rfl) rfl B.n_all (by decide +kernel) (pa_cons (pe_lc (own := [("a", 5), ("b", 6)]) (tt := tYes) (g := (gTup _ 2 (gCons (gName 5) (gCons (gName 6) gNil)))) rfl sc_is_lot.nd (pi_zip rfl B.n_zip (pa_cons (pv 3) (pa_cons (pe_slice sl_list (pv 3) (po_some pe_int) po_none) pa_nil))) (blkOk_by (N := N_is_lot) (sc := defScope st_is_lot) (by decide +kernel)) (fun _ _ _ _ _ => (pg_tup rfl (pgs_cons (pg_name (i := 5) sc_is_lot.nd rfl (.inl rfl)) (pgs_cons (pg_name (i := 6) sc_is_lot.nd rfl (.inl rfl)) pgs_nil)))) (fun _ _ _ _ _ => pts_nil) (fun _ _ _ _ _ => pe_to (pe_cmpR (op_lt) (pe_ix ix_tup (pv 5) pe_int (fun _ _ => rfl)) (pe_ix ix_tup (pv 6) pe_int (fun _ _ => rfl)) (nomark _)))) pa_nil)))))), ?_⟩
  rcases h with ⟨t, r, rfl, ht0, nr, q⟩ | ⟨U, hU, ty, q⟩
  rotate_left
  · exact ⟨.ref P0, rfl, x, rfl, P0, x, kvs, rfl, t3, e0, .inr ⟨U, hU, ty, false, rfl, iteT q⟩⟩
  have ht : SqL K H t (r.map V.str) := .inl (.inl ht0)
  have bl := nr.2
  have kn : ∀ x ∈ r.map V.str, Known K H x := fun x hx => by
    obtain ⟨y, hy, rfl⟩ := List.mem_map.mp hx
    exact .inl ⟨y, rfl, Nat.le_trans (nm_short (List.all_eq_true.mp nr.1 y hy)) (by decide)⟩
  refine ⟨.ref P0, rfl, .ref t, rfl, P0, .ref t, kvs, rfl, t3, e0, .inl ⟨t, _, rfl, ht, kn, fun H1 g1 => ?_⟩⟩
  have ew : (r.map V.str).all (wordIn kvs) = r.all fun a => decide (a ∈ zs) := by
    rw [List.all_map]
    refine List.all_congr rfl fun a => ?_
    show (valV kvs (.inr a)).isSome = decide (a ∈ zs)
    by_cases c : a ∈ zs
    · rw [h0 a c, decide_eq_true c]; rfl
    · rw [h0n a c, decide_eq_false c]; rfl
  rw [ew]
  refine ⟨_, rfl, ?_⟩
  unfold lotB at q
  cases ea : r.all fun a => decide (a ∈ zs) with
  | false =>
    rw [ea] at q
    exact iteT (iteT (q H1 g1))
  | true =>
  rw [ea] at q
  have rz : ∀ a ∈ r, a ∈ zs := fun a ha => of_decide_eq_true (List.all_eq_true.mp ea a ha)
  refine iteF ⟨.ref t, rfl, by show 0 ≤ sizeLine; decide, fun Z nZ => ?_⟩
  have g2 := g1.new (o := .lst []) nZ
  have fR := fine_names nr.1 nr.2
  refine ⟨_, _, dp_book (g2.seq0 ht), dp_book (xs := []) (.inl (.inl upd_same)), fR.shaped (by decide), rfl, ?_⟩
  have ene : PyData.eqv (.list (r.map PyData.str)) (.list (([] : List Str).map PyData.str)) = decide (r = []) := by
    cases r with
    | nil => rfl
    | cons x r => simp [PyData.eqv, PyData.eqvAll]
  rw [ene]
  refine ⟨_, rfl, ?_⟩
  by_cases c0 : r = []
  · rw [decide_eq_true c0]
    have := q _ g2
    rw [decide_eq_false (show ¬ (r ≠ []) from fun y => y c0)] at this
    exact iteT this
  rw [decide_eq_false c0]
  rw [decide_eq_true (show r ≠ [] from c0)] at q
  refine iteF ?_
  generalize hU : upd H1 Z (.lst []) = H2 at g2 ⊢
  refine ⟨.ref t, rfl, t, rfl, ⟨_, g2.seq0 ht⟩, fun D1 n1 => ?_⟩
  obtain ⟨ps, hps⟩ : ∃ ps, r.map (spotOf zs ws) = ps := ⟨_, rfl⟩
  have lps : ps.length = r.length := by rw [← hps, List.length_map]
  refine lc_it (walk_list (xs := r.map V.str)) (fun j H' => Grow [] H2 H' ∧ LstT K H' D1 ((ps.take j).map encI)) ⟨grow_new n1, [], upd_same, .nil⟩
    (fun j H' _ h => (g2.trans h.1).seq0 ht) (fun j x H3 H4 hj hp hy => ?_) (fun H3 hp => ?_)
  · obtain ⟨gj, hD⟩ := hp
    obtain ⟨rfl, ex⟩ := hy
    rw [List.length_map] at hj
    rw [List.getElem?_map, List.getElem?_eq_getElem hj] at ex
    cases ex
    obtain ⟨a, ea⟩ : ∃ a, r[j] = a := ⟨_, rfl⟩
    rw [ea]
    have az : a ∈ zs := by rw [← ea]; exact rz _ (List.getElem_mem hj)
    have f0 := (g2.trans gj).keep P0 _ (by simp) e0 fun ps z => by cases z
    have f1 := (g2.trans gj).keep P1 _ (by simp) e1 fun ps z => by cases z
    have d0 : DGet H4 P0 (.str a) (some (.int (zs.idxOf a : Nat))) := by
      rw [← h0 a az]
      exact DGet.k (k := .inr a) f0
    have d1 : DGet H4 P1 (.str a) (some (.int (ws.idxOf a : Nat))) := by
      rw [← h1 a (pm.mem_iff.mp az)]
      exact DGet.k (k := .inr a) f1
    have ep : ps[j]? = some (spotOf zs ws a) := by rw [← hps, List.getElem?_map, List.getElem?_eq_getElem hj, ea]; rfl
    have tk : ps.take (j + 1) = ps.take j ++ [spotOf zs ws a] := by rw [List.take_add_one, ep]; rfl
    refine ⟨rfl, yes_if ⟨.ref P0, rfl, .str a, rfl, P0, _, rfl, d0, .ref P1, rfl, .str a, rfl, P1, _, rfl, d1, by show 2 ≤ sizeLine; decide, fun u nu => ?_⟩⟩
    have e5 : upd H4 u (.tup [.int (zs.idxOf a : Nat), .int (ws.idxOf a : Nat)]) u = some (.tup [.int (zs.idxOf a : Nat), .int (ws.idxOf a : Nat)]) := upd_same
    obtain ⟨acc, q1, q2, q3⟩ := hD.push (grow_new nu) (DpT.tup (ds := [.int (zs.idxOf a : Nat), .int (ws.idxOf a : Nat)]) e5 (.cons (dpT_int _) (.cons (dpT_int _) .nil)))
    refine ⟨acc, q1, ?_, (gj.new nu).put (fresh_none n1) q1 (fun ps z => by cases z), ?_⟩
    · rw [q2, List.length_map, List.length_take]
      unfold sizeLine
      omega
    · rw [tk, List.map_append]
      exact q3
  · obtain ⟨g3, hD⟩ := hp
    rw [List.length_map, ← lps, List.take_length] at hD
    dsimp only [tNil]
    refine sort_I hD (by omega) fun p o np hS => ?_
    have lsi : (sortI ps).length = ps.length := List.length_mergeSort _
    obtain ⟨qs, eqs⟩ : ∃ qs, sortI ps = qs := ⟨_, rfl⟩
    rw [eqs] at hS lsi
    have g4 := (g2.trans g3).new (o := o) np
    generalize hV : upd H3 p o = H4 at g4 hS ⊢
    obtain ⟨xs, eS, tS⟩ := id hS
    have lx : xs.length = qs.length := by rw [tS.length, List.length_map]
    refine ⟨.ref p, rfl, .ref p, rfl, 1, rfl, p, _, rfl, .inl (.inl eS), fun L nL => ?_⟩
    have ec : cutV xs (some 1) none = xs.drop 1 := cut_lo xs 1
    rw [ec]
    have gL : Grow [] H4 (upd H4 L (.lst (xs.drop 1))) := grow_new nL
    have eL : upd H4 L (.lst (xs.drop 1)) L = some (.lst (xs.drop 1)) := upd_same
    have eS2 := gL.lst (by simp) eS
    refine ⟨p, L, _, _, rfl, .inl (.inl eS2), .inl (.inl eL), fun D2 n2 => ?_⟩
    refine lc_it (walk_zip (xs := xs) (ys := xs.drop 1) (n := (qs.zip (qs.drop 1)).length) (by rw [List.length_zip, List.length_drop, List.length_drop, lx])) (fun j H' => Grow [] (upd H4 L (.lst (xs.drop 1))) H' ∧ H' D2 = some (.lst ((((qs.zip (qs.drop 1)).take j).map fun p => decide (p.1.2 < p.2.2)).map V.bl)))
      ⟨grow_new n2, upd_same⟩ (fun j H' _ h => ⟨.inl (.inl (h.1.lst (by simp) eS2)), .inl (.inl (h.1.lst (by simp) eL))⟩) (fun j x H6 H7 hj hp hy => ?_) (fun H6 hp => ?_)
    · obtain ⟨gj, eD⟩ := hp
      obtain ⟨T0, x1, x2, rfl, nT, rfl, ea, eb⟩ := hy
      obtain ⟨d1, hd1, td1⟩ := tS.get ea
      replace eb : (xs.drop 1)[j]? = some x2 := eb
      rw [List.getElem?_drop] at eb
      obtain ⟨d2, hd2, td2⟩ := tS.get eb
      rw [List.getElem?_map] at hd1 hd2
      cases ep1 : qs[j]? with
      | none => rw [ep1] at hd1; cases hd1
      | some p1 =>
      cases ep2 : qs[1 + j]? with
      | none => rw [ep2] at hd2; cases hd2
      | some p2 =>
      rw [ep1] at hd1
      rw [ep2] at hd2
      cases hd1
      cases hd2
      have gT : Grow [] H4 (upd H6 T0 (.tup [x1, x2])) := (gL.trans gj).new nT
      obtain ⟨r1, rfl, hr1⟩ := spot_inv (td1.grow gT (lists_none _))
      obtain ⟨r2, rfl, hr2⟩ := spot_inv (td2.grow gT (lists_none _))
      have eD2 : upd H6 T0 (.tup [.ref r1, .ref r2]) D2 = some (.lst ((((qs.zip (qs.drop 1)).take j).map fun p => decide (p.1.2 < p.2.2)).map V.bl)) := by rw [upd_ne (ne_of_none eD nT)]; exact eD
      have tk : (qs.zip (qs.drop 1)).take (j + 1) = (qs.zip (qs.drop 1)).take j ++ [(p1, p2)] := by
        rw [List.take_add_one, (List.getElem?_zip_eq_some (z := (p1, p2))).mpr ⟨ep1, by rw [List.getElem?_drop]; exact ep2⟩]
        rfl
      refine ⟨T0, _, rfl, .inl (.inl upd_same), rfl, _, _, rfl, _, _, rfl, rfl, rfl, yes_if ?_⟩
      refine ⟨.ref r1, rfl, r1, _, 1, _, rfl, rfl, .inl (.inl hr1), rfl, .ref r2, rfl, r2, _, 1, _, rfl, rfl, .inl (.inl hr2), rfl, _, _, rfl, rfl, _, eD2, ?_, (gj.new nT).put (fresh_none n2) eD2 (fun ps z => by cases z), ?_⟩
      · rw [List.length_map, List.length_map, List.length_take, List.length_zip]
        unfold sizeLine
        omega
      · rw [upd_same, tk, List.map_append, List.map_append]
        rfl
    · obtain ⟨gj, eD⟩ := hp
      rw [List.take_length] at eD
      dsimp only [tNil]
      refine ⟨D2, _, rfl, .inl (.inl eD), ?_⟩
      have eall := spots_all (zs := zs) (ws := ws) rz
      rw [hps, eqs] at eall
      rw [eall]
      exact q _ ((g4.trans gL).trans gj)
end

end Lw

namespace Lw
open PySem PySem.Spec PyProof.Rows L2 GxR Gx
/-! ### what is no list -/
/-- what is no list and no text -/
inductive Ot (K : PySem.W.Frag) (H : Hp) : V → Prop
  | non : Ot K H .non
  | bl (b : Bool) : Ot K H (.bl b)
  | int (i : Int) (h : i.natAbs < 10) : Ot K H (.int i)
  | tup {a : Addr} {ws : List Str} (e : H a = some (.tup (ws.map V.str))) (n : NmL ws) : Ot K H (.ref a)
  | dic {a : Addr} (e : H a = some (.dK [])) : Ot K H (.ref a)
/-- no list -/
def NoL (K : PySem.W.Frag) (H : Hp) (x : V) : Prop := (∃ z, x = .str z) ∨ Ot K H x
section
variable {K : PySem.W.Frag} {H H' : Hp} {x : V}
theorem Ot.ty (h : Ot K H x) : ∃ T : String, T ≠ "list" ∧ T ≠ "str" ∧ TyB K H x T ∧ TyX K H x (.type T) ∧ PySem.W.kitOne K (.type T) (.type "list") = some false ∧ PySem.W.kitOne K (.type T) (.type "str") = some false := by
  cases h with
  | non => exact ⟨"NoneType", by decide, by decide, .non, .base .non, rfl, rfl⟩
  | bl b => exact ⟨"bool", by decide, by decide, .bl b, .base (.bl b), rfl, rfl⟩
  | int i h => exact ⟨"int", by decide, by decide, .int i, .base (.int i), rfl, rfl⟩
  | tup e n => exact ⟨"tuple", by decide, by decide, .tup (.inl (.inl e)), .base (.tup e), rfl, rfl⟩
  | dic e => exact ⟨"dict", by decide, by decide, .dK e, .base (.dK e), rfl, rfl⟩
theorem NoL.ty (h : NoL K H x) : ∃ T : String, T ≠ "list" ∧ TyB K H x T ∧ TyX K H x (.type T) ∧ PySem.W.kitOne K (.type T) (.type "list") = some false := by
  rcases h with ⟨z, rfl⟩ | h
  · exact ⟨"str", by decide, .str z, .base (.str z), rfl⟩
  · obtain ⟨T, h1, _, h2, h3, h4, _⟩ := h.ty
    exact ⟨T, h1, h2, h3, h4⟩
theorem Ot.grow0 (h : Ot K H x) (g : Grow [] H H') : Ot K H' x := by
  cases h with
  | non => exact .non
  | bl b => exact .bl b
  | int i h => exact .int i h
  | tup e n => exact .tup (g.tup (by simp) e) n
  | dic e => exact .dic (g.keep _ _ (by simp) e fun ps z => by cases z)
theorem NoL.grow0 (h : NoL K H x) (g : Grow [] H H') : NoL K H' x := h.imp id fun h => h.grow0 g
end

/-! ### is_lots -/
/-- a part of a list: a list of names, or no list -/
def LotV (K : PySem.W.Frag) (H : Hp) (x : V) : Option (List Str) → Prop
  | some r => ∃ a : Addr, x = .ref a ∧ H a = some (.lst (r.map V.str)) ∧ NmL r
  | none => NoL K H x
theorem LotV.grow0 {K : PySem.W.Frag} {H H' : Hp} {x : V} {r : Option (List Str)} (h : LotV K H x r) (g : Grow [] H H') : LotV K H' x r := by
  cases r with
  | some r =>
    obtain ⟨a, e, h1, h2⟩ := h
    exact ⟨a, e, g.lst (by simp) h1, h2⟩
  | none => exact NoL.grow0 h g
structure Lots (K : PySem.W.Frag) (H : Hp) (xs : List V) (rs : List (Option (List Str))) : Prop where
  len : xs.length = rs.length
  at_ : ∀ (i : Nat) (x : V) (r : Option (List Str)), xs[i]? = some x → rs[i]? = some r → LotV K H x r
theorem Lots.grow0 {K : PySem.W.Frag} {H H' : Hp} {xs : List V} {rs : List (Option (List Str))} (h : Lots K H xs rs) (g : Grow [] H H') : Lots K H' xs rs := ⟨h.len, fun i x r e1 e2 => (h.at_ i x r e1 e2).grow0 g⟩
theorem Lots.get {K : PySem.W.Frag} {H : Hp} {xs : List V} {rs : List (Option (List Str))} (h : Lots K H xs rs) {i : Nat} {x : V} (e : xs[i]? = some x) : ∃ r, rs[i]? = some r ∧ LotV K H x r := by
  have hi := (List.getElem?_eq_some_iff.mp e).1
  have e2 : rs[i]? = some (rs[i]'(by rw [← h.len]; exact hi)) := List.getElem?_eq_getElem _
  exact ⟨_, e2, h.at_ i x _ e e2⟩
def lotO (zs ws : List Str) : Option (List Str) → Bool
  | some r => lotB zs ws r
  | none => false
def flatO (rs : List (Option (List Str))) : List Str := rs.flatMap fun r => r.getD []
def sortN (l : List Str) : List Str := l.mergeSort (PySem.W.dataLe false PyData.str)
def lotsB (zs ws : List Str) (rs : List (Option (List Str))) : Bool := rs.all (lotO zs ws) && decide (sortN (flatO rs) = sortN zs)
theorem lot_some {zs ws : List Str} {r : Option (List Str)} (h : lotO zs ws r = true) : ∃ q, r = some q ∧ q ≠ [] ∧ ∀ a ∈ q, a ∈ zs := by
  cases r with
  | none => cases h
  | some q =>
    refine ⟨q, rfl, ?_⟩
    have h : lotB zs ws q = true := h
    unfold lotB at h
    rw [Bool.and_eq_true, Bool.and_eq_true, decide_eq_true_iff] at h
    exact ⟨h.2.1, fun a ha => of_decide_eq_true (List.all_eq_true.mp h.1 a ha)⟩
theorem flat_some {zs ws : List Str} : ∀ {rs : List (Option (List Str))}, rs.all (lotO zs ws) = true → rs.length ≤ (flatO rs).length ∧ ∀ a ∈ flatO rs, a ∈ zs
  | [], _ => ⟨Nat.le_refl _, fun a h => nomatch h⟩
  | r :: rs, h => by
    rw [List.all_cons, Bool.and_eq_true] at h
    obtain ⟨h1, h2⟩ := flat_some h.2
    obtain ⟨q, rfl, q1, q2⟩ := lot_some h.1
    have q3 : q.length ≠ 0 := fun z => q1 (List.eq_nil_of_length_eq_zero z)
    unfold flatO at h1 h2 ⊢
    rw [List.flatMap_cons, List.length_append, List.length_cons]
    refine ⟨by show rs.length + 1 ≤ q.length + _; omega, fun a ha => ?_⟩
    rcases List.mem_append.mp ha with ha | ha
    · exact q2 a ha
    · exact h2 a ha
theorem lots_long {zs ws : List Str} {rs : List (Option (List Str))} (h : zs.length < rs.length) : lotsB zs ws rs = false := by
  refine Bool.eq_false_iff.mpr fun y => ?_
  unfold lotsB at y
  rw [Bool.and_eq_true, decide_eq_true_iff] at y
  have h1 := (flat_some y.1).1
  have h2 := congrArg List.length y.2
  unfold sortN at h2
  rw [List.length_mergeSort, List.length_mergeSort] at h2
  omega
theorem eqvAll_map {α : Type} [DecidableEq α] {e : α → PyData} (h : ∀ a b, PyData.eqv (e a) (e b) = decide (a = b)) : ∀ xs ys : List α, PyData.eqvAll (xs.map e) (ys.map e) = decide (xs = ys)
  | [], [] => rfl
  | [], _ :: _ => rfl
  | _ :: _, [] => rfl
  | x :: xs, y :: ys => by
    show (PyData.eqv (e x) (e y) && PyData.eqvAll (xs.map e) (ys.map e)) = _
    rw [h, eqvAll_map h xs ys, ← Bool.decide_and]
    exact decide_eq_decide.mpr ⟨fun z => by rw [z.1, z.2], fun z => by cases z; exact ⟨rfl, rfl⟩⟩
theorem eqv_str (a b : Str) : PyData.eqv (.str a) (.str b) = decide (a = b) := by
  show (a == b) = decide (a = b)
  by_cases h : a = b
  · rw [h, decide_eq_true rfl]
    exact beq_self_eq_true b
  · rw [decide_eq_false h]
    exact beq_eq_false_iff_ne.mpr h
theorem sortN_eqv (a b : List Str) : PyData.eqv (.list (a.map PyData.str)) (.list (b.map PyData.str)) = decide (a = b) := by
  rw [PyData.eqv, eqvAll_map eqv_str]
section
variable {P : Program} {w : World} {K : PySem.W.Frag} {mg : Str → Option Value} {base : Heap}
def spIsLots (K : PySem.W.Frag) (T1 T T3 T4 : Addr) : Sp := fun vs H Q _ => ∃ (l m : Addr) (x : V) (zs ws : List Str), vs = [.ref l, .ref m, x] ∧ TabG H T1 ∧ TabG H T ∧ TabG H T3 ∧ TabG H T4 ∧ SqL K H l (zs.map V.str) ∧ SqL K H m (ws.map V.str) ∧ Bk zs ∧ zs.Perm ws ∧
  ((∃ (t : Addr) (xs : List V) (rs : List (Option (List Str))), x = .ref t ∧ H t = some (.lst xs) ∧ Lots K H xs rs ∧ ∀ H', Grow [] H H' → Q (.bl (lotsB zs ws rs)) H') ∨ ∃ U, U ≠ "list" ∧ TyB K H x U ∧ ∀ H', Grow [] H H' → Q (.bl false) H')
theorem ok_is_lots {f c T1 T T3 T4 : Addr} {fd : FuncData} (B : Nb mg) (D : DefIs K "is_lots" "is_lots" st_is_lots f fd (.ref c)) (x_is_lots : TabB base mg c T4)
    (c_check_books : Callee P w K mg base CX0 10 "check_books" ["book", "other"] (spCheck K T1 T)) (c_places_of : Callee P w K mg base CX0 4 "places_of" ["book"] (spPlaces K))
    (c_is_lot : Callee P w K mg base CX0 6 "is_lot" ["ones", "others", "thing"] (spIsLot K T3)) :
    FnG P w K mg base CX0 11 f fd ["book", "other", "thing"] (spIsLots K T1 T T3 T4) := by
  refine D.ok0 (k := 10) sc_is_lots (fun vs H Q E h => ?_) (fun A outer s H vs Q E g hr h => ?_)
  · obtain ⟨l, m, x, zs, ws, rfl, _⟩ := h
    rfl
  obtain ⟨l, m, x, zs, ws, rfl, t1, tT, t3, t4, hl, hm, bz, pm, h⟩ := h
  have bw := bz.perm pm
  refine ⟨_,
      (pss_cons (ps_expr (pe_g c_check_books g (hr.mono (by decide)) pass0 (pa_cons (pv 0) (pa_cons (pv 1) pa_nil))))
      (pss_cons (ps_if (PW.pt (pw_or (pt_cmpR (op_notTyB) (pe_callTy call_type1 rfl B.n_type (by decide +kernel) (pa_cons (pv 2) pa_nil)) (pe_bltn (v := .ty "list") rfl B.n_list (by decide +kernel) rfl) (nomark _)) (pw_or1 (pt_cmpR (op_gt) (pe_callB call_len_seq rfl B.n_len PySem.boot_len (pa_cons (pv 2) pa_nil)) (pe_callB call_len_seq rfl B.n_len PySem.boot_len (pa_cons (pv 0) pa_nil)) (nomark _))))) (
        (pss_one (ps_ret pe_bl))) pss_nil)
      (pss_cons (ps_set (i := 3) sc_is_lots.nd rfl (.inr rfl) (pe_g c_places_of g (hr.mono (by decide)) pass0 (pa_cons (pv 0) pa_nil)))
      (pss_cons (ps_set (i := 4) sc_is_lots.nd rfl (.inr rfl) (pe_g c_places_of g (hr.mono (by decide)) pass0 (pa_cons (pv 1) pa_nil)))
      (pss_cons (ps_if (pt_not (pt_val (pe_allG (own := [("lot", 5)]) hr (gx_ok (N := N_is_lots) (dsc := defScope st_is_lots) x_is_lots sc_is_lots.nd (by decide +kernel) (by decide +kernel)) rfl B.n_all (by decide +kernel) (pi_list (pv 2)) (fun _ _ _ _ _ => (pg_name (i := 5) sc_is_lots.nd rfl (.inl rfl))) (fun _ _ _ _ _ => pe_to (pe_g c_is_lot g ((room_gx hr).mono (by decide)) pass0 (pa_cons (pv 3) (pa_cons (pv 4) (pa_cons (pv 5) pa_nil)))))))) (
        (pss_one (ps_ret pe_bl))) pss_nil)
      (pss_one (ps_ret (pe_cmpR (op_eqD hr.units) (pe_callB (cr_sortG (val := V.str) (enc := PyData.str) hr.units) rfl B.n_sorted (by decide +kernel) (pa_cons (pe_lc2 (own := [("lot", 5), ("word", 6)]) (vs1 := [6]) (g := (gName 5)) (g1 := (gName 6)) (tt := tYes) (tt1 := tYes) rfl sc_is_lots.nd (pi_list (pv 2)) (blkOk_by (N := N_is_lots) (sc := defScope st_is_lots) (by decide +kernel)) (by decide) (fun _ _ _ _ _ => (pg_name (i := 5) sc_is_lots.nd rfl (.inl rfl))) (fun _ _ _ _ _ => pts_nil) (fun _ _ _ _ _ => pi_to (pi_list (pv 5))) (fun _ _ _ _ _ => (pg_name (i := 6) sc_is_lots.nd rfl (.inl rfl))) (fun _ _ _ _ _ => pts_nil) (fun _ _ _ _ _ => pe_to (pv 6))) pa_nil)) (pe_callB (cr_sortG (val := V.str) (enc := PyData.str) hr.units) rfl B.n_sorted (by decide +kernel) (pa_cons (pv 0) pa_nil)) (nomark _))))))))), ?_⟩
  have bl := bz.len
  refine ⟨.ref l, rfl, .ref m, rfl, l, m, zs, ws, rfl, t1, tT, hl, hm, bz, pm, fun H1 g1 => ?_⟩
  rcases h with ⟨t, xs, rs, rfl, et, hR, q⟩ | ⟨U, hU, ty, q⟩
  rotate_left
  · refine ⟨x, rfl, _, U, rfl, ty.grow g1, U, "list", rfl, rfl, ?_⟩
    refine ⟨_, rfl, ?_⟩
    rw [decide_eq_false hU]
    exact iteT (iteT (q H1 g1))
  have et1 := g1.lst (by simp) et
  refine ⟨.ref t, rfl, _, "list", rfl, .lst (.inl (.inl et1)), "list", "list", rfl, rfl, _, rfl, iteNS rfl ?_⟩
  refine ⟨.ref t, rfl, t, _, rfl, .inl (.inl (.inl et1)), .ref l, rfl, l, _, rfl, .inl (g1.seq0 hl), _, _, rfl, rfl, ?_⟩
  refine ⟨_, rfl, ?_⟩
  by_cases cl : zs.length < rs.length
  · have e0 := lots_long (ws := ws) cl
    rw [decide_eq_true (by rw [List.length_map, hR.len]; omega)]
    refine iteT ?_
    rw [e0] at q
    exact q H1 g1
  rw [decide_eq_false (by rw [List.length_map, hR.len]; omega)]
  refine iteF ?_
  refine ⟨.ref l, rfl, l, zs, rfl, g1.seq0 hl, bz.nd, bz.len, fun P0 H2 kvs f0 g2 e0 h0 k0 => ?_⟩
  refine ⟨.ref m, rfl, m, ws, rfl, (g1.trans g2).seq0 hm, bw.nd, bw.len, fun P1 H3 kws f1 g3 e1 h1 _ => ?_⟩
  have g13 := (g1.trans g2).trans g3
  have e03 : H3 P0 = some (.dK kvs) := g3.keep P0 _ (by simp) e0 fun ps z => by cases z
  have h0n : ∀ z, z ∉ zs → valV kvs (.inr z) = none := fun z hz => valV_none (by
    rw [k0]
    intro h
    obtain ⟨y, hy, e⟩ := List.mem_map.mp h
    cases e
    exact hz hy)
  have et3 := g13.lst (by simp) et
  have hR3 := hR.grow0 g13
  refine ⟨.ref t, rfl, t, rfl, ⟨_, .inl (.inl et3)⟩, g13.tabs _ t4, ?_⟩
  refine truth_list (xs := xs) (fun i H' => Grow [] H3 H' ∧ (rs.take i).all (lotO zs ws) = true) (fun H' tb => ⟨grow_tab (g13.tabs _ t4) tb, rfl⟩) (fun i H' hp => .inl (.inl (hp.1.lst (by simp) et3))) (fun i x H' hx hp => ?_) fun H4 hp => ?_
  · obtain ⟨gp, al⟩ := hp
    obtain ⟨r, er, hr'⟩ := (hR3.grow0 gp).get hx
    have rm := List.mem_of_getElem? er
    have out : ∀ H'', Grow [] H' H'' → lotO zs ws r = false → rs.all (lotO zs ws) = false := fun H'' _ e => List.all_eq_false.mpr ⟨r, rm, by rw [e]; exact Bool.false_ne_true⟩
    have fin : ∀ (b : Bool) (H'' : Hp), Grow [] H' H'' → b = lotO zs ws r → ∃ b', V.bl b = V.bl b' ∧ if b' = false then
        (fun v H4 => v = V.bl false ∧ rs.all (lotO zs ws) = false ∧ Grow [] H3 H4) (V.bl false) H'' else Grow [] H3 H'' ∧ (rs.take (i + 1)).all (lotO zs ws) = true := fun b H'' g'' eb => by
      refine ⟨b, rfl, ?_⟩
      cases b with
      | false =>
        rw [if_pos rfl]
        exact ⟨rfl, out H'' g'' eb.symm, gp.trans g''⟩
      | true =>
        rw [if_neg (fun z => Bool.noConfusion z)]
        refine ⟨gp.trans g'', ?_⟩
        rw [List.take_add_one, er, List.all_append, al]
        show (true && (lotO zs ws r && true)) = true
        rw [← eb]
        rfl
    have bad : rs.all (lotO zs ws) = false → lotsB zs ws rs = false := fun e => by unfold lotsB; rw [e]; rfl
    refine ⟨rfl, .ref P0, rfl, .ref P1, rfl, x, rfl, P0, P1, x, kvs, kws, zs, ws, rfl, (g13.trans gp).tabs _ t3, gp.keep P0 _ (by simp) e03 (fun ps z => by cases z), gp.keep P1 _ (by simp) e1 (fun ps z => by cases z), h0, h0n, h1, bz, pm, ?_⟩
    cases r with
    | some r =>
      obtain ⟨a, rfl, ea, nr⟩ := hr'
      refine .inl ⟨a, r, rfl, ea, nr, fun H'' g'' => ?_⟩
      obtain ⟨b', e1', h'⟩ := fin (lotB zs ws r) H'' g'' rfl
      refine ⟨b', e1', ?_⟩
      cases b' with
      | false =>
        rw [if_pos rfl] at h' ⊢
        refine ⟨false, rfl, iteT ?_⟩
        have := q _ (g13.trans h'.2.2)
        rw [bad h'.2.1] at this
        exact this
      | true =>
        rw [if_neg (fun z => Bool.noConfusion z)] at h' ⊢
        exact h'
    | none =>
      obtain ⟨U, nU, tU, _⟩ := NoL.ty hr'
      refine .inr ⟨U, nU, tU, ?_⟩
      refine ⟨false, rfl, ?_⟩
      rw [if_pos rfl]
      refine ⟨false, rfl, iteT ?_⟩
      have := q _ (g13.trans gp)
      rw [bad (out H' (Grow.refl _ _) rfl)] at this
      exact this
  · obtain ⟨g4, al⟩ := hp
    rw [hR.len, List.take_length] at al
    refine ⟨true, rfl, iteF ?_⟩
    have g14 := g13.trans g4
    have et4 := g4.lst (by simp) et3
    have hR4 := hR3.grow0 g4
    obtain ⟨fl1, fl2⟩ := flat_some al
    have fl : ∀ k, (flatO (rs.take k)).length ≤ 40000 := fun k => by
      have e : flatO rs = flatO (rs.take k) ++ flatO (rs.drop k) := by unfold flatO; rw [← List.flatMap_append, List.take_append_drop]
      have big : ∀ qs : List (Option (List Str)), (∀ r ∈ qs, ∀ q, r = some q → q.length ≤ 200) → (flatO qs).length ≤ qs.length * 200 := fun qs => by
        induction qs with
        | nil => intro _; exact Nat.zero_le _
        | cons r qs ih =>
          intro hq
          have h1 := ih fun r hr => hq r (List.mem_cons_of_mem _ hr)
          unfold flatO at h1 ⊢
          rw [List.flatMap_cons, List.length_append, List.length_cons, Nat.succ_mul]
          cases r with
          | none => show 0 + _ ≤ _; omega
          | some q =>
            have := hq _ List.mem_cons_self q rfl
            show q.length + _ ≤ _
            omega
      have h2 := big (rs.take k) fun r hr q e => by
        subst e
        obtain ⟨i, hi, ei⟩ := List.getElem_of_mem (List.mem_of_mem_take hr)
        have hx : xs[i]? = some (xs[i]'(by rw [hR.len]; exact hi)) := List.getElem?_eq_getElem _
        obtain ⟨_, _, _, nr⟩ := hR.at_ i _ (some q) hx (by rw [List.getElem?_eq_getElem hi, ei])
        exact nr.2
      have h3 := List.length_take_le' k rs
      omega
    refine ⟨.ref t, rfl, t, rfl, ⟨_, .inl (.inl et4)⟩, fun D nD => ?_⟩
    refine lc2_it (walk_list (xs := xs)) (fun i H' => Grow [] H4 H' ∧ H' D = some (.lst ((flatO (rs.take i)).map V.str))) ⟨grow_new nD, upd_same⟩ (fun i H' _ h => .inl (.inl (h.1.lst (by simp) et4))) (fun i x H5 H6 hi hp hy => ?_) (fun H5 hp => ?_)
    · obtain ⟨gj, eD⟩ := hp
      obtain ⟨rfl, ex⟩ := hy
      obtain ⟨r, er, hr'⟩ := hR4.get ex
      obtain ⟨r, rfl, _, _⟩ := lot_some (List.all_eq_true.mp al r (List.mem_of_getElem? er))
      obtain ⟨a, rfl, eA4, nr⟩ := hr'
      have tk : flatO (rs.take (i + 1)) = flatO (rs.take i) ++ r := by
        unfold flatO
        rw [List.take_add_one, er, List.flatMap_append]
        show _ ++ List.flatMap _ [some r] = _
        rw [List.flatMap_cons, List.flatMap_nil, List.append_nil]
        rfl
      have fl1 := fl (i + 1)
      rw [tk, List.length_append] at fl1
      refine ⟨rfl, yes_if ⟨.ref a, rfl, a, rfl, ⟨_, .inl (.inl (gj.lst (by simp) eA4))⟩, ?_⟩⟩
      refine in1_it (walk_list (xs := r.map V.str)) (fun j H' => Grow [] H4 H' ∧ H' D = some (.lst ((flatO (rs.take i) ++ r.take j).map V.str))) ⟨gj, by rw [List.take_zero, List.append_nil]; exact eD⟩ (fun j H' _ h => .inl (.inl (h.1.lst (by simp) eA4))) (fun j x H7 H8 hj hp hy => ?_) (fun H7 hp => ?_)
      · obtain ⟨gk, eD7⟩ := hp
        obtain ⟨rfl, ex⟩ := hy
        rw [List.length_map] at hj
        rw [List.getElem?_map, List.getElem?_eq_getElem hj] at ex
        cases ex
        refine ⟨rfl, yes_if ⟨.str _, rfl, _, eD7, ?_, gk.put (fresh_none nD) eD7 (fun ps z => by cases z), ?_⟩⟩
        · rw [List.length_map, List.length_append, List.length_take]
          unfold sizeLine
          omega
        · rw [upd_same, List.take_add_one, List.getElem?_eq_getElem hj, ← List.append_assoc, List.map_append (l₂ := (some r[j]).toList)]
          rfl
      · obtain ⟨gk, eD7⟩ := hp
        refine ⟨gk, ?_⟩
        rw [List.length_map, List.take_length] at eD7
        rw [tk]
        exact eD7
    · obtain ⟨g5, eD⟩ := hp
      rw [hR.len, List.take_length] at eD
      have g15 := g14.trans g5
      have ff := fl rs.length
      rw [List.take_length] at ff
      dsimp only [tNil]
      refine ⟨D, flatO rs, rfl, .inl (.inl eD), fun z hz => ⟨.str z, by show 0 ≤ 60; decide⟩, alike_strs _, sortable_strs _, by unfold sizeLine; omega, fun p1 n1 => ?_⟩
      have g6 := g15.new (o := .lst (((flatO rs).mergeSort (PySem.W.dataLe false PyData.str)).map V.str)) n1
      refine ⟨.ref l, rfl, l, zs, rfl, g6.seq0 hl, fun z hz => ⟨.str z, by show 0 ≤ 60; decide⟩, alike_strs zs, sortable_strs zs, by unfold sizeLine; omega, fun p2 n2 => ?_⟩
      have e1 : upd (upd H5 p1 (.lst (((flatO rs).mergeSort (PySem.W.dataLe false PyData.str)).map V.str))) p2 (.lst ((zs.mergeSort (PySem.W.dataLe false PyData.str)).map V.str)) p1 = some (.lst (((flatO rs).mergeSort (PySem.W.dataLe false PyData.str)).map V.str)) := by
        rw [upd_ne (ne_of_none upd_same n2)]
        exact upd_same
      have nmF : ∀ a ∈ flatO rs, isNm a = true := fun a ha => List.all_eq_true.mp bz.nm a (fl2 a ha)
      have shp : ∀ ys : List Str, (∀ a ∈ ys, isNm a = true) → SeqAt.shaped (.list (ys.map PyData.str)) = true := fun ys hy =>
        (Fine.list (n := 0) (m := 8) (k := (ys.map PyData.str).length * 9) (fun d hd => by
          obtain ⟨z, hz, rfl⟩ := List.mem_map.mp hd
          exact .str (nm_lt (hy z hz)) (nm_short (hy z hz))) (Nat.le_refl _)).shaped (by decide)
      refine ⟨_, _, dp_book (.inl (.inl e1)), dp_book (.inl (.inl upd_same)), shp _ (fun a ha => nmF a ((List.mergeSort_perm _ _).mem_iff.mp ha)), shp _ (fun a ha => List.all_eq_true.mp bz.nm a ((List.mergeSort_perm _ _).mem_iff.mp ha)), ?_⟩
      rw [sortN_eqv]
      have := q _ (g6.new (o := .lst ((zs.mergeSort (PySem.W.dataLe false PyData.str)).map V.str)) n2)
      unfold lotsB at this
      rw [al] at this
      exact this
end

end Lw

namespace Lw
open PySem PySem.Spec PyProof.Rows L2 GxR Gx
/-! ### things of any kind -/
/-- a part of a list: a name, a list of names, something else -/
inductive El (K : PySem.W.Frag) (H : Hp) : V → Prop
  | txt (z : Str) (h : isNm z = true) : El K H (.str z)
  | lst {a : Addr} {ws : List Str} (e : H a = some (.lst (ws.map V.str))) (n : NmL ws) : El K H (.ref a)
  | oth {x : V} (h : Ot K H x) : El K H x
inductive Th (K : PySem.W.Frag) (H : Hp) : V → Prop
  | txt (z : Str) (h : isNm z = true) : Th K H (.str z)
  | lst {a : Addr} {xs : List V} (e : H a = some (.lst xs)) (n : xs.length ≤ 60) (h : ∀ x ∈ xs, El K H x) : Th K H (.ref a)
  | oth {x : V} (h : Ot K H x) : Th K H x
section
variable {K : PySem.W.Frag} {H H' : Hp} {x : V}
theorem NmL.drop {ws : List Str} (n : NmL ws) : NmL ws.dropLast := ⟨List.all_eq_true.mpr fun x hx => List.all_eq_true.mp n.1 x (List.dropLast_subset _ hx), by rw [List.length_dropLast]; have := n.2; omega⟩
theorem El.grow0 (h : El K H x) (g : Grow [] H H') : El K H' x := by
  cases h with
  | txt z h => exact .txt z h
  | lst e n => exact .lst (g.lst (by simp) e) n
  | oth h => exact .oth (h.grow0 g)
theorem Th.grow0 (h : Th K H x) (g : Grow [] H H') : Th K H' x := by
  cases h with
  | txt z h => exact .txt z h
  | lst e n h => exact .lst (g.lst (by simp) e) n fun x hx => (h x hx).grow0 g
  | oth h => exact .oth (h.grow0 g)
/-- the last of a list is taken -/
theorem Ot.popped {b : Addr} {xs : List V} (h : Ot K H x) (e : H b = some (.lst xs)) : Ot K (upd H b (.lst xs.dropLast)) x := by
  cases h with
  | non => exact .non
  | bl b => exact .bl b
  | int i h => exact .int i h
  | tup e' n => exact .tup (by rw [upd_ne (fun z => by rw [z, e] at e'; cases e')]; exact e') n
  | dic e' => exact .dic (by rw [upd_ne (fun z => by rw [z, e] at e'; cases e')]; exact e')
theorem El.popped {b : Addr} {xs : List V} (h : El K H x) (e : H b = some (.lst xs)) : El K (upd H b (.lst xs.dropLast)) x := by
  cases h with
  | txt z h => exact .txt z h
  | @lst a ws e' n =>
    by_cases c : a = b
    · subst c
      rw [e] at e'
      cases e'
      refine .lst (ws := ws.dropLast) ?_ n.drop
      rw [upd_same, List.map_dropLast]
    · exact .lst (by rw [upd_ne c]; exact e') n
  | oth h => exact .oth (h.popped e)
theorem Th.popped {b : Addr} {xs : List V} (h : Th K H x) (e : H b = some (.lst xs)) : Th K (upd H b (.lst xs.dropLast)) x := by
  cases h with
  | txt z h => exact .txt z h
  | @lst a ys e' n h =>
    by_cases c : a = b
    · subst c
      rw [e] at e'
      cases e'
      exact .lst upd_same (by rw [List.length_dropLast]; omega) fun x hx => (h x (List.dropLast_subset _ hx)).popped e
    · exact .lst (by rw [upd_ne c]; exact e') n fun x hx => (h x hx).popped e
  | oth h => exact .oth (h.popped e)
theorem El.known (h : El K H x) : Known K H x := by
  cases h with
  | txt z h => exact .inl ⟨z, rfl, Nat.le_trans (nm_short h) (by decide)⟩
  | lst e n => exact .inr ⟨"list", by decide, .lst (.inl (.inl e))⟩
  | oth h =>
    obtain ⟨T, _, h1, h2, _⟩ := h.ty
    exact .inr ⟨T, h1, h2⟩
theorem El.lot (h : El K H x) : ∃ r, LotV K H x r := by
  cases h with
  | txt z h => exact ⟨none, .inl ⟨z, rfl⟩⟩
  | @lst a ws e n => exact ⟨some ws, a, rfl, e, n⟩
  | oth h => exact ⟨none, .inr h⟩
theorem lots_of : ∀ {xs : List V}, (∀ x ∈ xs, El K H x) → ∃ rs, Lots K H xs rs
  | [], _ => ⟨[], rfl, fun i x r h => by cases h⟩
  | x :: xs, h => by
    obtain ⟨rs, e, at_⟩ := lots_of (xs := xs) fun y hy => h y (List.mem_cons_of_mem _ hy)
    obtain ⟨r, hr⟩ := (h x List.mem_cons_self).lot
    refine ⟨r :: rs, by rw [List.length_cons, List.length_cons, e], fun i y q h1 h2 => ?_⟩
    cases i with
    | zero => cases h1; cases h2; exact hr
    | succ i => exact at_ i y q h1 h2
/-- data that can be shown: no deeper than n, no more than m -/
structure Shw (d : PyData) (n m : Nat) : Prop where
  show_ : d.showable = true
  leaves : d.leavesShort 8 = true
  deep : d.depth ≤ n
  bulk : d.bulk ≤ m
structure Shws (ds : List PyData) (n m : Nat) : Prop where
  show_ : PyData.showableAll ds = true
  leaves : PyData.leavesShortAll 8 ds = true
  deep : PyData.depthAll ds ≤ n
  bulk : PyData.bulkAll ds ≤ ds.length * (m + 1)
theorem shw_of {d : PyData} {n m : Nat} (f : Fine d n m) : Shw d n m := ⟨f.show_, f.leaves, f.deep, f.bulk⟩
theorem Shw.mono {d : PyData} {n m n' m' : Nat} (f : Shw d n m) (h1 : n ≤ n') (h2 : m ≤ m') : Shw d n' m' := ⟨f.show_, f.leaves, Nat.le_trans f.deep h1, Nat.le_trans f.bulk h2⟩
theorem shws {n m : Nat} : ∀ {ds : List PyData}, (∀ d ∈ ds, Shw d n m) → Shws ds n m
  | [], _ => ⟨rfl, rfl, Nat.zero_le _, by simp [PyData.bulkAll]⟩
  | d :: r, h => by
    have h1 := h d List.mem_cons_self
    have h2 := shws (ds := r) fun d q => h d (List.mem_cons_of_mem _ q)
    refine ⟨?_, ?_, ?_, ?_⟩
    · rw [PyData.showableAll, h1.show_, h2.show_]; rfl
    · rw [PyData.leavesShortAll, h1.leaves, h2.leaves]; rfl
    · rw [PyData.depthAll]
      exact Nat.max_le.mpr ⟨h1.deep, h2.deep⟩
    · rw [PyData.bulkAll, List.length_cons, Nat.succ_mul]
      have := h1.bulk
      have := h2.bulk
      omega
theorem Shw.list {n m k : Nat} {ds : List PyData} (h : ∀ d ∈ ds, Shw d n m) (hk : ds.length * (m + 1) ≤ k) : Shw (.list ds) (n + 1) k := by
  have f := shws h
  exact ⟨by rw [PyData.showable]; exact f.show_, by rw [PyData.leavesShort]; exact f.leaves, by rw [PyData.depth]; exact Nat.succ_le_succ f.deep, by rw [PyData.bulk]; exact Nat.le_trans f.bulk hk⟩
theorem dpT0_strs {K : PySem.W.Frag} {H : Hp} {a : Addr} {ws : List Str} (e : H a = some (.tup (ws.map V.str))) : Dp K H (.ref a) (.tuple (ws.map PyData.str)) := .tup (.inl (.inl e)) (dp_strs ws)
theorem no_dictN (zs : List Str) : PyData.hasDictAll (zs.map PyData.str) = false := by
  induction zs with
  | nil => rfl
  | cons z r ih =>
    rw [List.map_cons, PyData.hasDictAll, ih]
    rfl
theorem names_shw {zs : List Str} (h : NmL zs) : Shw (.list (zs.map PyData.str)) 1 1800 := shw_of (fine_names h.1 h.2)
theorem names_shwT {zs : List Str} (h : NmL zs) : Shw (.tuple (zs.map PyData.str)) 1 1800 := by
  have f := fine_names h.1 h.2
  have h1 := f.show_
  have h2 := f.leaves
  have h3 := f.deep
  have h4 := f.bulk
  rw [PyData.showable] at h1
  rw [PyData.leavesShort] at h2
  rw [PyData.depth] at h3
  rw [PyData.bulk] at h4
  exact ⟨by rw [PyData.showable]; exact h1, by rw [PyData.leavesShort]; exact h2, by rw [PyData.depth]; exact h3, by rw [PyData.bulk]; exact h4⟩
theorem Ot.dn (h : Ot K H x) : ∃ d, Dn K H x d ∧ Shw d 1 1800 := by
  cases h with
  | non => exact ⟨_, .d (.p .non rfl), by decide, by decide, by decide, by decide⟩
  | bl b => exact ⟨_, .d (.p (.bl b) rfl), by cases b <;> decide, by cases b <;> decide, by cases b <;> decide, by cases b <;> decide⟩
  | int i h => exact ⟨_, .d (.p (.int i) rfl), (shw_of (Fine.int (Nat.lt_trans h (by decide)))).mono (by decide) (by decide)⟩
  | @tup a ws e n => exact ⟨_, .d (.p (dpT0_strs e) (by rw [PyData.hasDict]; exact no_dictN ws)), names_shwT n⟩
  | dic e => exact ⟨_, .d (.k e .nil), by decide, by decide, by decide, by decide⟩
theorem El.dn (h : El K H x) : ∃ d, Dn K H x d ∧ Shw d 1 1800 := by
  cases h with
  | txt z h => exact ⟨_, .d (.p (.str z) rfl), (shw_of (Fine.str (nm_lt h) (nm_short h))).mono (by decide) (by decide)⟩
  | @lst a ws e n => exact ⟨_, .d (.p (dp_book (.inl (.inl e))) (by rw [PyData.hasDict]; exact no_dictN ws)), names_shw n⟩
  | oth h => exact h.dn
theorem els_dn : ∀ {xs : List V}, (∀ x ∈ xs, El K H x) → ∃ ds, Dns K H xs ds ∧ ds.length = xs.length ∧ ∀ d ∈ ds, Shw d 1 1800
  | [], _ => ⟨[], .nil, rfl, fun d h => nomatch h⟩
  | x :: xs, h => by
    obtain ⟨ds, h1, h2, h3⟩ := els_dn (xs := xs) fun y hy => h y (List.mem_cons_of_mem _ hy)
    obtain ⟨d, k1, k2⟩ := (h x List.mem_cons_self).dn
    refine ⟨d :: ds, .cons k1 h1, by rw [List.length_cons, List.length_cons, h2], fun e he => ?_⟩
    rcases List.mem_cons.mp he with q | he
    · rw [q]; exact k2
    · exact h3 e he
theorem Th.dn (h : Th K H x) : ∃ d, Dn K H x d ∧ Shw d 2 108060 := by
  cases h with
  | txt z h => exact ⟨_, .d (.p (.str z) rfl), (shw_of (Fine.str (nm_lt h) (nm_short h))).mono (by decide) (by decide)⟩
  | lst e n h =>
    obtain ⟨ds, h1, h2, h3⟩ := els_dn h
    exact ⟨_, .l e h1, Shw.list h3 (by omega)⟩
  | oth h =>
    obtain ⟨d, h1, h2⟩ := h.dn
    exact ⟨d, h1, h2.mono (by decide) (by decide)⟩
theorem kvd_grow {kvs : List (Key × V)} {ps : List (Str × PyData)} (h : KvD K H kvs ps) (g : Grow [] H H') : KvD K H' kvs ps := by
  induction h with
  | nil => exact .nil
  | cons h1 h2 _ ih => exact .cons (Dp.grow g h1) h2 ih
theorem di_grow {d : PyData} (h : Di K H x d) (g : Grow [] H H') : Di K H' x d := by
  cases h with
  | p h1 h2 => exact .p (Dp.grow g h1) h2
  | k e h => exact .k (g.keep _ _ (by simp) e fun ps z => by cases z) (kvd_grow h g)
mutual
theorem dn_grow (g : Grow [] H H') : ∀ {x : V} {d : PyData}, Dn K H x d → Dn K H' x d
  | _, _, .d h => .d (di_grow h g)
  | _, _, .l e h => .l (g.lst (by simp) e) (dns_grow g h)
theorem dns_grow (g : Grow [] H H') : ∀ {xs : List V} {ds : List PyData}, Dns K H xs ds → Dns K H' xs ds
  | _, _, .nil => .nil
  | _, _, .cons h t => .cons (dn_grow g h) (dns_grow g t)
end
end

end Lw

namespace Lw
open PySem PySem.Spec PyProof.Rows L2 GxR Gx
section
variable {P : Program} {w : World} {K : PySem.W.Frag} {mg : Str → Option Value} {base : Heap}
/-! ### _law_is_words -/
def isW (zs : List Str) (xs : List V) : Bool := xs.all (inB zs) && decide (xs.map theStr).Nodup
def spIsW (K : PySem.W.Frag) : Sp := fun vs H Q _ => ∃ (l : Addr) (x : V) (zs : List Str), vs = [.ref l, x] ∧ H l = some (.lst (zs.map V.str)) ∧ Bk zs ∧
  ((∃ (t : Addr) (xs : List V), x = .ref t ∧ H t = some (.lst xs) ∧ xs.length ≤ 200 ∧ (∀ y ∈ xs, El K H y) ∧ ∀ H', Grow [] H H' → Q (.bl (isW zs xs)) H') ∨ (NoL K H x ∧ ∀ H', Grow [] H H' → Q (.bl false) H'))
theorem in_strs (x : Str) (zs : List Str) : inV (.str x) (zs.map V.str) = decide (x ∈ zs) := by
  induction zs with
  | nil => rfl
  | cons y zs ih =>
    unfold inV at ih ⊢
    rw [List.map_cons, List.any_cons, ih]
    show (decide (y = x) || decide (x ∈ zs)) = _
    by_cases c : y = x
    · simp [c]
    · simp [c, Ne.symm c]
theorem flat_strs (zs : List Str) : (zs.map V.str).all flatV = true := by
  rw [List.all_map]
  exact List.all_eq_true.mpr fun _ _ => rfl
theorem ok_law_is_words {f c : Addr} {fd : FuncData} (B : Nb mg) (D : DefIs K "_law_is_words" "_law_is_words" st_law_is_words f fd (.ref c)) : FnG P w K mg base CX0 3 f fd ["book", "thing"] (spIsW K) := by
  refine D.ok0 (k := 2) sc_law_is_words (fun vs H Q E h => ?_) (fun A outer s H vs Q E g hr h => ?_)
  · obtain ⟨l, x, zs, rfl, _⟩ := h
    rfl
  obtain ⟨l, x, zs, rfl, hl, bz, h⟩ := h
  refine ⟨_,
      (pss_cons (ps_if (pt_not (pt_val (pe_callB call_isi rfl B.n_isinstance (by decide +kernel) (pa_cons (pv 1) (pa_cons (pe_bltn (v := .ty "list") rfl B.n_list (by decide +kernel) rfl) pa_nil))))) (
        (pss_one (ps_ret pe_bl))) pss_nil)
      (pss_cons (ps_if (pt_cmpR (op_neE hr.units) (pe_lc (own := [("one", 2)]) (g := (gName 2)) rfl sc_law_is_words.nd (pi_list (pv 1)) (blkOk_by (N := N_law_is_words) (sc := defScope st_law_is_words) (by decide +kernel)) (fun _ _ _ _ _ => (pg_name (i := 2) sc_law_is_words.nd rfl (.inl rfl))) (fun _ _ _ _ _ => pts_to (pts_one (PW.pt (pw_or (pt_not (pt_val (pe_callB call_isi rfl B.n_isinstance (by decide +kernel) (pa_cons (pv 2) (pa_cons (pe_bltn (v := .ty "str") rfl B.n_str (by decide +kernel) rfl) pa_nil))))) (pw_or1 (pt_cmpR (op_notIn_seq) (pv 2) (pv 0) rfl)))))) (fun _ _ _ _ _ => pe_to (pv 2))) (pe_lst pa_nil) (nomark _)) (
        (pss_one (ps_ret pe_bl))) pss_nil)
      (pss_one (ps_ret (pe_cmpR (op_eq) (pe_lenSetS rfl B.n_len rfl B.n_set hr.hd (pv 1)) (pe_callB call_len_seq rfl B.n_len PySem.boot_len (pa_cons (pv 1) pa_nil)) (nomark _)))))), ?_⟩
  rcases h with ⟨t, xs, rfl, ht, lx, els, q⟩ | ⟨no, q⟩
  rotate_left
  · obtain ⟨T, _, _, ty, kit⟩ := no.ty
    exact ⟨x, rfl, x, .ty "list", .type T, .type "list", false, rfl, .ty "list", ty, kit, false, rfl, iteT (q H (Grow.refl _ _))⟩
  refine ⟨.ref t, rfl, .ref t, .ty "list", .type "list", .type "list", true, rfl, .ty "list", .base (.lst ht), rfl, true, rfl, iteF ?_⟩
  refine ⟨.ref t, rfl, t, rfl, ⟨_, .inl (.inl ht)⟩, fun D1 nD => ?_⟩
  refine lc_filt (walk_list (xs := xs)) xs (fun x => !inB zs x) (fun x => x) nD rfl (by omega) (fun H' g => .inl (.inl (g.lst (by simp) ht))) (fun i z x Ha Hb Pu Pn ez ga hy ku kn => ?_) (fun H2 g2 e2 => ?_)
  · obtain ⟨rfl, ex⟩ := hy
    rw [ez] at ex
    cases ex
    have hz := (els z (List.mem_of_getElem? ez)).grow0 ga
    have bad : inB zs z = false → (!inB zs z) = true := fun e => by rw [e]; rfl
    cases hz with
    | txt y hy =>
      refine ⟨rfl, .str y, rfl, .str y, .ty "str", .type "str", .type "str", true, rfl, .ty "str", .base (.str y), rfl, true, rfl, iteF ?_⟩
      refine ⟨.str y, rfl, .ref l, rfl, l, zs.map V.str, rfl, .inl (.inl (.inl (ga.lst (by simp) hl))), rfl, flat_strs zs, ?_⟩
      refine ⟨_, rfl, ?_⟩
      rw [in_strs]
      by_cases c : y ∈ zs
      · rw [show (if true = true then !decide (y ∈ zs) else decide (y ∈ zs)) = false by rw [decide_eq_true c]; rfl]
        refine iteF ?_
        exact kn _ (Grow.refl _ _) (by show (!decide (y ∈ zs)) = false; rw [decide_eq_true c]; rfl)
      · rw [show (if true = true then !decide (y ∈ zs) else decide (y ∈ zs)) = true by rw [decide_eq_false c]; rfl]
        refine iteT ?_
        exact ⟨.str y, rfl, ku _ (Grow.refl _ _) (by show (!decide (y ∈ zs)) = true; rw [decide_eq_false c]; rfl)⟩
    | @lst a ws e n =>
      exact ⟨rfl, .ref a, rfl, .ref a, .ty "str", .type "list", .type "str", false, rfl, .ty "str", .base (.lst e), rfl, false, rfl, iteT (iteT ⟨.ref a, rfl, ku _ (Grow.refl _ _) rfl⟩)⟩
    | oth h =>
      obtain ⟨T, _, nS, _, ty, _, kit⟩ := h.ty
      have eb : inB zs z = false := by cases h <;> rfl
      exact ⟨rfl, z, rfl, z, .ty "str", .type T, .type "str", false, rfl, .ty "str", ty, kit, false, rfl, iteT (iteT ⟨z, rfl, ku _ (Grow.refl _ _) (bad eb)⟩)⟩
  · refine ⟨by show 0 ≤ sizeLine; decide, fun E0 nE => ?_⟩
    have gE : Grow [] H2 (upd H2 E0 (.lst [])) := grow_new nE
    have eE : upd H2 E0 (.lst []) E0 = some (.lst ([] : List V)) := upd_same
    generalize upd H2 E0 (.lst []) = H3 at gE eE ⊢
    rw [List.map_id'] at e2
    have g3 := g2.trans gE
    refine ⟨D1, E0, _, rfl, rfl, gE.lst (by simp) e2, eE, _, rfl, ?_⟩
    have e0 : decide (xs.filter (fun x => !inB zs x) = []) = xs.all (inB zs) := by
      rw [Bool.eq_iff_iff, decide_eq_true_iff, List.filter_eq_nil_iff, List.all_eq_true]
      refine forall_congr' fun x => forall_congr' fun _ => ?_
      cases inB zs x <;> simp
    rw [e0]
    unfold isW at q
    cases ea : xs.all (inB zs) with
    | false =>
      rw [ea] at q
      exact iteT (q H3 g3)
    | true =>
      rw [ea] at q
      refine iteF ?_
      have ex : xs = (xs.map theStr).map V.str := strs_of (p := inB zs) (fun x hx => by
        cases x with
        | str z => exact ⟨z, rfl⟩
        | _ => cases hx) ea
      have ht3 := g3.lst (by simp) ht
      obtain ⟨ys, eys⟩ : ∃ ys, xs.map theStr = ys := ⟨_, rfl⟩
      rw [eys] at ex q
      have ly : xs.length = ys.length := by rw [← eys, List.length_map]
      have ht4 : H3 t = some (.lst (ys.map V.str)) := by rw [← ex]; exact ht3
      refine ⟨.ref t, rfl, t, ys, rfl, .inl (.inl ht4), by omega, .ref t, rfl, t, _, rfl, .inl (.inl (.inl ht4)), rfl, ?_⟩
      rw [List.length_map]
      have e5 : decide (V.int (((uq [] ys).length : Nat) : Int) = V.int ((ys.length : Nat) : Int)) = decide ys.Nodup := by
        rw [← uq_same ys]
        exact decide_eq_decide.mpr ⟨fun z => V.int.inj z, fun z => by rw [z]⟩
      rw [e5]
      exact q H3 g3
end

end Lw

namespace Lw
open PySem PySem.Spec PyProof.Rows L2 GxR Gx
section
/-! ### _law_due -/
theorem seq_cut {S T : TS} {D : Ends} {σ : L2.St} {H : Hp} (J : L2.St → Hp → Prop) (k : ∀ σ' H', J σ' H' → T D σ' H') (h : ∀ R : L2.St → Hp → Prop, (∀ σ' H', J σ' H' → R σ' H') → S { D with nx := R } σ H) : tSeq S T D σ H := h _ k
theorem if_cut {T : TT} {A B : TS} {D : Ends} {σ : L2.St} {H : Hp} (Pa Pb : Hp → Prop) (ha : ∀ H', Pa H' → A D σ H') (hb : ∀ H', Pb H' → B D σ H') (h : ∀ RA RB : Hp → Prop, (∀ H', Pa H' → RA H') → (∀ H', Pb H' → RB H') → T σ H fun b H1 => if b = true then RA H1 else RB H1) : tIfS T A B D σ H := h (A D σ) (B D σ) ha hb
theorem fine_pair {p : Str × Str} (h1 : isNm p.1 = true) (h2 : isNm p.2 = true) : Fine (encP p) 1 18 := Fine.tuple (n := 0) (m := 8) (fun d hd => by
  rcases List.mem_cons.mp hd with rfl | hd
  · exact fine_name h1
  · rw [List.mem_singleton.mp hd]
    exact fine_name h2) (Nat.le_refl _)
theorem eqv_pair (a b : Str × Str) : PyData.eqv (encP a) (encP b) = decide (a = b) := by
  unfold encP
  rw [PyData.eqv]
  show PyData.eqvAll ([a.1, a.2].map PyData.str) ([b.1, b.2].map PyData.str) = _
  rw [eqvAll_map eqv_str]
  refine decide_eq_decide.mpr ⟨fun h => ?_, fun h => by rw [h]⟩
  injection h with h1 h2
  injection h2 with h2 _
  exact Prod.ext h1 h2
theorem any_pair (ps : List (Str × Str)) (p : Str × Str) : ((ps.map encP).any fun z => PyData.eqv z (encP p)) = decide (p ∈ ps) := by
  induction ps with
  | nil => rfl
  | cons x ps ih =>
    rw [List.map_cons, List.any_cons, ih, eqv_pair]
    by_cases c : x = p
    · simp [c]
    · simp [c, Ne.symm c]
theorem eqv_none (l : List PyData) : PyData.eqv (.list l) (.list (([] : List Str).map PyData.str)) = decide (l = []) := by
  cases l with
  | nil => rfl
  | cons x r => simp [PyData.eqv, PyData.eqvAll]
variable {zs ws : List Str}
/-- the first i words of a list, each as a turned row has it before all behind it -/
def rowsUp (zs ws ys : List Str) (i : Nat) : Bool := (List.range i).all fun j => (ys.drop (j + 1)).all fun b => stepOk zs ws (ys.getD j Str.empty) b
theorem up_pw (f : Str → Str → Bool) : ∀ ys : List Str, ((List.range ys.length).all fun j => (ys.drop (j + 1)).all (f (ys.getD j Str.empty))) = true ↔ ys.Pairwise fun a b => f a b = true
  | [] => ⟨fun _ => .nil, fun _ => rfl⟩
  | y :: ys => by
    have ih := up_pw f ys
    rw [List.length_cons, List.range_succ_eq_map, List.all_cons, Bool.and_eq_true, List.all_map, List.pairwise_cons]
    refine and_congr ?_ ?_
    · show (ys.all (f y)) = true ↔ _
      rw [List.all_eq_true]
    · exact ih
theorem step_tr {a b c : Str} (h : stepOk zs ws a b = true) (k : stepOk zs ws b c = true) : stepOk zs ws a c = true := by
  unfold stepOk later at *
  rw [Bool.and_eq_true, decide_eq_true_iff, decide_eq_true_iff] at *
  omega
theorem rows_all (ys : List Str) : (decide ys.Nodup && rowsUp zs ws ys ys.length) = stepsOk zs ws ys := by
  rw [← steps_zip, Bool.eq_iff_iff, Bool.and_eq_true, decide_eq_true_iff, List.all_map, List.all_eq_true]
  unfold rowsUp
  rw [up_pw (stepOk zs ws) ys]
  constructor
  · rintro ⟨_, pw⟩ p hp
    exact pw_steps ys pw p hp
  · intro h
    have pw := steps_pw (R := fun a b => stepOk zs ws a b = true) (fun a b c => step_tr) ys fun p hp => h p hp
    refine ⟨pw.imp fun {a b} h1 e => ?_, pw⟩
    unfold stepOk at h1
    rw [Bool.and_eq_true, decide_eq_true_iff, e] at h1
    exact Nat.lt_irrefl _ h1.1
theorem rowsUp_succ {ys : List Str} {i : Nat} : rowsUp zs ws ys (i + 1) = (rowsUp zs ws ys i && (ys.drop (i + 1)).all fun b => stepOk zs ws (ys.getD i Str.empty) b) := by
  unfold rowsUp
  rw [List.range_succ, List.all_append]
  simp
theorem idx_ne' {l : List Str} {a b : Str} (ha : a ∈ l) (hb : b ∈ l) (ne : a ≠ b) : l.idxOf a ≠ l.idxOf b := fun e => ne (idx_inj ha hb e)
def lotW (zs : List Str) : Option (List Str) → Bool
  | some r => isW zs (r.map V.str) && decide (r ≠ [])
  | none => false
theorem inB_strs (zs r : List Str) : (r.map V.str).all (inB zs) = r.all fun a => decide (a ∈ zs) := by
  rw [List.all_map]
  rfl
theorem the_strs (r : List Str) : (r.map V.str).map theStr = r := by
  rw [List.map_map]
  exact List.map_id _
theorem lotO_split (r : Option (List Str)) : lotO zs ws r = (lotW zs r && noTurn zs ws (r.getD [])) := by
  cases r with
  | none => rfl
  | some r =>
    show lotB zs ws r = (isW zs (r.map V.str) && decide (r ≠ []) && noTurn zs ws r)
    unfold lotB isW
    rw [inB_strs, the_strs]
    cases r.all fun a => decide (a ∈ zs) <;> cases decide (r ≠ []) <;> cases decide r.Nodup <;> cases noTurn zs ws r <;> rfl
theorem lotsB_split (rs : List (Option (List Str))) : lotsB zs ws rs = (rs.all (lotW zs) && (rs.all (fun r => noTurn zs ws (r.getD [])) && decide (sortN (flatO rs) = sortN zs))) := by
  unfold lotsB
  have : rs.all (lotO zs ws) = (rs.all (lotW zs) && rs.all fun r => noTurn zs ws (r.getD [])) := by
    induction rs with
    | nil => rfl
    | cons r rs ih =>
      rw [List.all_cons, List.all_cons, List.all_cons, ih, lotO_split]
      cases lotW zs r <;> cases noTurn zs ws (r.getD []) <;> cases rs.all (lotW zs) <;> rfl
  rw [this, Bool.and_assoc]
theorem lotW_some {r : Option (List Str)} (h : lotW zs r = true) : ∃ q, r = some q ∧ ∀ a ∈ q, a ∈ zs := by
  cases r with
  | none => cases h
  | some q =>
    have h : (isW zs (q.map V.str) && decide (q ≠ [])) = true := h
    unfold isW at h
    rw [inB_strs, Bool.and_eq_true, Bool.and_eq_true] at h
    exact ⟨q, rfl, fun a ha => of_decide_eq_true (List.all_eq_true.mp h.1.1 a ha)⟩
theorem turn_pairs (bz : Bk zs) (pm : zs.Perm ws) {r : List Str} (hr : ∀ a ∈ r, a ∈ zs) :
    noTurn zs ws r = decide (∀ p ∈ prsTo (later ws) zs zs.length, ¬ (p.1 ∈ r ∧ p.2 ∈ r)) := by
  rw [Bool.eq_iff_iff, noTurn_iff, decide_eq_true_iff]
  constructor
  · rintro h ⟨a, b⟩ hp ⟨ha, hb⟩
    obtain ⟨_, _, h1, h2⟩ := (mem_prs bz.nd).mp hp
    have := h a ha b hb h1
    omega
  · intro h a ha b hb lt
    have hw := idx_ne' (pm.mem_iff.mp (hr a ha)) (pm.mem_iff.mp (hr b hb)) (fun e => by rw [e] at lt; omega)
    rcases Nat.lt_or_gt_of_ne hw with c | c
    · exact c
    · exact absurd ⟨ha, hb⟩ (h (a, b) ((mem_prs bz.nd).mpr ⟨hr a ha, hr b hb, lt, c⟩))
end
section
variable {P : Program} {w : World} {K : PySem.W.Frag} {mg : Str → Option Value} {base : Heap}
def spLawDue (K : PySem.W.Frag) : Sp := fun vs H Q _ => ∃ (l m : Addr) (x : V) (zs ws : List Str), vs = [.ref l, .ref m, x] ∧ H l = some (.lst (zs.map V.str)) ∧ H m = some (.lst (ws.map V.str)) ∧ Bk zs ∧ zs.Perm ws ∧
  ((∃ (t : Addr) (xs : List V) (rs : List (Option (List Str))), x = .ref t ∧ H t = some (.lst xs) ∧ xs.length ≤ 60 ∧ (∀ y ∈ xs, El K H y) ∧ Lots K H xs rs ∧ ∀ R H', Fresh H R → Grow [] H H' → H' R = some (.lst [.bl (rowB zs ws xs), .bl (lotsB zs ws rs)]) → Q (.ref R) H') ∨
   (NoL K H x ∧ ∀ R H', Fresh H R → Grow [] H H' → H' R = some (.lst [.bl false, .bl false]) → Q (.ref R) H'))
theorem ok_law_due {f c : Addr} {fd : FuncData} (B : Nb mg) (D : DefIs K "_law_due" "_law_due" st_law_due f fd (.ref c)) (c_law_turned : Callee P w K mg base CX0 4 "_law_turned" ["book", "other"] (spDue K))
    (c_law_is_words : Callee P w K mg base CX0 3 "_law_is_words" ["book", "thing"] (spIsW K)) : FnG P w K mg base CX0 5 f fd ["book", "other", "thing"] (spLawDue K) := by
  refine D.ok0 (k := 4) sc_law_due (fun vs H Q E h => ?_) (fun A outer s H vs Q E g hr h => ?_)
  · obtain ⟨l, m, x, zs, ws, rfl, _⟩ := h
    rfl
  obtain ⟨l, m, x, zs, ws, rfl, hl, hm, bz, pm, h⟩ := h
  refine ⟨_,
      (pss_cons (ps_set (i := 3) sc_law_due.nd rfl (.inr rfl) (pe_g c_law_turned g (hr.mono (by decide)) pass0 (pa_cons (pv 0) (pa_cons (pv 1) pa_nil))))
      (pss_cons (ps_set (i := 4) sc_law_due.nd rfl (.inl rfl) (pe_g c_law_is_words g (hr.mono (by decide)) pass0 (pa_cons (pv 0) (pa_cons (pv 2) pa_nil))))
      (pss_cons (ps_if (pt_val (pv 4)) (
        (pss_one (ps_for PassesOwn.never rfl (pi_enum rfl B.n_enumerate (pa_cons (pv 2) pa_nil)) (pg_tup rfl (pgs_cons (pg_name (i := 5) sc_law_due.nd rfl (.inl rfl)) (pgs_cons (pg_name (i := 6) sc_law_due.nd rfl (.inr rfl)) pgs_nil))) (
          (pss_cons (ps_setLc (i := 7) (own := [("b", 8)]) (g := (gName 8)) rfl sc_law_due.nd rfl rfl (sw_true rfl rfl rfl (by decide +kernel)) (pi_list (pe_slice sl_list (pv 2) (po_some (pe_op op_add (pv 5) pe_int)) po_none)) (blkOk_by (N := N_law_due) (sc := defScope st_law_due) (by decide +kernel)) (fun _ _ _ _ _ => (pg_name (i := 8) sc_law_due.nd rfl (.inl rfl))) (fun _ _ _ _ _ => pts_to (pts_one (pt_cmpR (op_notInD (room65 hr)) (pe_tup (pa_cons (pv 6) (pa_cons (pv 8) pa_nil))) (pv 3) rfl))) (fun _ _ _ _ _ => pe_to (pv 8)))
          (pss_one (ps_set (i := 4) sc_law_due.nd rfl (.inl rfl) (pe_and (pv 4) (pe_one (pe_cmpR (op_eqE hr.units) (pv 7) (pe_lst pa_nil) (nomark _))))))))))) pss_nil)
      (pss_cons (ps_set (i := 9) sc_law_due.nd rfl (.inl rfl) (pe_callB call_isi rfl B.n_isinstance (by decide +kernel) (pa_cons (pv 2) (pa_cons (pe_bltn (v := .ty "list") rfl B.n_list (by decide +kernel) rfl) pa_nil))))
      (pss_cons (ps_if (pt_val (pv 9)) (
        (pss_one (ps_set (i := 9) sc_law_due.nd rfl (.inl rfl) (pe_cmpR (op_eqE hr.units) (pe_lc (own := [("lot", 10)]) (g := (gName 10)) rfl sc_law_due.nd (pi_list (pv 2)) (blkOk_by (N := N_law_due) (sc := defScope st_law_due) (by decide +kernel)) (fun _ _ _ _ _ => (pg_name (i := 10) sc_law_due.nd rfl (.inl rfl))) (fun _ _ _ _ _ => pts_to (pts_one (PW.pt (pw_or (pt_not (pt_val (pe_g c_law_is_words g (hr.mono (by decide)) pass0 (pa_cons (pv 0) (pa_cons (pv 10) pa_nil))))) (pw_or1 (pt_cmpR (op_eqD hr.units) (pv 10) (pe_lst pa_nil) (nomark _))))))) (fun _ _ _ _ _ => pe_to (pv 10))) (pe_lst pa_nil) (nomark _))))) pss_nil)
      (pss_cons (ps_if (pt_val (pv 9)) (
        (pss_cons (ps_set (i := 11) sc_law_due.nd rfl (.inl rfl) (pe_lst pa_nil))
        (pss_cons (ps_for PassesOwn.never rfl (pi_list (pv 2)) (pg_name (i := 10) sc_law_due.nd rfl (.inr rfl)) (
          (pss_cons (ps_expr (pe_bm PySem.F.plainAttrs_list PySem.F.slot_list_extend PySem.F.type_list_extend mt_extend (pv 11) (pa_cons (pv 10) pa_nil)))
          (pss_cons (ps_setLc (i := 12) (own := [("a", 6), ("b", 8)]) (g := (gTup _ 2 (gCons (gName 6) (gCons (gName 8) gNil)))) rfl sc_law_due.nd rfl rfl (sw_true rfl rfl rfl (by decide +kernel)) (pi_list (pv 3)) (blkOk_by (N := N_law_due) (sc := defScope st_law_due) (by decide +kernel)) (fun _ _ _ _ _ => (pg_tup rfl (pgs_cons (pg_name (i := 6) sc_law_due.nd rfl (.inl rfl)) (pgs_cons (pg_name (i := 8) sc_law_due.nd rfl (.inl rfl)) pgs_nil)))) (fun _ _ _ _ _ => pts_to (pts_one (PW.pt (pw_and (pt_cmpR (op_in_seq) (pv 6) (pv 10) rfl) (pw_and1 (pt_cmpR (op_in_seq) (pv 8) (pv 10) rfl)))))) (fun _ _ _ _ _ => pe_to (pe_tup (pa_cons (pv 6) (pa_cons (pv 8) pa_nil)))))
          (pss_one (ps_set (i := 9) sc_law_due.nd rfl (.inl rfl) (pe_and (pv 9) (pe_one (pe_cmpR (op_eqE hr.units) (pv 12) (pe_lst pa_nil) (nomark _))))))))))
        (pss_one (ps_set (i := 9) sc_law_due.nd rfl (.inl rfl) (pe_and (pv 9) (pe_one (pe_cmpR (op_eqD hr.units) (pe_callB (cr_sortG (val := V.str) (enc := PyData.str) hr.units) rfl B.n_sorted (by decide +kernel) (pa_cons (pv 11) pa_nil)) (pe_callB (cr_sortG (val := V.str) (enc := PyData.str) hr.units) rfl B.n_sorted (by decide +kernel) (pa_cons (pv 0) pa_nil)) (nomark _))))))))) pss_nil)
      (pss_one (ps_ret (pe_lst (pa_cons (pv 4) (pa_cons (pv 9) pa_nil))))))))))), ?_⟩
  refine ⟨.ref l, rfl, .ref m, rfl, l, m, zs, ws, rfl, hl, hm, bz, pm, fun Pa H1 fPa g1 hPa => ?_⟩
  have hl1 := g1.lst (by simp) hl
  rcases h with ⟨t, xs, rs, rfl, ht, lx, els, hR, q⟩ | ⟨no, q⟩
  rotate_left
  · have no1 := no.grow0 g1
    obtain ⟨T, _, _, ty, kit⟩ := no1.ty
    refine ⟨.ref l, rfl, x, rfl, l, x, zs, rfl, hl1, bz, .inr ⟨no1, fun H2 g2 => ?_⟩⟩
    obtain ⟨T, _, _, ty, kit⟩ := (no1.grow0 g2).ty
    refine ⟨.bl false, rfl, false, rfl, iteF ?_⟩
    refine ⟨x, rfl, x, .ty "list", .type T, .type "list", false, rfl, .ty "list", ty, kit, ?_⟩
    refine ⟨.bl false, rfl, false, rfl, iteF ?_⟩
    refine ⟨.bl false, rfl, false, rfl, iteF ?_⟩
    refine ⟨.bl false, rfl, .bl false, rfl, by show 2 ≤ sizeLine; decide, fun R nR => ?_⟩
    exact q R _ ((g1.trans g2).fresh0 nR) ((g1.trans g2).new nR) upd_same
  · have ht1 := g1.lst (by simp) ht
    refine ⟨.ref l, rfl, .ref t, rfl, l, .ref t, zs, rfl, hl1, bz, .inl ⟨t, xs, rfl, ht1, by omega, fun y hy => (els y hy).grow0 g1, fun H2 g2 => ?_⟩⟩
    have g12 := g1.trans g2
    have hl2 := g2.lst (by simp) hl1
    have ht2 := g2.lst (by simp) ht1
    have hPa2 := hPa.grow g2 (lists_none _) (by simp)
    obtain ⟨pr, epr⟩ : ∃ pr, prsTo (later ws) zs zs.length = pr := ⟨_, rfl⟩
    rw [epr] at hPa2
    have lz := bz.len
    have els2 : ∀ y ∈ xs, El K H2 y := fun y hy => (els y hy).grow0 g12
    have hR2 := hR.grow0 g12
    have lpr : pr.length ≤ 40000 := by rw [← epr]; exact prs_len bz
    dsimp only [gName]
    refine seq_cut (S := tIfS _ _ _) (fun σ' H' => ∃ o5 o6 o7 : Option V, σ' = [some (.ref l), some (.ref m), some (.ref t), some (.ref Pa), some (.bl (rowB zs ws xs)), o5, o6, o7, none, none, none, none, none] ∧ Grow [] H2 H') (fun σ' H3 hJ => ?_) fun R hRr => ?_
    · obtain ⟨o5, o6, o7, rfl, g3⟩ := hJ
      have g13 := g12.trans g3
      have ht3 := g3.lst (by simp) ht2
      have hR3 := hR2.grow0 g3
      have els3 : ∀ y ∈ xs, El K H3 y := fun y hy => (els2 y hy).grow0 g3
      refine ⟨.ref t, rfl, .ref t, .ty "list", .type "list", .type "list", true, rfl, .ty "list", .base (.lst ht3), rfl, ?_⟩
      dsimp only [gName]
      refine seq_cut (S := tIfS _ _ _) (fun σ' H' => ∃ o5 o6 o7 : Option V, σ' = [some (.ref l), some (.ref m), some (.ref t), some (.ref Pa), some (.bl (rowB zs ws xs)), o5, o6, o7, none, some (.bl (rs.all (lotW zs))), none, none, none] ∧ Grow [] H3 H') (fun σ' H4 hJ => ?_) fun R hRr => ?_
      · obtain ⟨o5, o6, o7, rfl, g4⟩ := hJ
        have g14 := g13.trans g4
        have ht4 := g4.lst (by simp) ht3
        have hR4 := hR3.grow0 g4
        have fin : ∀ (H5 : Hp) (σ5 : L2.St), Grow [] H4 H5 → σ5[4]? = some (some (.bl (rowB zs ws xs))) → σ5[9]? = some (some (.bl (lotsB zs ws rs))) → tRet (tLst (tCons (tVar 4) (tCons (tVar 9) tNil))) { nx := fun x H' => Q V.non H', rt := Q } σ5 H5 := fun H5 σ5 g5 e4 e9 => by
          refine ⟨_, e4, _, e9, by show 2 ≤ sizeLine; decide, fun R nR => ?_⟩
          exact q R _ ((g14.trans g5).fresh0 nR) ((g14.trans g5).new nR) upd_same
        refine ⟨.bl (rs.all (lotW zs)), rfl, rs.all (lotW zs), rfl, ?_⟩
        have sp := lotsB_split (zs := zs) (ws := ws) rs
        cases ew : rs.all (lotW zs) with
        | false =>
          rw [ew] at sp
          refine iteF ?_
          have := fin H4 [some (.ref l), some (.ref m), some (.ref t), some (.ref Pa), some (.bl (rowB zs ws xs)), o5, o6, o7, none, some (.bl false), none, none, none] (Grow.refl _ _) rfl (by rw [sp]; rfl)
          exact this
        | true =>
          rw [ew, Bool.true_and] at sp
          refine iteT ⟨by show 0 ≤ sizeLine; decide, fun Wd nW => ?_⟩
          have gW : Grow [] H4 (upd H4 Wd (.lst [])) := grow_new nW
          have eW : upd H4 Wd (.lst []) Wd = some (.lst ([] : List V)) := upd_same
          generalize upd H4 Wd (.lst []) = H5 at gW eW ⊢
          refine ⟨.ref t, rfl, t, rfl, ⟨_, .inl (.inl (gW.lst (by simp) ht4))⟩, ?_⟩
          have lenW : ∀ i, (flatO (rs.take i)).length ≤ 40000 := fun i => by
            have big : ∀ qs : List (Option (List Str)), (∀ r ∈ qs, ∀ q, r = some q → q.length ≤ 200) → (flatO qs).length ≤ qs.length * 200 := fun qs => by
              induction qs with
              | nil => intro _; exact Nat.zero_le _
              | cons r qs ih =>
                intro hq
                have h1 := ih fun r hr => hq r (List.mem_cons_of_mem _ hr)
                unfold flatO at h1 ⊢
                rw [List.flatMap_cons, List.length_append, List.length_cons, Nat.succ_mul]
                cases r with
                | none => show 0 + _ ≤ _; omega
                | some q =>
                  have := hq _ List.mem_cons_self q rfl
                  show q.length + _ ≤ _
                  omega
            have h2 := big (rs.take i) fun r hr q e => by
              subst e
              obtain ⟨j, hj, ej⟩ := List.getElem_of_mem (List.mem_of_mem_take hr)
              have hx : xs[j]? = some (xs[j]'(by rw [hR.len]; exact hj)) := List.getElem?_eq_getElem _
              obtain ⟨_, _, _, nr⟩ := hR.at_ j _ (some q) hx (by rw [List.getElem?_eq_getElem hj, ej])
              exact nr.2
            have h3 := List.length_take_le' i rs
            have h4 := hR.len
            omega
          refine for_it (walk_list (xs := xs)) (fun i σ H' => ∃ o5 o6 o7 o8 o10 o12 : Option V, σ = [some (.ref l), some (.ref m), some (.ref t), some (.ref Pa), some (.bl (rowB zs ws xs)), o5, o6, o7, o8, some (.bl ((rs.take i).all fun r => noTurn zs ws (r.getD []))), o10, some (.ref Wd), o12] ∧ Grow [] H4 H' ∧ H' Wd = some (.lst ((flatO (rs.take i)).map V.str)))
            ⟨_, _, _, _, _, _, rfl, gW, eW⟩ (fun i σ H' _ h => by
              obtain ⟨_, _, _, _, _, _, _, g', _⟩ := h
              exact .inl (.inl (g'.lst (by simp) ht4))) (fun i x σ Ha Hb hi hp hy => ?_) (fun σ H6 hp => ?_)
          · obtain ⟨o5, o6, o7, o8, o10, o12, rfl, ga, eWa⟩ := hp
            obtain ⟨rfl, ex⟩ := hy
            obtain ⟨r, er, hr'⟩ := hR4.get ex
            obtain ⟨r, rfl, rz⟩ := lotW_some (List.all_eq_true.mp ew r (List.mem_of_getElem? er))
            obtain ⟨a, rfl, eA, nr⟩ := hr'
            have eAb := ga.lst (by simp) eA
            have tk : flatO (rs.take (i + 1)) = flatO (rs.take i) ++ r := by
              unfold flatO
              rw [List.take_add_one, er, List.flatMap_append]
              show _ ++ List.flatMap _ [some r] = _
              rw [List.flatMap_cons, List.flatMap_nil, List.append_nil]
              rfl
            have l1 := lenW (i + 1)
            rw [tk, List.length_append] at l1
            refine ⟨.ref Wd, rfl, tyl eWa, .ref a, rfl, Wd, a, _, _, rfl, rfl, eWa, eAb, by rw [List.length_map, List.length_map]; unfold sizeLine; omega, ?_⟩
            have gX : Grow [] H4 (upd Hb Wd (.lst ((flatO (rs.take i)).map V.str ++ r.map V.str))) := ga.put (fresh_none nW) eWa fun ps z => by cases z
            have eX : upd Hb Wd (.lst ((flatO (rs.take i)).map V.str ++ r.map V.str)) Wd = some (.lst ((flatO (rs.take (i + 1))).map V.str)) := by rw [upd_same, tk, List.map_append]
            generalize upd Hb Wd (.lst ((flatO (rs.take i)).map V.str ++ r.map V.str)) = Hc at gX eX ⊢
            have eAc := gX.lst (by simp) eA
            obtain ⟨vs, ePa, dPa⟩ := ((hPa2.grow g3 (lists_none _) (by simp)).grow g4 (lists_none _) (by simp)).grow gX (lists_none _) (by simp)
            have lvs : vs.length = pr.length := by rw [dPa.length, List.length_map]
            refine ⟨.ref Pa, rfl, Pa, rfl, ⟨_, .inl (.inl ePa)⟩, fun D1 nD => ?_⟩
            refine lc_it (walk_list (xs := vs)) (fun j H' => Grow [] Hc H' ∧ ∃ us : List V, H' D1 = some (.lst us) ∧ us.length ≤ j ∧ (us = [] ↔ ∀ p ∈ pr.take j, ¬ (p.1 ∈ r ∧ p.2 ∈ r))) ⟨grow_new nD, [], upd_same, Nat.le_refl _, ⟨(fun _ p hp => nomatch hp), fun _ => rfl⟩⟩ (fun j H' _ h => .inl (.inl (h.1.lst (by simp) ePa))) (fun j x Hd He hj hq hy => ?_) (fun Hd hq => ?_)
            · obtain ⟨gd, us, eD, lu, iu⟩ := hq
              obtain ⟨rfl, ex⟩ := hy
              obtain ⟨d, ed, td⟩ := dPa.get ex
              rw [List.getElem?_map] at ed
              cases ep : pr[j]? with
              | none => rw [ep] at ed; cases ed
              | some p =>
                rw [ep] at ed
                cases ed
                obtain ⟨tp, rfl, etp⟩ := pair_inv (td.grow gd (lists_none _))
                have eAe := gd.lst (by simp) eAc
                have ptk : pr.take (j + 1) = pr.take j ++ [p] := by rw [List.take_add_one, ep]; rfl
                have skip : ¬ (p.1 ∈ r ∧ p.2 ∈ r) → Grow [] Hc He ∧ ∃ us : List V, He D1 = some (.lst us) ∧ us.length ≤ j + 1 ∧ (us = [] ↔ ∀ p ∈ pr.take (j + 1), ¬ (p.1 ∈ r ∧ p.2 ∈ r)) := fun no => by
                  refine ⟨gd, us, eD, by omega, ?_⟩
                  rw [iu, ptk]
                  refine ⟨fun h y hy => ?_, fun h y hy => h y (List.mem_append_left _ hy)⟩
                  rcases List.mem_append.mp hy with hy | hy
                  · exact h y hy
                  · rw [List.mem_singleton.mp hy]; exact no
                refine ⟨tp, _, rfl, .inl (.inl etp), rfl, _, _, rfl, _, _, rfl, rfl, rfl, ?_⟩
                refine ⟨.str p.1, rfl, .ref a, rfl, a, r.map V.str, rfl, .inl (.inl (.inl eAe)), rfl, flat_strs r, _, rfl, ?_⟩
                show (if inV (.str p.1) (r.map V.str) = true then _ else _)
                rw [in_strs]
                by_cases c1 : p.1 ∈ r
                · rw [decide_eq_true c1, if_pos rfl]
                  refine ⟨.str p.2, rfl, .ref a, rfl, a, r.map V.str, rfl, .inl (.inl (.inl eAe)), rfl, flat_strs r, _, rfl, ?_⟩
                  show (if inV (.str p.2) (r.map V.str) = true then _ else _)
                  rw [in_strs]
                  by_cases c2 : p.2 ∈ r
                  · rw [decide_eq_true c2, if_pos rfl]
                    refine ⟨.str p.1, rfl, .str p.2, rfl, by show 2 ≤ sizeLine; decide, fun T2 nT2 => ?_⟩
                    have gT := gd.new (o := .tup [V.str p.1, V.str p.2]) nT2
                    have eD2 : upd He T2 (.tup [V.str p.1, V.str p.2]) D1 = some (.lst us) := by rw [upd_ne (ne_of_none eD nT2)]; exact eD
                    generalize upd He T2 (.tup [V.str p.1, V.str p.2]) = Hf at gT eD2 ⊢
                    refine ⟨us, eD2, by unfold sizeLine; omega, gT.put (fresh_none nD) eD2 (fun ps z => by cases z), us ++ [.ref T2], upd_same, by rw [List.length_append]; show us.length + 1 ≤ _; omega, ?_⟩
                    refine ⟨fun z => absurd z (by simp), fun z => absurd ⟨c1, c2⟩ (z p (by rw [ptk]; exact List.mem_append_right _ List.mem_cons_self))⟩
                  · rw [decide_eq_false c2, if_neg Bool.false_ne_true]
                    exact skip fun y => c2 y.2
                · rw [decide_eq_false c1, if_neg Bool.false_ne_true]
                  exact skip fun y => c1 y.1
            · obtain ⟨gd, us, eD, lu, iu⟩ := hq
              rw [lvs, List.take_length] at iu
              have en : noTurn zs ws r = decide (us = []) := by
                rw [turn_pairs bz pm rz, epr]
                exact decide_eq_decide.mpr iu.symm
              have nxt : ((rs.take (i + 1)).all fun r => noTurn zs ws (r.getD [])) = (((rs.take i).all fun r => noTurn zs ws (r.getD [])) && decide (us = [])) := by
                rw [List.take_add_one, er, List.all_append, ← en]
                show (_ && (noTurn zs ws r && true)) = _
                rw [Bool.and_true]
              have eXd := gd.lst (by simp) eX
              have g4d := gX.trans gd
              refine ⟨_, rfl, _, rfl, ?_⟩
              cases eb : ((rs.take i).all fun r => noTurn zs ws (r.getD [])) with
              | false =>
                rw [eb] at nxt
                refine iteF ⟨o5, o6, o7, o8, some (.ref a), some (.ref D1), ?_, g4d, eXd⟩
                rw [nxt]
                rfl
              | true =>
                rw [eb] at nxt
                refine iteT ⟨.ref D1, rfl, by show 0 ≤ sizeLine; decide, fun E0 nE => ?_⟩
                refine ⟨D1, E0, us, rfl, rfl, by rw [upd_ne (ne_of_none eD nE)]; exact eD, upd_same, o5, o6, o7, o8, some (.ref a), some (.ref D1), ?_, g4d.new nE, (grow_new (ex := []) nE).lst (by simp) eXd⟩
                rw [nxt]
                rfl
          · obtain ⟨o5, o6, o7, o8, o10, o12, rfl, ga, eWa⟩ := hp
            rw [hR.len, List.take_length] at eWa ⊢
            have lenF := lenW rs.length
            rw [List.take_length] at lenF
            refine ⟨_, rfl, _, rfl, ?_⟩
            cases eb : (rs.all fun r => noTurn zs ws (r.getD [])) with
            | false =>
              rw [eb] at sp
              exact iteF (fin H6 _ ga rfl (by rw [sp]; rfl))
            | true =>
              rw [eb, Bool.true_and] at sp
              refine iteT ?_
              have g16 := g14.trans ga
              refine ⟨.ref Wd, rfl, Wd, flatO rs, rfl, .inl (.inl eWa), fun z hz => ⟨.str z, by show 0 ≤ 60; decide⟩, alike_strs _, sortable_strs _, by unfold sizeLine; omega, fun p1 n1 => ?_⟩
              have g7 := (grow_new (ex := []) (o := .lst (((flatO rs).mergeSort (PySem.W.dataLe false PyData.str)).map V.str)) n1)
              have hl7 := (g16.trans g7).lst (by simp) hl
              refine ⟨.ref l, rfl, l, zs, rfl, .inl (.inl hl7), fun z hz => ⟨.str z, by show 0 ≤ 60; decide⟩, alike_strs zs, sortable_strs zs, by unfold sizeLine; omega, fun p2 n2 => ?_⟩
              have e1 : upd (upd H6 p1 (.lst (((flatO rs).mergeSort (PySem.W.dataLe false PyData.str)).map V.str))) p2 (.lst ((zs.mergeSort (PySem.W.dataLe false PyData.str)).map V.str)) p1 = some (.lst (((flatO rs).mergeSort (PySem.W.dataLe false PyData.str)).map V.str)) := by
                rw [upd_ne (ne_of_none upd_same n2)]
                exact upd_same
              have g8 := (ga.trans g7).new (o := .lst ((zs.mergeSort (PySem.W.dataLe false PyData.str)).map V.str)) n2
              have nmF : ∀ a ∈ flatO rs, isNm a = true := fun a ha => by
                obtain ⟨r, hr, ha⟩ := List.mem_flatMap.mp ha
                obtain ⟨q, rfl, hq⟩ := lotW_some (List.all_eq_true.mp ew r hr)
                exact List.all_eq_true.mp bz.nm a (hq a ha)
              have shp : ∀ ys : List Str, (∀ a ∈ ys, isNm a = true) → SeqAt.shaped (.list (ys.map PyData.str)) = true := fun ys hy =>
                (Fine.list (n := 0) (m := 8) (k := (ys.map PyData.str).length * 9) (fun d hd => by
                  obtain ⟨z, hz, rfl⟩ := List.mem_map.mp hd
                  exact .str (nm_lt (hy z hz)) (nm_short (hy z hz))) (Nat.le_refl _)).shaped (by decide)
              refine ⟨_, _, dp_book (.inl (.inl e1)), dp_book (.inl (.inl upd_same)), shp _ (fun a ha => nmF a ((List.mergeSort_perm _ _).mem_iff.mp ha)), shp _ (fun a ha => List.all_eq_true.mp bz.nm a ((List.mergeSort_perm _ _).mem_iff.mp ha)), ?_⟩
              rw [sortN_eqv]
              exact fin _ _ g8 rfl (by rw [sp]; rfl)
      · refine ⟨.bl true, rfl, true, rfl, iteT ?_⟩
        refine ⟨.ref t, rfl, t, rfl, ⟨_, .inl (.inl ht3)⟩, fun D1 nD => ?_⟩
        obtain ⟨zz, ezz⟩ : ∃ zz, xs.zip rs = zz := ⟨_, rfl⟩
        have lzz : zz.length = xs.length := by rw [← ezz, List.length_zip, hR.len, Nat.min_self]
        refine lc_filt (walk_list (xs := xs)) zz (fun z => !lotW zs z.2) (fun z => z.1) nD lzz.symm (by omega) (fun H' g => .inl (.inl (g.lst (by simp) ht3))) (fun i z x Ha Hb Pu Pn ez ga hy ku kn => ?_) (fun H4 g4 e4 => ?_)
        · obtain ⟨rfl, ex⟩ := hy
          rw [← ezz] at ez
          obtain ⟨e1, e2⟩ := List.getElem?_zip_eq_some.mp ez
          rw [e1] at ex
          cases ex
          have hz := hR3.at_ i _ _ e1 e2
          have elz := els3 z.1 (List.mem_of_getElem? e1)
          have hl3 := g13.lst (by simp) hl
          cases er : z.2 with
          | none =>
            rw [er] at hz ku kn
            have no : NoL K Hb z.1 := NoL.grow0 hz ga
            refine ⟨rfl, .ref l, rfl, z.1, rfl, l, z.1, zs, rfl, ga.lst (by simp) hl3, bz, .inr ⟨no, fun H'' g'' => ⟨false, rfl, iteT (iteT ⟨z.1, rfl, ku _ g'' rfl⟩)⟩⟩⟩
          | some r =>
            rw [er] at hz ku kn
            obtain ⟨a, ea, eA, nr⟩ := hz
            rw [ea]
            have eAb := ga.lst (by simp) eA
            refine ⟨rfl, .ref l, rfl, .ref a, rfl, l, .ref a, zs, rfl, ga.lst (by simp) hl3, bz, .inl ⟨a, r.map V.str, rfl, eAb, by rw [List.length_map]; exact nr.2, fun y hy => ?_, fun H'' g'' => ⟨_, rfl, ?_⟩⟩⟩
            · obtain ⟨w, hw, rfl⟩ := List.mem_map.mp hy
              exact .txt w (List.all_eq_true.mp nr.1 w hw)
            · cases ew : isW zs (r.map V.str) with
              | false =>
                refine iteT (iteT ⟨.ref a, rfl, ?_⟩)
                have := ku _ g'' (by show (!(isW zs (r.map V.str) && decide (r ≠ []))) = true; rw [ew]; rfl)
                rw [ea] at this
                exact this
              | true =>
                refine iteF ⟨.ref a, rfl, by show 0 ≤ sizeLine; decide, fun E0 nE => ?_⟩
                have gE : Grow [] H'' (upd H'' E0 (.lst [])) := grow_new nE
                have eE : upd H'' E0 (.lst []) E0 = some (.lst ([] : List V)) := upd_same
                generalize upd H'' E0 (.lst []) = Hq at gE eE ⊢
                have eAq := (g''.trans gE).lst (by simp) eAb
                refine ⟨_, _, dp_book (.inl (.inl eAq)), dp_book (xs := []) (.inl (.inl eE)), (fine_names nr.1 nr.2).shaped (by decide), (fine_names (zs := []) rfl (Nat.zero_le _)).shaped (by decide), _, rfl, ?_⟩
                rw [sortN_eqv]
                by_cases c0 : r = []
                · rw [decide_eq_true c0]
                  refine iteT ⟨.ref a, rfl, ?_⟩
                  have := ku _ (g''.trans gE) (by show (!(isW zs (r.map V.str) && decide (r ≠ []))) = true; rw [ew, decide_eq_false (fun y => y c0)]; rfl)
                  rw [ea] at this
                  exact this
                · rw [decide_eq_false c0]
                  exact iteF (kn _ (g''.trans gE) (by show (!(isW zs (r.map V.str) && decide (r ≠ []))) = false; rw [ew, decide_eq_true (show r ≠ [] from c0)]; rfl))
        · refine ⟨by show 0 ≤ sizeLine; decide, fun E0 nE => ?_⟩
          have gE : Grow [] H4 (upd H4 E0 (.lst [])) := grow_new nE
          have eE : upd H4 E0 (.lst []) E0 = some (.lst ([] : List V)) := upd_same
          generalize upd H4 E0 (.lst []) = H5 at gE eE ⊢
          refine ⟨D1, E0, _, rfl, rfl, gE.lst (by simp) e4, eE, ?_⟩
          have e0 : decide ((zz.filter fun z => !lotW zs z.2).map (fun z => z.1) = []) = rs.all (lotW zs) := by
            rw [Bool.eq_iff_iff, decide_eq_true_iff, List.map_eq_nil_iff, List.filter_eq_nil_iff, List.all_eq_true]
            constructor
            · intro h r hr
              obtain ⟨i, hi, ei⟩ := List.getElem_of_mem hr
              have hx : i < xs.length := by rw [hR.len]; exact hi
              have := h (xs[i], rs[i]) (by rw [← ezz]; exact List.mem_of_getElem? (List.getElem?_zip_eq_some.mpr ⟨List.getElem?_eq_getElem hx, List.getElem?_eq_getElem hi⟩))
              rw [← ei]
              cases hc : lotW zs rs[i] with
              | true => rfl
              | false =>
                have this : ¬ (!lotW zs rs[i]) = true := this
                rw [hc] at this
                exact absurd rfl this
            · intro h z hz
              rw [← ezz] at hz
              have := h z.2 (List.of_mem_zip hz).2
              rw [this]
              exact Bool.false_ne_true
          rw [e0]
          exact hRr _ _ ⟨o5, o6, o7, rfl, g4.trans gE⟩
    · refine ⟨_, rfl, _, rfl, ?_⟩
      cases ei : isW zs xs with
      | false =>
        have er : rowB zs ws xs = false := by
          refine Bool.eq_false_iff.mpr fun y => ?_
          unfold rowB at y
          rw [Bool.and_eq_true, ← rows_all, Bool.and_eq_true] at y
          unfold isW at ei
          rw [y.1, y.2.1] at ei
          cases ei
        rw [er] at hRr
        exact iteF (hRr _ _ ⟨none, none, none, rfl, Grow.refl _ _⟩)
      | true =>
        unfold isW at ei
        rw [Bool.and_eq_true, decide_eq_true_iff] at ei
        obtain ⟨ea, nd⟩ := ei
        have ex0 : xs = (xs.map theStr).map V.str := strs_of (p := inB zs) (fun x hx => by
          cases x with
          | str z => exact ⟨z, rfl⟩
          | _ => cases hx) ea
        have erow : rowB zs ws xs = rowsUp zs ws (xs.map theStr) (xs.map theStr).length := by
          unfold rowB
          rw [ea, ← rows_all, decide_eq_true nd, Bool.true_and, Bool.true_and]
        obtain ⟨ys, eys⟩ : ∃ ys, xs.map theStr = ys := ⟨_, rfl⟩
        rw [eys] at ex0 erow nd
        have lxy : xs.length = ys.length := by rw [← eys, List.length_map]
        have yz : ∀ y ∈ ys, y ∈ zs := fun y hy => by
          have := List.all_eq_true.mp ea (.str y) (by rw [ex0]; exact List.mem_map.mpr ⟨y, hy, rfl⟩)
          exact of_decide_eq_true this
        rw [erow] at hRr
        have ht2' : H2 t = some (.lst (ys.map V.str)) := by rw [← ex0]; exact ht2
        refine iteT ⟨.ref t, rfl, t, _, rfl, .inl (.inl ht2'), ?_⟩
        refine for_it (walk_enum (xs := ys.map V.str)) (fun i σ H' => ∃ o5 o6 o7 : Option V, σ = [some (.ref l), some (.ref m), some (.ref t), some (.ref Pa), some (.bl (rowsUp zs ws ys i)), o5, o6, o7, none, none, none, none, none] ∧ Grow [] H2 H')
          ⟨none, none, none, rfl, Grow.refl _ _⟩ (fun i σ H' _ h => by
            obtain ⟨_, _, _, _, g'⟩ := h
            exact .inl (.inl (g'.lst (by simp) ht2'))) (fun i x σ Ha Hb hi hp hy => ?_) (fun σ H3 hp => ?_)
        · obtain ⟨o5, o6, o7, rfl, ga⟩ := hp
          obtain ⟨Tn, x1, x2, rfl, nT, rfl, e1, e2⟩ := hy
          dsimp only at e1 e2
          cases e1
          rw [List.length_map] at hi
          obtain ⟨y, ey⟩ : ∃ y, ys[i]? = some y := ⟨_, List.getElem?_eq_getElem hi⟩
          rw [List.getElem?_map, ey] at e2
          cases e2
          have gb := ga.new (o := .tup [V.int (i : Nat), V.str y]) nT
          refine ⟨Tn, _, rfl, .inl (.inl upd_same), rfl, _, _, rfl, _, _, rfl, rfl, ?_⟩
          generalize upd Ha Tn (.tup [V.int (i : Nat), V.str y]) = Hc at gb ⊢
          have htc := gb.lst (by simp) ht2'
          have e1i : ((i : Nat) : Int) + 1 = ((i + 1 : Nat) : Int) := by omega
          refine ⟨.ref t, rfl, .int (i : Nat), rfl, _, _, rfl, rfl, (i : Nat) + 1, rfl, t, _, rfl, .inl (.inl htc), fun L nL => ?_⟩
          rw [show cutV (ys.map V.str) (some ((i : Nat) + 1)) none = (ys.drop (i + 1)).map V.str by rw [cut_from, List.map_drop]]
          have gc := gb.new (o := .lst ((ys.drop (i + 1)).map V.str)) nL
          have eL : upd Hc L (.lst ((ys.drop (i + 1)).map V.str)) L = some (.lst ((ys.drop (i + 1)).map V.str)) := upd_same
          generalize upd Hc L (.lst ((ys.drop (i + 1)).map V.str)) = Hd at gc eL ⊢
          have hPd := hPa2.grow gc (lists_none _) (by simp)
          refine ⟨L, rfl, ⟨_, .inl (.inl eL)⟩, fun D1 nD => ?_⟩
          have ym := List.mem_of_getElem? ey
          have fpr : Fine (.list (pr.map encP)) 2 760000 := by rw [← epr]; exact fine_prs bz
          refine lc_filt (walk_list (xs := (ys.drop (i + 1)).map V.str)) (ys.drop (i + 1)) (fun b => !stepOk zs ws y b) V.str nD (List.length_map _) (by rw [List.length_drop]; omega) (fun H' g => .inl (.inl (g.lst (by simp) eL))) (fun j b x He Hf Pu Pn eb ge hy ku kn => ?_) (fun H4 g4 e4 => ?_)
          · obtain ⟨rfl, ex⟩ := hy
            rw [List.getElem?_map, eb] at ex
            cases ex
            have bm : b ∈ ys := List.mem_of_mem_drop (List.mem_of_getElem? eb)
            refine ⟨rfl, .str y, rfl, .str b, rfl, by show 2 ≤ sizeLine; decide, fun T2 nT2 => ?_⟩
            have gT : Grow [] Hf (upd Hf T2 (.tup [V.str y, V.str b])) := grow_new nT2
            have eT : upd Hf T2 (.tup [V.str y, V.str b]) T2 = some (.tup [V.str y, V.str b]) := upd_same
            generalize upd Hf T2 (.tup [V.str y, V.str b]) = Hg at gT eT ⊢
            have fp := fine_pair (p := (y, b)) (List.all_eq_true.mp bz.nm y (yz y ym)) (List.all_eq_true.mp bz.nm b (yz b bm))
            refine ⟨.ref Pa, rfl, encP (y, b), pr.map encP, .tup (.inl (.inl eT)) (.cons (.str y) (.cons (.str b) .nil)), ((hPd.grow ge (lists_none _) (by simp)).grow gT (lists_none _) (by simp)).dp, fp.shaped (by decide), fpr.shaped (by decide), _, rfl, ?_⟩
            rw [any_pair]
            have es : decide ((y, b) ∈ pr) = stepOk zs ws y b := by
              rw [← epr, Bool.eq_iff_iff, decide_eq_true_iff, mem_prs bz.nd]
              unfold stepOk later
              rw [Bool.and_eq_true, decide_eq_true_iff, decide_eq_true_iff]
              exact ⟨fun h => h.2.2, fun h => ⟨yz y ym, yz b bm, h⟩⟩
            rw [es]
            cases cs : stepOk zs ws y b with
            | true => exact iteF (kn _ gT (by rw [cs]; rfl))
            | false => exact iteT ⟨.str b, rfl, ku _ gT (by rw [cs]; rfl)⟩
          · have nxt : rowsUp zs ws ys (i + 1) = (rowsUp zs ws ys i && decide (((ys.drop (i + 1)).filter fun b => !stepOk zs ws y b).map V.str = [])) := by
              rw [rowsUp_succ]
              congr 1
              rw [List.getD_eq_getElem?_getD, ey, Bool.eq_iff_iff, decide_eq_true_iff, List.map_eq_nil_iff, List.filter_eq_nil_iff, List.all_eq_true]
              refine forall_congr' fun b => forall_congr' fun _ => ?_
              show stepOk zs ws y b = true ↔ _
              cases stepOk zs ws y b <;> simp
            have g24 := gc.trans g4
            dsimp only [gName]
            refine ⟨_, rfl, _, rfl, ?_⟩
            cases eb : rowsUp zs ws ys i with
            | false =>
              rw [eb] at nxt
              refine iteF ⟨some (.int (i : Nat)), some (.str y), some (.ref D1), ?_, g24⟩
              rw [nxt]
              rfl
            | true =>
              rw [eb] at nxt
              refine iteT ⟨.ref D1, rfl, by show 0 ≤ sizeLine; decide, fun E0 nE => ?_⟩
              refine ⟨D1, E0, _, rfl, rfl, by rw [upd_ne (ne_of_none e4 nE)]; exact e4, upd_same, some (.int (i : Nat)), some (.str y), some (.ref D1), ?_, g24.new nE⟩
              rw [nxt]
              rfl
        · obtain ⟨o5, o6, o7, rfl, ga⟩ := hp
          rw [List.length_map]
          exact hRr _ _ ⟨o5, o6, o7, rfl, ga⟩
end

end Lw

namespace Lw
open PySem PySem.Spec PyProof.Rows L2 GxR Gx
section
variable {P : Program} {w : World} {K : PySem.W.Frag} {mg : Str → Option Value} {base : Heap}
/-! ### _law_row -/
theorem Pot.other {H : Hp} {p D : Addr} {c : Int} (h : Pot H p c) (f : Fresh H D) : D ≠ p := by
  obtain ⟨a, b, k, e, _⟩ := h
  exact (f.ne e fun ps z => by cases z).symm
theorem pot_grow {H H' : Hp} {p : Addr} {c : Int} (h : Pot H p c) (g : Grow [] H H') : Pot H' p c := by
  obtain ⟨a, b, k, e, r⟩ := h
  exact ⟨a, b, k, g.lst (by simp) e, r⟩
theorem Pot.neL {H : Hp} {p a : Addr} {c : Int} (h : Pot H p c) {zs : List Str} (e : H a = some (.lst (zs.map V.str))) : a ≠ p := fun z => by
  obtain ⟨x, y, k, e2, _⟩ := h
  rw [z, e2] at e
  have e3 := HO.lst.inj (Option.some.inj e)
  cases zs with
  | nil => cases e3
  | cons z zs => cases e3
theorem cut_strs (ys : List Str) (lo hi : Option Int) : ∃ us : List Str, cutV (ys.map V.str) lo hi = us.map V.str ∧ (∀ a ∈ us, a ∈ ys) ∧ us.length ≤ ys.length := by
  unfold cutV
  refine ⟨_, (by rw [← List.map_drop, ← List.map_take]), fun a ha => List.mem_of_mem_drop (List.mem_of_mem_take ha), ?_⟩
  rw [List.length_take, List.length_drop]
  omega
def spRow (K : PySem.W.Frag) (T1 T : Addr) : Sp := fun vs H Q _ => ∃ (p l m : Addr) (c : Int) (zs ws : List Str), vs = [.ref p, .ref l, .ref m] ∧ TabG H T1 ∧ TabG H T ∧ Pot H p c ∧ c ≤ 2 ^ 18 ∧ H l = some (.lst (zs.map V.str)) ∧ H m = some (.lst (ws.map V.str)) ∧ l ≠ p ∧ m ≠ p ∧ Bk zs ∧ zs.Perm ws ∧ zs.length ≤ 9 ∧
  ∀ (D : Addr) (H' : Hp) (ys : List Str), Fresh H D → Grow [p] H H' → H' D = some (.lst (ys.map V.str)) → NmL ys → ys.length ≤ 30 → Pot H' p (c + 20) → Q (.ref D) H'
theorem ok_law_row {f c T1 T : Addr} {fd : FuncData} (B : Nb mg) (D : DefIs K "_law_row" "_law_row" st_law_row f fd (.ref c)) (c_longest_turned : Callee P w K mg base CX0 11 "longest_turned" ["book", "other"] (spLongest K T1 T))
    (c_law_take : Callee P w K mg base CX0 3 "_law_take" ["pot", "many"] (spTake K)) : FnG P w K mg base CX0 12 f fd ["pot", "book", "other"] (spRow K T1 T) := by
  refine D.ok0 (k := 11) sc_law_row (fun vs H Q E h => ?_) (fun A outer s H vs Q E g hr h => ?_)
  · obtain ⟨p, l, m, c, zs, ws, rfl, _⟩ := h
    rfl
  obtain ⟨p, l, m, c, zs, ws, rfl, t1, tT, pot, hc, hl, hm, lp, mp, bz, pm, z9, q⟩ := h
  refine ⟨_,
      (pss_cons (ps_set (i := 3) sc_law_row.nd rfl (.inl rfl) (pe_g c_longest_turned g (hr.mono (by decide)) pass0 (pa_cons (pv 1) (pa_cons (pv 2) pa_nil))))
      (pss_cons (ps_set (i := 4) sc_law_row.nd rfl (.inl rfl) (pe_g c_law_take g (hr.mono (by decide)) pass0 (pa_cons (pv 0) (pa_cons pe_int pa_nil))))
      (pss_cons (ps_if (pt_cmpR (op_eq) (pv 4) pe_int (nomark _)) (
        (pss_one (ps_ret (pe_lc (own := [("word", 5)]) (g := (gName 5)) rfl sc_law_row.nd (pi_list (pv 1)) (blkOk_by (N := N_law_row) (sc := defScope st_law_row) (by decide +kernel)) (fun _ _ _ _ _ => (pg_name (i := 5) sc_law_row.nd rfl (.inl rfl))) (fun _ _ _ _ _ => pts_to (pts_one (pt_cmpR (op_eq) (pe_g c_law_take g (hr.mono (by decide)) pass0 (pa_cons (pv 0) (pa_cons pe_int pa_nil))) pe_int (nomark _)))) (fun _ _ _ _ _ => pe_to (pv 5)))))) pss_nil)
      (pss_cons (ps_par (i := 6) (j := 7) rfl sc_law_row.nd rfl rfl (by decide) rfl rfl (pa_cons (pe_g c_law_take g (hr.mono (by decide)) pass0 (pa_cons (pv 0) (pa_cons (pe_op op_add (pe_callB call_len_seq rfl B.n_len PySem.boot_len (pa_cons (pv 3) pa_nil)) pe_int) pa_nil))) (pa_cons (pe_g c_law_take g (hr.mono (by decide)) pass0 (pa_cons (pv 0) (pa_cons (pe_op op_add (pe_callB call_len_seq rfl B.n_len PySem.boot_len (pa_cons (pv 3) pa_nil)) pe_int) pa_nil))) pa_nil)) rfl)
      (pss_cons (ps_if (pt_cmpR (op_eq) (pv 4) pe_int (nomark _)) (
        (pss_one (ps_ret (pe_op op_cat (pe_slice sl_list (pv 3) po_none (po_some (pv 6))) (pe_slice sl_list (pv 3) (po_some (pe_op op_add (pv 6) pe_int)) po_none))))) pss_nil)
      (pss_cons (ps_if (pt_cmpR (op_eq) (pv 4) pe_int (nomark _)) (
        (pss_one (ps_ret (pe_op op_cat (pe_op op_cat (pe_slice sl_list (pv 3) po_none (po_some (pv 6))) (pe_slice sl_list (pv 1) (po_some (pv 7)) (po_some (pe_op op_add (pv 7) pe_int)))) (pe_slice sl_list (pv 3) (po_some (pv 6)) po_none))))) pss_nil)
      (pss_cons (ps_if (pt_cmpR (op_eq) (pv 4) pe_int (nomark _)) (
        (pss_one (ps_ret (pe_op op_cat (pe_slice sl_list (pv 3) (po_some (pv 6)) po_none) (pe_slice sl_list (pv 3) po_none (po_some (pv 6))))))) pss_nil)
      (pss_one (ps_ret (pe_ifExp (pt_cmpR (op_eq) (pv 4) pe_int (nomark _)) (pv 3) (pe_revL (pv 3)))))))))))), ?_⟩
  refine ⟨.ref l, rfl, .ref m, rfl, l, m, zs, ws, rfl, t1, tT, .inl (.inl hl), .inl (.inl hm), bz, pm, fun Ro H1 ys fRo g1 eRo tr _ => ?_⟩
  have ysub : ∀ a ∈ ys, a ∈ zs := fun a ha => tr.1.subset ha
  have ylen : ys.length ≤ 9 := Nat.le_trans tr.1.length_le z9
  have pot1 := pot_grow pot g1
  refine ⟨.ref p, rfl, p, 6, _, rfl, by decide, by decide, by omega, pot1, fun way H2 w0 w1 g2 pot2 => ?_⟩
  have eRo2 : H2 Ro = some (.lst (ys.map V.str)) := g2.lst (by simpa using pot1.neL eRo) eRo
  have hl2 := g2.lst (by simpa using lp) (g1.lst (by simp) hl)
  have g02 : Grow [p] H H2 := g1.any.trans g2
  have nmz : ∀ us : List Str, (∀ a ∈ us, a ∈ zs) → us.all isNm = true := fun us h => List.all_eq_true.mpr fun a ha => List.all_eq_true.mp bz.nm a (h a ha)
  -- what is told at the end
  have fin : ∀ (H3 H4 : Hp) (c' : Int) (us : List Str) (N : Addr), Grow [p] H H3 → H3 N = none → Pot H3 p c' → c' ≤ c + 20 → (∀ a ∈ us, a ∈ zs) → us.length ≤ 30 → H4 = upd H3 N (.lst (us.map V.str)) → Q (.ref N) H4 := fun H3 H4 c' us N g3 nN pt hc' hu lu e => by
    subst e
    have Np : N ≠ p := fun z => by
      obtain ⟨a, b, k, e, _⟩ := pt
      rw [z, e] at nN
      cases nN
    exact q N _ us (Fresh.back (fresh_none nN) g3 pt) (g3.new nN) upd_same ⟨nmz us hu, by omega⟩ lu ((pt.new nN).mono hc')
  refine ⟨.int way, rfl, rfl, _, rfl, ite2 (fun _ => ?_) fun _ => ?_⟩
  · refine ⟨.ref l, rfl, l, rfl, ⟨_, .inl (.inl hl2)⟩, fun D1 nD => ?_⟩
    have Dp : D1 ≠ p := fun z => by
      obtain ⟨a, b, k, e, _⟩ := pot2
      rw [z, e] at nD
      cases nD
    have fD := Fresh.back (fresh_none nD) g02 pot2
    refine lc_it (walk_list (xs := zs.map V.str)) (fun j H' => Grow [p] H H' ∧ Pot H' p (c + 1 + (j : Nat)) ∧ ∃ us : List Str, H' D1 = some (.lst (us.map V.str)) ∧ us.length ≤ j ∧ ∀ a ∈ us, a ∈ zs) ⟨g02.new nD, (pot2.new nD).mono (by omega), [], upd_same, Nat.le_refl _, fun a ha => nomatch ha⟩ (fun j H' _ h => .inl (.inl (h.1.lst (by simpa using lp) hl))) (fun j x Ha Hb hj hp hy => ?_) (fun H3 hp => ?_)
    · obtain ⟨ga, pa, us, eD, lu, hu⟩ := hp
      obtain ⟨rfl, ex⟩ := hy
      rw [List.length_map] at hj
      obtain ⟨z, ez⟩ : ∃ z, zs[j]? = some z := ⟨_, List.getElem?_eq_getElem hj⟩
      rw [List.getElem?_map, ez] at ex
      cases ex
      refine ⟨rfl, .ref p, rfl, p, 3, _, rfl, by decide, by decide, by omega, pa, fun v Hc v0 v1 gc pc => ⟨rfl, _, rfl, ?_⟩⟩
      have eDc := gc.lst (by simpa using Dp) eD
      have g0c := ga.trans gc
      by_cases cv : v = 0
      · rw [show decide (V.int v = V.int 0) = true from decide_eq_true (congrArg V.int cv)]
        refine iteT ⟨.str z, rfl, _, eDc, by rw [List.length_map]; unfold sizeLine; omega, g0c.put fD eDc (fun ps z => by cases z), (pc.at Dp.symm).mono (by omega), us ++ [z], by rw [upd_same, List.map_append]; rfl, by rw [List.length_append]; show us.length + 1 ≤ _; omega, fun a ha => ?_⟩
        rcases List.mem_append.mp ha with ha | ha
        · exact hu a ha
        · rw [List.mem_singleton.mp ha]; exact List.mem_of_getElem? ez
      · rw [show decide (V.int v = V.int 0) = false from decide_eq_false fun y => cv (V.int.inj y)]
        exact iteF ⟨g0c, pc.mono (by omega), us, eDc, by omega, hu⟩
    · obtain ⟨ga, pa, us, eD, lu, hu⟩ := hp
      rw [List.length_map] at lu pa
      exact q D1 H3 us fD ga eD ⟨nmz us hu, by omega⟩ (by omega) (pa.mono (by omega))
  · refine ⟨.ref p, rfl, .ref Ro, rfl, Ro, _, rfl, .inl (.inl (.inl eRo2)), _, _, rfl, rfl, p, _, _, rfl, by omega, by rw [List.length_map]; omega, by omega, pot2, fun at_ H3 a0 a1 g3 pot3 => ?_⟩
    have eRo3 : H3 Ro = some (.lst (ys.map V.str)) := g3.lst (by simpa using pot1.neL eRo) eRo2
    refine ⟨.ref p, rfl, .ref Ro, rfl, Ro, _, rfl, .inl (.inl (.inl eRo3)), _, _, rfl, rfl, p, _, _, rfl, by omega, by rw [List.length_map]; omega, by omega, pot3, fun to_ H4 b0 b1 g4 pot4 => ?_⟩
    have eRo4 : H4 Ro = some (.lst (ys.map V.str)) := g4.lst (by simpa using pot1.neL eRo) eRo3
    have g04 : Grow [p] H H4 := (g02.trans g3).trans g4
    have hl4 := g04.lst (by simpa using lp) hl
    refine ⟨_, _, rfl, ?_⟩
    have step : ∀ {H5 : Hp} {L : Addr} {us : List Str}, Grow [p] H H5 → Pot H5 p (c + 3) → H5 L = none → Grow [p] H (upd H5 L (.lst (us.map V.str))) ∧ Pot (upd H5 L (.lst (us.map V.str))) p (c + 3) ∧ upd H5 L (.lst (us.map V.str)) L = some (.lst (us.map V.str)) ∧ (∀ (A : Addr) (xs : List V), H5 A = some (.lst xs) → upd H5 L (.lst (us.map V.str)) A = some (.lst xs)) := fun g pt n =>
      ⟨g.new n, pt.new n, upd_same, fun A xs e => by rw [upd_ne (ne_of_none e n)]; exact e⟩
    have pot4' : Pot H4 p (c + 3) := pot4.mono (by omega)
    have ifN : ∀ (k : Int) {A B : Prop}, (way = k → A) → (way ≠ k → B) → if decide (V.int way = V.int k) = true then A else B := fun k A B ha hb => by
      by_cases e : way = k
      · rw [show decide (V.int way = V.int k) = true from decide_eq_true (congrArg V.int e)]
        exact iteT (ha e)
      · rw [show decide (V.int way = V.int k) = false from decide_eq_false fun y => e (V.int.inj y)]
        exact iteF (hb e)
    refine ⟨.int way, rfl, rfl, _, rfl, ifN 1 (fun _ => ?_) fun _ => ?_⟩
    · refine ⟨.ref Ro, rfl, .int at_, rfl, at_, rfl, Ro, _, rfl, .inl (.inl eRo4), fun L1 n1 => ?_⟩
      obtain ⟨u1, e1, m1, l1⟩ := cut_strs ys none (some at_)
      rw [e1]
      obtain ⟨g5, p5, eL1, k5⟩ := step (us := u1) g04 pot4' n1
      have eRo5 := k5 _ _ eRo4
      generalize upd H4 L1 (.lst (u1.map V.str)) = H5 at g5 p5 eL1 k5 eRo5 ⊢
      refine ⟨.ref Ro, rfl, .int at_, rfl, _, _, rfl, rfl, at_ + 1, rfl, Ro, _, rfl, .inl (.inl eRo5), fun L2 n2 => ?_⟩
      obtain ⟨u2, e2, m2, l2⟩ := cut_strs ys (some (at_ + 1)) none
      rw [e2]
      obtain ⟨g6, p6, eL2, k6⟩ := step (us := u2) g5 p5 n2
      have eL1' := k6 _ _ eL1
      generalize upd H5 L2 (.lst (u2.map V.str)) = H6 at g6 p6 eL2 k6 eL1' ⊢
      refine ⟨L1, L2, _, _, rfl, rfl, eL1', eL2, by rw [List.length_map, List.length_map]; unfold sizeLine; omega, fun N nN => ?_⟩
      refine fin H6 _ _ (u1 ++ u2) N g6 nN p6 (by omega) (fun a ha => ?_) (by rw [List.length_append]; omega) (by rw [List.map_append])
      rcases List.mem_append.mp ha with ha | ha
      · exact ysub a (m1 a ha)
      · exact ysub a (m2 a ha)
    refine ⟨.int way, rfl, rfl, _, rfl, ifN 2 (fun _ => ?_) fun _ => ?_⟩
    · refine ⟨.ref Ro, rfl, .int at_, rfl, at_, rfl, Ro, _, rfl, .inl (.inl eRo4), fun L1 n1 => ?_⟩
      obtain ⟨u1, e1, m1, l1⟩ := cut_strs ys none (some at_)
      rw [e1]
      obtain ⟨g5, p5, eL1, k5⟩ := step (us := u1) g04 pot4' n1
      have eRo5 := k5 _ _ eRo4
      have hl5 := k5 _ _ hl4
      generalize upd H4 L1 (.lst (u1.map V.str)) = H5 at g5 p5 eL1 k5 eRo5 hl5 ⊢
      refine ⟨.ref l, rfl, .int to_, rfl, to_, rfl, .int to_, rfl, _, _, rfl, rfl, to_ + 1, rfl, l, _, rfl, .inl (.inl hl5), fun L2 n2 => ?_⟩
      obtain ⟨u2, e2, m2, l2⟩ := cut_strs zs (some to_) (some (to_ + 1))
      rw [e2]
      obtain ⟨g6, p6, eL2, k6⟩ := step (us := u2) g5 p5 n2
      have eL1' := k6 _ _ eL1
      have eRo6 := k6 _ _ eRo5
      generalize upd H5 L2 (.lst (u2.map V.str)) = H6 at g6 p6 eL2 k6 eL1' eRo6 ⊢
      refine ⟨L1, L2, _, _, rfl, rfl, eL1', eL2, by rw [List.length_map, List.length_map]; unfold sizeLine; omega, fun L3 n3 => ?_⟩
      rw [← List.map_append]
      obtain ⟨g7, p7, eL3, k7⟩ := step (us := u1 ++ u2) g6 p6 n3
      have eRo7 := k7 _ _ eRo6
      generalize upd H6 L3 (.lst ((u1 ++ u2).map V.str)) = H7 at g7 p7 eL3 k7 eRo7 ⊢
      refine ⟨.ref Ro, rfl, .int at_, rfl, at_, rfl, Ro, _, rfl, .inl (.inl eRo7), fun L4 n4 => ?_⟩
      obtain ⟨u4, e4, m4, l4⟩ := cut_strs ys (some at_) none
      rw [e4]
      obtain ⟨g8, p8, eL4, k8⟩ := step (us := u4) g7 p7 n4
      have eL3' := k8 _ _ eL3
      generalize upd H7 L4 (.lst (u4.map V.str)) = H8 at g8 p8 eL4 k8 eL3' ⊢
      refine ⟨L3, L4, _, _, rfl, rfl, eL3', eL4, by rw [List.length_map, List.length_map, List.length_append]; unfold sizeLine; omega, fun N nN => ?_⟩
      refine fin H8 _ _ ((u1 ++ u2) ++ u4) N g8 nN p8 (by omega) (fun a ha => ?_) (by rw [List.length_append, List.length_append]; omega) (by rw [List.map_append (l₂ := u4)])
      rcases List.mem_append.mp ha with ha | ha
      · rcases List.mem_append.mp ha with ha | ha
        · exact ysub a (m1 a ha)
        · exact m2 a ha
      · exact ysub a (m4 a ha)
    refine ⟨.int way, rfl, rfl, _, rfl, ifN 3 (fun _ => ?_) fun _ => ?_⟩
    · refine ⟨.ref Ro, rfl, .int at_, rfl, at_, rfl, Ro, _, rfl, .inl (.inl eRo4), fun L1 n1 => ?_⟩
      obtain ⟨u1, e1, m1, l1⟩ := cut_strs ys (some at_) none
      rw [e1]
      obtain ⟨g5, p5, eL1, k5⟩ := step (us := u1) g04 pot4' n1
      have eRo5 := k5 _ _ eRo4
      generalize upd H4 L1 (.lst (u1.map V.str)) = H5 at g5 p5 eL1 k5 eRo5 ⊢
      refine ⟨.ref Ro, rfl, .int at_, rfl, at_, rfl, Ro, _, rfl, .inl (.inl eRo5), fun L2 n2 => ?_⟩
      obtain ⟨u2, e2, m2, l2⟩ := cut_strs ys none (some at_)
      rw [e2]
      obtain ⟨g6, p6, eL2, k6⟩ := step (us := u2) g5 p5 n2
      have eL1' := k6 _ _ eL1
      generalize upd H5 L2 (.lst (u2.map V.str)) = H6 at g6 p6 eL2 k6 eL1' ⊢
      refine ⟨L1, L2, _, _, rfl, rfl, eL1', eL2, by rw [List.length_map, List.length_map]; unfold sizeLine; omega, fun N nN => ?_⟩
      refine fin H6 _ _ (u1 ++ u2) N g6 nN p6 (by omega) (fun a ha => ?_) (by rw [List.length_append]; omega) (by rw [List.map_append])
      rcases List.mem_append.mp ha with ha | ha
      · exact ysub a (m1 a ha)
      · exact ysub a (m2 a ha)
    refine ⟨.int way, rfl, rfl, _, rfl, ifN 4 (fun _ => ?_) fun _ => ?_⟩
    · exact ⟨.ref Ro, rfl, q Ro H4 ys fRo g04 eRo4 ⟨nmz ys ysub, by omega⟩ (by omega) (pot4.mono (by omega))⟩
    · refine ⟨.ref Ro, rfl, Ro, _, rfl, .inl (.inl eRo4), fun N nN => ?_⟩
      exact fin H4 _ _ ys.reverse N g04 nN pot4' (by omega) (fun a ha => ysub a (List.mem_reverse.mp ha)) (by rw [List.length_reverse]; omega) (by rw [List.map_reverse])
end

end Lw

namespace Lw
open PySem PySem.Spec PyProof.Rows L2 GxR Gx
section
variable {P : Program} {w : World} {K : PySem.W.Frag} {mg : Str → Option Value} {base : Heap}
/-! ### _law_lots -/
/-- lists of names at some addresses -/
def LsOk (H : Hp) (as : List Addr) (n : Nat) : Prop := ∀ a ∈ as, ∃ r : List Str, H a = some (.lst (r.map V.str)) ∧ r.all isNm = true ∧ r.length ≤ n
theorem LsOk.grow {ex : List Addr} {H H' : Hp} {as : List Addr} {n : Nat} (h : LsOk H as n) (g : Grow ex H H') (ne : ∀ a ∈ as, a ∉ ex) : LsOk H' as n := fun a ha => by
  obtain ⟨r, e, h1, h2⟩ := h a ha
  exact ⟨r, g.lst (ne a ha) e, h1, h2⟩
theorem LsOk.mono {H : Hp} {as : List Addr} {n n' : Nat} (h : LsOk H as n) (l : n ≤ n') : LsOk H as n' := fun a ha => by
  obtain ⟨r, e, h1, h2⟩ := h a ha
  exact ⟨r, e, h1, by omega⟩
theorem LsOk.put {H : Hp} {as : List Addr} {n : Nat} {b : Addr} {r : List Str} (h : LsOk H as n) (h1 : r.all isNm = true) (h2 : r.length ≤ n) : LsOk (upd H b (.lst (r.map V.str))) as n := fun a ha => by
  by_cases c : a = b
  · rw [c]
    exact ⟨r, upd_same, h1, h2⟩
  · obtain ⟨q, e, k1, k2⟩ := h a ha
    exact ⟨q, by rw [upd_ne c]; exact e, k1, k2⟩
theorem LsOk.other {H : Hp} {as : List Addr} {n : Nat} {b : Addr} {o : HO} (h : LsOk H as n) (ne : ∀ a ∈ as, a ≠ b) : LsOk (upd H b o) as n := fun a ha => by
  obtain ⟨q, e, k1, k2⟩ := h a ha
  exact ⟨q, by rw [upd_ne (ne a ha)]; exact e, k1, k2⟩
def spLots (K : PySem.W.Frag) (T1 T : Addr) : Sp := fun vs H Q _ => ∃ (p l m : Addr) (c : Int) (zs ws : List Str), vs = [.ref p, .ref l, .ref m] ∧ TabG H T1 ∧ TabG H T ∧ Pot H p c ∧ c ≤ 2 ^ 18 ∧ H l = some (.lst (zs.map V.str)) ∧ H m = some (.lst (ws.map V.str)) ∧ l ≠ p ∧ m ≠ p ∧ Bk zs ∧ zs.Perm ws ∧ zs.length ≤ 9 ∧
  ∀ (D : Addr) (H' : Hp) (as : List Addr), Fresh H D → Grow [p] H H' → H' D = some (.lst (as.map V.ref)) → as.length ≤ 30 → (∀ a ∈ as, Fresh H a) → LsOk H' as 200 → Pot H' p (c + 3000) → Q (.ref D) H'
/-- the list of lots at Lt, all of it new -/
structure LtOk (H H' : Hp) (p Lt : Addr) (c : Int) (as : List Addr) (n : Nat) : Prop where
  fr : Fresh H Lt
  np : Lt ≠ p
  gr : Grow [p] H H'
  pot : Pot H' p c
  lst : H' Lt = some (.lst (as.map V.ref))
  few : as.length ≤ 12
  frs : ∀ a ∈ as, Fresh H a ∧ a ≠ p ∧ a ≠ Lt
  oks : LsOk H' as n
section
variable {H H' : Hp} {p Lt : Addr} {c : Int} {as : List Addr} {n : Nat}
theorem LtOk.put (h : LtOk H H' p Lt c as n) {b : Addr} {r : List Str} {xs : List V} (hb : b ∈ as) (e : H' b = some (.lst xs)) (h1 : r.all isNm = true) (h2 : r.length ≤ n) : LtOk H (upd H' b (.lst (r.map V.str))) p Lt c as n :=
  ⟨h.fr, h.np, h.gr.put (h.frs b hb).1 e (fun ps z => by cases z), h.pot.at (h.frs b hb).2.1.symm, by rw [upd_ne (h.frs b hb).2.2.symm]; exact h.lst, h.few, h.frs, h.oks.put h1 h2⟩
theorem LtOk.new (h : LtOk H H' p Lt c as n) {L : Addr} {o : HO} (e : H' L = none) : LtOk H (upd H' L o) p Lt c as n :=
  ⟨h.fr, h.np, h.gr.new e, h.pot.new e, by rw [upd_ne (ne_of_none h.lst e)]; exact h.lst, h.few, h.frs, h.oks.other fun a ha => by
    obtain ⟨r, e2, _⟩ := h.oks a ha
    exact ne_of_none e2 e⟩
theorem LtOk.fresh (h : LtOk H H' p Lt c as n) {L : Addr} (e : H' L = none) : Fresh H L ∧ L ≠ p ∧ L ≠ Lt := by
  have f := Fresh.back (fresh_none e) h.gr h.pot
  refine ⟨f, fun z => ?_, fun z => ?_⟩
  · obtain ⟨a, b, k, e2, _⟩ := h.pot
    rw [z, e2] at e
    cases e
  · rw [z, h.lst] at e
    cases e
/-- the list itself is told anew -/
theorem LtOk.relist (h : LtOk H H' p Lt c as n) {bs : List Addr} (few : bs.length ≤ 12) (frs : ∀ a ∈ bs, Fresh H a ∧ a ≠ p ∧ a ≠ Lt) (oks : LsOk H' bs n) : LtOk H (upd H' Lt (.lst (bs.map V.ref))) p Lt c bs n :=
  ⟨h.fr, h.np, h.gr.put h.fr h.lst (fun ps z => by cases z), h.pot.at h.np.symm, upd_same, few, frs, oks.other fun a ha => (frs a ha).2.2⟩
end
theorem ixN_at {n j : Nat} (hj : j < n) : ixN n (j : Int) = some j := by
  have h1 : (0 : Int) ≤ (j : Nat) := Int.natCast_nonneg j
  have h2 : ((j : Nat) : Int) < (n : Nat) := Int.ofNat_lt.mpr hj
  simp [ixN, h1, h2]
theorem refs_perm {ys rest : List V} {as : List Addr} (h : (ys ++ rest).Perm (as.map V.ref)) : ∃ bs : List Addr, ys = bs.map V.ref ∧ (∀ b ∈ bs, b ∈ as) ∧ bs.length ≤ as.length := by
  have un : ∀ l : List V, (∀ x ∈ l, ∃ z ∈ as, x = V.ref z) → ∃ bs : List Addr, l = bs.map V.ref ∧ ∀ b ∈ bs, b ∈ as := fun l => by
    induction l with
    | nil => intro _; exact ⟨[], rfl, fun b h => nomatch h⟩
    | cons x l ih =>
      intro hl
      obtain ⟨z, hz, rfl⟩ := hl x List.mem_cons_self
      obtain ⟨bs, rfl, hb⟩ := ih fun y hy => hl y (List.mem_cons_of_mem _ hy)
      refine ⟨z :: bs, rfl, fun b hb' => ?_⟩
      rcases List.mem_cons.mp hb' with e | hb'
      · rw [e]; exact hz
      · exact hb b hb'
  obtain ⟨bs, rfl, hb⟩ := un ys fun x hx => by
    obtain ⟨z, hz, e⟩ := List.mem_map.mp (h.mem_iff.mp (List.mem_append_left _ hx))
    exact ⟨z, hz, e.symm⟩
  refine ⟨bs, rfl, hb, ?_⟩
  have := h.length_eq
  rw [List.length_append, List.length_map, List.length_map] at this
  omega
theorem ok_law_lots {f c T1 T : Addr} {fd : FuncData} (B : Nb mg) (D : DefIs K "_law_lots" "_law_lots" st_law_lots f fd (.ref c)) (c_fewest_lots : Callee P w K mg base CX0 11 "fewest_lots" ["book", "other"] (spFewest K T1 T))
    (c_law_take : Callee P w K mg base CX0 3 "_law_take" ["pot", "many"] (spTake K)) (c_law_some : Callee P w K mg base CX0 4 "_law_some" ["pot", "things", "many"] (spSome K)) : FnG P w K mg base CX0 12 f fd ["pot", "book", "other"] (spLots K T1 T) := by
  refine D.ok0 (k := 11) sc_law_lots (fun vs H Q E h => ?_) (fun A outer s H vs Q E g hr h => ?_)
  · obtain ⟨p, l, m, c, zs, ws, rfl, _⟩ := h
    rfl
  obtain ⟨p, l, m, c, zs, ws, rfl, t1, tT, pot, hc, hl, hm, lp, mp, bz, pm, z9, q⟩ := h
  refine ⟨_,
      (pss_cons (ps_set (i := 3) sc_law_lots.nd rfl (.inl rfl) (pe_g c_fewest_lots g (hr.mono (by decide)) pass0 (pa_cons (pv 1) (pa_cons (pv 2) pa_nil))))
      (pss_cons (ps_set (i := 4) sc_law_lots.nd rfl (.inr rfl) (pe_g c_law_take g (hr.mono (by decide)) pass0 (pa_cons (pv 0) (pa_cons pe_int pa_nil))))
      (pss_cons (ps_if (PW.pt (pw_or (pt_cmpR (op_eq) (pv 4) pe_int (nomark _)) (pw_or1 (pt_cmpR (op_eqE hr.units) (pv 3) (pe_lst pa_nil) (nomark _))))) (
        (pss_one (ps_ret (pe_ix ix_list (pe_lst (pa_cons (pe_lc (own := [("word", 5)]) (tt := tYes) (g := (gName 5)) rfl sc_law_lots.nd (pi_list (pv 1)) (blkOk_by (N := N_law_lots) (sc := defScope st_law_lots) (by decide +kernel)) (fun _ _ _ _ _ => (pg_name (i := 5) sc_law_lots.nd rfl (.inl rfl))) (fun _ _ _ _ _ => pts_nil) (fun _ _ _ _ _ => pe_to (pe_lst (pa_cons (pv 5) pa_nil)))) (pa_cons (pe_lst (pa_cons (pe_callTy call_list_of rfl B.n_list (by decide +kernel) (pa_cons (pv 1) pa_nil)) pa_nil)) (pa_cons (pe_lst (pa_cons (pe_lst pa_nil) pa_nil)) pa_nil)))) (pe_g c_law_take g (hr.mono (by decide)) pass0 (pa_cons (pv 0) (pa_cons pe_int pa_nil))) (fun _ _ => rfl))))) pss_nil)
      (pss_cons (ps_par (i := 6) (j := 7) rfl sc_law_lots.nd rfl rfl (by decide) rfl rfl (pa_cons (pe_g c_law_take g (hr.mono (by decide)) pass0 (pa_cons (pv 0) (pa_cons (pe_callB call_len_seq rfl B.n_len PySem.boot_len (pa_cons (pv 3) pa_nil)) pa_nil))) (pa_cons (pe_g c_law_take g (hr.mono (by decide)) pass0 (pa_cons (pv 0) (pa_cons (pe_callB call_len_seq rfl B.n_len PySem.boot_len (pa_cons (pv 3) pa_nil)) pa_nil))) pa_nil)) rfl)
      (pss_cons (ps_set (i := 5) sc_law_lots.nd rfl (.inl rfl) (pe_ix ix_list (pe_ix ix_list (pv 3) (pv 6) (fun _ _ => rfl)) (pe_g c_law_take g (hr.mono (by decide)) pass0 (pa_cons (pv 0) (pa_cons (pe_callB call_len_seq rfl B.n_len PySem.boot_len (pa_cons (pe_ix ix_list (pv 3) (pv 6) (fun _ _ => rfl)) pa_nil)) pa_nil))) (fun _ _ => rfl)))
      (pss_cons (ps_if (pt_cmpR (op_eq) (pv 4) pe_int (nomark _)) (
        (pss_cons (ps_expr (pe_bm PySem.F.plainAttrs_list PySem.F.slot_list_remove PySem.F.type_list_remove mt_removeS (pe_ix ix_list (pv 3) (pv 6) (fun _ _ => rfl)) (pa_cons (pv 5) pa_nil)))
        (pss_one (ps_expr (pe_bm PySem.F.plainAttrs_list PySem.F.slot_list_append PySem.F.type_list_append mt_append (pe_ix ix_list (pv 3) (pv 7) (fun _ _ => rfl)) (pa_cons (pv 5) pa_nil)))))) pss_nil)
      (pss_cons (ps_if (pt_cmpR (op_eq) (pv 4) pe_int (nomark _)) (
        (pss_one (ps_expr (pe_bm PySem.F.plainAttrs_list PySem.F.slot_list_append PySem.F.type_list_append mt_append (pe_ix ix_list (pv 3) (pv 7) (fun _ _ => rfl)) (pa_cons (pv 5) pa_nil))))) pss_nil)
      (pss_cons (ps_if (pt_cmpR (op_eq) (pv 4) pe_int (nomark _)) (
        (pss_one (ps_expr (pe_bm PySem.F.plainAttrs_list PySem.F.slot_list_remove PySem.F.type_list_remove mt_removeS (pe_ix ix_list (pv 3) (pv 6) (fun _ _ => rfl)) (pa_cons (pv 5) pa_nil))))) pss_nil)
      (pss_cons (ps_if (PW.pt (pw_and (pt_cmpR (op_eq) (pv 4) pe_int (nomark _)) (pw_and1 (pt_cmpR (op_ne) (pv 6) (pv 7) (nomark _))))) (
        (pss_cons (ps_expr (pe_bm PySem.F.plainAttrs_list PySem.F.slot_list_extend PySem.F.type_list_extend mt_extend (pe_ix ix_list (pv 3) (pv 7) (fun _ _ => rfl)) (pa_cons (pe_ix ix_list (pv 3) (pv 6) (fun _ _ => rfl)) pa_nil)))
        (pss_one (ps_expr (pe_bm PySem.F.plainAttrs_list PySem.F.slot_list_pop PySem.F.type_list_pop mt_popAt (pv 3) (pa_cons (pv 6) pa_nil)))))) pss_nil)
      (pss_cons (ps_if (pt_cmpR (op_eq) (pv 4) pe_int (nomark _)) (
        (pss_cons (ps_expr (pe_bm PySem.F.plainAttrs_list PySem.F.slot_list_append PySem.F.type_list_append mt_append (pv 3) (pa_cons (pe_slice sl_list (pe_ix ix_list (pv 3) (pv 6) (fun _ _ => rfl)) (po_some pe_int) po_none) pa_nil)))
        (pss_one (ps_asg (pe_slice sl_list (pe_ix ix_list (pv 3) (pv 6) (fun _ _ => rfl)) po_none (po_some pe_int)) (pg_sub (pv 3) (pv 6) set_list))))) pss_nil)
      (pss_cons (ps_if (pt_cmpR (op_eq) (pv 4) pe_int (nomark _)) (
        (pss_one (ps_setLc (i := 3) (own := [("lot", 8)]) (tt := tYes) (g := (gName 8)) rfl sc_law_lots.nd rfl rfl (sw_true rfl rfl rfl (by decide +kernel)) (pi_list (pv 3)) (blkOk_by (N := N_law_lots) (sc := defScope st_law_lots) (by decide +kernel)) (fun _ _ _ _ _ => (pg_name (i := 8) sc_law_lots.nd rfl (.inl rfl))) (fun _ _ _ _ _ => pts_nil) (fun _ _ _ _ _ => pe_to (pe_g c_law_some g (hr.mono (by decide)) pass0 (pa_cons (pv 0) (pa_cons (pv 8) (pa_cons pe_int pa_nil)))))))) pss_nil)
      (pss_one (ps_ret (pe_ifExp (pt_cmpR (op_eq) (pv 4) pe_int (nomark _)) (pe_g c_law_some g (hr.mono (by decide)) pass0 (pa_cons (pv 0) (pa_cons (pv 3) (pa_cons pe_int pa_nil)))) (pe_lc (own := [("lot", 8)]) (g := (gName 8)) rfl sc_law_lots.nd (pi_list (pv 3)) (blkOk_by (N := N_law_lots) (sc := defScope st_law_lots) (by decide +kernel)) (fun _ _ _ _ _ => (pg_name (i := 8) sc_law_lots.nd rfl (.inl rfl))) (fun _ _ _ _ _ => pts_to (pts_one (PW.pt (pw_or (pt_cmpR (op_neD hr.units) (pv 8) (pe_lst pa_nil) (nomark _)) (pw_or1 (pt_cmpR (op_eq) (pv 4) pe_int (nomark _))))))) (fun _ _ _ _ _ => pe_to (pv 8))))))))))))))))), ?_⟩
  refine ⟨.ref l, rfl, .ref m, rfl, l, m, zs, ws, rfl, t1, tT, .inl (.inl hl), .inl (.inl hm), bz, pm, fun L0 H1 as fL0 g1 eL0 nd fas hLL => ?_⟩
  obtain ⟨rs, ers⟩ : ∃ rs, lotsTo ws zs zs.length = rs := ⟨_, rfl⟩
  rw [ers] at hLL
  have lrs : rs.length ≤ 9 := by
    rw [← ers]
    unfold lotsTo
    rw [List.length_map, List.length_range]
    have h1 := topN_eq ws zs
    have h2 := top_le bz.nd pm
    omega
  have las : as.length = rs.length := by rw [hLL.len, List.length_map]
  have rok : ∀ r ∈ rs, r ≠ [] ∧ (∀ a ∈ r, a ∈ zs) ∧ r.length ≤ 9 := fun r hr => by
    rw [← ers] at hr
    unfold lotsTo at hr
    obtain ⟨k, hk, rfl⟩ := List.mem_map.mp hr
    obtain ⟨h1, h2, _⟩ := lot_ok bz.nd pm (List.mem_range.mp hk)
    exact ⟨h1, fun a ha => h2.subset ha, Nat.le_trans h2.length_le z9⟩
  have lat : ∀ {i : Nat} {a : Addr}, as[i]? = some a → ∃ r, r ∈ rs ∧ H1 a = some (.lst (r.map V.str)) := fun {i a} e => by
    have hi : i < rs.length := by rw [← las]; exact (List.getElem?_eq_some_iff.mp e).1
    have er : rs[i]? = some rs[i] := List.getElem?_eq_getElem hi
    exact ⟨_, List.getElem_mem hi, hLL.at_ i a _ e (by rw [List.getElem?_map, er]; rfl)⟩
  have ok1 : LsOk H1 as 9 := fun a ha => by
    obtain ⟨i, hi, ei⟩ := List.getElem_of_mem ha
    obtain ⟨r, hr, e⟩ := lat (i := i) (a := a) (by rw [List.getElem?_eq_getElem hi, ei])
    obtain ⟨_, h2, h3⟩ := rok r hr
    exact ⟨r, e, List.all_eq_true.mpr fun x hx => List.all_eq_true.mp bz.nm x (h2 x hx), h3⟩
  have pot1 := pot_grow pot g1
  have L0p : L0 ≠ p := pot.other fL0
  have asp : ∀ a ∈ as, a ≠ p := fun a ha => pot.other (fas a ha).1
  refine ⟨.ref p, rfl, p, 9, _, rfl, by decide, by decide, by omega, pot1, fun way H2 w0 w1 g2 pot2 => ?_⟩
  have g02 : Grow [p] H H2 := g1.any.trans g2
  have eL2 : H2 L0 = some (.lst (as.map V.ref)) := g2.lst (by simpa using L0p) eL0
  have hl2 := g02.lst (by simpa using lp) hl
  have ok2 : LsOk H2 as 9 := ok1.grow g2 fun a ha => by simpa using asp a ha
  dsimp only [gName]
  refine if_cut (fun H' => ∃ c', Pot H' p c' ∧ c' ≤ c + 2 ∧ Grow [p] H H') (fun H' => Grow [] H2 H' ∧ as ≠ []) (fun H3 h3 => ?_) (fun H3 h3 => ?_) fun RA RB hA hB => ?_
  · obtain ⟨c', pot3, hc', g3⟩ := h3
    have hl3 := g3.lst (by simpa using lp) hl
    have fr3 : ∀ {b : Addr} {H4 : Hp}, Grow [] H3 H4 → H4 b = none → Fresh H b := fun {b H4} g n => Fresh.back (fresh_none n) (g3.trans g.any) (pot_grow pot3 g)
    refine ⟨.ref l, rfl, l, rfl, ⟨_, .inl (.inl hl3)⟩, fun D1 nD => ?_⟩
    have fD := fr3 (Grow.refl _ _) nD
    refine lc_it (walk_list (xs := zs.map V.str)) (fun j H' => Grow [] H3 H' ∧ ∃ bs : List Addr, H' D1 = some (.lst (bs.map V.ref)) ∧ bs.length ≤ j ∧ (∀ b ∈ bs, Fresh H b ∧ b ≠ D1) ∧ LsOk H' bs 1) ⟨grow_new nD, [], upd_same, Nat.le_refl _, (fun b hb => nomatch hb), fun b hb => nomatch hb⟩ (fun j H' _ h => .inl (.inl (h.1.lst (by simp) hl3))) (fun j x Ha Hb hj hp hy => ?_) (fun H4 hp => ?_)
    · obtain ⟨ga, bs, eD, lb, fb, okb⟩ := hp
      obtain ⟨rfl, ex⟩ := hy
      rw [List.length_map] at hj
      obtain ⟨z, ez⟩ : ∃ z, zs[j]? = some z := ⟨_, List.getElem?_eq_getElem hj⟩
      rw [List.getElem?_map, ez] at ex
      cases ex
      have nz := List.all_eq_true.mp bz.nm z (List.mem_of_getElem? ez)
      refine ⟨rfl, yes_if ⟨.str z, rfl, by show 1 ≤ sizeLine; decide, fun O nO => ?_⟩⟩
      have fO := fr3 ga nO
      have OD : O ≠ D1 := fun y => by rw [y, eD] at nO; cases nO
      have gO := ga.new (o := .lst [V.str z]) nO
      have eDO : upd Hb O (.lst [V.str z]) D1 = some (.lst (bs.map V.ref)) := by rw [upd_ne (ne_of_none eD nO)]; exact eD
      have okO : LsOk (upd Hb O (.lst [V.str z])) (bs ++ [O]) 1 := fun b hb => by
        rcases List.mem_append.mp hb with hb | hb
        · obtain ⟨r, e, h1, h2⟩ := okb b hb
          exact ⟨r, by rw [upd_ne (ne_of_none e nO)]; exact e, h1, h2⟩
        · rw [List.mem_singleton.mp hb]
          exact ⟨[z], upd_same, by rw [List.all_cons, nz]; rfl, Nat.le_refl _⟩
      generalize upd Hb O (.lst [V.str z]) = Hc at gO eDO okO ⊢
      have fbO : ∀ b ∈ bs ++ [O], Fresh H b ∧ b ≠ D1 := fun b hb => by
        rcases List.mem_append.mp hb with hb | hb
        · exact fb b hb
        · rw [List.mem_singleton.mp hb]; exact ⟨fO, OD⟩
      exact ⟨_, eDO, by rw [List.length_map]; unfold sizeLine; omega, gO.put (fresh_none nD) eDO (fun ps z => by cases z), bs ++ [O], by rw [upd_same, List.map_append]; rfl, by rw [List.length_append]; show bs.length + 1 ≤ _; omega, fbO, okO.other fun b hb => (fbO b hb).2⟩
    · obtain ⟨ga, bs, eD, lb, fb, okb⟩ := hp
      rw [List.length_map] at lb
      have hl4 := ga.lst (by simp) hl3
      refine ⟨.ref l, rfl, l, _, rfl, .inl (.inl (.inl hl4)), fun L1 n1 => ⟨by show 1 ≤ sizeLine; decide, fun L2 n2 => ⟨by show 0 ≤ sizeLine; decide, fun L3 n3 => ⟨by show 1 ≤ sizeLine; decide, fun L4 n4 => ⟨by show 3 ≤ sizeLine; decide, fun L5 n5 => ?_⟩⟩⟩⟩⟩
      have f1 := fr3 ga n1
      have g5 := ga.new (o := .lst (zs.map V.str)) n1
      have e1 : upd H4 L1 (.lst (zs.map V.str)) L1 = some (.lst (zs.map V.str)) := upd_same
      have k5 : Grow [] H4 (upd H4 L1 (.lst (zs.map V.str))) := grow_new n1
      generalize upd H4 L1 (.lst (zs.map V.str)) = H5 at g5 e1 k5 n2 n3 n4 n5 ⊢
      have f2 := fr3 g5 n2
      have g6 := g5.new (o := .lst [V.ref L1]) n2
      have e2 : upd H5 L2 (.lst [V.ref L1]) L2 = some (.lst [V.ref L1]) := upd_same
      have k6 : Grow [] H5 (upd H5 L2 (.lst [V.ref L1])) := grow_new n2
      generalize upd H5 L2 (.lst [V.ref L1]) = H6 at g6 e2 k6 n3 n4 n5 ⊢
      have f3 := fr3 g6 n3
      have g7 := g6.new (o := .lst []) n3
      have e3 : upd H6 L3 (.lst []) L3 = some (.lst ([] : List V)) := upd_same
      have k7 : Grow [] H6 (upd H6 L3 (.lst [])) := grow_new n3
      generalize upd H6 L3 (.lst []) = H7 at g7 e3 k7 n4 n5 ⊢
      have f4 := fr3 g7 n4
      have g8 := g7.new (o := .lst [V.ref L3]) n4
      have e4 : upd H7 L4 (.lst [V.ref L3]) L4 = some (.lst [V.ref L3]) := upd_same
      have k8 : Grow [] H7 (upd H7 L4 (.lst [V.ref L3])) := grow_new n4
      generalize upd H7 L4 (.lst [V.ref L3]) = H8 at g8 e4 k8 n5 ⊢
      have g9 := g8.new (o := .lst [V.ref D1, V.ref L2, V.ref L4]) n5
      have e5 : upd H8 L5 (.lst [V.ref D1, V.ref L2, V.ref L4]) L5 = some (.lst [V.ref D1, V.ref L2, V.ref L4]) := upd_same
      have k9 : Grow [] H8 (upd H8 L5 (.lst [V.ref D1, V.ref L2, V.ref L4])) := grow_new n5
      have f5 := fr3 g8 n5
      generalize upd H8 L5 (.lst [V.ref D1, V.ref L2, V.ref L4]) = H9 at g9 e5 k9 ⊢
      have pot9 := pot_grow pot3 g9
      refine ⟨.ref p, rfl, p, 3, _, rfl, by decide, by decide, by omega, pot9, fun v Hx v0 v1 gx potx => ?_⟩
      have gHx : Grow [p] H Hx := (g3.trans g9.any).trans gx
      have np : ∀ {b : Addr}, Fresh H b → b ∉ [p] := fun f => by simpa using pot.other f
      have j8 := k8.trans k9
      have j7 := k7.trans j8
      have j6 := k6.trans j7
      have j5 := k5.trans j6
      have ex5 := gx.lst (np f5) e5
      have hv : v = 0 ∨ v = 1 ∨ v = 2 := by omega
      rcases hv with rfl | rfl | rfl
      · refine ⟨L5, _, 0, .ref D1, rfl, rfl, .inl (.inl ex5), rfl, ?_⟩
        exact q D1 Hx bs fD gHx (gx.lst (np fD) (j5.lst (by simp) eD)) (by omega) (fun b hb => (fb b hb).1) (((okb.grow j5 fun b hb => by simp).grow gx fun b hb => np (fb b hb).1).mono (by omega)) (potx.mono (by omega))
      · refine ⟨L5, _, 1, .ref L2, rfl, rfl, .inl (.inl ex5), rfl, ?_⟩
        exact q L2 Hx [L1] f2 gHx (gx.lst (np f2) (j7.lst (by simp) e2)) (by show 1 ≤ 30; decide) (fun b hb => by rw [List.mem_singleton.mp hb]; exact f1) (fun b hb => by rw [List.mem_singleton.mp hb]; exact ⟨zs, gx.lst (np f1) (j6.lst (by simp) e1), bz.nm, by omega⟩) (potx.mono (by omega))
      · refine ⟨L5, _, 2, .ref L4, rfl, rfl, .inl (.inl ex5), rfl, ?_⟩
        exact q L4 Hx [L3] f4 gHx (gx.lst (np f4) (k9.lst (by simp) e4)) (by show 1 ≤ 30; decide) (fun b hb => by rw [List.mem_singleton.mp hb]; exact f3) (fun b hb => by rw [List.mem_singleton.mp hb]; exact ⟨[], gx.lst (np f3) (j8.lst (by simp) e3), rfl, by decide⟩) (potx.mono (by omega))
  · obtain ⟨g3, ne⟩ := h3
    have pot3 := pot_grow pot2 g3
    have g03 : Grow [p] H H3 := g02.trans g3.any
    have eL3 := g3.lst (by simp) eL2
    have ok3 : LsOk H3 as 9 := ok2.grow g3 fun a ha => by simp
    have apos : 0 < as.length := List.length_pos_iff.mpr ne
    refine ⟨.ref p, rfl, .ref L0, rfl, L0, _, rfl, .inl (.inl (.inl eL3)), p, _, _, rfl, by rw [List.length_map]; omega, by rw [List.length_map]; omega, by omega, pot3, fun at1 H4 a0 a1 g4 pot4 => ?_⟩
    have eL4 := g4.lst (by simpa using L0p) eL3
    refine ⟨.ref p, rfl, .ref L0, rfl, L0, _, rfl, .inl (.inl (.inl eL4)), p, _, _, rfl, by rw [List.length_map]; omega, by rw [List.length_map]; omega, by omega, pot4, fun to1 H5 b0 b1 g5 pot5 => ?_⟩
    rw [List.length_map] at a1 b1
    obtain ⟨ia, rfl⟩ := Int.eq_ofNat_of_zero_le a0
    obtain ⟨ib, rfl⟩ := Int.eq_ofNat_of_zero_le b0
    have la : ia < as.length := by omega
    have lb : ib < as.length := by omega
    have eL5 := g5.lst (by simpa using L0p) eL4
    have g05 : Grow [p] H H5 := (g03.trans g4).trans g5
    have ok5 : LsOk H5 as 9 := ((ok3.grow g4 fun a ha => by simpa using asp a ha).grow g5 fun a ha => by simpa using asp a ha)
    refine ⟨_, _, rfl, ?_⟩
    obtain ⟨aa, eaa⟩ : ∃ a, as[ia]? = some a := ⟨_, List.getElem?_eq_getElem la⟩
    obtain ⟨ab, eab⟩ : ∃ a, as[ib]? = some a := ⟨_, List.getElem?_eq_getElem lb⟩
    have ma := List.mem_of_getElem? eaa
    have mb := List.mem_of_getElem? eab
    obtain ⟨ra, rma, era1⟩ := lat eaa
    have era5 : H5 aa = some (.lst (ra.map V.str)) := by
      have := (g2.trans (g3.any.trans (g4.trans g5))).lst (by simpa using asp aa ma) era1
      exact this
    obtain ⟨rne, rz, r9⟩ := rok ra rma
    have rpos : 0 < ra.length := List.length_pos_iff.mpr rne
    have ixa : atI (as.map V.ref) ((ia : Nat) : Int) = some (.ref aa) := atI_nat (by rw [List.getElem?_map, eaa]; rfl)
    have ixb : atI (as.map V.ref) ((ib : Nat) : Int) = some (.ref ab) := atI_nat (by rw [List.getElem?_map, eab]; rfl)
    refine ⟨.ref L0, rfl, .int (ia : Nat), rfl, L0, _, (ia : Nat), .ref aa, rfl, rfl, .inl (.inl eL5), ixa, ?_⟩
    refine ⟨.ref p, rfl, .ref L0, rfl, .int (ia : Nat), rfl, L0, _, (ia : Nat), .ref aa, rfl, rfl, .inl (.inl eL5), ixa, aa, _, rfl, .inl (.inl (.inl era5)), p, _, _, rfl, by rw [List.length_map]; omega, by rw [List.length_map]; omega, by omega, pot5, fun wi H6 c0 c1 g6 pot6 => ?_⟩
    rw [List.length_map] at c1
    obtain ⟨iw, rfl⟩ := Int.eq_ofNat_of_zero_le c0
    have lw : iw < ra.length := by omega
    obtain ⟨wd, ewd⟩ : ∃ z, ra[iw]? = some z := ⟨_, List.getElem?_eq_getElem lw⟩
    have wm := List.mem_of_getElem? ewd
    have wnm : isNm wd = true := List.all_eq_true.mp bz.nm wd (rz wd wm)
    have era6 : H6 aa = some (.lst (ra.map V.str)) := g6.lst (by simpa using asp aa ma) era5
    refine ⟨aa, _, (iw : Nat), .str wd, rfl, rfl, .inl (.inl era6), atI_nat (by rw [List.getElem?_map, ewd]; rfl), ?_⟩
    have eL6 := g6.lst (by simpa using L0p) eL5
    have g06 := g05.trans g6
    have ok6 : LsOk H6 as 9 := ok5.grow g6 fun a ha => by simpa using asp a ha
    have lt6 : LtOk H H6 p L0 (c + 2500) as 40 := ⟨fL0, L0p, g06, pot6.mono (by omega), eL6, by omega, fun a ha => ⟨(fas a ha).1, asp a ha, (fas a ha).2⟩, ok6.mono (by omega)⟩
    have ifN : ∀ (k : Int) {A B : Prop}, (way = k → A) → (way ≠ k → B) → if decide (V.int way = V.int k) = true then A else B := fun k A B ha hb => by
      by_cases e : way = k
      · rw [show decide (V.int way = V.int k) = true from decide_eq_true (congrArg V.int e)]
        exact iteT (ha e)
      · rw [show decide (V.int way = V.int k) = false from decide_eq_false fun y => e (V.int.inj y)]
        exact iteF (hb e)
    dsimp only [gName]
    have cat1 : ∀ (r : List Str) (z : Str), r.map V.str ++ [V.str z] = (r ++ [z]).map V.str := fun r z => by rw [List.map_append]; rfl
    have nmApp : ∀ {r s : List Str}, r.all isNm = true → s.all isNm = true → (r ++ s).all isNm = true := fun h1 h2 => by rw [List.all_append, h1, h2]; rfl
    have w1nm : [wd].all isNm = true := by rw [List.all_cons, wnm]; rfl
    have idx : ra[ra.idxOf wd]? = some wd := by rw [List.getElem?_eq_getElem (List.idxOf_lt_length_of_mem wm), List.getElem_idxOf]
    have noi : ∀ k : Nat, k < ra.idxOf wd → ra[k]? ≠ some wd := fun k hk e => by
      obtain ⟨h1, h2⟩ := List.getElem?_eq_some_iff.mp e
      have := List.not_of_lt_findIdx (p := fun x => x == wd) (xs := ra) (i := k) hk
      rw [h2] at this
      rw [beq_self_eq_true] at this
      cases this
    have eras : (ra.eraseIdx (ra.idxOf wd)).all isNm = true ∧ (ra.eraseIdx (ra.idxOf wd)).length ≤ 9 := by
      refine ⟨List.all_eq_true.mpr fun x hx => List.all_eq_true.mp bz.nm x (rz x (List.mem_of_mem_eraseIdx hx)), ?_⟩
      rw [List.length_eraseIdx]
      split <;> omega
    let sJ : Addr → L2.St := fun Lt => [some (.ref p), some (.ref l), some (.ref m), some (.ref Lt), some (.int way), some (.str wd), some (.int (ia : Nat)), some (.int (ib : Nat)), none]
    let J : Int → L2.St → Hp → Prop := fun k σ' H' => ∃ Lt bs, σ' = sJ Lt ∧ LtOk H H' p Lt (c + 2500) bs 40 ∧ (k < way → Lt = L0 ∧ bs = as ∧ LsOk H' as 9 ∧ H' aa = some (.lst (ra.map V.str)) ∧ Pot H' p (c + 10))
    refine seq_cut (J 1) (fun σ1 H7 hJ => ?_) fun R hR => ?_
    rotate_left
    · refine ⟨.int way, rfl, rfl, _, rfl, ifN 1 (fun e1 => ?_) fun e1 => hR _ _ ⟨L0, as, rfl, lt6, fun _ => ⟨rfl, rfl, ok6, era6, pot6.mono (by omega)⟩⟩⟩
      refine ⟨.ref L0, rfl, .int (ia : Nat), rfl, L0, _, (ia : Nat), .ref aa, rfl, rfl, .inl (.inl eL6), ixa, tyl era6, .str wd, rfl, aa, ra, wd, ra.idxOf wd, rfl, rfl, era6, idx, noi, ?_⟩
      have lt7 := lt6.put ma era6 eras.1 (Nat.le_trans eras.2 (by decide))
      have ok7 := ok6.put (b := aa) eras.1 eras.2
      generalize upd H6 aa (.lst ((ra.eraseIdx (ra.idxOf wd)).map V.str)) = H7 at lt7 ok7 ⊢
      obtain ⟨rb, eb, nb, lb9⟩ := ok7 ab mb
      refine ⟨.ref L0, rfl, .int (ib : Nat), rfl, L0, _, (ib : Nat), .ref ab, rfl, rfl, .inl (.inl lt7.lst), ixb, tyl eb, .str wd, rfl, ab, _, _, rfl, rfl, eb, by rw [List.length_map]; unfold sizeLine; omega, ?_⟩
      rw [cat1]
      exact hR _ _ ⟨L0, as, rfl, lt7.put mb eb (nmApp nb w1nm) (by rw [List.length_append]; show rb.length + 1 ≤ 40; omega), fun y => by omega⟩
    obtain ⟨Lt, bs, rfl, lt7, ini⟩ := hJ
    refine seq_cut (J 2) (fun σ1 H8 hJ => ?_) fun R hR => ?_
    rotate_left
    · refine ⟨.int way, rfl, rfl, _, rfl, ifN 2 (fun e1 => ?_) fun e1 => hR _ _ ⟨Lt, bs, rfl, lt7, fun y => ini (by omega)⟩⟩
      obtain ⟨rfl, rfl, ok7, era7, _⟩ := ini (by omega)
      obtain ⟨rb, eb, nb, lb9⟩ := ok7 ab mb
      refine ⟨.ref Lt, rfl, .int (ib : Nat), rfl, Lt, _, (ib : Nat), .ref ab, rfl, rfl, .inl (.inl lt7.lst), ixb, tyl eb, .str wd, rfl, ab, _, _, rfl, rfl, eb, by rw [List.length_map]; unfold sizeLine; omega, ?_⟩
      rw [cat1]
      exact hR _ _ ⟨Lt, bs, rfl, lt7.put mb eb (nmApp nb w1nm) (by rw [List.length_append]; show rb.length + 1 ≤ 40; omega), fun y => by omega⟩
    clear lt7 ini
    obtain ⟨Lt, bs, rfl, lt8, ini⟩ := hJ
    refine seq_cut (J 3) (fun σ1 H9 hJ => ?_) fun R hR => ?_
    rotate_left
    · refine ⟨.int way, rfl, rfl, _, rfl, ifN 3 (fun e1 => ?_) fun e1 => hR _ _ ⟨Lt, bs, rfl, lt8, fun y => ini (by omega)⟩⟩
      obtain ⟨rfl, rfl, ok8, era8, _⟩ := ini (by omega)
      refine ⟨.ref Lt, rfl, .int (ia : Nat), rfl, Lt, _, (ia : Nat), .ref aa, rfl, rfl, .inl (.inl lt8.lst), ixa, tyl era8, .str wd, rfl, aa, ra, wd, ra.idxOf wd, rfl, rfl, era8, idx, noi, ?_⟩
      exact hR _ _ ⟨Lt, bs, rfl, lt8.put ma era8 eras.1 (Nat.le_trans eras.2 (by decide)), fun y => by omega⟩
    clear lt8 ini
    obtain ⟨Lt, bs, rfl, lt9, ini⟩ := hJ
    refine seq_cut (J 4) (fun σ1 H10 hJ => ?_) fun R hR => ?_
    rotate_left
    · refine ⟨.int way, rfl, rfl, _, rfl, ifN 4 (fun e1 => ?_) fun e1 => hR _ _ ⟨Lt, bs, rfl, lt9, fun y => ini (by omega)⟩⟩
      obtain ⟨rfl, rfl, ok9, era9, _⟩ := ini (by omega)
      refine ⟨.int (ia : Nat), rfl, .int (ib : Nat), rfl, rfl, _, rfl, ?_⟩
      by_cases eab' : ia = ib
      · rw [show (!decide (V.int ((ia : Nat) : Int) = V.int ((ib : Nat) : Int))) = false by rw [decide_eq_true (by rw [eab'])]; rfl]
        exact iteF (hR _ _ ⟨Lt, bs, rfl, lt9, fun y => by omega⟩)
      · rw [show (!decide (V.int ((ia : Nat) : Int) = V.int ((ib : Nat) : Int))) = true by rw [decide_eq_false (fun z => eab' (by have := V.int.inj z; omega))]; rfl]
        obtain ⟨rb, eb, nb, lb9⟩ := ok9 ab mb
        have nra : ra.all isNm = true := List.all_eq_true.mpr fun x hx => List.all_eq_true.mp bz.nm x (rz x hx)
        refine iteT ⟨.ref Lt, rfl, .int (ib : Nat), rfl, Lt, _, (ib : Nat), .ref ab, rfl, rfl, .inl (.inl lt9.lst), ixb, tyl eb, .ref Lt, rfl, .int (ia : Nat), rfl, Lt, _, (ia : Nat), .ref aa, rfl, rfl, .inl (.inl lt9.lst), ixa, ab, aa, _, _, rfl, rfl, eb, era9, by rw [List.length_map, List.length_map]; unfold sizeLine; omega, ?_⟩
        rw [← List.map_append]
        have lt10 := lt9.put mb eb (nmApp nb nra) (by rw [List.length_append]; omega)
        generalize upd H9 ab (.lst ((rb ++ ra).map V.str)) = Hy at lt10 ⊢
        refine ⟨.ref Lt, rfl, tyl lt10.lst, .int (ia : Nat), rfl, Lt, _, (ia : Nat), ia, .ref aa, rfl, rfl, lt10.lst, by omega, by omega, seqIndex_nat (by omega) (by rw [List.length_map]; omega), by rw [List.getElem?_map, eaa]; rfl, ?_⟩
        rw [erase_map]
        have sub : ∀ a ∈ bs.eraseIdx ia, a ∈ bs := fun a ha => List.mem_of_mem_eraseIdx ha
        exact hR _ _ ⟨Lt, bs.eraseIdx ia, rfl, lt10.relist (by rw [List.length_eraseIdx]; have := lt10.few; split <;> omega) (fun a ha => lt10.frs a (sub a ha)) (fun a ha => lt10.oks a (sub a ha)), fun y => by omega⟩
    clear lt9 ini
    obtain ⟨Lt, bs, rfl, lt10, ini⟩ := hJ
    refine seq_cut (J 5) (fun σ1 H11 hJ => ?_) fun R hR => ?_
    rotate_left
    · refine ⟨.int way, rfl, rfl, _, rfl, ifN 5 (fun e1 => ?_) fun e1 => hR _ _ ⟨Lt, bs, rfl, lt10, fun y => ini (by omega)⟩⟩
      obtain ⟨rfl, rfl, ok10, era10, _⟩ := ini (by omega)
      obtain ⟨u1, c1, m1, l1⟩ := cut_strs ra (some 1) none
      obtain ⟨u2, c2, m2, l2⟩ := cut_strs ra none (some 1)
      have nmu : ∀ u : List Str, (∀ a ∈ u, a ∈ ra) → u.all isNm = true := fun u hu => List.all_eq_true.mpr fun x hx => List.all_eq_true.mp bz.nm x (rz x (hu x hx))
      refine ⟨.ref Lt, rfl, tyl lt10.lst, .ref Lt, rfl, .int (ia : Nat), rfl, Lt, _, (ia : Nat), .ref aa, rfl, rfl, .inl (.inl lt10.lst), ixa, 1, rfl, aa, _, rfl, .inl (.inl era10), fun L1 n1 => ?_⟩
      rw [c1]
      obtain ⟨f1, fp1, fl1⟩ := lt10.fresh n1
      have lt11 := lt10.new (o := .lst (u1.map V.str)) n1
      have e11 : upd H10 L1 (.lst (u1.map V.str)) L1 = some (.lst (u1.map V.str)) := upd_same
      have era11 : upd H10 L1 (.lst (u1.map V.str)) aa = some (.lst (ra.map V.str)) := by rw [upd_ne (ne_of_none era10 n1)]; exact era10
      dsimp only [tNil]
      generalize upd H10 L1 (.lst (u1.map V.str)) = Hy at lt11 e11 era11 ⊢
      refine ⟨Lt, _, _, rfl, rfl, lt11.lst, by rw [List.length_map]; have := lt11.few; unfold sizeLine; omega, ?_⟩
      rw [show bs.map V.ref ++ [V.ref L1] = (bs ++ [L1]).map V.ref by rw [List.map_append]; rfl]
      have frs2 : ∀ a ∈ bs ++ [L1], Fresh H a ∧ a ≠ p ∧ a ≠ Lt := fun a ha => by
        rcases List.mem_append.mp ha with ha | ha
        · exact lt11.frs a ha
        · rw [List.mem_singleton.mp ha]; exact ⟨f1, fp1, fl1⟩
      have oks2 : LsOk Hy (bs ++ [L1]) 40 := fun a ha => by
        rcases List.mem_append.mp ha with ha | ha
        · exact lt11.oks a ha
        · rw [List.mem_singleton.mp ha]; exact ⟨u1, e11, nmu u1 m1, by omega⟩
      have lt12 := lt11.relist (bs := bs ++ [L1]) (by rw [List.length_append]; show bs.length + 1 ≤ 12; omega) frs2 oks2
      have era12 : upd Hy Lt (.lst ((bs ++ [L1]).map V.ref)) aa = some (.lst (ra.map V.str)) := by rw [upd_ne (lt11.frs aa ma).2.2]; exact era11
      generalize upd Hy Lt (.lst ((bs ++ [L1]).map V.ref)) = Hz at lt12 era12 ⊢
      have ixa2 : atI ((bs ++ [L1]).map V.ref) ((ia : Nat) : Int) = some (.ref aa) := atI_nat (by rw [List.getElem?_map, List.getElem?_append_left la, eaa]; rfl)
      refine ⟨.ref Lt, rfl, .int (ia : Nat), rfl, Lt, _, (ia : Nat), .ref aa, rfl, rfl, .inl (.inl lt12.lst), ixa2, 1, rfl, aa, _, rfl, .inl (.inl era12), fun L2 n2 => ?_⟩
      rw [c2]
      obtain ⟨f2, fp2, fl2⟩ := lt12.fresh n2
      have lt13 := lt12.new (o := .lst (u2.map V.str)) n2
      have e13 : upd Hz L2 (.lst (u2.map V.str)) L2 = some (.lst (u2.map V.str)) := upd_same
      generalize upd Hz L2 (.lst (u2.map V.str)) = Hw at lt13 e13 ⊢
      refine ⟨.ref Lt, rfl, .int (ia : Nat), rfl, Lt, _, (ia : Nat), ia, rfl, rfl, lt13.lst, ixN_at (by rw [List.length_map, List.length_append]; omega), ?_⟩
      rw [← List.map_set]
      have sub3 : ∀ a ∈ (bs ++ [L1]).set ia L2, a ∈ bs ++ [L1] ∨ a = L2 := fun a ha => List.mem_or_eq_of_mem_set ha
      exact hR _ _ ⟨Lt, (bs ++ [L1]).set ia L2, rfl, lt13.relist (by rw [List.length_set, List.length_append]; show bs.length + 1 ≤ 12; omega) (fun a ha => (sub3 a ha).elim (fun h => lt13.frs a h) fun h => by rw [h]; exact ⟨f2, fp2, fl2⟩) (fun a ha => (sub3 a ha).elim (fun h => lt13.oks a h) fun h => by rw [h]; exact ⟨u2, e13, nmu u2 m2, by omega⟩), fun y => by omega⟩
    clear lt10 ini
    obtain ⟨Lt, bs, rfl, lt11, ini⟩ := hJ
    refine seq_cut (J 6) (fun σ1 H12 hJ => ?_) fun R hR => ?_
    rotate_left
    · refine ⟨.int way, rfl, rfl, _, rfl, ifN 6 (fun e1 => ?_) fun e1 => hR _ _ ⟨Lt, bs, rfl, lt11, fun y => ini (by omega)⟩⟩
      obtain ⟨rfl, rfl, ok11, era11, pot11⟩ := ini (by omega)
      refine ⟨.ref Lt, rfl, Lt, rfl, ⟨_, .inl (.inl lt11.lst)⟩, fun D1 nD => ?_⟩
      obtain ⟨fD, fpD, flD⟩ := lt11.fresh nD
      refine lc_it (walk_list (xs := bs.map V.ref)) (fun j H' => Grow [p] H11 H' ∧ Pot H' p (c + 10 + 200 * (j : Nat)) ∧ ∃ ds : List Addr, H' D1 = some (.lst (ds.map V.ref)) ∧ ds.length ≤ j ∧ (∀ a ∈ ds, Fresh H a ∧ a ≠ p ∧ a ≠ D1) ∧ LsOk H' ds 40) ⟨grow_new nD, (pot11.new nD).mono (by omega), [], upd_same, Nat.le_refl _, (fun a ha => nomatch ha), fun a ha => nomatch ha⟩ (fun j H' _ h => .inl (.inl (h.1.lst (by simpa using lt11.np) lt11.lst))) (fun j x Ha Hb hj hp hy => ?_) (fun Ha hp => ?_)
      · obtain ⟨ga, pa, ds, eD, ld, fds, okd⟩ := hp
        obtain ⟨rfl, ex⟩ := hy
        rw [List.length_map] at hj
        obtain ⟨a, ea⟩ : ∃ a, bs[j]? = some a := ⟨_, List.getElem?_eq_getElem hj⟩
        rw [List.getElem?_map, ea] at ex
        cases ex
        have am := List.mem_of_getElem? ea
        obtain ⟨r, er, nr, lr⟩ := ok11 a am
        have erb := ga.lst (by simpa using asp a am) er
        refine ⟨rfl, yes_if ⟨.ref p, rfl, .ref a, rfl, .inl ⟨p, a, 99, _, r, rfl, pa, by omega, .inl (.inl erb), nr, by omega, fun N Hc ys rest fN gc eN pmN _ pc => ?_⟩⟩⟩
        have nys : ys.all isNm = true := List.all_eq_true.mpr fun x hx => List.all_eq_true.mp nr x (pmN.mem_iff.mp (List.mem_append_left _ hx))
        have lys : ys.length ≤ 9 := by have := pmN.length_eq; rw [List.length_append] at this; omega
        have fNH : Fresh H N := Fresh.back fN (lt11.gr.trans ga) pa
        have Np : N ≠ p := fun z => by
          obtain ⟨x1, x2, x3, e2, _⟩ := pa
          obtain ⟨ps, z2⟩ := fN _ (by rw [z]; exact e2)
          cases z2
        have ND : N ≠ D1 := (fN.ne eD fun ps z => by cases z).symm
        have eDc := gc.lst (by simpa using fpD) eD
        have okc : LsOk Hc (ds ++ [N]) 40 := fun b hb => by
          rcases List.mem_append.mp hb with hb | hb
          · exact (okd.grow gc fun a ha => by simpa using (fds a ha).2.1) b hb
          · rw [List.mem_singleton.mp hb]; exact ⟨ys, eN, nys, by omega⟩
        have fdc : ∀ b ∈ ds ++ [N], Fresh H b ∧ b ≠ p ∧ b ≠ D1 := fun b hb => by
          rcases List.mem_append.mp hb with hb | hb
          · exact fds b hb
          · rw [List.mem_singleton.mp hb]; exact ⟨fNH, Np, ND⟩
        refine ⟨_, eDc, by rw [List.length_map]; unfold sizeLine; omega, ((ga.trans gc).put (fresh_none nD) eDc fun ps z => by cases z), (pc.at fpD.symm).mono (by omega), ds ++ [N], by rw [upd_same, List.map_append]; rfl, by rw [List.length_append]; show ds.length + 1 ≤ _; omega, fdc, okc.other fun b hb => (fdc b hb).2.2⟩
      · obtain ⟨ga, pa, ds, eD, ld, fds, okd⟩ := hp
        rw [List.length_map] at ld pa
        exact hR _ _ ⟨D1, ds, rfl, ⟨fD, fpD, lt11.gr.trans ga, pa.mono (by omega), eD, by omega, fds, okd⟩, fun y => by omega⟩
    clear lt11 ini
    obtain ⟨Lt, bs, rfl, lt12, _⟩ := hJ
    have few12 := lt12.few
    refine ⟨.int way, rfl, rfl, _, rfl, ifN 7 (fun _ => ?_) fun _ => ?_⟩
    · refine ⟨.ref p, rfl, .ref Lt, rfl, .inr ⟨p, Lt, 99, _, _, rfl, lt12.pot, by omega, .inl (.inl lt12.lst), by rw [List.length_map]; omega, fun N Hc ys rest fN gc eN pmN _ pc => ?_⟩⟩
      obtain ⟨ds, rfl, sub, ld⟩ := refs_perm pmN
      exact q N Hc ds (Fresh.back fN lt12.gr lt12.pot) (lt12.gr.trans gc) eN (by omega) (fun a ha => (lt12.frs a (sub a ha)).1) ((LsOk.grow (fun a ha => lt12.oks a (sub a ha)) gc fun a ha => by simpa using (lt12.frs a (sub a ha)).2.1).mono (by omega)) (pc.mono (by omega))
    · refine ⟨.ref Lt, rfl, Lt, rfl, ⟨_, .inl (.inl lt12.lst)⟩, fun D1 nD => ?_⟩
      obtain ⟨fD, fpD, flD⟩ := lt12.fresh nD
      refine lc_it (walk_list (xs := bs.map V.ref)) (fun j H' => Grow [] H12 H' ∧ ∃ ds : List Addr, H' D1 = some (.lst (ds.map V.ref)) ∧ ds.length ≤ j ∧ ∀ a ∈ ds, a ∈ bs) ⟨grow_new nD, [], upd_same, Nat.le_refl _, fun a ha => nomatch ha⟩ (fun j H' _ h => .inl (.inl (h.1.lst (by simp) lt12.lst))) (fun j x Ha Hb hj hp hy => ?_) (fun Ha hp => ?_)
      · obtain ⟨ga, ds, eD, ld, sub⟩ := hp
        obtain ⟨rfl, ex⟩ := hy
        rw [List.length_map] at hj
        obtain ⟨a, ea⟩ : ∃ a, bs[j]? = some a := ⟨_, List.getElem?_eq_getElem hj⟩
        rw [List.getElem?_map, ea] at ex
        cases ex
        have am := List.mem_of_getElem? ea
        obtain ⟨r, er, nr, lr⟩ := lt12.oks a am
        refine ⟨rfl, .ref a, rfl, by show 0 ≤ sizeLine; decide, fun E0 nE => ?_⟩
        have gE : Grow [] Hb (upd Hb E0 (.lst [])) := grow_new nE
        have eE : upd Hb E0 (.lst []) E0 = some (.lst ([] : List V)) := upd_same
        generalize upd Hb E0 (.lst []) = Hc at gE eE ⊢
        have gc := ga.trans gE
        have erc := gc.lst (by simp) er
        have eDc := gE.lst (by simp) eD
        have put : ∃ acc, Hc D1 = some (.lst acc) ∧ acc.length < sizeLine ∧ Grow [] H12 (upd Hc D1 (.lst (acc ++ [V.ref a]))) ∧ ∃ ds : List Addr, upd Hc D1 (.lst (acc ++ [V.ref a])) D1 = some (.lst (ds.map V.ref)) ∧ ds.length ≤ j + 1 ∧ ∀ a ∈ ds, a ∈ bs := by
          refine ⟨_, eDc, by rw [List.length_map]; unfold sizeLine; omega, gc.put (fresh_none nD) eDc (fun ps z => by cases z), ds ++ [a], by rw [upd_same, List.map_append]; rfl, by rw [List.length_append]; show ds.length + 1 ≤ _; omega, fun b hb => ?_⟩
          rcases List.mem_append.mp hb with hb | hb
          · exact sub b hb
          · rw [List.mem_singleton.mp hb]; exact am
        refine ⟨_, _, dp_book (.inl (.inl erc)), dp_book (xs := []) (.inl (.inl eE)), (fine_names nr (by omega)).shaped (by decide), (fine_names (zs := []) rfl (Nat.zero_le _)).shaped (by decide), _, rfl, ?_⟩
        rw [sortN_eqv]
        by_cases c0 : r = []
        · rw [show (!decide (r = [])) = false by rw [decide_eq_true c0]; rfl]
          refine iteF ⟨.int way, rfl, rfl, _, rfl, ?_⟩
          by_cases e8 : way = 8
          · rw [show decide (V.int way = V.int 8) = true from decide_eq_true (congrArg V.int e8)]
            exact iteT ⟨.ref a, rfl, put⟩
          · rw [show decide (V.int way = V.int 8) = false from decide_eq_false fun y => e8 (V.int.inj y)]
            exact iteF ⟨gc, ds, eDc, by omega, sub⟩
        · rw [show (!decide (r = [])) = true by rw [decide_eq_false c0]; rfl]
          exact iteT (iteT ⟨.ref a, rfl, put⟩)
      · obtain ⟨ga, ds, eD, ld, sub⟩ := hp
        rw [List.length_map] at ld
        exact q D1 Ha ds fD (lt12.gr.trans ga.any) eD (by omega) (fun a ha => (lt12.frs a (sub a ha)).1) ((LsOk.grow (fun a ha => lt12.oks a (sub a ha)) ga fun a ha => by simp).mono (by omega)) ((pot_grow lt12.pot ga).mono (by omega))
  · refine ⟨.int way, rfl, rfl, _, rfl, ?_⟩
    by_cases e0 : way = 0
    · rw [show decide (V.int way = V.int 0) = true from decide_eq_true (congrArg V.int e0)]
      exact iteT (iteT (hA H2 ⟨_, pot2, by omega, g02⟩))
    · rw [show decide (V.int way = V.int 0) = false from decide_eq_false fun y => e0 (V.int.inj y)]
      refine iteF ⟨.ref L0, rfl, by show 0 ≤ sizeLine; decide, fun E0 nE => ⟨L0, E0, _, rfl, rfl, by rw [upd_ne (ne_of_none eL2 nE)]; exact eL2, upd_same, _, rfl, ?_⟩⟩
      by_cases c0 : as = []
      · rw [decide_eq_true (show as.map V.ref = [] by rw [c0]; rfl)]
        exact iteT (hA _ ⟨_, pot2.new nE, by omega, g02.new nE⟩)
      · rw [decide_eq_false (show ¬ as.map V.ref = [] from fun y => c0 (List.map_eq_nil_iff.mp y))]
        exact iteF (hB _ ⟨grow_new nE, c0⟩)
end

end Lw

namespace Lw
open PySem PySem.Spec PyProof.Rows L2 GxR Gx
/-! ### a heap of which some addresses are left out -/
noncomputable def mask (X : Addr → Prop) (H : Hp) : Hp := fun a => @ite _ (X a) (Classical.propDecidable _) none (H a)
theorem mask_no {X : Addr → Prop} {H : Hp} {a : Addr} (h : ¬ X a) : mask X H a = H a := by unfold mask; rw [if_neg h]
theorem mask_some {X : Addr → Prop} {H : Hp} {a : Addr} {o : HO} (h : mask X H a = some o) : ¬ X a ∧ H a = some o := by
  by_cases c : X a
  · unfold mask at h
    rw [if_pos c] at h
    cases h
  · rw [mask_no c] at h
    exact ⟨c, h⟩
theorem mask_upd {X : Addr → Prop} {H : Hp} {t : Addr} {o : HO} (h : ¬ X t) : mask X (upd H t o) = upd (mask X H) t o := funext fun a => by
  by_cases c : a = t
  · subst c
    rw [mask_no h, upd_same, upd_same]
  · by_cases x : X a
    · unfold mask
      rw [if_pos x, upd_ne c, if_pos x]
    · rw [mask_no x, upd_ne c, upd_ne c, mask_no x]
/-- what stands in the one stands in the other -/
def Kp (H H' : Hp) : Prop := ∀ b o, H b = some o → (∀ ps, o ≠ .tbl ps) → H' b = some o
theorem kp_mask (X : Addr → Prop) (H : Hp) : Kp (mask X H) H := fun b o e _ => (mask_some e).2
theorem kp_gen {X Y : Addr → Prop} {H H' : Hp} (h : ∀ b o, ¬ X b → H b = some o → (∀ ps, o ≠ .tbl ps) → ¬ Y b ∧ H' b = some o) : Kp (mask X H) (mask Y H') := fun b o e n => by
  obtain ⟨h1, h2⟩ := mask_some e
  obtain ⟨h3, h4⟩ := h b o h1 h2 n
  rw [mask_no h3]
  exact h4
theorem kp_grow {ex : List Addr} {X : Addr → Prop} {H H' : Hp} (g : Grow ex H H') (hx : ∀ e ∈ ex, X e) : Kp (mask X H) (mask X H') := kp_gen fun b o hb e n => ⟨hb, g.keep b o (fun z => hb (hx b z)) e n⟩
section
variable {K : PySem.W.Frag} {H H' : Hp} {x : V}
theorem Ot.kp (h : Ot K H x) (k : Kp H H') : Ot K H' x := by
  cases h with
  | non => exact .non
  | bl b => exact .bl b
  | int i h => exact .int i h
  | tup e n => exact .tup (k _ _ e fun ps z => by cases z) n
  | dic e => exact .dic (k _ _ e fun ps z => by cases z)
theorem El.kp (h : El K H x) (k : Kp H H') : El K H' x := by
  cases h with
  | txt z h => exact .txt z h
  | lst e n => exact .lst (k _ _ e fun ps z => by cases z) n
  | oth h => exact .oth (h.kp k)
theorem Th.kp (h : Th K H x) (k : Kp H H') : Th K H' x := by
  cases h with
  | txt z h => exact .txt z h
  | lst e n h => exact .lst (k _ _ e fun ps z => by cases z) n fun x hx => (h x hx).kp k
  | oth h => exact .oth (h.kp k)
/-- what a thing is judged to be -/
def Jd (K : PySem.W.Frag) (H : Hp) (zs ws : List Str) (v : V) (b1 b2 : Bool) : Prop :=
  (∃ (t : Addr) (xs : List V) (rs : List (Option (List Str))), v = .ref t ∧ H t = some (.lst xs) ∧ xs.length ≤ 60 ∧ (∀ y ∈ xs, El K H y) ∧ Lots K H xs rs ∧ b1 = rowB zs ws xs ∧ b2 = lotsB zs ws rs) ∨ (NoL K H v ∧ b1 = false ∧ b2 = false)
theorem Jd.grow0 {zs ws : List Str} {b1 b2 : Bool} (h : Jd K H zs ws x b1 b2) (g : Grow [] H H') : Jd K H' zs ws x b1 b2 := by
  rcases h with ⟨t, xs, rs, e, et, lx, els, hR, e1, e2⟩ | ⟨no, e1, e2⟩
  · exact .inl ⟨t, xs, rs, e, g.lst (by simp) et, lx, fun y hy => (els y hy).grow0 g, hR.grow0 g, e1, e2⟩
  · exact .inr ⟨no.grow0 g, e1, e2⟩
theorem Th.jd (h : Th K H x) (zs ws : List Str) : ∃ b1 b2, Jd K H zs ws x b1 b2 := by
  cases h with
  | txt z h => exact ⟨false, false, .inr ⟨.inl ⟨z, rfl⟩, rfl, rfl⟩⟩
  | lst e n h =>
    obtain ⟨rs, hR⟩ := lots_of h
    exact ⟨_, _, .inl ⟨_, _, rs, rfl, e, n, h, hR, rfl, rfl⟩⟩
  | oth h => exact ⟨false, false, .inr ⟨.inr h, rfl, rfl⟩⟩
def Old (H : Hp) (a : Addr) : Prop := ∃ o, H a = some o ∧ ∀ ps, o ≠ .tbl ps
theorem Fresh.of_not {a : Addr} (h : ¬ Old H a) : Fresh H a := fun o e => Classical.byContradiction fun n => h ⟨o, e, fun ps z => n ⟨ps, z⟩⟩
theorem Fresh.not_old {a : Addr} (f : Fresh H a) : ¬ Old H a := fun ⟨o, e, n⟩ => by
  obtain ⟨ps, z⟩ := f o e
  exact n ps z
end
section
variable {P : Program} {w : World} {K : PySem.W.Frag} {mg : Str → Option Value} {base : Heap}
/-! ### law -/
theorem jd_due {H : Hp} {l m : Addr} {v : V} {zs ws : List Str} {b1 b2 : Bool} {Q : VK} {E : XK} (hl : H l = some (.lst (zs.map V.str))) (hm : H m = some (.lst (ws.map V.str))) (bz : Bk zs) (pm : zs.Perm ws) (j : Jd K H zs ws v b1 b2)
    (q : ∀ R H', Fresh H R → Grow [] H H' → H' R = some (.lst [.bl b1, .bl b2]) → Q (.ref R) H') : spLawDue K [.ref l, .ref m, v] H Q E := by
  refine ⟨l, m, v, zs, ws, rfl, hl, hm, bz, pm, ?_⟩
  rcases j with ⟨t, xs, rs, e, et, lx, els, hR, rfl, rfl⟩ | ⟨no, rfl, rfl⟩
  · exact .inl ⟨t, xs, rs, e, et, lx, els, hR, q⟩
  · exact .inr ⟨no, q⟩
theorem jd_row {H : Hp} {l m T1 T T3 : Addr} {v : V} {zs ws : List Str} {b1 b2 : Bool} {Q : VK} {E : XK} (t1 : TabG H T1) (tT : TabG H T) (t3 : TabG H T3) (hl : H l = some (.lst (zs.map V.str))) (hm : H m = some (.lst (ws.map V.str))) (bz : Bk zs) (pm : zs.Perm ws) (j : Jd K H zs ws v b1 b2)
    (q : ∀ H', Grow [] H H' → Q (.bl b1) H') : spIsRow K T1 T T3 [.ref l, .ref m, v] H Q E := by
  refine ⟨l, m, v, zs, ws, rfl, t1, tT, t3, .inl (.inl hl), .inl (.inl hm), bz, pm, ?_⟩
  rcases j with ⟨t, xs, rs, e, et, lx, els, hR, rfl, rfl⟩ | ⟨no, rfl, rfl⟩
  · exact .inl ⟨t, xs, e, .inl (.inl et), by omega, fun x hx => (els x hx).known, q⟩
  · obtain ⟨U, nU, tU, _⟩ := no.ty
    exact .inr ⟨U, nU, tU, q⟩
theorem jd_lots {H : Hp} {l m T1 T T3 T4 : Addr} {v : V} {zs ws : List Str} {b1 b2 : Bool} {Q : VK} {E : XK} (t1 : TabG H T1) (tT : TabG H T) (t3 : TabG H T3) (t4 : TabG H T4) (hl : H l = some (.lst (zs.map V.str))) (hm : H m = some (.lst (ws.map V.str))) (bz : Bk zs) (pm : zs.Perm ws) (j : Jd K H zs ws v b1 b2)
    (q : ∀ H', Grow [] H H' → Q (.bl b2) H') : spIsLots K T1 T T3 T4 [.ref l, .ref m, v] H Q E := by
  refine ⟨l, m, v, zs, ws, rfl, t1, tT, t3, t4, .inl (.inl hl), .inl (.inl hm), bz, pm, ?_⟩
  rcases j with ⟨t, xs, rs, e, et, lx, els, hR, rfl, rfl⟩ | ⟨no, rfl, rfl⟩
  · exact .inl ⟨t, xs, rs, e, et, hR, q⟩
  · obtain ⟨U, nU, tU, _⟩ := no.ty
    exact .inr ⟨U, nU, tU, q⟩
/-- three things, shown -/
theorem three_show {H : Hp} {l m : Addr} {v : V} {zs ws : List Str} (hl : H l = some (.lst (zs.map V.str))) (hm : H m = some (.lst (ws.map V.str))) (nz : NmL zs) (nw : NmL ws) (h : Th K H v) :
    ∃ ds : List PyData, (∀ H', Grow [] H H' → Dns K H' [.ref l, .ref m, v] ds) ∧ PyData.showableAll ds = true ∧ PyData.depthAll ds ≤ 60 ∧ (PyData.list ds).shown.length ≤ sizeLine := by
  obtain ⟨d, h1, h2⟩ := h.dn
  have hs : ∀ e ∈ [PyData.list (zs.map PyData.str), .list (ws.map PyData.str), d], Shw e 2 108060 := fun e he => by
    rcases List.mem_cons.mp he with q | he
    · rw [q]; exact (names_shw nz).mono (by decide) (by decide)
    · rcases List.mem_cons.mp he with q | he
      · rw [q]; exact (names_shw nw).mono (by decide) (by decide)
      · rw [List.mem_singleton.mp he]; exact h2
  have f := shws hs
  have fl := Shw.list (k := 324183) hs (by show 3 * (108060 + 1) ≤ 324183; decide)
  refine ⟨_, fun H' g => .cons (.d (.p (dp_book (.inl (.inl (g.lst (by simp) hl)))) (by rw [PyData.hasDict]; exact no_dictN zs))) (.cons (.d (.p (dp_book (.inl (.inl (g.lst (by simp) hm)))) (by rw [PyData.hasDict]; exact no_dictN ws))) (.cons (dn_grow g h1) .nil)), f.show_, Nat.le_trans f.deep (by decide), ?_⟩
  have h3 := PyData.shown_le_bulk 8 (by decide) _ fl.leaves
  have h4 := fl.bulk
  unfold sizeLine
  omega
def spLaw (K : PySem.W.Frag) (T1 T2 T3 T4 : Addr) : Sp := fun vs H Q _ => ∃ (a : Addr) (ns : List Int), vs = [.ref a] ∧ TabG H T1 ∧ TabG H T2 ∧ TabG H T3 ∧ TabG H T4 ∧ SqL K H a (ns.map V.int) ∧ ∀ H', Grow [] H H' → Q (.bl true) H'
theorem ok_law {f c T1 T2 T3 T4 : Addr} {fd : FuncData} (B : Nb mg) (D : DefIs K "law" "law" st_law f fd (.ref c))
    (c_law_pot : Callee P w K mg base CX0 3 "_law_pot" ["script", "k"] (spPot K)) (c_law_take : Callee P w K mg base CX0 3 "_law_take" ["pot", "many"] (spTake K)) (c_law_names : Callee P w K mg base CX0 5 "_law_names" ["pot", "many"] (spDraw K))
    (c_law_other : Callee P w K mg base CX0 5 "_law_other" ["pot", "book"] (spOther K)) (c_law_row : Callee P w K mg base CX0 12 "_law_row" ["pot", "book", "other"] (spRow K T1 T2)) (c_law_lots : Callee P w K mg base CX0 12 "_law_lots" ["pot", "book", "other"] (spLots K T1 T2))
    (c_law_due : Callee P w K mg base CX0 5 "_law_due" ["book", "other", "thing"] (spLawDue K)) (c_is_turned_row : Callee P w K mg base CX0 11 "is_turned_row" ["book", "other", "thing"] (spIsRow K T1 T2 T3)) (c_is_lots : Callee P w K mg base CX0 11 "is_lots" ["book", "other", "thing"] (spIsLots K T1 T2 T3 T4)) :
    FnG P w K mg base CX0 14 f fd ["script"] (spLaw K T1 T2 T3 T4) := by
  refine D.ok0 (k := 13) sc_law (fun vs H Q E h => ?_) (fun A outer s H vs Q E g hr h => ?_)
  · obtain ⟨a, ns, rfl, _⟩ := h
    rfl
  obtain ⟨a, ns, rfl, t1, t2, t3, t4, ha, q⟩ := h
  refine ⟨_,
      (pss_cons (ps_set (i := 1) sc_law.nd rfl (.inl rfl) (pe_lst (pa_cons pe_non (pa_cons pe_int (pa_cons pe_bl (pa_cons pe_str (pa_cons (pe_tup pa_nil) (pa_cons pe_dnewK (pa_cons (pe_lst (pa_cons pe_non pa_nil)) (pa_cons (pe_lst (pa_cons pe_int pa_nil)) (pa_cons (pe_lst (pa_cons (pe_lst pa_nil) pa_nil)) (pa_cons (pe_lst (pa_cons (pe_tup pa_nil) pa_nil)) (pa_cons (pe_lst (pa_cons pe_dnewK pa_nil)) (pa_cons (pe_lst (pa_cons pe_str (pa_cons pe_int pa_nil))) (pa_cons (pe_lst (pa_cons (pe_lst (pa_cons pe_str (pa_cons pe_str pa_nil))) pa_nil)) (pa_cons (pe_tup (pa_cons pe_str (pa_cons pe_str pa_nil))) pa_nil))))))))))))))))
      (pss_cons (ps_for PassesOwn.never rfl (pi_range1 rfl B.n_range (pa_cons (pe_callB (call_max2 rfl) rfl B.n_max (by decide +kernel) (pa_cons pe_int (pa_cons (pe_callB (call_min2 rfl) rfl B.n_min (by decide +kernel) (pa_cons pe_int (pa_cons (pe_callB call_len_seq rfl B.n_len PySem.boot_len (pa_cons (pv 0) pa_nil)) pa_nil))) pa_nil))) pa_nil)) (pg_name (i := 2) sc_law.nd rfl (.inl rfl)) (
        (pss_cons (ps_set (i := 3) sc_law.nd rfl (.inl rfl) (pe_g c_law_pot g (hr.mono (by decide)) pass0 (pa_cons (pv 0) (pa_cons (pv 2) pa_nil))))
        (pss_cons (ps_set (i := 4) sc_law.nd rfl (.inl rfl) (pe_g c_law_names g (hr.mono (by decide)) pass0 (pa_cons (pv 3) (pa_cons (pe_g c_law_take g (hr.mono (by decide)) pass0 (pa_cons (pv 3) (pa_cons pe_int pa_nil))) pa_nil))))
        (pss_cons (ps_set (i := 5) sc_law.nd rfl (.inl rfl) (pe_g c_law_other g (hr.mono (by decide)) pass0 (pa_cons (pv 3) (pa_cons (pv 4) pa_nil))))
        (pss_cons (ps_set (i := 6) sc_law.nd rfl (.inl rfl) (pe_op op_cat (pe_lst (pa_cons (pe_lst pa_nil) (pa_cons (pe_callTy call_list_of rfl B.n_list (by decide +kernel) (pa_cons (pv 4) pa_nil)) (pa_cons (pe_revL (pv 4)) (pa_cons (pe_callTy call_tuple_of rfl B.n_tuple (by decide +kernel) (pa_cons (pv 4) pa_nil)) (pa_cons (pe_lst (pa_cons (pe_callTy call_tuple_of rfl B.n_tuple (by decide +kernel) (pa_cons (pv 4) pa_nil)) pa_nil)) pa_nil)))))) (pv 1)))
        (pss_cons (ps_for PassesOwn.never rfl (pi_range1 rfl B.n_range (pa_cons pe_int pa_nil)) (pg_name (i := 7) sc_law.nd rfl (.inl rfl)) (
          (pss_one (ps_set (i := 6) sc_law.nd rfl (.inl rfl) (pe_op op_cat (pv 6) (pe_lst (pa_cons (pe_g c_law_row g (hr.mono (by decide)) pass0 (pa_cons (pv 3) (pa_cons (pv 4) (pa_cons (pv 5) pa_nil)))) (pa_cons (pe_g c_law_lots g (hr.mono (by decide)) pass0 (pa_cons (pv 3) (pa_cons (pv 4) (pa_cons (pv 5) pa_nil)))) pa_nil))))))))
        (pss_one (ps_for PassesOwn.never rfl (pi_list (pe_op op_cat (pv 6) (pe_lst (pa_cons (pe_lst (pa_cons (pe_lst (pa_cons pe_str pa_nil)) pa_nil)) (pa_cons (pe_lst (pa_cons pe_str pa_nil)) (pa_cons (pe_lst (pa_cons (pe_lst (pa_cons pe_str pa_nil)) pa_nil)) (pa_cons (pe_lst (pa_cons pe_str pa_nil)) pa_nil))))))) (pg_name (i := 8) sc_law.nd rfl (.inl rfl)) (
          (pss_cons (ps_set (i := 9) sc_law.nd rfl (.inl rfl) (pe_callB (cr_reprN g hr.units) rfl B.n_repr (by decide +kernel) (pa_cons (pe_lst (pa_cons (pv 4) (pa_cons (pv 5) (pa_cons (pv 8) pa_nil)))) pa_nil)))
          (pss_cons (ps_set (i := 10) sc_law.nd rfl (.inl rfl) (pe_g c_law_due g (hr.mono (by decide)) pass0 (pa_cons (pv 4) (pa_cons (pv 5) (pa_cons (pv 8) pa_nil)))))
          (pss_cons (ps_set (i := 11) sc_law.nd rfl (.inl rfl) (pe_lst (pa_cons (pe_g c_is_turned_row g (hr.mono (by decide)) pass0 (pa_cons (pv 4) (pa_cons (pv 5) (pa_cons (pv 8) pa_nil)))) (pa_cons (pe_g c_is_lots g (hr.mono (by decide)) pass0 (pa_cons (pv 4) (pa_cons (pv 5) (pa_cons (pv 8) pa_nil)))) pa_nil))))
          (pss_cons (ps_if (PW.pt (pw_or (pt_cmpR (op_ne) (pe_callB (cr_repr g hr.units) rfl B.n_repr (by decide +kernel) (pa_cons (pv 11) pa_nil)) (pe_callB (cr_repr g hr.units) rfl B.n_repr (by decide +kernel) (pa_cons (pv 10) pa_nil)) (nomark _)) (pw_or1 (pt_cmpR (op_ne) (pe_callB (cr_reprN g hr.units) rfl B.n_repr (by decide +kernel) (pa_cons (pe_lst (pa_cons (pv 4) (pa_cons (pv 5) (pa_cons (pv 8) pa_nil)))) pa_nil)) (pv 9) (nomark _))))) (
            (pss_one (ps_ret pe_bl))) pss_nil)
          (pss_one (ps_if (PW.pt (pw_and (pt_val (pe_callB call_isi rfl B.n_isinstance (by decide +kernel) (pa_cons (pv 8) (pa_cons (pe_bltn (v := .ty "list") rfl B.n_list (by decide +kernel) rfl) pa_nil)))) (pw_and1 (pt_cmpR (op_neE hr.units) (pv 8) (pe_lst pa_nil) (nomark _))))) (
            (pss_cons (ps_expr (pe_bm0 PySem.F.plainAttrs_list PySem.F.slot_list_pop PySem.F.type_list_pop mt_pop (pv 8)))
            (pss_cons (ps_set (i := 10) sc_law.nd rfl (.inl rfl) (pe_g c_law_due g (hr.mono (by decide)) pass0 (pa_cons (pv 4) (pa_cons (pv 5) (pa_cons (pv 8) pa_nil)))))
            (pss_one (ps_if (pt_cmpR (op_neD hr.units) (pe_lst (pa_cons (pe_g c_is_turned_row g (hr.mono (by decide)) pass0 (pa_cons (pv 4) (pa_cons (pv 5) (pa_cons (pv 8) pa_nil)))) (pa_cons (pe_g c_is_lots g (hr.mono (by decide)) pass0 (pa_cons (pv 4) (pa_cons (pv 5) (pa_cons (pv 8) pa_nil)))) pa_nil))) (pv 10) (nomark _)) (
              (pss_one (ps_ret pe_bl))) pss_nil))))) pss_nil))))))))))))))))
      (pss_one (ps_ret pe_bl)))), ?_⟩
  have nw : ∀ {Hi : Hp} {A0 : Addr} {o : HO}, Grow [] H Hi → Hi A0 = none → Grow [] H (upd Hi A0 o) ∧ ¬ Old H A0 ∧ mask (Old H) (upd Hi A0 o) A0 = some o ∧ Kp (mask (Old H) Hi) (mask (Old H) (upd Hi A0 o)) := fun {Hi A0 o} g n => by
    have no : ¬ Old H A0 := Fresh.not_old (g.fresh0 n)
    exact ⟨g.new n, no, by rw [mask_no no]; exact upd_same, kp_grow (grow_new (ex := []) n) fun e he => nomatch he⟩
  have nmAn : isNm "an" = true := by decide +kernel
  have nmBo : isNm "bo" = true := by decide +kernel
  have nmQu : isNm "qu" = true := by decide +kernel
  have noEl : ∀ {Hx : Hp}, ∀ y ∈ ([] : List V), El K Hx y := fun y hy => nomatch hy
  have keepS : ∀ {vs : List V} {Hi Hj : Hp}, (∀ v ∈ vs, Th K (mask (Old H) Hi) v) → Kp (mask (Old H) Hi) (mask (Old H) Hj) → ∀ v ∈ vs, Th K (mask (Old H) Hj) v := fun S k v hv => (S v hv).kp k
  have addS : ∀ {vs : List V} {Hi : Hp} {v : V}, (∀ v ∈ vs, Th K (mask (Old H) Hi) v) → Th K (mask (Old H) Hi) v → ∀ x ∈ vs ++ [v], Th K (mask (Old H) Hi) x := fun S h x hx => by
    rcases List.mem_append.mp hx with hx | hx
    · exact S x hx
    · rw [List.mem_singleton.mp hx]; exact h
  have S0 : ∀ v ∈ [V.non, V.int 0, V.bl true, V.str "an"], Th K (mask (Old H) H) v := fun v hv => by
    simp only [List.mem_cons, List.not_mem_nil, or_false] at hv
    rcases hv with rfl | rfl | rfl | rfl
    · exact .oth .non
    · exact .oth (.int 0 (by decide))
    · exact .oth (.bl true)
    · exact .txt _ nmAn
  have nl0 : NmL [] := ⟨rfl, Nat.zero_le _⟩
  refine ⟨by show 0 ≤ sizeLine; decide, fun A1 n1 => ?_⟩
  obtain ⟨g1, _, e1, k1⟩ := nw (o := .tup []) (Grow.refl _ _) n1
  have S1 := addS (keepS S0 k1) (.oth (.tup (ws := []) e1 nl0))
  generalize upd H A1 (.tup []) = H1 at g1 S1 ⊢
  clear S0 k1 e1 n1
  refine fun A2 n2 => ?_
  obtain ⟨g2, _, e2, k2⟩ := nw (o := .dK []) g1 n2
  have S2 := addS (keepS S1 k2) (.oth (.dic e2))
  generalize upd H1 A2 (.dK []) = H2 at g2 S2 ⊢
  clear S1 k2 e2 n2 g1
  refine ⟨by show 1 ≤ sizeLine; decide, fun A3 n3 => ?_⟩
  obtain ⟨g3, _, e3, k3⟩ := nw (o := .lst [V.non]) g2 n3
  have S3 := addS (keepS S2 k3) (.lst e3 (by show 1 ≤ 60; decide) fun y hy => by rw [List.mem_singleton.mp hy]; exact .oth .non)
  generalize upd H2 A3 (.lst [V.non]) = H3 at g3 S3 ⊢
  clear S2 k3 e3 n3 g2
  refine ⟨by show 1 ≤ sizeLine; decide, fun A4 n4 => ?_⟩
  obtain ⟨g4, _, e4, k4⟩ := nw (o := .lst [V.int 0]) g3 n4
  have S4 := addS (keepS S3 k4) (.lst e4 (by show 1 ≤ 60; decide) fun y hy => by rw [List.mem_singleton.mp hy]; exact .oth (.int 0 (by decide)))
  generalize upd H3 A4 (.lst [V.int 0]) = H4 at g4 S4 ⊢
  clear S3 k4 e4 n4 g3
  refine ⟨by show 0 ≤ sizeLine; decide, fun A5a n5a => ⟨by show 1 ≤ sizeLine; decide, fun A5 n5 => ?_⟩⟩
  obtain ⟨g5a, _, e5a, k5a⟩ := nw (o := .lst []) g4 n5a
  have S5a := keepS S4 k5a
  have L5 : El K (mask (Old H) (upd H4 A5a (.lst []))) (.ref A5a) := .lst (ws := []) e5a nl0
  generalize upd H4 A5a (.lst []) = H5a at g5a S5a L5 n5 ⊢
  obtain ⟨g5, _, e5, k5⟩ := nw (o := .lst [V.ref A5a]) g5a n5
  have S5 := addS (keepS S5a k5) (.lst e5 (by show 1 ≤ 60; decide) fun y hy => by rw [List.mem_singleton.mp hy]; exact L5.kp k5)
  generalize upd H5a A5 (.lst [V.ref A5a]) = H5 at g5 S5 ⊢
  clear S4 S5a L5 k5a k5 e5a e5 n5a n5 g4 g5a
  refine ⟨by show 0 ≤ sizeLine; decide, fun A6a n6a => ⟨by show 1 ≤ sizeLine; decide, fun A6 n6 => ?_⟩⟩
  obtain ⟨g6a, _, e6a, k6a⟩ := nw (o := .tup []) g5 n6a
  have S6a := keepS S5 k6a
  have L6 : El K (mask (Old H) (upd H5 A6a (.tup []))) (.ref A6a) := .oth (.tup (ws := []) e6a nl0)
  generalize upd H5 A6a (.tup []) = H6a at g6a S6a L6 n6 ⊢
  obtain ⟨g6, _, e6, k6⟩ := nw (o := .lst [V.ref A6a]) g6a n6
  have S6 := addS (keepS S6a k6) (.lst e6 (by show 1 ≤ 60; decide) fun y hy => by rw [List.mem_singleton.mp hy]; exact L6.kp k6)
  generalize upd H6a A6 (.lst [V.ref A6a]) = H6 at g6 S6 ⊢
  clear S5 S6a L6 k6a k6 e6a e6 n6a n6 g5 g6a
  refine fun A7a n7a => ⟨by show 1 ≤ sizeLine; decide, fun A7 n7 => ?_⟩
  obtain ⟨g7a, _, e7a, k7a⟩ := nw (o := .dK []) g6 n7a
  have S7a := keepS S6 k7a
  have L7 : El K (mask (Old H) (upd H6 A7a (.dK []))) (.ref A7a) := .oth (.dic e7a)
  generalize upd H6 A7a (.dK []) = H7a at g7a S7a L7 n7 ⊢
  obtain ⟨g7, _, e7, k7⟩ := nw (o := .lst [V.ref A7a]) g7a n7
  have S7 := addS (keepS S7a k7) (.lst e7 (by show 1 ≤ 60; decide) fun y hy => by rw [List.mem_singleton.mp hy]; exact L7.kp k7)
  generalize upd H7a A7 (.lst [V.ref A7a]) = H7 at g7 S7 ⊢
  clear S6 S7a L7 k7a k7 e7a e7 n7a n7 g6 g7a
  refine ⟨by show 2 ≤ sizeLine; decide, fun A8 n8 => ?_⟩
  obtain ⟨g8, _, e8, k8⟩ := nw (o := .lst [V.str "an", V.int 1]) g7 n8
  have S8 := addS (keepS S7 k8) (.lst e8 (by show 2 ≤ 60; decide) fun y hy => by
    rcases List.mem_cons.mp hy with rfl | hy
    · exact .txt _ nmAn
    · rw [List.mem_singleton.mp hy]; exact .oth (.int 1 (by decide)))
  generalize upd H7 A8 (.lst [V.str "an", V.int 1]) = H8 at g8 S8 ⊢
  clear S7 k8 e8 n8 g7
  refine ⟨by show 2 ≤ sizeLine; decide, fun A9a n9a => ⟨by show 1 ≤ sizeLine; decide, fun A9 n9 => ?_⟩⟩
  obtain ⟨g9a, _, e9a, k9a⟩ := nw (o := .lst [V.str "an", V.str "an"]) g8 n9a
  have S9a := keepS S8 k9a
  have L9 : El K (mask (Old H) (upd H8 A9a (.lst [V.str "an", V.str "an"]))) (.ref A9a) := .lst (ws := ["an", "an"]) e9a ⟨by decide +kernel, by decide⟩
  generalize upd H8 A9a (.lst [V.str "an", V.str "an"]) = H9a at g9a S9a L9 n9 ⊢
  obtain ⟨g9, _, e9, k9⟩ := nw (o := .lst [V.ref A9a]) g9a n9
  have S9 := addS (keepS S9a k9) (.lst e9 (by show 1 ≤ 60; decide) fun y hy => by rw [List.mem_singleton.mp hy]; exact L9.kp k9)
  generalize upd H9a A9 (.lst [V.ref A9a]) = H9 at g9 S9 ⊢
  clear S8 S9a L9 k9a k9 e9a e9 n9a n9 g8 g9a
  refine ⟨by show 2 ≤ sizeLine; decide, fun A10 n10 => ?_⟩
  obtain ⟨g10, _, e10, k10⟩ := nw (o := .tup [V.str "an", V.str "bo"]) g9 n10
  have S10 := addS (keepS S9 k10) (.oth (.tup (ws := ["an", "bo"]) e10 ⟨by decide +kernel, by decide⟩))
  generalize upd H9 A10 (.tup [V.str "an", V.str "bo"]) = H10 at g10 S10 ⊢
  clear S9 k10 e10 n10 g9
  refine ⟨by show 14 ≤ sizeLine; decide, fun O nO => ?_⟩
  have SO : ∀ v ∈ ([V.non, V.int 0, V.bl true, V.str "an", V.ref A1, V.ref A2, V.ref A3, V.ref A4, V.ref A5, V.ref A6, V.ref A7, V.ref A8, V.ref A9, V.ref A10] : List V), Th K (mask (Old H) H10) v := S10
  clear S10
  obtain ⟨ovs, eovs⟩ : ∃ ovs, ([V.non, V.int 0, V.bl true, V.str "an", V.ref A1, V.ref A2, V.ref A3, V.ref A4, V.ref A5, V.ref A6, V.ref A7, V.ref A8, V.ref A9, V.ref A10] : List V) = ovs := ⟨_, rfl⟩
  have lov : ovs.length = 14 := by rw [← eovs]; rfl
  rw [eovs] at SO ⊢
  have gO := g10.new (o := .lst ovs) nO
  have eO : upd H10 O (.lst ovs) O = some (.lst ovs) := upd_same
  have SO2 : ∀ v ∈ ovs, Th K (mask (fun a => Old H a ∨ a = O) (upd H10 O (.lst ovs))) v := fun v hv => (SO v hv).kp (kp_gen fun b o hb e n => by
    have bO : b ≠ O := fun z => by rw [z, nO] at e; cases e
    exact ⟨fun z => z.elim hb bO, by rw [upd_ne bO]; exact e⟩)
  have oO : ¬ Old H O := Fresh.not_old (g10.fresh0 nO)
  generalize upd H10 O (.lst ovs) = H11 at gO eO SO2 ⊢
  clear SO g10 nO eovs
  refine ⟨.ref a, rfl, a, _, rfl, .inl (gO.seq0 ha), _, _, rfl, _, _, rfl, ?_⟩
  obtain ⟨n, hn, n8⟩ : ∃ n : Int, (if (if ((ns.map V.int).length : Int) < 12 then ((ns.map V.int).length : Int) else 12) > 1 then (if ((ns.map V.int).length : Int) < 12 then ((ns.map V.int).length : Int) else 12) else 1) = n ∧ 0 ≤ n ∧ n ≤ 12 := ⟨_, rfl, by omega⟩
  rw [hn]
  refine ⟨n, rfl, by omega, by omega, ?_⟩
  refine for_it walk_range (fun i σ H' => ∃ o2 o3 o4 o5 o6 o7 o8 o9 o10 o11 : Option V, σ = [some (.ref a), some (.ref O), o2, o3, o4, o5, o6, o7, o8, o9, o10, o11] ∧ Grow [] H H' ∧ H' O = some (.lst ovs) ∧ ∀ v ∈ ovs, Th K (mask (fun a => Old H a ∨ a = O) H') v) ⟨none, none, none, none, none, none, none, none, none, none, rfl, gO, eO, SO2⟩ (fun _ _ _ _ _ => trivial) (fun i x σ Hk0 Hk hi hp hy => ?_) (fun σ Hk hp => ?_)
  · obtain ⟨o2, o3, o4, o5, o6, o7, o8, o9, o10, o11, rfl, gr, eOk, SOk⟩ := hp
    obtain ⟨rfl, rfl⟩ := hy
    refine ⟨.ref a, rfl, .int (0 + i), rfl, a, ns, i, by show [V.ref a, V.int (0 + (i : Int))] = [V.ref a, V.int (i : Int)]; rw [Int.zero_add], gr.seq0 ha, by omega, fun p Hb fp gb potb => ?_⟩
    refine ⟨.ref p, rfl, .ref p, rfl, p, 10, _, rfl, by decide, by decide, by decide, potb, fun v Hc v0 v1 gc potc => ?_⟩
    obtain ⟨iv, rfl⟩ := Int.eq_ofNat_of_zero_le v0
    refine ⟨p, iv, _, rfl, potc, by decide, fun l Hd zs fl gd el bz lz potd => ?_⟩
    have lp := potc.other fl
    refine ⟨.ref p, rfl, .ref l, rfl, p, l, _, zs, rfl, potd, by decide, el, lp, bz, by omega, fun m He ws fm ge em pm pote => ?_⟩
    have mp := potd.other fm
    have gkc : Grow [p] Hk Hc := gb.any.trans gc
    have gkd : Grow [p] Hk Hd := gkc.trans gd
    have gke : Grow [] Hk He := (gkd.trans ge).drop fp
    have flk : Fresh Hk l := Fresh.back fl gkc potc
    have fmk : Fresh Hk m := Fresh.back fm gkd potd
    have gHe : Grow [] H He := gr.trans gke
    have eOe : He O = some (.lst ovs) := gke.lst (by simp) eOk
    have ele : He l = some (.lst (zs.map V.str)) := ge.lst (by simpa using lp) el
    have bw := bz.perm pm
    have z9 : zs.length ≤ 9 := by omega
    have w9 : ws.length ≤ 9 := by rw [← pm.length_eq]; exact z9
    have nzl : NmL zs := ⟨bz.nm, bz.len⟩
    have nwl : NmL ws := ⟨bw.nm, bw.len⟩
    obtain ⟨X, eX⟩ : ∃ X : Addr → Prop, (fun b => Old H b ∨ b = O ∨ b = p ∨ b = l ∨ b = m) = X := ⟨_, rfl⟩
    have Xi : ∀ b, X b ↔ Old H b ∨ b = O ∨ b = p ∨ b = l ∨ b = m := fun b => by rw [← eX]
    have Xp : X p := (Xi p).mpr (.inr (.inr (.inl rfl)))
    have SOe : ∀ v ∈ ovs, Th K (mask X He) v := fun v hv => (SOk v hv).kp (kp_gen fun b o hb e n => by
      refine ⟨fun z => ?_, gke.keep b o (by simp) e n⟩
      rcases (Xi b).mp z with z | z | z | z | z
      · exact hb (.inl z)
      · exact hb (.inr z)
      · exact Fresh.not_old fp ⟨o, by rw [← z]; exact e, n⟩
      · exact Fresh.not_old flk ⟨o, by rw [← z]; exact e, n⟩
      · exact Fresh.not_old fmk ⟨o, by rw [← z]; exact e, n⟩)
    -- what is new is not left out
    have fX : ∀ {Hx : Hp} {b : Addr} {c' : Int}, Grow [] H Hx → Hx O = some (.lst ovs) → Hx l = some (.lst (zs.map V.str)) → Hx m = some (.lst (ws.map V.str)) → Pot Hx p c' → Fresh Hx b → ¬ X b := fun {Hx b c'} g e1 e2 e3 pt f z => by
      rcases (Xi b).mp z with z | z | z | z | z
      · exact Fresh.not_old (g.fresh (by simp) f) z
      · exact f.ne e1 (fun ps y => by cases y) z.symm
      · exact pt.other f z
      · exact f.ne e2 (fun ps y => by cases y) z.symm
      · exact f.ne e3 (fun ps y => by cases y) z.symm
    have nwX : ∀ {Hi : Hp} {A0 : Addr} {o : HO} {vs : List V}, Grow [] He Hi → Hi A0 = none → (∀ v ∈ vs, Th K (mask X Hi) v) → Grow [] He (upd Hi A0 o) ∧ mask X (upd Hi A0 o) A0 = some o ∧ (∀ v ∈ vs, Th K (mask X (upd Hi A0 o)) v) ∧ Kp (mask X Hi) (mask X (upd Hi A0 o)) := fun {Hi A0 o vs} g n S => by
      have nx : ¬ X A0 := fX (gHe.trans g) (g.lst (by simp) eOe) (g.lst (by simp) ele) (g.lst (by simp) em) (pot_grow pote g) (fresh_none n)
      have k : Kp (mask X Hi) (mask X (upd Hi A0 o)) := kp_grow (grow_new (ex := []) n) fun e he => nomatch he
      exact ⟨g.new n, by rw [mask_no nx]; exact upd_same, fun v hv => (S v hv).kp k, k⟩
    have strsEl : ∀ {Hx : Hp} {us : List Str}, us.all isNm = true → ∀ y ∈ us.map V.str, El K Hx y := fun {Hx us} h y hy => by
      obtain ⟨z, hz, rfl⟩ := List.mem_map.mp hy
      exact .txt z (List.all_eq_true.mp h z hz)
    have consS : ∀ {vs : List V} {Hi : Hp} {v : V}, Th K (mask X Hi) v → (∀ v ∈ vs, Th K (mask X Hi) v) → ∀ x ∈ v :: vs, Th K (mask X Hi) x := fun h S x hx => by
      rcases List.mem_cons.mp hx with e | hx
      · rw [e]; exact h
      · exact S x hx
    refine ⟨by show 0 ≤ sizeLine; decide, fun B1 m1 => ?_⟩
    obtain ⟨g1, e1, S1, _⟩ := nwX (o := .lst []) (Grow.refl _ _) m1 SOe
    have S1 := consS (.lst e1 (by decide) fun y hy => nomatch hy) S1
    generalize upd He B1 (.lst []) = I1 at g1 S1 ⊢
    refine ⟨.ref l, rfl, l, _, rfl, .inl (.inl (.inl (g1.lst (by simp) ele))), fun B2 m2 => ?_⟩
    obtain ⟨g2, e2, S2, _⟩ := nwX (o := .lst (zs.map V.str)) g1 m2 S1
    have S2 := consS (.lst e2 (by rw [List.length_map]; omega) (strsEl bz.nm)) S2
    generalize upd I1 B2 (.lst (zs.map V.str)) = I2 at g2 S2 ⊢
    refine ⟨.ref l, rfl, l, _, rfl, .inl (.inl (g2.lst (by simp) ele)), fun B3 m3 => ?_⟩
    rw [← List.map_reverse]
    obtain ⟨g3, e3, S3, _⟩ := nwX (o := .lst (zs.reverse.map V.str)) g2 m3 S2
    have S3 := consS (.lst e3 (by rw [List.length_map, List.length_reverse]; omega) (strsEl (by rw [List.all_reverse]; exact bz.nm))) S3
    generalize upd I2 B3 (.lst (zs.reverse.map V.str)) = I3 at g3 S3 ⊢
    refine ⟨.ref l, rfl, l, _, rfl, .inl ⟨.inl (.inl (g3.lst (by simp) ele)), fun B4 m4 => ?_⟩⟩
    obtain ⟨g4, e4, S4, _⟩ := nwX (o := .tup (zs.map V.str)) g3 m4 S3
    have S4 := consS (.oth (.tup e4 nzl)) S4
    generalize upd I3 B4 (.tup (zs.map V.str)) = I4 at g4 S4 ⊢
    refine ⟨.ref l, rfl, l, _, rfl, .inl ⟨.inl (.inl (g4.lst (by simp) ele)), fun B5a m5a => ⟨by show 1 ≤ sizeLine; decide, fun B5 m5 => ?_⟩⟩⟩
    obtain ⟨g5a, e5a, S5a, _⟩ := nwX (o := .tup (zs.map V.str)) g4 m5a S4
    have L5 : El K (mask X (upd I4 B5a (.tup (zs.map V.str)))) (.ref B5a) := .oth (.tup e5a nzl)
    generalize upd I4 B5a (.tup (zs.map V.str)) = I5a at g5a S5a L5 m5 ⊢
    obtain ⟨g5, e5, S5, k5⟩ := nwX (o := .lst [V.ref B5a]) g5a m5 S5a
    have S5 := consS (.lst e5 (by show 1 ≤ 60; decide) fun y hy => by rw [List.mem_singleton.mp hy]; exact L5.kp k5) S5
    generalize upd I5a B5 (.lst [V.ref B5a]) = I5 at g5 S5 ⊢
    refine ⟨by show 5 ≤ sizeLine; decide, fun B6 m6 => ?_⟩
    obtain ⟨g6, e6, S6, _⟩ := nwX (o := .lst [V.ref B1, V.ref B2, V.ref B3, V.ref B4, V.ref B5]) g5 m6 S5
    have e6' := (mask_some e6).2
    generalize upd I5 B6 (.lst [V.ref B1, V.ref B2, V.ref B3, V.ref B4, V.ref B5]) = I6 at g6 S6 e6' ⊢
    refine ⟨.ref O, rfl, B6, O, _, _, rfl, rfl, e6', g6.lst (by simp) eOe, by rw [lov]; show 5 + 14 ≤ sizeLine; decide, fun TL nTL => ?_⟩
    obtain ⟨g7, e7, S7, _⟩ := nwX (o := .lst ([V.ref B1, V.ref B2, V.ref B3, V.ref B4, V.ref B5] ++ ovs)) g6 nTL S6
    have e7' := (mask_some e7).2
    have TLp : TL ≠ p := fun z => by
      obtain ⟨x1, x2, x3, e, _⟩ := pot_grow pote g6
      rw [z, e] at nTL
      cases nTL
    have S7' : ∀ v ∈ [V.ref B1, V.ref B2, V.ref B3, V.ref B4, V.ref B5] ++ ovs, Th K (mask X (upd I6 TL (.lst ([V.ref B1, V.ref B2, V.ref B3, V.ref B4, V.ref B5] ++ ovs)))) v := fun v hv => S7 v (by
      rcases List.mem_append.mp hv with hv | hv
      · simp only [List.mem_cons, List.not_mem_nil, or_false] at hv ⊢
        rcases hv with rfl | rfl | rfl | rfl | rfl <;> simp
      · simp [hv])
    generalize upd I6 TL (.lst ([V.ref B1, V.ref B2, V.ref B3, V.ref B4, V.ref B5] ++ ovs)) = I7 at g7 e7' S7' ⊢
    clear S1 S2 S3 S4 S5a S5 S6 S7 e1 e2 e3 e4 e5a e5 e6 e7 L5 k5 g1 g2 g3 g4 g5a g5
    refine ⟨4, rfl, by omega, by omega, ?_⟩
    refine for_it walk_range (fun j σ H' => ∃ (o7 : Option V) (TL : Addr) (vs : List V), σ = [some (.ref a), some (.ref O), some (.int (0 + i)), some (.ref p), some (.ref l), some (.ref m), some (.ref TL), o7, o8, o9, o10, o11] ∧ TL ≠ p ∧ Grow [p] He H' ∧ Pot H' p (1300 + 3100 * (j : Nat)) ∧ H' TL = some (.lst vs) ∧ vs.length ≤ 19 + 2 * j ∧ (∀ v ∈ ovs, v ∈ vs) ∧ ∀ v ∈ vs, Th K (mask X H') v)
      ⟨o7, TL, _, rfl, TLp, g7.any, (pot_grow pote g7).mono (by decide), e7', by rw [List.length_append, lov]; show 5 + 14 ≤ _; omega, fun v hv => List.mem_append_right _ hv, S7'⟩ (fun _ _ _ _ _ => trivial) (fun j x σ Ha Hb' hj hp hy => ?_) (fun σ Ha hp => ?_)
    · obtain ⟨o7, TL, vs, rfl, TLp, ga, pa, eT, lvs, sub, S⟩ := hp
      obtain ⟨rfl, rfl⟩ := hy
      have gHa : Grow [] H Hb' := gr.trans (((gkd.trans ge).trans ga).drop fp)
      have ela := ga.lst (by simpa using lp) ele
      have ema := ga.lst (by simpa using mp) em
      have eOa := ga.lst (by simpa using (show O ≠ p from fun z => Fresh.not_old fp ⟨_, by rw [← z]; exact eOk, fun ps z => by cases z⟩)) eOe
      refine ⟨.ref TL, rfl, .ref p, rfl, .ref l, rfl, .ref m, rfl, p, l, m, _, zs, ws, rfl, gHa.tabs _ t1, gHa.tabs _ t2, pa, by omega, ela, ema, lp, mp, bz, pm, z9, fun D1 Hc' ys fD1 gc' eD1 nys lys pc => ?_⟩
      have nD1 : ¬ X D1 := fX gHa eOa ela ema pa fD1
      have gHc : Grow [] H Hc' := gr.trans ((((gkd.trans ge).trans ga).trans gc').drop fp)
      have gac := ga.trans gc'
      have elc := gac.lst (by simpa using lp) ele
      have emc := gac.lst (by simpa using mp) em
      have eOc := gac.lst (by simpa using (show O ≠ p from fun z => Fresh.not_old fp ⟨_, by rw [← z]; exact eOk, fun ps z => by cases z⟩)) eOe
      refine ⟨.ref p, rfl, .ref l, rfl, .ref m, rfl, p, l, m, _, zs, ws, rfl, gHc.tabs _ t1, gHc.tabs _ t2, pc, by omega, elc, emc, lp, mp, bz, pm, z9, fun D2 Hd' as fD2 gd' eD2 las fas oks pd => ?_⟩
      have nD2 : ¬ X D2 := fX gHc eOc elc emc pc fD2
      have D1p : D1 ≠ p := pa.other fD1
      have ThD1 : Th K (mask X Hd') (.ref D1) := .lst (xs := ys.map V.str) (by rw [mask_no nD1]; exact gd'.lst (by simpa using D1p) eD1) (by rw [List.length_map]; omega) (strsEl nys.1)
      have ThD2 : Th K (mask X Hd') (.ref D2) := .lst (xs := as.map V.ref) (by rw [mask_no nD2]; exact eD2) (by rw [List.length_map]; omega) fun y hy => by
        obtain ⟨b, hb, rfl⟩ := List.mem_map.mp hy
        obtain ⟨r, er, nr, lr⟩ := oks b hb
        exact .lst (ws := r) (by rw [mask_no (fX gHc eOc elc emc pc (fas b hb))]; exact er) ⟨nr, lr⟩
      have Sd : ∀ v ∈ vs, Th K (mask X Hd') v := fun v hv => (S v hv).kp (kp_grow (gc'.trans gd') fun e he => by rw [List.mem_singleton.mp he]; exact Xp)
      have eTd := (gc'.trans gd').lst (by simpa using TLp) eT
      have gad := gac.trans gd'
      refine ⟨by show 2 ≤ sizeLine; decide, fun L2 nL2 => ?_⟩
      have gL : Grow [] Hd' (upd Hd' L2 (.lst [V.ref D1, V.ref D2])) := grow_new nL2
      have eL : upd Hd' L2 (.lst [V.ref D1, V.ref D2]) L2 = some (.lst [V.ref D1, V.ref D2]) := upd_same
      have pL := pd.new (o := .lst [V.ref D1, V.ref D2]) nL2
      generalize upd Hd' L2 (.lst [V.ref D1, V.ref D2]) = He' at gL eL pL ⊢
      have eTe := gL.lst (by simp) eTd
      refine ⟨TL, L2, vs, [V.ref D1, V.ref D2], rfl, rfl, eTe, eL, by show vs.length + 2 ≤ sizeLine; unfold sizeLine; omega, fun N nN => ?_⟩
      have kpN : Kp (mask X Hd') (mask X (upd He' N (.lst (vs ++ [V.ref D1, V.ref D2])))) := kp_grow (gL.new nN) fun e he => nomatch he
      have Np : N ≠ p := fun z => by
        obtain ⟨x1, x2, x3, e, _⟩ := pL
        rw [z, e] at nN
        cases nN
      refine ⟨some (.int (0 + j)), N, vs ++ [V.ref D1, V.ref D2], rfl, Np, gad.trans (gL.new nN).any, (pL.new nN).mono (by omega), upd_same, by rw [List.length_append]; show vs.length + 2 ≤ _; omega, fun v hv => List.mem_append_left _ (sub v hv), fun v hv => ?_⟩
      rcases List.mem_append.mp hv with hv | hv
      · exact (Sd v hv).kp kpN
      · rcases List.mem_cons.mp hv with e | hv
        · rw [e]; exact ThD1.kp kpN
        · rw [List.mem_singleton.mp hv]; exact ThD2.kp kpN
    · obtain ⟨o7, TL, vs, rfl, TLp, ga, pa, eT, lvs, sub, S⟩ := hp
      have Op : O ≠ p := fun z => Fresh.not_old fp ⟨_, by rw [← z]; exact eOk, fun ps z => by cases z⟩
      have gHa : Grow [] H Ha := gr.trans (((gkd.trans ge).trans ga).drop fp)
      have ela := ga.lst (by simpa using lp) ele
      have ema := ga.lst (by simpa using mp) em
      have eOa := ga.lst (by simpa using Op) eOe
      have nwY : ∀ {Hi : Hp} {A0 : Addr} {o : HO} {vs : List V}, Grow [] Ha Hi → Hi A0 = none → (∀ v ∈ vs, Th K (mask X Hi) v) → Grow [] Ha (upd Hi A0 o) ∧ mask X (upd Hi A0 o) A0 = some o ∧ (∀ v ∈ vs, Th K (mask X (upd Hi A0 o)) v) ∧ Kp (mask X Hi) (mask X (upd Hi A0 o)) := fun {Hi A0 o vs} g n S => by
        have nx : ¬ X A0 := fX (gHa.trans g) (g.lst (by simp) eOa) (g.lst (by simp) ela) (g.lst (by simp) ema) (pot_grow pa g) (fresh_none n)
        have k : Kp (mask X Hi) (mask X (upd Hi A0 o)) := kp_grow (grow_new (ex := []) n) fun e he => nomatch he
        exact ⟨g.new n, by rw [mask_no nx]; exact upd_same, fun v hv => (S v hv).kp k, k⟩
      have oneEl : ∀ {Hx : Hp} {z : Str}, isNm z = true → ∀ y ∈ [V.str z], El K Hx y := fun {Hx z} h y hy => by rw [List.mem_singleton.mp hy]; exact .txt z h
      have l60 : ([V.str "an"] : List V).length ≤ 60 := by show 1 ≤ 60; decide
      have nm1 : ∀ {z : Str}, isNm z = true → NmL [z] := fun {z} h => ⟨by rw [List.all_cons, h]; rfl, by show 1 ≤ 200; decide⟩
      refine ⟨.ref TL, rfl, by show 1 ≤ sizeLine; decide, fun C1a c1a => ⟨by show 1 ≤ sizeLine; decide, fun C1 c1 => ?_⟩⟩
      obtain ⟨h1a, f1a, Q1a, _⟩ := nwY (o := .lst [V.str "an"]) (Grow.refl _ _) c1a S
      have M1 : El K (mask X (upd Ha C1a (.lst [V.str "an"]))) (.ref C1a) := .lst (ws := ["an"]) f1a (nm1 nmAn)
      generalize upd Ha C1a (.lst [V.str "an"]) = J1a at h1a Q1a M1 c1 ⊢
      obtain ⟨h1, f1, Q1, q1⟩ := nwY (o := .lst [V.ref C1a]) h1a c1 Q1a
      have Q1 := consS (.lst f1 (by show 1 ≤ 60; decide) fun y hy => by rw [List.mem_singleton.mp hy]; exact M1.kp q1) Q1
      generalize upd J1a C1 (.lst [V.ref C1a]) = J1 at h1 Q1 ⊢
      refine ⟨by show 1 ≤ sizeLine; decide, fun C2 c2 => ?_⟩
      obtain ⟨h2, f2, Q2, _⟩ := nwY (o := .lst [V.str "qu"]) h1 c2 Q1
      have Q2 := consS (.lst f2 (by show 1 ≤ 60; decide) (oneEl nmQu)) Q2
      generalize upd J1 C2 (.lst [V.str "qu"]) = J2 at h2 Q2 ⊢
      refine ⟨by show 1 ≤ sizeLine; decide, fun C3a c3a => ⟨by show 1 ≤ sizeLine; decide, fun C3 c3 => ?_⟩⟩
      obtain ⟨h3a, f3a, Q3a, _⟩ := nwY (o := .lst [V.str "qu"]) h2 c3a Q2
      have M3 : El K (mask X (upd J2 C3a (.lst [V.str "qu"]))) (.ref C3a) := .lst (ws := ["qu"]) f3a (nm1 nmQu)
      generalize upd J2 C3a (.lst [V.str "qu"]) = J3a at h3a Q3a M3 c3 ⊢
      obtain ⟨h3, f3, Q3, q3⟩ := nwY (o := .lst [V.ref C3a]) h3a c3 Q3a
      have Q3 := consS (.lst f3 (by show 1 ≤ 60; decide) fun y hy => by rw [List.mem_singleton.mp hy]; exact M3.kp q3) Q3
      generalize upd J3a C3 (.lst [V.ref C3a]) = J3 at h3 Q3 ⊢
      refine ⟨by show 1 ≤ sizeLine; decide, fun C4 c4 => ?_⟩
      obtain ⟨h4, f4, Q4, _⟩ := nwY (o := .lst [V.str "an"]) h3 c4 Q3
      have Q4 := consS (.lst f4 (by show 1 ≤ 60; decide) (oneEl nmAn)) Q4
      generalize upd J3 C4 (.lst [V.str "an"]) = J4 at h4 Q4 ⊢
      refine ⟨by show 4 ≤ sizeLine; decide, fun C5 c5 => ?_⟩
      obtain ⟨h5, f5, Q5, _⟩ := nwY (o := .lst [V.ref C1, V.ref C2, V.ref C3, V.ref C4]) h4 c5 Q4
      have f5' := (mask_some f5).2
      generalize upd J4 C5 (.lst [V.ref C1, V.ref C2, V.ref C3, V.ref C4]) = J5 at h5 Q5 f5' ⊢
      refine ⟨TL, C5, _, _, rfl, rfl, h5.lst (by simp) eT, f5', by show vs.length + 4 ≤ sizeLine; unfold sizeLine; omega, fun TF nTF => ?_⟩
      obtain ⟨h6, f6, Q6, _⟩ := nwY (o := .lst (vs ++ [V.ref C1, V.ref C2, V.ref C3, V.ref C4])) h5 nTF Q5
      have f6' := (mask_some f6).2
      have TFo : ¬ Old H TF := Fresh.not_old ((gHa.trans h5).fresh0 nTF)
      have eO5 := h5.lst (by simp) eOa
      have el5 := h5.lst (by simp) ela
      have em5 := h5.lst (by simp) ema
      obtain ⟨fin, efin⟩ : ∃ fin, vs ++ [V.ref C1, V.ref C2, V.ref C3, V.ref C4] = fin := ⟨_, rfl⟩
      have Q7 : ∀ v ∈ fin, Th K (mask X (upd J5 TF (.lst fin))) v := fun v hv => by
        rw [← efin] at hv ⊢
        refine Q6 v ?_
        rcases List.mem_append.mp hv with hv | hv
        · simp [hv]
        · simp only [List.mem_cons, List.not_mem_nil, or_false] at hv ⊢
          rcases hv with rfl | rfl | rfl | rfl <;> simp
      have subF : ∀ v ∈ ovs, v ∈ fin := fun v hv => by rw [← efin]; exact List.mem_append_left _ (sub v hv)
      have lfin : fin.length ≤ 60 := by rw [← efin, List.length_append]; show vs.length + 4 ≤ 60; omega
      rw [efin] at f6' h6 ⊢
      have lTF : l ≠ TF := fun z => by rw [← z, el5] at nTF; cases nTF
      have mTF : m ≠ TF := fun z => by rw [← z, em5] at nTF; cases nTF
      have OTF : O ≠ TF := fun z => by rw [← z, eO5] at nTF; cases nTF
      obtain ⟨Y, eY⟩ : ∃ Y : Addr → Prop, (fun b => Old H b ∨ b = O ∨ b = l ∨ b = m ∨ b = TF) = Y := ⟨_, rfl⟩
      have Yi : ∀ b, Y b ↔ Old H b ∨ b = O ∨ b = l ∨ b = m ∨ b = TF := fun b => by rw [← eY]
      have Q8 : ∀ v ∈ fin, Th K (mask Y (upd J5 TF (.lst fin))) v := fun v hv => by
        have k : Kp (mask X J5) (mask Y (upd J5 TF (.lst fin))) := kp_gen fun b o hb e n => by
          have bT : b ≠ TF := fun z => by rw [z, nTF] at e; cases e
          refine ⟨fun z => ?_, by rw [upd_ne bT]; exact e⟩
          rcases (Yi b).mp z with z | z | z | z | z
          · exact hb ((Xi b).mpr (.inl z))
          · exact hb ((Xi b).mpr (.inr (.inl z)))
          · exact hb ((Xi b).mpr (.inr (.inr (.inr (.inl z)))))
          · exact hb ((Xi b).mpr (.inr (.inr (.inr (.inr z)))))
          · exact bT z
        refine Th.kp (Q5 v ?_) k
        rw [← efin] at hv
        rcases List.mem_append.mp hv with hv | hv
        · simp [hv]
        · simp only [List.mem_cons, List.not_mem_nil, or_false] at hv ⊢
          rcases hv with rfl | rfl | rfl | rfl <;> simp
      have gJ : Grow [] H (upd J5 TF (.lst fin)) := gHa.trans h6
      have eOJ : upd J5 TF (.lst fin) O = some (.lst ovs) := by rw [upd_ne OTF]; exact eO5
      have elJ : upd J5 TF (.lst fin) l = some (.lst (zs.map V.str)) := by rw [upd_ne lTF]; exact el5
      have emJ : upd J5 TF (.lst fin) m = some (.lst (ws.map V.str)) := by rw [upd_ne mTF]; exact em5
      generalize upd J5 TF (.lst fin) = J6 at f6' h6 Q7 Q8 gJ eOJ elJ emJ f6 Q6 ⊢
      clear Q1a Q1 Q2 Q3a Q3 Q4 Q5 Q6 Q7 f1a f1 f2 f3a f3 f4 f5 f6 M1 M3 q1 q3
      refine ⟨TF, rfl, ⟨_, .inl (.inl f6')⟩, ?_⟩
      refine for_it (walk_list (xs := fin)) (fun j σ H' => ∃ o8 o9 o10 o11 : Option V, σ = [some (.ref a), some (.ref O), some (.int (0 + i)), some (.ref p), some (.ref l), some (.ref m), some (.ref TL), o7, o8, o9, o10, o11] ∧ Grow [] H H' ∧ H' O = some (.lst ovs) ∧ H' l = some (.lst (zs.map V.str)) ∧ H' m = some (.lst (ws.map V.str)) ∧ H' TF = some (.lst fin) ∧ ∀ v ∈ fin, Th K (mask Y H') v)
        ⟨_, _, _, _, rfl, gJ, eOJ, elJ, emJ, f6', Q8⟩ (fun j σ H' _ h => by
          obtain ⟨_, _, _, _, _, _, _, _, _, e, _⟩ := h
          exact .inl (.inl e)) (fun j x σ Ka Kb hj hp hy => ?_) (fun σ Ka hp => ?_)
      · obtain ⟨o8, o9, o10, o11, rfl, gK, eOK, elK, emK, eTK, SK⟩ := hp
        obtain ⟨rfl, ex⟩ := hy
        have vm := List.mem_of_getElem? ex
        have th := (SK x vm).kp (kp_mask Y _)
        obtain ⟨b1, b2, jd⟩ := th.jd zs ws
        obtain ⟨ds, dn, d1, d2, d3⟩ := three_show elK emK nzl nwl th
        refine ⟨.ref l, rfl, .ref m, rfl, x, rfl, by show 3 ≤ sizeLine; decide, fun R1 r1 => ?_⟩
        have u1 : Grow [] Kb (upd Kb R1 (.lst [V.ref l, V.ref m, x])) := grow_new r1
        have w1 : upd Kb R1 (.lst [V.ref l, V.ref m, x]) R1 = some (.lst [V.ref l, V.ref m, x]) := upd_same
        generalize upd Kb R1 (.lst [V.ref l, V.ref m, x]) = Kc at u1 w1 ⊢
        refine ⟨R1, .ref l, [V.ref m, x], ds, rfl, w1, dn Kc u1, d1, d2, d3, ?_⟩
        have elc := u1.lst (by simp) elK
        have emc := u1.lst (by simp) emK
        refine ⟨.ref l, rfl, .ref m, rfl, x, rfl, ?_⟩
        dsimp only [tNil]
        refine jd_due elc emc bz pm (jd.grow0 u1) fun R2 Kd fR2 u2 w2 => ?_
        have u12 := u1.trans u2
        have tb : ∀ {Hx : Hp} {T0 : Addr}, Grow [] Kb Hx → TabG H T0 → TabG Hx T0 := fun g t => (gK.trans g).tabs _ t
        refine ⟨.ref l, rfl, .ref m, rfl, x, rfl, ?_⟩
        dsimp only [tNil]
        refine jd_row (tb u12 t1) (tb u12 t2) (tb u12 t3) (u12.lst (by simp) elK) (u12.lst (by simp) emK) bz pm (jd.grow0 u12) fun Ke u3 => ?_
        have u13 := u12.trans u3
        refine ⟨.ref l, rfl, .ref m, rfl, x, rfl, ?_⟩
        dsimp only [tNil]
        refine jd_lots (tb u13 t1) (tb u13 t2) (tb u13 t3) (tb u13 t4) (u13.lst (by simp) elK) (u13.lst (by simp) emK) bz pm (jd.grow0 u13) fun Kf u4 => ?_
        have u14 := u13.trans u4
        refine ⟨by show 2 ≤ sizeLine; decide, fun R3 r3 => ?_⟩
        have u5 := u14.new (o := .lst [V.bl b1, V.bl b2]) r3
        have w3 : upd Kf R3 (.lst [V.bl b1, V.bl b2]) R3 = some (.lst [V.bl b1, V.bl b2]) := upd_same
        have w2' : upd Kf R3 (.lst [V.bl b1, V.bl b2]) R2 = some (.lst [V.bl b1, V.bl b2]) := (u3.trans (u4.new r3)).lst (by simp) w2
        generalize upd Kf R3 (.lst [V.bl b1, V.bl b2]) = Kg at u5 w3 w2' ⊢
        have dpB : ∀ {Hx : Hp} {R0 : Addr}, Hx R0 = some (.lst [V.bl b1, V.bl b2]) → Dp K Hx (.ref R0) (.list [.bool b1, .bool b2]) := fun e => .lst (.inl (.inl e)) (.cons (.bl b1) (.cons (.bl b2) .nil))
        have shB : (PyData.list [.bool b1, .bool b2]).showable = true ∧ (PyData.list [.bool b1, .bool b2]).hasDict = false ∧ (PyData.list [.bool b1, .bool b2]).depth ≤ 60 ∧ (PyData.list [.bool b1, .bool b2]).shown.length ≤ sizeLine := by
          cases b1 <;> cases b2 <;> exact ⟨by decide +kernel, by decide +kernel, by decide +kernel, by decide +kernel⟩
        have same : ∀ s : Str, (!decide (V.str s = V.str s)) = false := fun s => by rw [decide_eq_true rfl]; rfl
        refine ⟨.ref R3, rfl, _, _, rfl, dpB w3, shB.1, shB.2.1, shB.2.2.1, shB.2.2.2, .ref R2, rfl, _, _, rfl, dpB w2', shB.1, shB.2.1, shB.2.2.1, shB.2.2.2, rfl, _, rfl, ?_⟩
        rw [same]
        refine iteF ⟨.ref l, rfl, .ref m, rfl, x, rfl, by show 3 ≤ sizeLine; decide, fun R4 r4 => ?_⟩
        have u6 := u5.new (o := .lst [V.ref l, V.ref m, x]) r4
        have w4 : upd Kg R4 (.lst [V.ref l, V.ref m, x]) R4 = some (.lst [V.ref l, V.ref m, x]) := upd_same
        generalize upd Kg R4 (.lst [V.ref l, V.ref m, x]) = Kh at u6 w4 ⊢
        refine ⟨R4, .ref l, [V.ref m, x], ds, rfl, w4, dn Kh u6, d1, d2, d3, .str _, rfl, rfl, _, rfl, ?_⟩
        rw [same]
        refine iteF ?_
        have gKh : Grow [] H Kh := gK.trans u6
        have SKh : ∀ v ∈ fin, Th K (mask Y Kh) v := fun v hv => (SK v hv).kp (kp_grow u6 fun e he => nomatch he)
        have eOh := u6.lst (by simp) eOK
        have elh := u6.lst (by simp) elK
        have emh := u6.lst (by simp) emK
        have eTh := u6.lst (by simp) eTK
        have skip : ∀ (s : Str), x = .str s ∨ Ot K Kh x → ∃ T : String, TyX K Kh x (.type T) ∧ PySem.W.kitOne K (.type T) (.type "list") = some false := fun s hx => by
          obtain ⟨T, _, _, ty, kit⟩ := NoL.ty (K := K) (H := Kh) (x := x) (hx.elim (fun e => .inl ⟨s, e⟩) .inr)
          exact ⟨T, ty, kit⟩
        have thY := SKh x vm
        cases thY with
        | txt z hz =>
          obtain ⟨T, ty, kit⟩ := skip z (.inl rfl)
          exact ⟨.str z, rfl, .str z, .ty "list", .type T, .type "list", false, rfl, .ty "list", ty, kit, false, rfl, iteF (iteF ⟨_, _, _, _, rfl, gKh, eOh, elh, emh, eTh, SKh⟩)⟩
        | oth ho =>
          obtain ⟨T, ty, kit⟩ := skip "" (.inr (ho.kp (kp_mask Y Kh)))
          exact ⟨x, rfl, x, .ty "list", .type T, .type "list", false, rfl, .ty "list", ty, kit, false, rfl, iteF (iteF ⟨_, _, _, _, rfl, gKh, eOh, elh, emh, eTh, SKh⟩)⟩
        | @lst t xs em' lx els =>
          obtain ⟨nY, et⟩ := mask_some em'
          refine ⟨.ref t, rfl, .ref t, .ty "list", .type "list", .type "list", true, rfl, .ty "list", .base (.lst et), rfl, true, rfl, iteT ?_⟩
          refine ⟨.ref t, rfl, by show 0 ≤ sizeLine; decide, fun E0 nE => ?_⟩
          have u7 : Grow [] Kh (upd Kh E0 (.lst [])) := grow_new nE
          have w7 : upd Kh E0 (.lst []) E0 = some (.lst ([] : List V)) := upd_same
          generalize upd Kh E0 (.lst []) = Ki at u7 w7 ⊢
          have gKi := gKh.trans u7
          have SKi : ∀ v ∈ fin, Th K (mask Y Ki) v := fun v hv => (SKh v hv).kp (kp_grow u7 fun e he => nomatch he)
          have eti := u7.lst (by simp) et
          have eOi := u7.lst (by simp) eOh
          have eli := u7.lst (by simp) elh
          have emi := u7.lst (by simp) emh
          have eTi := u7.lst (by simp) eTh
          refine ⟨t, E0, xs, rfl, rfl, eti, w7, _, rfl, ?_⟩
          by_cases c0 : xs = []
          · rw [decide_eq_true c0]
            exact iteF ⟨_, _, _, _, rfl, gKi, eOi, eli, emi, eTi, SKi⟩
          rw [decide_eq_false c0]
          have lpos : 0 < xs.length := List.length_pos_iff.mpr c0
          have fHt : Fresh H t := Fresh.of_not fun z => nY ((Yi t).mpr (.inl z))
          have nOt : O ≠ t := fun z => nY ((Yi t).mpr (.inr (.inl z.symm)))
          have nlt : l ≠ t := fun z => nY ((Yi t).mpr (.inr (.inr (.inl z.symm))))
          have nmt : m ≠ t := fun z => nY ((Yi t).mpr (.inr (.inr (.inr (.inl z.symm)))))
          have nTt : TF ≠ t := fun z => nY ((Yi t).mpr (.inr (.inr (.inr (.inr z.symm)))))
          refine iteT ⟨.ref t, rfl, tyl eti, t, xs, xs[xs.length - 1], rfl, rfl, eti, List.getElem?_eq_getElem (by omega), ?_⟩
          have gKj := gKi.put (o := .lst xs.dropLast) fHt eti fun ps z => by cases z
          have SKj : ∀ v ∈ fin, Th K (mask Y (upd Ki t (.lst xs.dropLast))) v := fun v hv => by
            rw [mask_upd nY]
            exact (SKi v hv).popped (by rw [mask_no nY]; exact eti)
          have eOj : upd Ki t (.lst xs.dropLast) O = some (.lst ovs) := by rw [upd_ne nOt]; exact eOi
          have elj : upd Ki t (.lst xs.dropLast) l = some (.lst (zs.map V.str)) := by rw [upd_ne nlt]; exact eli
          have emj : upd Ki t (.lst xs.dropLast) m = some (.lst (ws.map V.str)) := by rw [upd_ne nmt]; exact emi
          have eTj : upd Ki t (.lst xs.dropLast) TF = some (.lst fin) := by rw [upd_ne nTt]; exact eTi
          generalize upd Ki t (.lst xs.dropLast) = Kj at gKj SKj eOj elj emj eTj ⊢
          have thj := (SKj (.ref t) vm).kp (kp_mask Y _)
          obtain ⟨b1', b2', jd'⟩ := thj.jd zs ws
          have tbj : ∀ {Hx : Hp} {T0 : Addr}, Grow [] Kj Hx → TabG H T0 → TabG Hx T0 := fun g t => (gKj.trans g).tabs _ t
          refine ⟨.ref l, rfl, .ref m, rfl, .ref t, rfl, ?_⟩
          dsimp only [tNil]
          refine jd_due elj emj bz pm jd' fun R5 Kk fR5 u8 w8 => ?_
          refine ⟨.ref l, rfl, .ref m, rfl, .ref t, rfl, ?_⟩
          dsimp only [tNil]
          refine jd_row (tbj u8 t1) (tbj u8 t2) (tbj u8 t3) (u8.lst (by simp) elj) (u8.lst (by simp) emj) bz pm (jd'.grow0 u8) fun Kl u9 => ?_
          have u89 := u8.trans u9
          refine ⟨.ref l, rfl, .ref m, rfl, .ref t, rfl, ?_⟩
          dsimp only [tNil]
          refine jd_lots (tbj u89 t1) (tbj u89 t2) (tbj u89 t3) (tbj u89 t4) (u89.lst (by simp) elj) (u89.lst (by simp) emj) bz pm (jd'.grow0 u89) fun Km u10 => ?_
          have u8m := u89.trans u10
          refine ⟨by show 2 ≤ sizeLine; decide, fun R6 r6 => ?_⟩
          have u11 := u8m.new (o := .lst [V.bl b1', V.bl b2']) r6
          have w9 : upd Km R6 (.lst [V.bl b1', V.bl b2']) R6 = some (.lst [V.bl b1', V.bl b2']) := upd_same
          have w8' : upd Km R6 (.lst [V.bl b1', V.bl b2']) R5 = some (.lst [V.bl b1', V.bl b2']) := (u9.trans (u10.new r6)).lst (by simp) w8
          generalize upd Km R6 (.lst [V.bl b1', V.bl b2']) = Kn at u11 w9 w8' ⊢
          have dpC : ∀ {Hx : Hp} {R0 : Addr}, Hx R0 = some (.lst [V.bl b1', V.bl b2']) → Dp K Hx (.ref R0) (.list [.bool b1', .bool b2']) := fun e => .lst (.inl (.inl e)) (.cons (.bl b1') (.cons (.bl b2') .nil))
          have shC : SeqAt.shaped (PyData.list [.bool b1', .bool b2']) = true ∧ PyData.eqv (PyData.list [.bool b1', .bool b2']) (PyData.list [.bool b1', .bool b2']) = true := by
            cases b1' <;> cases b2' <;> exact ⟨rfl, by decide +kernel⟩
          refine ⟨.ref R5, rfl, _, _, dpC w9, dpC w8', shC.1, shC.1, _, rfl, ?_⟩
          rw [shC.2]
          exact iteF ⟨_, _, _, _, rfl, gKj.trans u11, u11.lst (by simp) eOj, u11.lst (by simp) elj, u11.lst (by simp) emj, u11.lst (by simp) eTj, fun v hv => (SKj v hv).kp (kp_grow u11 fun e he => nomatch he)⟩
      · obtain ⟨o8, o9, o10, o11, rfl, gK, eOK, elK, emK, eTK, SK⟩ := hp
        refine ⟨_, _, _, _, _, _, _, _, _, _, rfl, gK, eOK, fun v hv => (SK v (subF v hv)).kp (kp_gen fun b o hb e n => ⟨fun z => hb ((Yi b).mpr (z.elim .inl fun z => .inr (.inl z))), e⟩)⟩
  · obtain ⟨o2, o3, o4, o5, o6, o7, o8, o9, o10, o11, rfl, gr, _⟩ := hp
    exact q _ gr
end
theorem law_start {K : PySem.W.Frag} {H : Hp} {a : Addr} {ns : List Int} {c1 c2 c3 c4 : Addr × Addr} (t : ∀ p ∈ [c1, c2, c4, c3], TabG H p.2) (_ : ns.length ≤ 63) (_ : ∀ z ∈ ns, Builtin.Int.intBits z ≤ 1048576) (h : SqL K H a (ns.map V.int)) :
    spLaw K c1.2 c2.2 c3.2 c4.2 [.ref a] H (fun v _ => v = .bl true) E0 := ⟨a, ns, rfl, t c1 (by simp), t c2 (by simp), t c3 (by simp), t c4 (by simp), h, fun _ _ => rfl⟩

end Lw
namespace Lw
open PySem PySem.Spec PyProof.Rows L2 GxR Gx
/-! ### the head -/
def d_is_name : He.DefD := ⟨("is_name", none), "is_name", "is_name", defArgs st_is_name, defBody st_is_name, defScope st_is_name, [], []⟩
def d_are_unlike_names : He.DefD := ⟨("are_unlike_names", none), "are_unlike_names", "are_unlike_names", defArgs st_are_unlike_names, defBody st_are_unlike_names, defScope st_are_unlike_names, [], []⟩
def d_is_book : He.DefD := ⟨("is_book", none), "is_book", "is_book", defArgs st_is_book, defBody st_is_book, defScope st_is_book, [], []⟩
def d_longest_turned : He.DefD := ⟨("longest_turned", none), "longest_turned", "longest_turned", defArgs st_longest_turned, defBody st_longest_turned, defScope st_longest_turned, [], []⟩
def d_fewest_lots : He.DefD := ⟨("fewest_lots", none), "fewest_lots", "fewest_lots", defArgs st_fewest_lots, defBody st_fewest_lots, defScope st_fewest_lots, [], []⟩
def d_is_turned_row : He.DefD := ⟨("is_turned_row", none), "is_turned_row", "is_turned_row", defArgs st_is_turned_row, defBody st_is_turned_row, defScope st_is_turned_row, [], []⟩
def d_is_lots : He.DefD := ⟨("is_lots", none), "is_lots", "is_lots", defArgs st_is_lots, defBody st_is_lots, defScope st_is_lots, [], []⟩
def d_check_books : He.DefD := ⟨("check_books", none), "check_books", "check_books", defArgs st_check_books, defBody st_check_books, defScope st_check_books, [], []⟩
def d_places_of : He.DefD := ⟨("places_of", none), "places_of", "places_of", defArgs st_places_of, defBody st_places_of, defScope st_places_of, [], []⟩
def d_are_words_of : He.DefD := ⟨("are_words_of", none), "are_words_of", "are_words_of", defArgs st_are_words_of, defBody st_are_words_of, defScope st_are_words_of, [], []⟩
def d_ranks_of : He.DefD := ⟨("ranks_of", none), "ranks_of", "ranks_of", defArgs st_ranks_of, defBody st_ranks_of, defScope st_ranks_of, [], []⟩
def d_how_many_above : He.DefD := ⟨("how_many_above", none), "how_many_above", "how_many_above", defArgs st_how_many_above, defBody st_how_many_above, defScope st_how_many_above, [], []⟩
def d_is_lot : He.DefD := ⟨("is_lot", none), "is_lot", "is_lot", defArgs st_is_lot, defBody st_is_lot, defScope st_is_lot, [], []⟩
def d_law_pot : He.DefD := ⟨("_law_pot", none), "_law_pot", "_law_pot", defArgs st_law_pot, defBody st_law_pot, defScope st_law_pot, [], []⟩
def d_law_take : He.DefD := ⟨("_law_take", none), "_law_take", "_law_take", defArgs st_law_take, defBody st_law_take, defScope st_law_take, [], []⟩
def d_law_some : He.DefD := ⟨("_law_some", none), "_law_some", "_law_some", defArgs st_law_some, defBody st_law_some, defScope st_law_some, [], []⟩
def d_law_names : He.DefD := ⟨("_law_names", none), "_law_names", "_law_names", defArgs st_law_names, defBody st_law_names, defScope st_law_names, [], []⟩
def d_law_other : He.DefD := ⟨("_law_other", none), "_law_other", "_law_other", defArgs st_law_other, defBody st_law_other, defScope st_law_other, [], []⟩
def d_law_turned : He.DefD := ⟨("_law_turned", none), "_law_turned", "_law_turned", defArgs st_law_turned, defBody st_law_turned, defScope st_law_turned, [], []⟩
def d_law_is_words : He.DefD := ⟨("_law_is_words", none), "_law_is_words", "_law_is_words", defArgs st_law_is_words, defBody st_law_is_words, defScope st_law_is_words, [], []⟩
def d_law_due : He.DefD := ⟨("_law_due", none), "_law_due", "_law_due", defArgs st_law_due, defBody st_law_due, defScope st_law_due, [], []⟩
def d_law_row : He.DefD := ⟨("_law_row", none), "_law_row", "_law_row", defArgs st_law_row, defBody st_law_row, defScope st_law_row, [], []⟩
def d_law_lots : He.DefD := ⟨("_law_lots", none), "_law_lots", "_law_lots", defArgs st_law_lots, defBody st_law_lots, defScope st_law_lots, [], []⟩
def d_law : He.DefD := ⟨("law", none), "law", "law", defArgs st_law, defBody st_law, defScope st_law, [], []⟩
def hdDefs : List He.DefD := [d_is_name, d_are_unlike_names, d_is_book, d_longest_turned, d_fewest_lots, d_is_turned_row, d_is_lots, d_check_books, d_places_of, d_are_words_of, d_ranks_of, d_how_many_above, d_is_lot, d_law_pot, d_law_take, d_law_some, d_law_names, d_law_other, d_law_turned, d_law_is_words, d_law_due, d_law_row, d_law_lots, d_law]
def hdFacts : List He.Fa := [.glo "is_name", .glo "are_unlike_names", .glo "is_book", .glo "longest_turned", .glo "fewest_lots", .glo "is_turned_row", .glo "is_lots", .glo "check_books", .glo "places_of", .glo "are_words_of", .glo "ranks_of", .glo "how_many_above", .glo "is_lot", .glo "_law_pot", .glo "_law_take", .glo "_law_some", .glo "_law_names", .glo "_law_other", .glo "_law_turned", .glo "_law_is_words", .glo "_law_due", .glo "_law_row", .glo "_law_lots", .glo "law", .free "all", .free "enumerate", .free "isinstance", .free "len", .free "list", .free "max", .free "min", .free "range", .free "repr", .free "reversed", .free "set", .free "sorted", .free "str", .free "tuple", .free "type", .free "zip", .int "MOST_LETTERS" 8]
def hdTabs : List He.Defn := [("is_name", none), ("are_unlike_names", none), ("is_lots", none), ("are_words_of", none)]
def hdLoose : List Str := (["ApartError", "NoBook", "Unlike", "MOST_LETTERS", "is_name", "are_unlike_names", "is_book", "longest_turned", "fewest_lots", "is_turned_row", "is_lots", "check_books", "places_of", "are_words_of", "ranks_of", "how_many_above", "is_lot", "_law_pot", "_law_take", "_law_some"] : List Str) ++ (["_law_names", "_law_other", "_law_turned", "_law_is_words", "_law_due", "_law_row", "_law_lots"] : List Str)
abbrev hdRow : PySem.W.OpenRow := PySem.W.OpenLaw.row PySem.Challenge.rw_heardapart_k10_rows_and_lots_judged
abbrev hdView : Program := PySem.W.view hdRow.prog [31]
abbrev hdTop : DefRec := HandSHeadRun.topDef hdRow.prog 31
def hdTs : List He.Tab := []
abbrev hdHook : PySem.W.Hook := He.hookX 4 hdFacts hdDefs hdTs hdTabs (fun _ => true)
def hdOb (s : PySem.W.SharedT) : He.AlX := He.obsX 4 hdFacts hdDefs hdTs hdTabs (fun _ => true) (HandSHeadRun.getT s)
theorem hdOb_eq (s : PySem.W.SharedT) : hdOb s = hdHook.obs s.abs := He.obsX_eq (HandSHeadRun.getT_eq s)
theorem hdRun (w : World) : HandSHeadRun.RunEq hdRow hdView hdHook hdOb 4000 hdLoose w := by
  intro os
  kernel_rfl
theorem triples_none : TriplesOk (#[] : Array Value).toList := trivial
/-- the law's promise, from the head's word -/
theorem hd_all {w : World} {K : PySem.W.Frag} {h : Heap} {mg : Str → Option Value} {f : Addr} (X : K.In h) (G : h.Ns mainGlobals mg) (hfa : mg ("law" : Str) = some (.ref f)) (c : He.SaysX hdFacts hdDefs hdTs hdTabs (fun _ => true) w h K) :
    LawG PySem.Challenge.rw_heardapart_k10_rows_and_lots_judged w K 14 63 "script" mg f h := by
  have glo : ∀ x : Str, He.Fa.glo x ∈ hdFacts → mg x = some (.ref (He.ga K x)) := fun x hx => He.glo_ok X G (c.t.d.facts hx)
  have free : ∀ x : Str, He.Fa.free x ∈ hdFacts → mg x = none := fun x hx => He.free_ok X G (c.t.d.facts hx)
  have e := hfa.symm.trans (glo "law" (by simp [hdFacts]))
  cases e
  obtain ⟨fd_is_name, F_is_name⟩ := c.t.d.def_ 0 (d := d_is_name) rfl
  have D_is_name : DefIs K "is_name" "is_name" st_is_name _ fd_is_name _ := DefIs.of (p := ("is_name", none)) F_is_name
  have b_is_name : Binds K fd_is_name ["thing"] [] := D_is_name.binds fun _ _ _ _ _ us hl => match us, hl with | [_], _ => rfl
  have g_is_name := glo "is_name" (by simp [hdFacts])
  obtain ⟨fd_are_unlike_names, F_are_unlike_names⟩ := c.t.d.def_ 1 (d := d_are_unlike_names) rfl
  have D_are_unlike_names : DefIs K "are_unlike_names" "are_unlike_names" st_are_unlike_names _ fd_are_unlike_names _ := DefIs.of (p := ("are_unlike_names", none)) F_are_unlike_names
  have b_are_unlike_names : Binds K fd_are_unlike_names ["thing"] [] := D_are_unlike_names.binds fun _ _ _ _ _ us hl => match us, hl with | [_], _ => rfl
  have g_are_unlike_names := glo "are_unlike_names" (by simp [hdFacts])
  obtain ⟨fd_is_book, F_is_book⟩ := c.t.d.def_ 2 (d := d_is_book) rfl
  have D_is_book : DefIs K "is_book" "is_book" st_is_book _ fd_is_book _ := DefIs.of (p := ("is_book", none)) F_is_book
  have b_is_book : Binds K fd_is_book ["thing"] [] := D_is_book.binds fun _ _ _ _ _ us hl => match us, hl with | [_], _ => rfl
  have g_is_book := glo "is_book" (by simp [hdFacts])
  obtain ⟨fd_longest_turned, F_longest_turned⟩ := c.t.d.def_ 3 (d := d_longest_turned) rfl
  have D_longest_turned : DefIs K "longest_turned" "longest_turned" st_longest_turned _ fd_longest_turned _ := DefIs.of (p := ("longest_turned", none)) F_longest_turned
  have b_longest_turned : Binds K fd_longest_turned ["book", "other"] [] := D_longest_turned.binds fun _ _ _ _ _ us hl => match us, hl with | [_, _], _ => rfl
  have g_longest_turned := glo "longest_turned" (by simp [hdFacts])
  obtain ⟨fd_fewest_lots, F_fewest_lots⟩ := c.t.d.def_ 4 (d := d_fewest_lots) rfl
  have D_fewest_lots : DefIs K "fewest_lots" "fewest_lots" st_fewest_lots _ fd_fewest_lots _ := DefIs.of (p := ("fewest_lots", none)) F_fewest_lots
  have b_fewest_lots : Binds K fd_fewest_lots ["book", "other"] [] := D_fewest_lots.binds fun _ _ _ _ _ us hl => match us, hl with | [_, _], _ => rfl
  have g_fewest_lots := glo "fewest_lots" (by simp [hdFacts])
  obtain ⟨fd_is_turned_row, F_is_turned_row⟩ := c.t.d.def_ 5 (d := d_is_turned_row) rfl
  have D_is_turned_row : DefIs K "is_turned_row" "is_turned_row" st_is_turned_row _ fd_is_turned_row _ := DefIs.of (p := ("is_turned_row", none)) F_is_turned_row
  have b_is_turned_row : Binds K fd_is_turned_row ["book", "other", "thing"] [] := D_is_turned_row.binds fun _ _ _ _ _ us hl => match us, hl with | [_, _, _], _ => rfl
  have g_is_turned_row := glo "is_turned_row" (by simp [hdFacts])
  obtain ⟨fd_is_lots, F_is_lots⟩ := c.t.d.def_ 6 (d := d_is_lots) rfl
  have D_is_lots : DefIs K "is_lots" "is_lots" st_is_lots _ fd_is_lots _ := DefIs.of (p := ("is_lots", none)) F_is_lots
  have b_is_lots : Binds K fd_is_lots ["book", "other", "thing"] [] := D_is_lots.binds fun _ _ _ _ _ us hl => match us, hl with | [_, _, _], _ => rfl
  have g_is_lots := glo "is_lots" (by simp [hdFacts])
  obtain ⟨fd_check_books, F_check_books⟩ := c.t.d.def_ 7 (d := d_check_books) rfl
  have D_check_books : DefIs K "check_books" "check_books" st_check_books _ fd_check_books _ := DefIs.of (p := ("check_books", none)) F_check_books
  have b_check_books : Binds K fd_check_books ["book", "other"] [] := D_check_books.binds fun _ _ _ _ _ us hl => match us, hl with | [_, _], _ => rfl
  have g_check_books := glo "check_books" (by simp [hdFacts])
  obtain ⟨fd_places_of, F_places_of⟩ := c.t.d.def_ 8 (d := d_places_of) rfl
  have D_places_of : DefIs K "places_of" "places_of" st_places_of _ fd_places_of _ := DefIs.of (p := ("places_of", none)) F_places_of
  have b_places_of : Binds K fd_places_of ["book"] [] := D_places_of.binds fun _ _ _ _ _ us hl => match us, hl with | [_], _ => rfl
  have g_places_of := glo "places_of" (by simp [hdFacts])
  obtain ⟨fd_are_words_of, F_are_words_of⟩ := c.t.d.def_ 9 (d := d_are_words_of) rfl
  have D_are_words_of : DefIs K "are_words_of" "are_words_of" st_are_words_of _ fd_are_words_of _ := DefIs.of (p := ("are_words_of", none)) F_are_words_of
  have b_are_words_of : Binds K fd_are_words_of ["places", "thing"] [] := D_are_words_of.binds fun _ _ _ _ _ us hl => match us, hl with | [_, _], _ => rfl
  have g_are_words_of := glo "are_words_of" (by simp [hdFacts])
  obtain ⟨fd_ranks_of, F_ranks_of⟩ := c.t.d.def_ 10 (d := d_ranks_of) rfl
  have D_ranks_of : DefIs K "ranks_of" "ranks_of" st_ranks_of _ fd_ranks_of _ := DefIs.of (p := ("ranks_of", none)) F_ranks_of
  have b_ranks_of : Binds K fd_ranks_of ["book", "other"] [] := D_ranks_of.binds fun _ _ _ _ _ us hl => match us, hl with | [_, _], _ => rfl
  have g_ranks_of := glo "ranks_of" (by simp [hdFacts])
  obtain ⟨fd_how_many_above, F_how_many_above⟩ := c.t.d.def_ 11 (d := d_how_many_above) rfl
  have D_how_many_above : DefIs K "how_many_above" "how_many_above" st_how_many_above _ fd_how_many_above _ := DefIs.of (p := ("how_many_above", none)) F_how_many_above
  have b_how_many_above : Binds K fd_how_many_above ["falling", "least"] [] := D_how_many_above.binds fun _ _ _ _ _ us hl => match us, hl with | [_, _], _ => rfl
  have g_how_many_above := glo "how_many_above" (by simp [hdFacts])
  obtain ⟨fd_is_lot, F_is_lot⟩ := c.t.d.def_ 12 (d := d_is_lot) rfl
  have D_is_lot : DefIs K "is_lot" "is_lot" st_is_lot _ fd_is_lot _ := DefIs.of (p := ("is_lot", none)) F_is_lot
  have b_is_lot : Binds K fd_is_lot ["ones", "others", "thing"] [] := D_is_lot.binds fun _ _ _ _ _ us hl => match us, hl with | [_, _, _], _ => rfl
  have g_is_lot := glo "is_lot" (by simp [hdFacts])
  obtain ⟨fd_law_pot, F_law_pot⟩ := c.t.d.def_ 13 (d := d_law_pot) rfl
  have D_law_pot : DefIs K "_law_pot" "_law_pot" st_law_pot _ fd_law_pot _ := DefIs.of (p := ("_law_pot", none)) F_law_pot
  have b_law_pot : Binds K fd_law_pot ["script", "k"] [] := D_law_pot.binds fun _ _ _ _ _ us hl => match us, hl with | [_, _], _ => rfl
  have g_law_pot := glo "_law_pot" (by simp [hdFacts])
  obtain ⟨fd_law_take, F_law_take⟩ := c.t.d.def_ 14 (d := d_law_take) rfl
  have D_law_take : DefIs K "_law_take" "_law_take" st_law_take _ fd_law_take _ := DefIs.of (p := ("_law_take", none)) F_law_take
  have b_law_take : Binds K fd_law_take ["pot", "many"] [] := D_law_take.binds fun _ _ _ _ _ us hl => match us, hl with | [_, _], _ => rfl
  have g_law_take := glo "_law_take" (by simp [hdFacts])
  obtain ⟨fd_law_some, F_law_some⟩ := c.t.d.def_ 15 (d := d_law_some) rfl
  have D_law_some : DefIs K "_law_some" "_law_some" st_law_some _ fd_law_some _ := DefIs.of (p := ("_law_some", none)) F_law_some
  have b_law_some : Binds K fd_law_some ["pot", "things", "many"] [] := D_law_some.binds fun _ _ _ _ _ us hl => match us, hl with | [_, _, _], _ => rfl
  have g_law_some := glo "_law_some" (by simp [hdFacts])
  obtain ⟨fd_law_names, F_law_names⟩ := c.t.d.def_ 16 (d := d_law_names) rfl
  have D_law_names : DefIs K "_law_names" "_law_names" st_law_names _ fd_law_names _ := DefIs.of (p := ("_law_names", none)) F_law_names
  have b_law_names : Binds K fd_law_names ["pot", "many"] [] := D_law_names.binds fun _ _ _ _ _ us hl => match us, hl with | [_, _], _ => rfl
  have g_law_names := glo "_law_names" (by simp [hdFacts])
  obtain ⟨fd_law_other, F_law_other⟩ := c.t.d.def_ 17 (d := d_law_other) rfl
  have D_law_other : DefIs K "_law_other" "_law_other" st_law_other _ fd_law_other _ := DefIs.of (p := ("_law_other", none)) F_law_other
  have b_law_other : Binds K fd_law_other ["pot", "book"] [] := D_law_other.binds fun _ _ _ _ _ us hl => match us, hl with | [_, _], _ => rfl
  have g_law_other := glo "_law_other" (by simp [hdFacts])
  obtain ⟨fd_law_turned, F_law_turned⟩ := c.t.d.def_ 18 (d := d_law_turned) rfl
  have D_law_turned : DefIs K "_law_turned" "_law_turned" st_law_turned _ fd_law_turned _ := DefIs.of (p := ("_law_turned", none)) F_law_turned
  have b_law_turned : Binds K fd_law_turned ["book", "other"] [] := D_law_turned.binds fun _ _ _ _ _ us hl => match us, hl with | [_, _], _ => rfl
  have g_law_turned := glo "_law_turned" (by simp [hdFacts])
  obtain ⟨fd_law_is_words, F_law_is_words⟩ := c.t.d.def_ 19 (d := d_law_is_words) rfl
  have D_law_is_words : DefIs K "_law_is_words" "_law_is_words" st_law_is_words _ fd_law_is_words _ := DefIs.of (p := ("_law_is_words", none)) F_law_is_words
  have b_law_is_words : Binds K fd_law_is_words ["book", "thing"] [] := D_law_is_words.binds fun _ _ _ _ _ us hl => match us, hl with | [_, _], _ => rfl
  have g_law_is_words := glo "_law_is_words" (by simp [hdFacts])
  obtain ⟨fd_law_due, F_law_due⟩ := c.t.d.def_ 20 (d := d_law_due) rfl
  have D_law_due : DefIs K "_law_due" "_law_due" st_law_due _ fd_law_due _ := DefIs.of (p := ("_law_due", none)) F_law_due
  have b_law_due : Binds K fd_law_due ["book", "other", "thing"] [] := D_law_due.binds fun _ _ _ _ _ us hl => match us, hl with | [_, _, _], _ => rfl
  have g_law_due := glo "_law_due" (by simp [hdFacts])
  obtain ⟨fd_law_row, F_law_row⟩ := c.t.d.def_ 21 (d := d_law_row) rfl
  have D_law_row : DefIs K "_law_row" "_law_row" st_law_row _ fd_law_row _ := DefIs.of (p := ("_law_row", none)) F_law_row
  have b_law_row : Binds K fd_law_row ["pot", "book", "other"] [] := D_law_row.binds fun _ _ _ _ _ us hl => match us, hl with | [_, _, _], _ => rfl
  have g_law_row := glo "_law_row" (by simp [hdFacts])
  obtain ⟨fd_law_lots, F_law_lots⟩ := c.t.d.def_ 22 (d := d_law_lots) rfl
  have D_law_lots : DefIs K "_law_lots" "_law_lots" st_law_lots _ fd_law_lots _ := DefIs.of (p := ("_law_lots", none)) F_law_lots
  have b_law_lots : Binds K fd_law_lots ["pot", "book", "other"] [] := D_law_lots.binds fun _ _ _ _ _ us hl => match us, hl with | [_, _, _], _ => rfl
  have g_law_lots := glo "_law_lots" (by simp [hdFacts])
  obtain ⟨fd_law, F_law⟩ := c.t.d.def_ 23 (d := d_law) rfl
  have D_law : DefIs K "law" "law" st_law _ fd_law _ := DefIs.of (p := ("law", none)) F_law
  have b_law : Binds K fd_law ["script"] [] := D_law.binds fun _ _ _ _ _ us hl => match us, hl with | [_], _ => rfl
  have g_law := glo "law" (by simp [hdFacts])
  have B : Nb mg := ⟨free "all" (by simp [hdFacts]), free "enumerate" (by simp [hdFacts]), free "isinstance" (by simp [hdFacts]), free "len" (by simp [hdFacts]), free "list" (by simp [hdFacts]), free "max" (by simp [hdFacts]), free "min" (by simp [hdFacts]), free "range" (by simp [hdFacts]), free "repr" (by simp [hdFacts]), free "reversed" (by simp [hdFacts]), free "set" (by simp [hdFacts]), free "sorted" (by simp [hdFacts]), free "str" (by simp [hdFacts]), free "tuple" (by simp [hdFacts]), free "type" (by simp [hdFacts]), free "zip" (by simp [hdFacts])⟩
  obtain ⟨tk_MOST_LETTERS, k_MOST_LETTERS⟩ := He.int_ok X G (c.t.d.facts (f := .int "MOST_LETTERS" 8) (by simp [hdFacts]))
  refine ⟨fd_law, [He.cT K ("is_name", none), He.cT K ("are_unlike_names", none), He.cT K ("is_lots", none), He.cT K ("are_words_of", none)], (spLaw K (He.cT K ("is_name", none)).2 (He.cT K ("are_unlike_names", none)).2 (He.cT K ("are_words_of", none)).2 (He.cT K ("is_lots", none)).2), fun p hp => ?_, fun s u => ?_, fun H a ns hl hbits hT hS => law_start (fun p hp => ⟨#[], hT p hp, triples_none⟩) hl hbits hS, fun base KX GX TB => ?_⟩
  · obtain ⟨q, hq, rfl⟩ := List.mem_map.mp (show p ∈ hdTabs.map (He.cT K) from hp)
    exact ⟨c.empty q hq, c.out q hq, PySem.W.codeHd_of_K X (c.hd q hq)⟩
  · exact FunD.bindsA (ps := ["script"]) F_law (fun _ _ _ _ _ _ us hl => match us, hl with | [_], _ => rfl) s [u] rfl
  · have X_is_name := TB _ List.mem_cons_self
    have X_are_unlike_names := TB _ (List.mem_cons_of_mem _ List.mem_cons_self)
    have X_is_lots := TB _ (List.mem_cons_of_mem _ (List.mem_cons_of_mem _ List.mem_cons_self))
    have X_are_words_of := TB _ (List.mem_cons_of_mem _ (List.mem_cons_of_mem _ (List.mem_cons_of_mem _ List.mem_cons_self)))
    have c_is_name : Callee PySem.Challenge.rw_heardapart_k10_rows_and_lots_judged.prog w K mg base CX0 4 "is_name" ["thing"] (spIsName K (He.cT K ("is_name", none)).2) := ⟨_, fd_is_name, ok_is_name B D_is_name X_is_name k_MOST_LETTERS, g_is_name, F_is_name.kp, b_is_name⟩
    have c_are_unlike_names : Callee PySem.Challenge.rw_heardapart_k10_rows_and_lots_judged.prog w K mg base CX0 8 "are_unlike_names" ["thing"] (spUnlike K (He.cT K ("is_name", none)).2 (He.cT K ("are_unlike_names", none)).2) := ⟨_, fd_are_unlike_names, ok_are_unlike_names B D_are_unlike_names X_are_unlike_names c_is_name, g_are_unlike_names, F_are_unlike_names.kp, b_are_unlike_names⟩
    have c_is_book : Callee PySem.Challenge.rw_heardapart_k10_rows_and_lots_judged.prog w K mg base CX0 9 "is_book" ["thing"] (spUnlike K (He.cT K ("is_name", none)).2 (He.cT K ("are_unlike_names", none)).2) := ⟨_, fd_is_book, ok_is_book D_is_book c_are_unlike_names, g_is_book, F_is_book.kp, b_is_book⟩
    have c_check_books : Callee PySem.Challenge.rw_heardapart_k10_rows_and_lots_judged.prog w K mg base CX0 10 "check_books" ["book", "other"] (spCheck K (He.cT K ("is_name", none)).2 (He.cT K ("are_unlike_names", none)).2) := ⟨_, fd_check_books, ok_check_books B D_check_books c_is_book, g_check_books, F_check_books.kp, b_check_books⟩
    have c_places_of : Callee PySem.Challenge.rw_heardapart_k10_rows_and_lots_judged.prog w K mg base CX0 4 "places_of" ["book"] (spPlaces K) := ⟨_, fd_places_of, ok_places_of B D_places_of, g_places_of, F_places_of.kp, b_places_of⟩
    have c_law_pot : Callee PySem.Challenge.rw_heardapart_k10_rows_and_lots_judged.prog w K mg base CX0 3 "_law_pot" ["script", "k"] (spPot K) := ⟨_, fd_law_pot, ok_law_pot B D_law_pot, g_law_pot, F_law_pot.kp, b_law_pot⟩
    have c_law_take : Callee PySem.Challenge.rw_heardapart_k10_rows_and_lots_judged.prog w K mg base CX0 3 "_law_take" ["pot", "many"] (spTake K) := ⟨_, fd_law_take, ok_law_take B D_law_take, g_law_take, F_law_take.kp, b_law_take⟩
    have c_law_some : Callee PySem.Challenge.rw_heardapart_k10_rows_and_lots_judged.prog w K mg base CX0 4 "_law_some" ["pot", "things", "many"] (spSome K) := ⟨_, fd_law_some, ok_law_some B D_law_some c_law_take, g_law_some, F_law_some.kp, b_law_some⟩
    have c_law_names : Callee PySem.Challenge.rw_heardapart_k10_rows_and_lots_judged.prog w K mg base CX0 5 "_law_names" ["pot", "many"] (spDraw K) := ⟨_, fd_law_names, ok_law_names B D_law_names c_law_some, g_law_names, F_law_names.kp, b_law_names⟩
    have c_law_other : Callee PySem.Challenge.rw_heardapart_k10_rows_and_lots_judged.prog w K mg base CX0 5 "_law_other" ["pot", "book"] (spOther K) := ⟨_, fd_law_other, ok_law_other B D_law_other c_law_take c_law_some, g_law_other, F_law_other.kp, b_law_other⟩
    have c_law_turned : Callee PySem.Challenge.rw_heardapart_k10_rows_and_lots_judged.prog w K mg base CX0 4 "_law_turned" ["book", "other"] (spDue K) := ⟨_, fd_law_turned, ok_law_turned B D_law_turned, g_law_turned, F_law_turned.kp, b_law_turned⟩
    have c_how_many_above : Callee PySem.Challenge.rw_heardapart_k10_rows_and_lots_judged.prog w K mg base CX0 1 "how_many_above" ["falling", "least"] (spAbove K) := ⟨_, fd_how_many_above, ok_how_many_above B D_how_many_above, g_how_many_above, F_how_many_above.kp, b_how_many_above⟩
    have c_ranks_of : Callee PySem.Challenge.rw_heardapart_k10_rows_and_lots_judged.prog w K mg base CX0 5 "ranks_of" ["book", "other"] (spRanks K) := ⟨_, fd_ranks_of, ok_ranks_of B D_ranks_of c_places_of c_how_many_above, g_ranks_of, F_ranks_of.kp, b_ranks_of⟩
    have c_longest_turned : Callee PySem.Challenge.rw_heardapart_k10_rows_and_lots_judged.prog w K mg base CX0 11 "longest_turned" ["book", "other"] (spLongest K (He.cT K ("is_name", none)).2 (He.cT K ("are_unlike_names", none)).2) := ⟨_, fd_longest_turned, ok_longest_turned B D_longest_turned c_check_books c_ranks_of, g_longest_turned, F_longest_turned.kp, b_longest_turned⟩
    have c_are_words_of : Callee PySem.Challenge.rw_heardapart_k10_rows_and_lots_judged.prog w K mg base CX0 5 "are_words_of" ["places", "thing"] (spWordsOf K (He.cT K ("are_words_of", none)).2) := ⟨_, fd_are_words_of, ok_are_words_of B D_are_words_of X_are_words_of, g_are_words_of, F_are_words_of.kp, b_are_words_of⟩
    have c_is_turned_row : Callee PySem.Challenge.rw_heardapart_k10_rows_and_lots_judged.prog w K mg base CX0 11 "is_turned_row" ["book", "other", "thing"] (spIsRow K (He.cT K ("is_name", none)).2 (He.cT K ("are_unlike_names", none)).2 (He.cT K ("are_words_of", none)).2) := ⟨_, fd_is_turned_row, ok_is_turned_row B D_is_turned_row c_check_books c_places_of c_are_words_of, g_is_turned_row, F_is_turned_row.kp, b_is_turned_row⟩
    have c_fewest_lots : Callee PySem.Challenge.rw_heardapart_k10_rows_and_lots_judged.prog w K mg base CX0 11 "fewest_lots" ["book", "other"] (spFewest K (He.cT K ("is_name", none)).2 (He.cT K ("are_unlike_names", none)).2) := ⟨_, fd_fewest_lots, ok_fewest_lots B D_fewest_lots c_check_books c_ranks_of, g_fewest_lots, F_fewest_lots.kp, b_fewest_lots⟩
    have c_is_lot : Callee PySem.Challenge.rw_heardapart_k10_rows_and_lots_judged.prog w K mg base CX0 6 "is_lot" ["ones", "others", "thing"] (spIsLot K (He.cT K ("are_words_of", none)).2) := ⟨_, fd_is_lot, ok_is_lot B D_is_lot c_are_words_of, g_is_lot, F_is_lot.kp, b_is_lot⟩
    have c_is_lots : Callee PySem.Challenge.rw_heardapart_k10_rows_and_lots_judged.prog w K mg base CX0 11 "is_lots" ["book", "other", "thing"] (spIsLots K (He.cT K ("is_name", none)).2 (He.cT K ("are_unlike_names", none)).2 (He.cT K ("are_words_of", none)).2 (He.cT K ("is_lots", none)).2) := ⟨_, fd_is_lots, ok_is_lots B D_is_lots X_is_lots c_check_books c_places_of c_is_lot, g_is_lots, F_is_lots.kp, b_is_lots⟩
    have c_law_is_words : Callee PySem.Challenge.rw_heardapart_k10_rows_and_lots_judged.prog w K mg base CX0 3 "_law_is_words" ["book", "thing"] (spIsW K) := ⟨_, fd_law_is_words, ok_law_is_words B D_law_is_words, g_law_is_words, F_law_is_words.kp, b_law_is_words⟩
    have c_law_due : Callee PySem.Challenge.rw_heardapart_k10_rows_and_lots_judged.prog w K mg base CX0 5 "_law_due" ["book", "other", "thing"] (spLawDue K) := ⟨_, fd_law_due, ok_law_due B D_law_due c_law_turned c_law_is_words, g_law_due, F_law_due.kp, b_law_due⟩
    have c_law_row : Callee PySem.Challenge.rw_heardapart_k10_rows_and_lots_judged.prog w K mg base CX0 12 "_law_row" ["pot", "book", "other"] (spRow K (He.cT K ("is_name", none)).2 (He.cT K ("are_unlike_names", none)).2) := ⟨_, fd_law_row, ok_law_row B D_law_row c_longest_turned c_law_take, g_law_row, F_law_row.kp, b_law_row⟩
    have c_law_lots : Callee PySem.Challenge.rw_heardapart_k10_rows_and_lots_judged.prog w K mg base CX0 12 "_law_lots" ["pot", "book", "other"] (spLots K (He.cT K ("is_name", none)).2 (He.cT K ("are_unlike_names", none)).2) := ⟨_, fd_law_lots, ok_law_lots B D_law_lots c_fewest_lots c_law_take c_law_some, g_law_lots, F_law_lots.kp, b_law_lots⟩
    exact ok_law B D_law c_law_pot c_law_take c_law_names c_law_other c_law_row c_law_lots c_law_due c_is_turned_row c_is_lots
end Lw
open PyProof.Rows PySem PySem.W PySem.Calls
theorem PySem.Challenge.cw_heardapart_k10_rows_and_lots_judged_holds : PySem.Challenge.rw_heardapart_k10_rows_and_lots_judged.Holds := by
  w_on; o_law
  refine HandSHeadRun.head_any (r := Lw.hdRow) (q := Lw.hdView) (H := Lw.hdHook) (ob := Lw.hdOb) (M := 4000) (loose := Lw.hdLoose) (d := Lw.hdTop) (kwd := []) Lw.hdOb_eq
    (by kernel_rfl) (fun s => by kernel_rfl) Lw.hdRun (by kernel_rfl) (by kernel_rfl) (by kernel_rfl) (by rfl) (by first | assumption | decide +kernel) (by decide +kernel) ⟨rfl, rfl, rfl, rfl, rfl, by decide +kernel⟩ ?hw ?hc
  case hw => w_witness2
  case hc =>
    refine Gx.walk_GE (l := PySem.Challenge.rw_heardapart_k10_rows_and_lots_judged) (n := 63) (k := 14) (x := "script") rfl (by decide) (by kernel_rfl) ⟨rfl, by decide, by decide⟩ ?F
    intro w mg fa h Y G hmg0
    obtain ⟨K, KX, c⟩ := Y
    have hmg : mg ("law" : PySem.Str) = some (.ref fa) := by
      have e : Lw.hdTop.name = ("law" : PySem.Str) := by kernel_rfl
      rw [← e]
      exact hmg0
    exact ⟨K, KX, Lw.hd_all KX G hmg c⟩

