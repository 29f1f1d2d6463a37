import PyProof.Rows.All
import Wide.All
import OpenK.AllK
import Wide.FinOn
import HandS.ForMost
import HandS.AnyAll
import HandS.GenList
import HandS.EndTab
import KE.SortData
import HandS.WideBits
import HandS.DictComp
import HandS.More
import HandS.TupAny
import HandS.TupLe
import HandS.Walk
import HandS.HeadHook4
import HandS.Head4
import HandS.SortKw
import HandS.Iter
import PyProof.ZipIter
import PyProof.CallType
import PyProof.TupleOfSeq
import PyProof.Walk
import PyProof.WalkLemmas
import PyProof.RulesTry
import HandS.Zip
import HandS.SetFor
import HandS.SortInts
import HandS.List
import HandS.Strs
import HandS.Style
import HandS.Small
import HandS.Dict
import PyProof.RowDictHeap
import HandS.HeadHook3
import HandS.FStr
import KE.KEqNest
import HandS.Exc
import HandS.ExcOwn
import HandS.ExcIs
import PyProof.ExcBaseAll.ValueError
import HandS.Deep
import HandS.IsInst
import HandS.Conv
import HandS.Text
import HandS.ListItems
import HandS.NoneIn
import KE.HD3
import HandS.Head3
import PySem.Challenge.RW_heardapart_k40_places_of_trees
set_option Elab.async false
set_option linter.all false
set_option maxRecDepth 100000
set_option maxHeartbeats 8000000
/-! A generator expression whose element may do anything, under all( ) and any( ). -/
namespace Gx
open PySem PySem.Spec PyProof.Rows L2 GxR GenW

abbrev genv (X : Cx) (sc : Scope) (C : Addr) (code : Value) : Env :=
  genEnv sc (cloFrom X.env.cells sc.names []) C code builtinsNs X.env
abbrev gcx (X : Cx) (s : Shared) (H : Hp) (sc : Scope) (C : Addr) (code : Value) (fp : List Addr) : Cx :=
  { X with
    A := X.A.in1.in1.deeper (genv X sc C code)
    s_0 := s
    H_0 := H
    env := genv X sc C code
    outer := X.stack
    stack := genv X sc C code :: X.stack
    ex := fp
    fn := fun _ => false
    calm := true
    pn := []
    xe := fun _ _ => False }

theorem over_loop_gx {A : Around} {elt : Expr} {gs : List Comprehension} {sc : Scope} {pos : Pos} {it acc : Value} {env : Env} :
    A.over (.compLoop (.GeneratorExp elt gs sc pos) 0 it acc env) [] = A.deeper env := by
  obtain ⟨a, b, c, d, e⟩ := A
  cases c <;> cases d <;>
  simp [Around.over, Around.deeper, marksOver, frameCount, unitsOf, envsOf, guardsOf, pushEnvs, pushGuards, Code.envs, Code.env?, Code.isFrame, Code.guards, Code.isGuard, Code.weight, Code.frames, Code.isCreation, Code.isCaller, Code.cUnits]
theorem over_start_gx {A : Around} {elt : Expr} {gs : List Comprehension} {sc : Scope} {pos : Pos} {it acc : Value} {env : Env} :
    A.over (.compStart (.GeneratorExp elt gs sc pos) 0 it acc env) [] = A.deeper env := by
  obtain ⟨a, b, c, d, e⟩ := A
  cases c <;> cases d <;>
  simp [Around.over, Around.deeper, marksOver, frameCount, unitsOf, envsOf, guardsOf, pushEnvs, pushGuards, Code.envs, Code.env?, Code.isFrame, Code.guards, Code.isGuard, Code.weight, Code.frames, Code.isCreation, Code.isCaller, Code.cUnits]

section
variable {X : Cx} {pins : List (Addr × Obj)} {σ : L2.St} {H : Hp} {s : Shared}

theorem clo_look {cells : List (Str × Addr)} {names : List (Str × NameKind)} {y : Str} {c : Addr} (hf : ∀ z ∈ names, z.2 = .free → ∃ c, cells.lookup z.1 = some c)
    (h : (cloFrom cells names []).lookup y = some c) : cells.lookup y = some c ∧ (y, NameKind.free) ∈ names := by
  rcases cloFrom_mem (PySem.mem_of_lookup h) with q | ⟨q1, q2⟩
  · cases q
  · obtain ⟨c', e⟩ := hf _ q1 rfl
    rw [e] at q2
    have q3 : c = c' := q2
    exact ⟨by rw [q3]; exact e, q1⟩
theorem clo_has {cells : List (Str × Addr)} {names : List (Str × NameKind)} {y : Str} (hf : ∀ z ∈ names, z.2 = .free → ∃ c, cells.lookup z.1 = some c)
    (h : (y, NameKind.free) ∈ names) : ∃ c, (cloFrom cells names []).lookup y = some c ∧ cells.lookup y = some c := by
  obtain ⟨c, e⟩ := mem_lookup (cloFrom_has (cells := cells) (acc := []) h)
  exact ⟨c, e, (clo_look hf e).1⟩

/-- the generator's frame has been made: the state as its body sees it -/
theorem gx_start {sc : Scope} {own : List (Str × Nat)} {fp : List Addr} {C : Addr} {code : Value} {h' : Heap} {g' : Array GenState} {d' : Drawn} {t' : Nat}
    (I : Inv X pins σ H s) (hh : X.A.handled = none) (ok : BlkOk X.N X.env.scope sc own) (hN : X.N.Nodup) (hcell : ∀ y ∈ sc.names, y.2 ≠ .cell)
    (hfp : ∀ b ∈ fp, FpOk X pins H b ∧ b < s.heap.objs.size) (hC : C = s.heap.objs.size) (hns : ∃ m, h'.Ns C m)
    (kp : ∀ b o, s.heap.get? b = some o → h'.get? b = some o) (hg : AllBare g') :
    Inv (gcx X s H sc C code fp) [] (wipe σ (own.map (·.2))) H { s with heap := h', gens := g', drawn := d', toks := t' } := by
  have hf : ∀ z ∈ sc.names, z.2 = .free → ∃ c, X.env.cells.lookup z.1 = some c := fun z hz e => by
    rcases ok.free z hz e with k | k
    · exact I.ok.has _ (.inl k)
    · exact I.ok.has _ (.inr k)
  have cl : ∀ {y c}, (genv X sc C code).cells.lookup y = some c → X.env.cells.lookup y = some c ∧ (y, NameKind.free) ∈ sc.names := fun {y c} e => clo_look hf e
  have clt : ∀ {y c}, X.env.cells.lookup y = some c → c < s.heap.objs.size := fun {y c} e => by
    obtain ⟨w, z⟩ := I.cell y c e
    exact z.lt
  have free_of : ∀ {y}, (genv X sc C code).kindOf y = some .cell ∨ (genv X sc C code).kindOf y = some .free → (y, NameKind.free) ∈ sc.names := fun {y} hy => by
    rcases hy with hy | hy
    · exact absurd rfl (hcell _ (PySem.mem_of_lookup (show sc.names.lookup y = some .cell from hy)))
    · exact PySem.mem_of_lookup (show sc.names.lookup y = some .free from hy)
  have okY : (gcx X s H sc C code fp).Ok :=
    { mod := I.ok.mod
      kind := ok.kind
      glob := I.ok.glob
      blt := rfl
      above := Nat.le_of_eq hC.symm
      inj := fun y z c e1 e2 => I.ok.inj y z c (cl e1).1 (cl e2).1
      has := fun y hy => by
        obtain ⟨c, e, _⟩ := clo_has (cells := X.env.cells) hf (free_of hy)
        exact ⟨c, e⟩
      cab := fun y c e => by cases e
      hd := fun _ => hh
      frames := by
        have q := I.ok.frames
        show X.A.frames.map (genv X sc C code :: ·) = _
        rw [q]
        rfl
      stk := .inr ⟨rfl, rfl⟩
      exf := fun b hb => ⟨by
          show b ≠ C
          rw [hC]
          exact Nat.ne_of_lt (hfp b hb).2, fun y c e => (hfp b hb).1.2.2.2.2.1 y c (cl e).1⟩
      bs := I.bs
      bsz := Nat.le_trans I.ok.bsz I.sz
      noex := fun b o e hb => by
        rcases (hfp b hb).1.2.2.2.1 with z | z
        · exact I.ok.noex b o e z
        · exact absurd (Nat.lt_of_lt_of_le (Heap.lt_size e) (Nat.le_trans I.ok.bsz z)) (Nat.lt_irrefl _)
      exfs := fun b hb z => by
        rcases List.mem_cons.mp (I.stkSub b z) with z | z
        · exact (hfp b hb).1.2.1 z
        · exact (hfp b hb).1.2.2.1 z
      funs := I.stack
      frf := I.stkFree }
  obtain ⟨m, hm⟩ := hns
  have hn : ∀ b, s.heap.objs.size ≤ b → H b = none := fun b hb => I.hok.fresh hb
  refine { ok := okY, os := rfl, bare := hg, base := Un.kept kp, loc := ⟨m, hm, fun i y v e1 e2 e3 => ?_⟩, cell := fun y c e => ?_, free := hn C (Nat.le_of_eq hC.symm), freeC := fun y c e => I.freeC y c (cl e).1,
           pin := fun p hp => absurd (show p ∈ ([] : List (Addr × Obj)) ++ [] from hp) (by simp), hok := I.hok.kept kp, len := by rw [wipe_length]; exact I.len }
  · obtain ⟨e2, hne⟩ := wipe_some e2
    have hfr : (y, NameKind.free) ∈ sc.names := by
      have e3' : sc.names.lookup y = some .local ∨ sc.names.lookup y = some .cell ∨ sc.names.lookup y = some .free := e3
      have own : ∀ k, (y, k) ∈ sc.names → k = .local ∨ k = .cell → False := fun k hk hk2 => by
        rcases ok.own _ hk hk2 with q | q
        · obtain ⟨p, hp, hpy⟩ := List.mem_map.mp q
          have q3 := ok.ix p hp
          rw [show p.1 = y from hpy] at q3
          exact hne (List.mem_map.mpr ⟨p, hp, nodup_ix hN q3 e1⟩)
        · exact q (List.mem_of_getElem? e1)
      rcases e3' with q | q | q
      · exact (own _ (PySem.mem_of_lookup q) (.inl rfl)).elim
      · exact (own _ (PySem.mem_of_lookup q) (.inr rfl)).elim
      · exact PySem.mem_of_lookup q
    obtain ⟨m0, _, hl⟩ := I.loc
    have vis : Vis X.env.scope y := (ok.free _ hfr rfl).elim (fun k => .inr (.inl k)) fun k => .inr (.inr k)
    obtain ⟨w, r, q⟩ := hl i y v e1 e2 vis
    obtain ⟨c, h1, h2⟩ := clo_has (cells := X.env.cells) hf hfr
    have kf : (genv X sc C code).kindOf y = some .free := ok.uniq _ hfr
    refine ⟨w, r, .inr ⟨.inr kf, c, h1, ?_⟩⟩
    rcases q with ⟨k, _⟩ | ⟨_, c', e', z⟩
    · have k' : X.env.scope.names.lookup y = some .local := k
      rcases ok.free _ hfr rfl with k2 | k2 <;> rw [show X.env.scope.names.lookup y = _ from k2] at k' <;> cases k'
    · rw [h2] at e'
      cases e'
      exact z.keeps kp
  · obtain ⟨w, z⟩ := I.cell y c (cl e).1
    exact ⟨w, z.keeps kp⟩

/-- generators, tokens and what was drawn are no matter -/
theorem inv_gens {g' : Array GenState} {d' : Drawn} {t' : Nat} (I : Inv X pins σ H s) (hg : AllBare g') : Inv X pins σ H { s with gens := g', drawn := d', toks := t' } :=
  I.step (h' := s.heap) (ch := []) (fun b hb => absurd hb (by simp)) (fun _ _ _ _ _ e _ => e) (fun _ o _ _ _ e _ => ⟨o.slots, e⟩) (fun _ _ _ _ n => n) (fun _ o _ e => ⟨o, e⟩)
    (fun _ _ e => e) (fun _ _ _ e => e) (fun _ ps e => ⟨#[], by rw [e]; simp⟩) (fun _ hm => hm) I.hok hg
theorem inv_like {s' : Shared} (I : Inv X pins σ H s) (hh : s'.heap = s.heap) (ho : s'.os = s.os) (hg : AllBare s'.gens) : Inv X pins σ H s' := by
  have J := inv_gens (g' := s'.gens) (d' := s'.drawn) (t' := s'.toks) I hg
  rw [← hh] at J
  rw [sh_eta s s' ho] at J
  exact J

/-- what is known once and for all of one run of the generator -/
structure Run (X : Cx) (s0 : Shared) (H0 : Hp) (sc : Scope) (C : Addr) (code : Value) (fp : List Addr) (tg elt : Expr) (g : TG) (te : TE) (J : It) (it : Addr) (tn : Nat → Heap → Prop) (vs : List Nat) (σ0 : L2.St)
    (sb : Bool) (W : Nat → Nat → Hp → Prop) (Q : VK) : Prop where
  turns : Turn X.prog X.w X.K tg J fp it tn
  target : PG (gcx X s0 H0 sc C code fp) tg g
  element : PE (gcx X s0 H0 sc C code fp) elt te
  nocor : sc.isCoroutine = false
  step : ∀ i m H, W i m H → (J.stop i H ∧ Q (.bl (!sb)) H) ∨ (J.go i H ∧ ∃ Nx : Hp → Prop, (∀ H', Nx H' → ∃ m', m' < m ∧ W (i + 1) m' H') ∧
    ∀ x H', J.yld i H x H' → g x σ0 H' fun σ2 H2 => wipe σ2 vs = σ0 ∧ te σ2 H2 fun y H4 => ∃ b, y = .bl b ∧ if b = sb then Q (.bl sb) H4 else Nx H4)

/-- the generator stands ahead of its i-th turn, with room for n more -/
def Ahead (X : Cx) (s0 : Shared) (H0 : Hp) (sc : Scope) (C : Addr) (code : Value) (fp : List Addr) (tn : Nat → Heap → Prop) (σ0 : L2.St) (W : Nat → Nat → Hp → Prop) (pin : Addr × Obj) (i n : Nat) (s : Shared) : Prop :=
  ∃ H m, Inv (gcx X s0 H0 sc C code fp) [pin] σ0 H s ∧ tn i s.heap ∧ (∀ b ∈ fp, H b = none) ∧ m ≤ n ∧ W i m H
/-- it hands out a truth -/
def Out (X : Cx) (s0 : Shared) (H0 : Hp) (sc : Scope) (C : Addr) (code : Value) (fp : List Addr) (pin : Addr × Obj) (sb : Bool) (Q : VK) : Protocol := fun n s₀ v s kap =>
  ∃ (b : Bool) (σ1 : L2.St) (H1 : Hp), v = .bool b ∧ Inv (gcx X s0 H0 sc C code fp) [pin] σ1 H1 s ∧ (b = sb → Q (.bl sb) H1) ∧
    (b ≠ sb → ∀ s'', s''.heap = s.heap → s''.os = s.os → AllBare s''.gens → kap (.send .none) s'')
/-- it has come to its end -/
def Over (X : Cx) (s0 : Shared) (H0 : Hp) (sc : Scope) (C : Addr) (code : Value) (fp : List Addr) (pin : Addr × Obj) (sb : Bool) (Q : VK) (n : Nat) (s₀ s : Shared) : Prop :=
  ∃ (σ1 : L2.St) (H1 : Hp), Inv (gcx X s0 H0 sc C code fp) [pin] σ1 H1 s ∧ Q (.bl (!sb)) H1

section
variable {s0 : Shared} {H0 : Hp} {sc : Scope} {C : Addr} {code : Value} {fp : List Addr} {tg elt iter : Expr} {g : TG} {te : TE} {J : It} {it : Addr} {tn : Nat → Heap → Prop} {vs : List Nat} {σ0 : L2.St} {sb : Bool} {W : Nat → Nat → Hp → Prop} {Q : VK}
  {pin : Addr × Obj} {pos : Pos}

theorem ahead_like {i n : Nat} {s s' : Shared} (h : Ahead X s0 H0 sc C code fp tn σ0 W pin i n s) (hh : s'.heap = s.heap) (ho : s'.os = s.os) (hg : AllBare s'.gens) : Ahead X s0 H0 sc C code fp tn σ0 W pin i n s' := by
  obtain ⟨H, m, I, st, n, le, w⟩ := h
  exact ⟨H, m, inv_like I hh ho hg, by rw [hh]; exact st, n, le, w⟩

abbrev LoopC (X : Cx) (elt tg iter : Expr) (sc : Scope) (pos : Pos) (it C : Addr) (code : Value) : Code := .compLoop (.GeneratorExp elt [⟨tg, iter, [], 0⟩] sc pos) 0 (.ref it) .none (genv X sc C code)
abbrev SegX (X : Cx) (s0 : Shared) (H0 : Hp) (sc : Scope) (C : Addr) (code : Value) (fp : List Addr) (pin : Addr × Obj) (sb : Bool) (Q : VK) (n : Nat) (s₀ : Shared) (c : Code) (t : Sem PySem.Fin) (s : Shared) : Prop :=
  Seg (model X.prog X.w) X.A.in1.in1 (fun n s₀ r s₁ => r = .ok .next ∧ Over X s0 H0 sc C code fp pin sb Q n s₀ s₁) (Out X s0 H0 sc C code fp pin sb Q) n s₀ c t [] s

theorem seg_turn (R : Run X s0 H0 sc C code fp tg elt g te J it tn vs σ0 sb W Q) (hp : pin.1 ∉ fp) (n i : Nat) (s₀ s : Shared) (h : Ahead X s0 H0 sc C code fp tn σ0 W pin i n s)
    (again : ∀ n' s'', n = n' + 1 → Ahead X s0 H0 sc C code fp tn σ0 W pin (i + 1) n' s'' → SegX X s0 H0 sc C code fp pin sb Q (n' + 1) s'' (LoopC X elt tg iter sc pos it C code) ((model X.prog X.w).den (LoopC X elt tg iter sc pos it C code)) s'') :
    SegX X s0 H0 sc C code fp pin sb Q (n + 1) s₀ (LoopC X elt tg iter sc pos it C code) ((model X.prog X.w).den (LoopC X elt tg iter sc pos it C code)) s := by
  have T := R.turns
  have eA : (X.A.in1.in1).over (LoopC X elt tg iter sc pos it C code) [] = (gcx X s0 H0 sc C code fp).A := over_loop_gx
  obtain ⟨H, m, I, st, nf, le, w⟩ := h
  have stat : ∀ {σ' : L2.St} {H' : Hp} {s' : Shared}, Inv (gcx X s0 H0 sc C code fp) [pin] σ' H' s' → (∀ b ∈ fp, H' b = none) → ∀ b ∈ fp, FpOk (gcx X s0 H0 sc C code fp) [pin] H' b := fun {σ' H' s'} I' hn b hb =>
    ⟨hn b hb, (I'.ok.exf b hb).1, I'.ok.exfs b hb, .inl hb, fun x c e => (I'.ok.exf b hb).2 x c e, fun p hp' => by
      have e : p = pin := by simpa using hp'
      rw [e]
      exact fun z => hp (z ▸ hb)⟩
  show Seg _ _ _ _ _ _ _ ((compTurn (.GeneratorExp elt [⟨tg, iter, [], 0⟩] sc pos) 0 (.ref it) .none (genv X sc C code)).onRaise (leaving (genv X sc C code))) _ _
  rw [compTurn_gen, Sem.onRaise_eq_wrap]
  refine seg_bind_wrap (wpAny_standAt ?_)
  rcases R.step i m H w with ⟨stop, q⟩ | ⟨go, Nx, hNx, turn⟩
  · refine seg_bind_wrap ?_
    rw [eA]
    refine wpAny_mono (T.done (gcx X s0 H0 sc C code fp) rfl rfl rfl rfl i [pin] s σ0 H (fun _ _ => False) I (stat I nf) st stop) (fun r s1 h1 => ?_) fun e s z => z.elim
    obtain ⟨hr, I1⟩ := h1
    subst hr
    exact seg_end (.ok .next) ⟨rfl, σ0, H, I1, q⟩
  · refine seg_bind_wrap ?_
    rw [eA]
    refine wpAny_mono (T.item (gcx X s0 H0 sc C code fp) rfl rfl rfl rfl i [pin] s σ0 H (fun _ _ => False) I (stat I nf) st go) (fun r s1 h1 => ?_) fun e s z => z.elim
    obtain ⟨u, hr, h1⟩ := h1
    subst hr
    refine seg_bind_wrap ?_
    rw [eA]
    refine wpAny_mono h1 (fun _ s2 h2 => ?_) fun e s z => z.elim
    obtain ⟨x, H2, I2, r2, y2, st2, nf2⟩ := h2
    have I2' := I2.pinned (stat I2 nf2) (T.obj _ _ st2)
    refine seg_bind_wrap ?_
    rw [eA]
    refine wpAny_mono (R.target.run _ s2 σ0 H2 x u _ I2' r2 (turn x H2 y2)) (fun _ s3 h3 => ?_) fun e s z => z.elim
    obtain ⟨σ3, H3, I3, hw3, q3⟩ := h3
    refine seg_bind_wrap ?_
    rw [List.forIn_nil]
    refine wpAny_pure ?_
    simp only [if_true]
    have hy : ∀ v, yieldOut (genv X sc C code) v = yieldValue v := fun v => by
      have e : (genv X sc C code).scope.isCoroutine = false := R.nocor
      simp only [yieldOut, e, Bool.false_eq_true, if_false]
    simp only [hy]
    rw [Sem.bind_eq_wrap', Sem.bind_eq_wrap', Sem.wrap_wrap, Sem.wrap_wrap]
    refine seg_wrap ?_
    rw [eA]
    refine wpAny_mono (R.element.run _ s3 σ3 H3 _ I3 q3) (fun y s4 h4 => ?_) fun e s z => z.elim
    obtain ⟨yv, H4, I4, r4, b, ey, q4⟩ := h4
    subst ey
    have er : y = Value.bool b := r4
    subst er
    have pinK : ∀ b ∈ fp, ∀ o, s2.heap.get? b = some o → s4.heap.get? b = some o ∧ H4 b = none := fun b hb o e =>
      let z := I4.pin (b, o) (List.mem_append_right _ (List.mem_append_right _ (mem_pinsAt hb e)))
      ⟨z.1, z.2.1⟩
    have hl : σ0.length = σ3.length := by rw [← hw3, wipe_length]
    have I4' : Inv (gcx X s0 H0 sc C code fp) [pin] σ0 H4 s4 := (I4.unpinned (pins := [pin])).weak hl fun j v e => by
      rw [← hw3] at e
      exact (wipe_some e).1
    refine seg_at (seg_yield rfl rfl rfl ⟨b, σ0, H4, rfl, I4', fun e => ?_, fun ne s'' hh ho hg => ?_⟩)
    · rw [if_pos e] at q4
      exact q4
    · rw [if_neg ne] at q4
      obtain ⟨m', hm, w'⟩ := hNx H4 q4
      obtain ⟨n', rfl⟩ : ∃ n', n = n' + 1 := ⟨n - 1, by omega⟩
      refine seg_again rfl (again n' s'' rfl (ahead_like (s := s4) ⟨H4, m', I4', T.keep _ _ _ st2 fun b hb o e => (pinK b hb o e).1, fun b hb => ?_, by omega, w'⟩ hh ho hg))
      obtain ⟨o, e, _⟩ := T.obj _ _ st2 b hb
      exact (pinK b hb o e).2
theorem seg_turns (R : Run X s0 H0 sc C code fp tg elt g te J it tn vs σ0 sb W Q) (hp : pin.1 ∉ fp) : ∀ (n i : Nat) (s₀ s : Shared), Ahead X s0 H0 sc C code fp tn σ0 W pin i n s →
    SegX X s0 H0 sc C code fp pin sb Q (n + 1) s₀ (LoopC X elt tg iter sc pos it C code) ((model X.prog X.w).den (LoopC X elt tg iter sc pos it C code)) s := by
  intro n
  induction n with
  | zero => exact fun i s₀ s h => seg_turn R hp 0 i s₀ s h fun n' s'' e _ => by omega
  | succ n ih =>
    refine fun i s₀ s h => seg_turn R hp (n + 1) i s₀ s h fun n' s'' e h' => ?_
    have e' : n' = n := by omega
    rw [e'] at h' ⊢
    exact ih (i + 1) s'' s'' h'
abbrev StartC (X : Cx) (elt tg iter : Expr) (sc : Scope) (pos : Pos) (it C : Addr) (code : Value) : Code := .compStart (.GeneratorExp elt [⟨tg, iter, [], 0⟩] sc pos) 0 (.ref it) .none (genv X sc C code)
theorem seg_begin (R : Run X s0 H0 sc C code fp tg elt g te J it tn vs σ0 sb W Q) (hp : pin.1 ∉ fp) (n : Nat) (s₀ s : Shared) (h : Ahead X s0 H0 sc C code fp tn σ0 W pin 0 n s) :
    SegX X s0 H0 sc C code fp pin sb Q (n + 1) s₀ (StartC X elt tg iter sc pos it C code) ((model X.prog X.w).den (StartC X elt tg iter sc pos it C code)) s := by
  have loop := seg_turns (iter := iter) (pos := pos) R hp n 0 s₀ s h
  obtain ⟨H, m, I, st, _⟩ := h
  show Seg _ _ _ _ _ _ _ ((compStart (.GeneratorExp elt [⟨tg, iter, [], 0⟩] sc pos) 0 (.ref it) .none (genv X sc C code)).onRaise (leaving (genv X sc C code))) _ _
  unfold compStart
  rw [Sem.onRaise_eq_wrap]
  show Seg _ _ _ _ _ _ _ ((ask >>= _).wrap _ _ _ _) _ _
  refine seg_bind_wrap (wpAny_askSetting ?_)
  split
  · exact seg_again rfl loop
  · refine seg_bind_wrap (wpAny_rule ?_)
    show Seg _ _ _ _ _ _ _ ((standAt iter.pos >>= _).wrap _ _ _ _) _ _
    refine seg_bind_wrap (wpAny_standAt (seg_bind_wrap ?_))
    exact R.turns.self _ 0 s _ _ st (seg_again rfl loop)
end
end
end Gx

namespace Gx
open PySem PySem.Spec PyProof.Rows L2 GxR GenW
section
variable {X : Cx} {s0 : Shared} {H0 : Hp} {sc : Scope} {C : Addr} {code : Value} {fp : List Addr} {sb : Bool} {Q : VK} {a : Addr} {go : Obj} {gi : Nat}

abbrev EndX (X : Cx) (s0 : Shared) (H0 : Hp) (sc : Scope) (C : Addr) (code : Value) (fp : List Addr) (pin : Addr × Obj) (sb : Bool) (Q : VK) : GenEnd := fun n s₀ r s₁ => r = .ok .next ∧ Over X s0 H0 sc C code fp pin sb Q n s₀ s₁
/-- the generator sleeps, n turns at most are ahead -/
def Awake (X : Cx) (s0 : Shared) (H0 : Hp) (sc : Scope) (C : Addr) (code : Value) (fp : List Addr) (sb : Bool) (Q : VK) (a : Addr) (go : Obj) (gi n : Nat) (s : Shared) : Prop :=
  (∃ σ1 H1, Inv (gcx X s0 H0 sc C code fp) [(a, go)] σ1 H1 s) ∧
  ∃ gs, s.gens[gi]? = some gs ∧ ∀ s'', s''.heap = s.heap → s''.os = s.os → AllBare s''.gens →
    gs.Goes (model X.prog X.w) X.A.in1.in1 (EndX X s0 H0 sc C code fp (a, go) sb Q) (Out X s0 H0 sc C code fp (a, go) sb Q) n (.send .none) s''
/-- what is wanted of the whole -/
def Fin' (X : Cx) (s0 : Shared) (H0 : Hp) (sc : Scope) (C : Addr) (code : Value) (fp : List Addr) (Q : VK) (a : Addr) (go : Obj) (R : Result → Shared → Prop) : Prop :=
  ∀ b σ1 H1 s1, Inv (gcx X s0 H0 sc C code fp) [(a, go)] σ1 H1 s1 → Q (.bl b) H1 → ∀ s', s'.os = s1.os → AllBare s'.gens → (∀ b o, s1.heap.get? b = some o → s'.heap.get? b = some o) → R (.ok (.ret (.bool b))) s'

theorem pin_at {σ1 : L2.St} {H1 : Hp} {s : Shared} (I : Inv (gcx X s0 H0 sc C code fp) [(a, go)] σ1 H1 s) : s.heap.get? a = some go := (I.pin (a, go) (by simp)).1

/-- one next( ) of it: a truth, or the end -/
theorem next_truth (hh : X.A.handled = none) (hd : X.A.depth < recursionLimit) (hgo : ∀ h : Heap, h.get? a = some go → h.IsGen a gi) {n : Nat} {s : Shared} (h : Awake X s0 H0 sc C code fp sb Q a go gi n s) {P : Option Value → Shared → Prop} {E : Value → Shared → Prop}
    (stop : ∀ σ1 H1 s1 s2, Inv (gcx X s0 H0 sc C code fp) [(a, go)] σ1 H1 s1 → Q (.bl sb) H1 → s2.os = s1.os → AllBare s2.gens → s2.heap = s1.heap → P (some (.bool sb)) s2)
    (more : ∀ n' s2, n = n' + 1 → Awake X s0 H0 sc C code fp sb Q a go gi n' s2 → P (some (.bool (!sb))) s2)
    (done : ∀ σ1 H1 s1 s2, Inv (gcx X s0 H0 sc C code fp) [(a, go)] σ1 H1 s1 → Q (.bl (!sb)) H1 → s2.os = s1.os → AllBare s2.gens → (∀ b o, s1.heap.get? b = some o → s2.heap.get? b = some o) → P none s2) :
    wpAny (model X.prog X.w) X.A.in1 (pyNext (.ref a)) P E s := by
  obtain ⟨⟨σ1, H1, I⟩, gs, hgs, goes⟩ := h
  have hlt : gi < s.gens.size := (Array.getElem?_eq_some_iff.mp hgs).1
  have hrun : AllBare (s.setGen gi .running).gens := allBare_setGen I.bare rfl
  refine wpAny_gsz (n := gi + 1) hlt (wpAny_pyNext_genexpQ (A := X.A.in1) (P := Over X s0 H0 sc C code fp (a, go) sb Q) hh I.nolimit hd (hgo _ (pin_at I)) hgs (goes _ rfl rfl hrun) (fun v s1 gs' hb hv => ?_) fun s1 hp h' hk => ?_)
  · intro hsz
    obtain ⟨b, σ2, H2, ev, I2, hst, hmore⟩ := hv
    subst ev
    have hb2 : AllBare (s1.setGen gi gs').gens := allBare_setGen I2.bare hb
    by_cases e : b = sb
    · rw [e]
      exact stop σ2 H2 s1 _ I2 (hst e) rfl hb2 rfl
    · have e2 : b = !sb := by cases b <;> cases sb <;> simp_all
      have q := hmore e
      cases n with
      | zero => exact (q s1 rfl rfl I2.bare).elim
      | succ n' =>
        rw [e2]
        have hlt2 : gi < s1.gens.size := by
          have z : (s1.setGen gi gs').gens.size = s1.gens.size := setGen_size _ _ _
          omega
        refine more n' _ rfl ⟨⟨σ2, H2, inv_like I2 rfl rfl hb2⟩, gs', setGen_at hlt2, fun s'' h1 h2 h3 => q s'' h1 h2 h3⟩
  · intro hsz
    obtain ⟨σ2, H2, I2, q⟩ := hp
    exact done σ2 H2 s1 _ I2 q rfl (allBare_setGen I2.bare rfl) hk

theorem all_turns (hh : X.A.handled = none) (hd : X.A.depth < recursionLimit) (hgo : ∀ h : Heap, h.get? a = some go → h.IsGen a gi) {R : Result → Shared → Prop} (fin : Fin' X s0 H0 sc C code fp Q a go R) :
    ∀ (n : Nat) (s : Shared), Awake X s0 H0 sc C code fp false Q a go gi n s → codeAny (model X.prog X.w) X.A (.builtin "all.loop" ⟨[.ref a], []⟩) R s := by
  intro n
  induction n with
  | zero =>
    intro s h
    refine codeAny_builtin F.entry_all_loop ?_
    rw [Around.under_plainId F.plain_all_loop _]
    show wpAny _ X.A.in1 (pyNext (.ref a) >>= _) _ _ s
    refine wpAny_bind (next_truth hh hd hgo h (fun σ1 H1 s1 s2 I q e1 e2 e3 => ?_) (fun n' s2 e _ => by omega) fun σ1 H1 s1 s2 I q e1 e2 e3 => ?_)
    · refine wpAny_bind (wpAny_holding (wpAny_truthy_bool ?_))
      refine wpAny_bind (wpAny_letGo ?_)
      simp only [Bool.false_eq_true, if_false]
      exact wpAny_bind (wpAny_rule (wpAny_pure (fin false σ1 H1 s1 I q s2 e1 e2 fun b o e => by rw [e3]; exact e)))
    · exact wpAny_bind (wpAny_rule (wpAny_pure (fin true σ1 H1 s1 I q s2 e1 e2 e3)))
  | succ n ih =>
    intro s h
    refine codeAny_builtin F.entry_all_loop ?_
    rw [Around.under_plainId F.plain_all_loop _]
    show wpAny _ X.A.in1 (pyNext (.ref a) >>= _) _ _ s
    refine wpAny_bind (next_truth hh hd hgo h (fun σ1 H1 s1 s2 I q e1 e2 e3 => ?_) (fun n' s2 e h2 => ?_) fun σ1 H1 s1 s2 I q e1 e2 e3 => ?_)
    · refine wpAny_bind (wpAny_holding (wpAny_truthy_bool ?_))
      refine wpAny_bind (wpAny_letGo ?_)
      simp only [Bool.false_eq_true, if_false]
      exact wpAny_bind (wpAny_rule (wpAny_pure (fin false σ1 H1 s1 I q s2 e1 e2 fun b o e => by rw [e3]; exact e)))
    · refine wpAny_bind (wpAny_holding (wpAny_truthy_bool ?_))
      refine wpAny_bind (wpAny_letGo ?_)
      simp only [Bool.not_false, if_true]
      have en : n' = n := by omega
      rw [en] at h2
      exact wpAny_pure ⟨plainId_quiet F.plain_all_loop _, ih s2 h2⟩
    · exact wpAny_bind (wpAny_rule (wpAny_pure (fin true σ1 H1 s1 I q s2 e1 e2 e3)))
theorem any_turns (hh : X.A.handled = none) (hd : X.A.depth < recursionLimit) (hgo : ∀ h : Heap, h.get? a = some go → h.IsGen a gi) {R : Result → Shared → Prop} (fin : Fin' X s0 H0 sc C code fp Q a go R) :
    ∀ (n : Nat) (s : Shared), Awake X s0 H0 sc C code fp true Q a go gi n s → codeAny (model X.prog X.w) X.A (.builtin "any.loop" ⟨[.ref a], []⟩) R s := by
  intro n
  induction n with
  | zero =>
    intro s h
    refine codeAny_builtin F.entry_any_loop ?_
    rw [Around.under_plainId F.plain_any_loop _]
    show wpAny _ X.A.in1 (pyNext (.ref a) >>= _) _ _ s
    refine wpAny_bind (next_truth hh hd hgo h (fun σ1 H1 s1 s2 I q e1 e2 e3 => ?_) (fun n' s2 e _ => by omega) fun σ1 H1 s1 s2 I q e1 e2 e3 => ?_)
    · refine wpAny_bind (wpAny_holding (wpAny_truthy_bool ?_))
      refine wpAny_bind (wpAny_letGo ?_)
      simp only [if_true]
      exact wpAny_bind (wpAny_rule (wpAny_pure (fin true σ1 H1 s1 I q s2 e1 e2 fun b o e => by rw [e3]; exact e)))
    · exact wpAny_bind (wpAny_rule (wpAny_pure (fin false σ1 H1 s1 I q s2 e1 e2 e3)))
  | succ n ih =>
    intro s h
    refine codeAny_builtin F.entry_any_loop ?_
    rw [Around.under_plainId F.plain_any_loop _]
    show wpAny _ X.A.in1 (pyNext (.ref a) >>= _) _ _ s
    refine wpAny_bind (next_truth hh hd hgo h (fun σ1 H1 s1 s2 I q e1 e2 e3 => ?_) (fun n' s2 e h2 => ?_) fun σ1 H1 s1 s2 I q e1 e2 e3 => ?_)
    · refine wpAny_bind (wpAny_holding (wpAny_truthy_bool ?_))
      refine wpAny_bind (wpAny_letGo ?_)
      simp only [if_true]
      exact wpAny_bind (wpAny_rule (wpAny_pure (fin true σ1 H1 s1 I q s2 e1 e2 fun b o e => by rw [e3]; exact e)))
    · refine wpAny_bind (wpAny_holding (wpAny_truthy_bool ?_))
      refine wpAny_bind (wpAny_letGo ?_)
      simp only [Bool.not_true, Bool.false_eq_true, if_false]
      have en : n' = n := by omega
      rw [en] at h2
      exact wpAny_pure ⟨plainId_quiet F.plain_any_loop _, ih s2 h2⟩
    · exact wpAny_bind (wpAny_rule (wpAny_pure (fin false σ1 H1 s1 I q s2 e1 e2 e3)))
end
end Gx

namespace Gx
open PySem PySem.Spec PyProof.Rows L2 GxR GenW
section
variable {X : Cx} {pins : List (Addr × Obj)} {σ : L2.St} {H : Hp} {s : Shared}

/-- what stands once the generator has been made, ahead of its first turn -/
structure Made (X : Cx) (pins : List (Addr × Obj)) (σ : L2.St) (P : Addr) (elt tg iter : Expr) (sc : Scope) (pos : Pos) (vs : List Nat) (J : It) (H1 H2 : Hp) (it : Addr) (fp : List Addr) (tn : Nat → Heap → Prop) (s0 : Shared) (C : Addr) (code : Value) (a : Addr) (go : Obj) (gi : Nat) (s5 : Shared) : Prop where
  tab : Tabbed P H1 H2
  turns : Turn X.prog X.w X.K tg J fp it tn
  st : tn 0 s5.heap
  i0 : Inv X pins σ H2 s0
  fpo : ∀ b ∈ fp, FpOk X pins H2 b ∧ b < s0.heap.objs.size
  i5 : Inv (gcx X s0 H2 sc C code fp) [(a, go)] (wipe σ vs) H2 s5
  apart : a ∉ fp
  gens : s5.gens[gi]? = some (.fresh (StartC X elt tg iter sc pos it C code))
  isgen : ∀ h : Heap, h.get? a = some go → h.IsGen a gi

theorem gen_made {c P : Addr} {elt tg iter : Expr} {gpos : Pos} {sc : Scope} {own : List (Str × Nat)} {wi : TI} {k : Nat} {Q' : Value → Shared → Prop} {R : It → Hp → Prop}
    (hr : Room k X.A) (TB : TabB X.base X.mg c P) (hcode : X.env.code = .ref c) (ok : BlkOk X.N X.env.scope sc own) (hN : X.N.Nodup) (hcell : ∀ y ∈ sc.names, y.2 ≠ .cell) (hdot : sc.names.lookup (".0" : Str) = some NameKind.local)
    (hco : sc.isCoroutine = false) (hi : PI X tg iter wi) (hs : ∀ v, genFold iter X.env v = pure v) (I : Inv X pins σ H s) (h : wi σ H fun J H1 => TabG H1 P ∧ R J H1)
    (hQ : ∀ J H1 H2 it fp tn s0 C code a go gi s5, R J H1 → Made X pins σ P elt tg iter sc gpos (own.map (·.2)) J H1 H2 it fp tn s0 C code a go gi s5 → Q' (.ref a) s5) :
    wpAny (model X.prog X.w) X.A (eval (.GeneratorExp elt [⟨tg, iter, [], 0⟩] sc gpos) X.env) Q' X.xe s := by
  have hf : ∀ z ∈ sc.names, z.2 = .free → ∃ c, X.env.cells.lookup z.1 = some c := fun z hz e => by
    rcases ok.free z hz e with k | k
    · exact I.ok.has _ (.inl k)
    · exact I.ok.has _ (.inr k)
  refine wpAny_GeneratorExp_make hco (closure_ok hf) hcell hdot ok.kind (by have := hr.dp; omega) ?_ hs
  refine thn (hi.run pins s σ H _ I h) fun xv s1 h1 => thn h1 fun itv s2 h2 => ?_
  obtain ⟨it, fp, tn, J, H1, e, I1, T, st, f1, ⟨ps, hP, htr⟩, q⟩ := h2
  subst e
  refine ⟨I1.nolimit, ?_⟩
  have hPs : s2.heap.get? P = some { cls := .none, data := .fields ps } := I1.hok P _ hP
  have cd : PySem.W.CodeHd s2.heap c P := TB.code.keeps I1.bk
  -- behind the making of the code object
  have cont : ∀ (cv : Value) (h3 : Heap) (tk : Nat) (more : Array Value), (∀ b o, b ≠ P → s2.heap.get? b = some o → h3.get? b = some o) → h3.get? P = some { cls := .none, data := .fields (ps ++ more) } → TriplesOk (ps ++ more).toList →
      wpAny (model X.prog X.w) X.A (builtinsFor X.env.globals X.env.builtins) (fun bi s4 => ∀ h', h'.Ns s4.heap.objs.size (fun y => if y = ".0" then some (.ref it) else none) → Heap.SameBut s4.heap.objs.size (s4.heap.push { cls := .type "frame", data := .dict #[] }) h' →
        Q' (.ref h'.objs.size) { s4 with
          gens := s4.gens.push (.fresh (.compStart (.GeneratorExp elt [⟨tg, iter, [], 0⟩] sc gpos) 0 (.ref it) .none (genEnv sc (cloFrom X.env.cells sc.names []) s4.heap.objs.size cv bi X.env))),
          toks := s4.toks + 1 + 1 + 1,
          heap := h'.push { cls := .type "generator", data := .fields #[.int s4.gens.size 0, .str "<genexpr>" (s4.toks + 1), .str (X.env.qual ++ "<genexpr>") (s4.toks + 1 + 1)] } }) X.xe { s2 with heap := h3, toks := tk } := by
    intro cv h3 tk more k3 hP3 ht3
    have I3 : Inv X pins σ (upd H1 P (.tbl (ps ++ more))) { s2 with heap := h3, toks := tk } := inv_tab (g' := s2.gens) (d' := s2.drawn) (t' := tk) I1 hP k3 hP3 I1.bare
    have tbd : Tabbed P H1 (upd H1 P (.tbl (ps ++ more))) := ⟨⟨ps ++ more, upd_same, ht3⟩, fun b hb => upd_ne hb⟩
    obtain ⟨bm, ob, e1, e2, e3, e4, e5, e6, e7, e8⟩ := TB.bm
    have gNs := I3.mod.glob.keeps I3.bk
    refine wpAny_builtinsFor (m := X.mg) (by rw [I3.ok.glob]; exact gNs) e1 e2 (I3.bk _ _ e5) e6 e7 e8 ?_
    intro h' hns' hsb
    generalize hH2 : upd H1 P (.tbl (ps ++ more)) = H2 at I3 tbd
    have n2 : ∀ b, H1 b = none → H2 b = none := fun b e => by
      have hne : b ≠ P := fun z => by rw [z, hP] at e; cases e
      rw [tbd.2 b hne]
      exact e
    have f3 : ∀ b ∈ fp, FpOk X pins H2 b ∧ b < h3.objs.size := fun b hb => by
      have hne : b ≠ P := fun z => by
        have := (f1 b hb).1
        rw [z, hP] at this
        cases this
      obtain ⟨o, e, _⟩ := T.obj _ _ st b hb
      exact ⟨⟨n2 b (f1 b hb).1, (f1 b hb).2⟩, Heap.lt_size (k3 b o hne e)⟩
    have hsz : h'.objs.size = h3.objs.size + 1 := by
      have z := hsb.1
      rw [Heap.size_push] at z
      exact z
    have kp : ∀ b o, h3.get? b = some o → h'.get? b = some o := fun b o e => hsb.extBut b o (Nat.ne_of_lt (Heap.lt_size e)) (Heap.get?_push_of_some _ e)
    generalize hgo : ({ cls := .type "generator", data := .fields #[.int s2.gens.size 0, .str "<genexpr>" (tk + 1), .str (X.env.qual ++ "<genexpr>") (tk + 1 + 1)] } : Obj) = go
    have ggo : (h'.push go).get? h'.objs.size = some go := Heap.get?_push_size _ (by rw [← hgo]; rfl)
    have kp5 : ∀ b o, h3.get? b = some o → (h'.push go).get? b = some o := fun b o e => Heap.get?_push_of_some _ (kp b o e)
    have bg : AllBare (s2.gens.push (.fresh (.compStart (.GeneratorExp elt [⟨tg, iter, [], 0⟩] sc gpos) 0 (.ref it) .none (genv X sc h3.objs.size cv)))) := I1.bare.push rfl
    have I5 := gx_start (C := h3.objs.size) (code := cv) (d' := s2.drawn) (t' := tk + 1 + 1 + 1) (h' := h'.push go) (s := { s2 with heap := h3, toks := tk }) I3 hr.hd ok hN hcell f3 rfl ⟨_, hns'.push _⟩ kp5 bg
    have na : h3.objs.size ≤ h'.objs.size := by rw [hsz]; exact Nat.le_succ _
    have I5' := I5.pins_of (pins' := [(h'.objs.size, go)]) fun p hp => by
      have ep : p = (h'.objs.size, go) := by simpa using hp
      subst ep
      refine ⟨ggo, I3.hok.fresh na, ?_, fun z => ?_, fun v z => ?_⟩
      · show h'.objs.size ≠ h3.objs.size
        rw [hsz]
        exact Nat.succ_ne_self _
      · rcases List.mem_cons.mp (I3.stkSub _ z) with y | y
        · have l : X.env.locals < h3.objs.size := I3.lt
          rw [← show h'.objs.size = X.env.locals from y] at l
          exact Nat.lt_irrefl _ (Nat.lt_of_lt_of_le l na)
        · exact I3.nofs (a := h'.objs.size) na y
      · rw [← hgo] at z
        cases z
    refine hQ J H1 H2 it fp tn { s2 with heap := h3, toks := tk } h3.objs.size cv h'.objs.size go s2.gens.size _ q ⟨tbd, T, ?_, I3, f3, I5', fun z => ?_, Array.getElem?_push_size .., fun h e => ⟨go, _, _, e, by rw [← hgo], by rw [← hgo], by rw [← hgo]⟩⟩
    · refine T.keep _ _ _ st fun b hb o e => kp5 b o (k3 b o (fun z => ?_) e)
      have := (f1 b hb).1
      rw [z, hP] at this
      cases this
    · exact Nat.lt_irrefl _ (Nat.lt_of_lt_of_le (f3 _ z).2 na)
  cases hf2 : codeAmong gpos ps.toList with
  | none =>
    refine wpAny_genexprCodeX hcode (cd.code hPs htr) (cd.tab hPs) hf2 fun c' h' tk hx hge hlt hco' _ htab' _ => ?_
    obtain ⟨o1, us, f1', tf, fl, tg', inF, tx, tt, op, _, _, _, _, _, _, _, _, _, htr', _⟩ := hco'
    exact cont _ h' tk _ (fun b o hb e => hx b o hb e) htab'.2 htr'
  | some cv =>
    refine wpAny_genexprCode_hit hcode (cd.code hPs htr) hf2 ?_
    exact cont cv s2.heap s2.toks #[] (fun b o _ e => e) (by rw [Array.append_empty]; exact hPs) (by rw [Array.append_empty]; exact htr)

/-- all( ), any( ) of a generator expression: sb is the truth at which it stops -/
def rTruth (P : Addr) (sb : Bool) (g : TG) (te : TE) (vs : List Nat) (σ : L2.St) (Q : VK) (J : It) (H1 : Hp) : Prop := ∀ H2, Tabbed P H1 H2 → ∃ W : Nat → Nat → Hp → Prop, (∃ m, W 0 m H2) ∧
  ∀ i m H, W i m H → (J.stop i H ∧ Q (.bl (!sb)) H) ∨ (J.go i H ∧ ∃ Nx : Hp → Prop, (∀ H', Nx H' → ∃ m', m' < m ∧ W (i + 1) m' H') ∧
    ∀ x H', J.yld i H x H' → g x (wipe σ vs) H' fun σ2 H2 => wipe σ2 vs = wipe σ vs ∧ te σ2 H2 fun y H4 => ∃ b, y = .bl b ∧ if b = sb then Q (.bl sb) H4 else Nx H4)
def tTruthG (P : Addr) (sb : Bool) (wi : TI) (g : TG) (te : TE) (vs : List Nat) : TE := fun σ H Q => wi σ H fun J H1 => TabG H1 P ∧ rTruth P sb g te vs σ Q J H1
/-- how a run of it is told -/
def Told (X : Cx) (pins : List (Addr × Obj)) (σ : L2.St) (sc : Scope) (sb : Bool) (Q : VK) (a : Addr) (s5 : Shared) : Prop :=
  ∀ R : Result → Shared → Prop, (∀ b s', EP X pins σ Q (.bool b) s' → R (.ok (.ret (.bool b))) s') → ∃ s0 H0 C code fp go gi n, Awake X s0 H0 sc C code fp sb Q a go gi n s5 ∧ (∀ h : Heap, h.get? a = some go → h.IsGen a gi) ∧ Fin' X s0 H0 sc C code fp Q a go R
/-- what the generator expression must have; the two names of it that are the program's -/
structure GxOk (X : Cx) (sc : Scope) (own : List (Str × Nat)) (c P : Addr) : Prop where
  tb : TabB X.base X.mg c P
  code : X.env.code = .ref c
  blk : BlkOk X.N X.env.scope sc own
  nd : X.N.Nodup
  nocell : ∀ y ∈ sc.names, y.2 ≠ .cell
  dot : sc.names.lookup (".0" : Str) = some NameKind.local
  nocor : sc.isCoroutine = false

section
variable {c P : Addr} {elt tg iter : Expr} {gpos p pos : Pos} {sc : Scope} {own : List (Str × Nat)} {wi : TI} {g : TG} {te : TE} {k : Nat}
theorem truth_core {sb : Bool} {Q : VK} (hr : Room k X.A) (G : GxOk X sc own c P) (hi : PI X tg iter wi) (hs : ∀ v, genFold iter X.env v = pure v)
    (hg : ∀ (s : Shared) (H : Hp) (C : Addr) (code : Value) (fp : List Addr), PG (gcx X s H sc C code fp) tg g) (he : ∀ (s : Shared) (H : Hp) (C : Addr) (code : Value) (fp : List Addr), PE (gcx X s H sc C code fp) elt te)
    (I : Inv X pins σ H s) (h : tTruthG P sb wi g te (own.map (·.2)) σ H Q) {Q' : Value → Shared → Prop}
    (hQ : ∀ a s5, s5.heap.NoLimit → (∃ gi, s5.heap.IsGen a gi) →
      Told X pins σ sc sb Q a s5 → Q' (.ref a) s5) :
    wpAny (model X.prog X.w) X.A (eval (.GeneratorExp elt [⟨tg, iter, [], 0⟩] sc gpos) X.env) Q' X.xe s := by
  have h' : wi σ H fun J H1 => TabG H1 P ∧ rTruth P sb g te (own.map (·.2)) σ Q J H1 := h
  refine gen_made (own := own)
    hr G.tb G.code G.blk G.nd G.nocell G.dot G.nocor hi hs I h' fun J H1 H2 it fp tn s0 C code a go gi s5 hR M => ?_
  obtain ⟨W, ⟨m, w0⟩, step⟩ := hR H2 M.tab
  have I5 := M.i5
  have n2 : ∀ b ∈ fp, H2 b = none := fun b hb => (M.fpo b hb).1.1
  have RR : Run X s0 H2 sc C code fp tg elt g te J it tn (own.map (·.2)) (wipe σ (own.map (·.2))) sb W Q := ⟨M.turns, hg _ _ _ _ _, he _ _ _ _ _, G.nocor, step⟩
  refine hQ a s5 I5.nolimit ⟨gi, M.isgen _ (pin_at I5)⟩ fun R hRR => ⟨s0, H2, C, code, fp, go, gi, m + 1, ⟨⟨_, _, I5⟩, _, M.gens, fun s'' e1 e2 e3 => ⟨rfl, seg_begin RR M.apart m s'' s'' (ahead_like ⟨H2, m, I5, M.st, n2, Nat.le_refl _, w0⟩ e1 e2 e3)⟩⟩, M.isgen, ?_⟩
  intro b σ1 H3 s1 I1 q s' ho hgs hk
  refine hRR b s' ⟨.bl b, H3, ?_, rfl, q⟩
  have un := I1.base.trans (Un.kept hk)
  exact M.i0.call' (ch := fp) (ho.trans I1.os) un (I1.hok.kept hk) hgs fun b hb => ⟨(M.fpo b hb).1.2.2.2.1, (M.fpo b hb).1.2.1, (M.fpo b hb).1.2.2.2.2.1, (M.fpo b hb).1.2.2.2.2.2⟩

theorem told_all {Q : VK} {a : Addr} {s5 : Shared} {R : Result → Shared → Prop} (hr : Room k X.A) (h : Told X pins σ sc false Q a s5) (hR : ∀ b s', EP X pins σ Q (.bool b) s' → R (.ok (.ret (.bool b))) s') :
    codeAny (model X.prog X.w) X.A (.builtin "all.loop" ⟨[.ref a], []⟩) R s5 := by
  obtain ⟨s0, H0, C, code, fp, go, gi, n, aw, hgo, fin⟩ := h R hR
  exact all_turns hr.hd (by have := hr.dp; omega) hgo fin n s5 aw
theorem told_any {Q : VK} {a : Addr} {s5 : Shared} {R : Result → Shared → Prop} (hr : Room k X.A) (h : Told X pins σ sc true Q a s5) (hR : ∀ b s', EP X pins σ Q (.bool b) s' → R (.ok (.ret (.bool b))) s') :
    codeAny (model X.prog X.w) X.A (.builtin "any.loop" ⟨[.ref a], []⟩) R s5 := by
  obtain ⟨s0, H0, C, code, fp, go, gi, n, aw, hgo, fin⟩ := h R hR
  exact any_turns hr.hd (by have := hr.dp; omega) hgo fin n s5 aw
theorem pe_allG (hr : Room k X.A) (G : GxOk X sc own c P) (hga : Gl X "all") (hma : X.mg "all" = none) (hb : bootBuiltins "all" = some (.builtin "all")) (hi : PI X tg iter wi)
    (hg : ∀ (s : Shared) (H : Hp) (C : Addr) (code : Value) (fp : List Addr), PG (gcx X s H sc C code fp) tg g) (he : ∀ (s : Shared) (H : Hp) (C : Addr) (code : Value) (fp : List Addr), PE (gcx X s H sc C code fp) elt te)
    (hs : ∀ v, genFold iter X.env v = pure v := by intro _; rfl)
    (hst : starEach [.GeneratorExp elt [⟨tg, iter, [], 0⟩] sc gpos] X.env = (false, eval (.GeneratorExp elt [⟨tg, iter, [], 0⟩] sc gpos) X.env) :: starEach [] X.env := by rfl) :
    PE X (.Call (.Name "all" p) [.GeneratorExp elt [⟨tg, iter, [], 0⟩] sc gpos] [] pos) (tTruthG P false wi g te (own.map (·.2))) := by
  refine ⟨fun pins s σ H Q I h => ?_⟩
  refine wpAny_Call_Name_kw (ld_blt I hga hma hb ?_)
  refine PyProof.Rows.callWith_builtin1 ?_ hst (by rfl)
  rw [hst]
  show wpAny _ _ (spliced ((false, eval (.GeneratorExp elt [⟨tg, iter, [], 0⟩] sc gpos) X.env) :: backTo pos (starEach [] X.env))) _ _ s
  refine Calls.spliced_cons (truth_core hr G hi hs hg he I h fun a s5 hl hgn hall => ?_)
  refine Calls.spliced_nil ?_
  refine call_function_tree F.kind_all F.plain_all F.entry_all (F.args_all1 _) ?_
  unfold Builtin.«all»
  refine wpAny_bind (m := oneArg "all" _) (wpAny_pure ?_)
  obtain ⟨gi, hgn⟩ := hgn
  refine wpAny_bind (wpAny_pyIter_gen hgn ?_)
  exact wpAny_pure ⟨plainId_quiet F.plain_all_loop _, told_all hr hall fun b s' h => h⟩
theorem pe_anyG (hr : Room k X.A) (G : GxOk X sc own c P) (hga : Gl X "any") (hma : X.mg "any" = none) (hb : bootBuiltins "any" = some (.builtin "any")) (hi : PI X tg iter wi)
    (hg : ∀ (s : Shared) (H : Hp) (C : Addr) (code : Value) (fp : List Addr), PG (gcx X s H sc C code fp) tg g) (he : ∀ (s : Shared) (H : Hp) (C : Addr) (code : Value) (fp : List Addr), PE (gcx X s H sc C code fp) elt te)
    (hs : ∀ v, genFold iter X.env v = pure v := by intro _; rfl)
    (hst : starEach [.GeneratorExp elt [⟨tg, iter, [], 0⟩] sc gpos] X.env = (false, eval (.GeneratorExp elt [⟨tg, iter, [], 0⟩] sc gpos) X.env) :: starEach [] X.env := by rfl) :
    PE X (.Call (.Name "any" p) [.GeneratorExp elt [⟨tg, iter, [], 0⟩] sc gpos] [] pos) (tTruthG P true wi g te (own.map (·.2))) := by
  refine ⟨fun pins s σ H Q I h => ?_⟩
  refine wpAny_Call_Name_kw (ld_blt I hga hma hb ?_)
  refine PyProof.Rows.callWith_builtin1 ?_ hst (by rfl)
  rw [hst]
  show wpAny _ _ (spliced ((false, eval (.GeneratorExp elt [⟨tg, iter, [], 0⟩] sc gpos) X.env) :: backTo pos (starEach [] X.env))) _ _ s
  refine Calls.spliced_cons (truth_core hr G hi hs hg he I h fun a s5 hl hgn hall => ?_)
  refine Calls.spliced_nil ?_
  refine call_function_tree F.kind_any F.plain_any F.entry_any (F.args_any1 _) ?_
  unfold Builtin.«any»
  refine wpAny_bind (m := oneArg "any" _) (wpAny_pure ?_)
  obtain ⟨gi, hgn⟩ := hgn
  refine wpAny_bind (wpAny_pyIter_gen hgn ?_)
  exact wpAny_pure ⟨plainId_quiet F.plain_any_loop _, told_any hr hall fun b s' h => h⟩
end
end
end Gx

/-! Defs whose callers run no repr; how they are called; repr and sorted of data; the end of a law. -/
namespace Gx
open PySem PySem.Spec PyProof.Rows L2 GxR GenW

/-- a def's promise where no repr is running around -/
structure FnG (P : Program) (w : World) (K : PySem.W.Frag) (mg : Str → Option Value) (base : Heap) (CX : CXT) (k : Nat) (f : Addr) (fd : FuncData) (ps : List Str) (sp : Sp) : Prop where
  many : ∀ vs H Q E, sp vs H Q E → vs.length = ps.length
  runs : ∀ (A : Around) (outer : List Env) (s : Shared) (H : Hp) (args : Args) (us : List Value) (vs : List V) (Q : VK) (E : XK), A.guards = some [] → Room k A →
    Env0 P w K mg base A outer s H → BindsTo s fd args (ps.zip us) → Vals vs us → sp vs H Q E → codeAny (model P w) A (.call (.ref f) args) (CR CX outer P w H s Q E) s
/-- a def of the text, with its code object's value -/
structure DefIs (K : PySem.W.Frag) (x qual : Str) (st : Stmt) (f : Addr) (fd : FuncData) (cdv : Value) : Prop where
  at_ : ∃ (oc : Value) (od : Option Addr) (kV doc pm : Value) (an : Option Addr) (ct : Value) (osl : Array (Option Value)),
    fd = PySem.W.fnOf x qual (defArgs st) (defBody st) (defScope st) .none kV doc pm an cdv ct ∧ K.lookup f = some ⟨oc, od, .func fd, osl⟩
  code : PySem.W.codeIn K cdv qual = true
  keep : PySem.W.keepIn K (.ref f) = true
theorem defIs_mk {K : PySem.W.Frag} {x qual : Str} {st : Stmt} {f : Addr} {oc : Value} {od an : Option Addr} {osl : Array (Option Value)} {kV doc pm cdv ct : Value}
    (l : K.lookup f = some ⟨oc, od, .func (PySem.W.fnOf x qual (defArgs st) (defBody st) (defScope st) .none kV doc pm an cdv ct), osl⟩) (c : PySem.W.codeIn K cdv qual = true) (kp : PySem.W.keepIn K (.ref f) = true) :
    DefIs K x qual st f (PySem.W.fnOf x qual (defArgs st) (defBody st) (defScope st) .none kV doc pm an cdv ct) cdv := ⟨⟨oc, od, kV, doc, pm, an, ct, osl, rfl, l⟩, c, kp⟩

section
variable {P : Program} {w : World} {K : PySem.W.Frag} {mg : Str → Option Value} {base : Heap} {CX : CXT}
theorem FnG.less {j k : Nat} {f : Addr} {fd : FuncData} {ps : List Str} {sp : Sp} (F : FnG P w K mg base CX j f fd ps sp) (h : j ≤ k) : FnG P w K mg base CX k f fd ps sp :=
  ⟨F.many, fun A outer s H args us vs Q E g r => F.runs A outer s H args us vs Q E g (r.mono h)⟩
/-- by its body -/
theorem DefIs.ok {x qual : Str} {st : Stmt} {f : Addr} {fd : FuncData} {cdv : Value} {N ps : List Str} {k : Nat} {sp : Sp} (D : DefIs K x qual st f fd cdv) (S : FnScope N ps (defScope st)) (len : ∀ vs H Q E, sp vs H Q E → vs.length = ps.length)
    (body : ∀ (A : Around) (outer : List Env) (s : Shared) (H : Hp) (vs : List V) (Q : VK) (E : XK), A.guards = some [] → Room k (A.deeper (envOfC qual (defScope st) s.heap.objs.size f cdv)) → sp vs H Q E →
      ∃ t, PSs (cxOf CX P w K mg base N qual (defScope st) f cdv A outer s H E) (defBody st) t ∧ t { nx := fun _ H' => Q .non H', rt := Q } (start N vs) H) : FnG P w K mg base CX (k + 1) f fd ps sp := by
  obtain ⟨oc, od, kV, doc, pm, an, ct, osl, rfl, lk⟩ := D.at_
  refine ⟨len, fun A outer s H args us vs Q E g hr e0 hb r hsp => ?_⟩
  have KX : K.In s.heap := e0.mod.kin.keeps fun b o e => (e0.bs b o e).1
  have inits : ∀ y ∈ ps.zip us, (defScope st).names.lookup y.1 = some .local ∨ ((defScope st).names.lookup y.1 = some .cell ∧ ((cellsFrom (s.heap.objs.size + 1) (defScope st).names []).lookup y.1).isSome = true) := by
    rintro ⟨n, v⟩ hy
    exact (S.par n (List.of_mem_zip hy).1).elim .inl fun q => .inr ⟨q, PySem.W.cellsFrom_some _ _ _ (.inl q)⟩
  refine codeAny_call_function hr.depth (KX _ _ lk) rfl S.co S.gen rfl (PySem.W.codeRec_of KX D.code) (hb _ _ _ _ (wpAny_newFunctionEnv_cells S.kind inits fun env he s1 x => ?_))
  subst he
  refine ⟨(e0.mod.nolimit.keeps fun b o e => (e0.bs b o e).1).keeps x.toInCall.keep, codeAny_func ?_⟩
  obtain ⟨t, ht, hq⟩ := body A outer s H vs Q E g (hr.deeper _) hsp
  refine wpAny_mono (ht.run [] s1 (start N vs) H _ (inv_start S hr.hd e0 (len _ _ _ _ hsp) r x) hq) (fun fl s' hs => ?_) fun e s' hs => hs
  cases fl with
  | ret u =>
    obtain ⟨v, σ', H', J, rv, q⟩ := hs
    exact ⟨v, H', J.os, J.bare, J.base, J.hok, rv, q⟩
  | next =>
    obtain ⟨σ', H', J, q⟩ := hs
    exact ⟨V.non, H', J.os, J.bare, J.base, J.hok, rfl, q⟩
  | brk => exact hs.elim fun _ z => z.elim fun _ y => False.elim y.2
  | cont => exact hs.elim fun _ z => z.elim fun _ y => False.elim y.2
/-- .. that nothing raised leaves -/
theorem DefIs.ok0 {x qual : Str} {st : Stmt} {f : Addr} {fd : FuncData} {cdv : Value} {N ps : List Str} {k : Nat} {sp : Sp} (D : DefIs K x qual st f fd cdv) (S : FnScope N ps (defScope st)) (len : ∀ vs H Q E, sp vs H Q E → vs.length = ps.length)
    (body : ∀ (A : Around) (outer : List Env) (s : Shared) (H : Hp) (vs : List V) (Q : VK) (E : XK), A.guards = some [] → Room k (A.deeper (envOfC qual (defScope st) s.heap.objs.size f cdv)) → sp vs H Q E →
      ∃ t, PSs (cxOf CX P w K mg base N qual (defScope st) f cdv A outer s H E).nox (defBody st) t ∧ t { nx := fun _ H' => Q .non H', rt := Q } (start N vs) H) : FnG P w K mg base CX (k + 1) f fd ps sp :=
  D.ok S len fun A outer s H vs Q E g hr hsp => let ⟨t, ht, q⟩ := body A outer s H vs Q E g hr hsp; ⟨t, ht.nox, q⟩
theorem DefIs.binds {x qual : Str} {st : Stmt} {f : Addr} {fd : FuncData} {cdv : Value} {ps : List Str} (D : DefIs K x qual st f fd cdv)
    (h : ∀ (kV doc pm : Value) (an : Option Addr) (ct : Value) (us : List Value), us.length = ps.length → bindArgs (PySem.W.fnOf x qual (defArgs st) (defBody st) (defScope st) .none kV doc pm an cdv ct) ⟨us, []⟩ = pure (ps.zip us)) : Binds K fd ps [] := by
  obtain ⟨oc, od, kV, doc, pm, an, ct, osl, rfl, lk⟩ := D.at_
  exact .all (h kV doc pm an ct)
end

/-- a def that can be called by its name: its promise, its place, how it binds -/
structure Callee (P : Program) (w : World) (K : PySem.W.Frag) (mg : Str → Option Value) (base : Heap) (CX : CXT) (k : Nat) (x : Str) (ps : List Str) (sp : Sp) : Prop where
  is : ∃ f fd, FnG P w K mg base CX k f fd ps sp ∧ mg x = some (.ref f) ∧ PySem.W.keepIn K (.ref f) = true ∧ Binds K fd ps []

section
variable {X : Cx} {CX : CXT} {k : Nat} {x : Str} {ps : List Str} {sp : Sp} {E : XK} {p pos : Pos} {e : Expr} {es : List Expr} {t : TA}
theorem run_g {pins : List (Addr × Obj)} {σ : L2.St} {H : Hp} {s : Shared} {Q : VK} {us : List Value} {vs : List V} {f : Addr} {fd : FuncData} (F : FnG X.prog X.w X.K X.mg X.base CX k f fd ps sp) (g : X.A.guards = some []) (hr : Room k X.A) (hb : Binds X.K fd ps []) (hx : Passes CX X E)
    (I : Inv X pins σ H s) (r : Vals vs us) (h : sp vs H Q E) : wpAny (model X.prog X.w) X.A (call (.ref f) us) (EP X pins σ Q) X.xe s := by
  have hl : (us ++ ([] : List Value)).length = ps.length := by rw [List.append_nil, ← r.length]; exact F.many _ _ _ _ h
  have hB := hb s us I.kIn hl
  rw [List.append_nil] at hB
  refine wpAny_call (codeAny_mono (F.runs X.A X.stack s H ⟨us, []⟩ us vs Q E g hr I.env0 hB r h) fun q s' hq => ?_)
  match q, hq with
  | .error e, hq => exact hx pins σ H s e s' I hq
  | .ok (.ret u), hq => exact I.after hq
/-- f(e, ..) -/
theorem pe_g (C : Callee X.prog X.w X.K X.mg X.base CX k x ps sp) (g : X.A.guards = some []) (hr : Room k X.A) (hx : Passes CX X E) (ha : PA X (e :: es) t) (hg : Gl X x := by rfl)
    (hdb : (x == ("__debug__" : Str)) = false := by decide) (he : starEach (e :: es) X.env = (false, eval e X.env) :: starEach es X.env := by rfl) (hpl : (backTo pos (starEach es X.env)).any (·.1) = false := by rfl) :
    PE X (.Call (.Name x p) (e :: es) [] pos) (tCall sp [] E t) := by
  obtain ⟨f, fd, F, hm, hk, hb⟩ := C.is
  refine ⟨fun pins s σ H Q I h => wpAny_Call_Name_kw (ld_glob I hg hm (PySem.W.callWith_K (h₀ := X.base) I.ok.mod.kin hk (thn (ha.run pos pins s σ H _ I h) fun us s1 h1 => ?_) he hpl) hdb)⟩
  obtain ⟨vs, H1, I1, r, q⟩ := h1
  rw [List.append_nil] at q
  exact ⟨I1.kIn, run_g F g hr hb hx I1 r q⟩
theorem pe_g0 (C : Callee X.prog X.w X.K X.mg X.base CX k x ps sp) (g : X.A.guards = some []) (hr : Room k X.A) (hx : Passes CX X E) (hg : Gl X x := by rfl) (hdb : (x == ("__debug__" : Str)) = false := by decide) :
    PE X (.Call (.Name x p) [] [] pos) (tCall sp [] E tNil) := by
  obtain ⟨f, fd, F, hm, hk, hb⟩ := C.is
  exact ⟨fun pins s σ H Q I h => wpAny_Call_Name_kw (ld_glob I hg hm (PySem.W.callWith_K0 I.kIn hk (run_g (us := []) F g hr hb hx I .nil h)) hdb)⟩
/-- a statement, a block that is never come to -/
theorem ps_dead {st : Stmt} : PS X st (fun _ _ _ => False) := ⟨fun _ _ _ _ _ _ h => h.elim⟩
theorem pss_dead {st : List Stmt} : PSs X st (fun _ _ _ => False) := ⟨fun _ _ _ _ _ _ h => h.elim⟩
theorem pe_dead {e : Expr} : PE X e (fun _ _ _ => False) := ⟨fun _ _ _ _ _ _ h => h.elim⟩
end
end Gx

namespace Gx
open PySem PySem.Spec PyProof.Rows L2 GxR GenW

/-! ### repr and sorted of data -/
section
variable {X : Cx}
def rRepr (K : PySem.W.Frag) : List V → Hp → VK → Prop := fun xs H Q => ∃ x d, xs = [x] ∧ Dp K H x d ∧ d.showable = true ∧ d.hasDict = false ∧ d.depth ≤ 60 ∧ d.shown.length ≤ sizeLine ∧ Q (.str d.shown) H
theorem cr_repr (g : X.A.guards = some []) (hu : X.A.units + 64 < cLine) : CallR X (.builtin "repr") (rRepr X.K) := by
  intro pins s σ H xs us Q I r h
  obtain ⟨x, d, rfl, hD, hs, hd, hp, hz, q⟩ := h
  obtain ⟨u, rfl, rx⟩ : ∃ u, us = [u] ∧ RelV x u := by
    cases r with
    | cons r1 r2 => cases r2; exact ⟨_, rfl, r1⟩
  obtain ⟨as, rd⟩ := Dp.reads I d x u hD rx
  have refs : ∀ a, x = .ref a → wpAny (model X.prog X.w) X.A (call (.builtin "repr") [u]) (EP X pins σ Q) X.xe s := fun a e => by
    subst e
    have e2 : u = .ref a := rx
    subst e2
    exact repr_of_reads' rd hs (PyData.noDict_hsm hd) g (by omega) (fun _ _ e => e) (fun h' v tk hk => ⟨.str _, H, I.kept hk, ⟨_, rfl⟩, q⟩) hz
  cases hD with
  | non =>
    have e2 : u = .none := rx
    subst e2
    exact PySem.P.repr_of_none ⟨.str _, H, I.tok _, ⟨_, rfl⟩, q⟩
  | bl b =>
    have e2 : u = .bool b := rx
    subst e2
    refine PySem.P.repr_of_bool ⟨.str _, H, I.tok _, ⟨_, rfl⟩, ?_⟩
    cases b <;> exact q
  | int i =>
    obtain ⟨t, rfl⟩ := rx
    exact PySem.P.repr_of_int (of_decide_eq_true hs) ⟨.str _, H, I.tok _, ⟨_, rfl⟩, q⟩
  | str z =>
    obtain ⟨t, rfl⟩ := rx
    exact PySem.P.repr_of_str ⟨.str _, H, I.tok _, ⟨_, rfl⟩, q⟩ hz
  | lst h1 h2 => exact refs _ rfl
  | tup h1 h2 => exact refs _ rfl

/-- sorted of a list of data, all of one shape -/
def rSortG (K : PySem.W.Frag) {β : Type} (val : β → V) (enc : β → PyData) : List V → Hp → VK → Prop := fun vs H Q => ∃ (a : Addr) (bs : List β), vs = [V.ref a] ∧ SqL K H a (bs.map val) ∧
  (∀ b ∈ bs, Dp K H (val b) (enc b) ∧ (enc b).depth ≤ 60) ∧ PySem.W.AllAlike (bs.map enc) ∧ PySem.W.Sortable (bs.map enc) ∧ bs.length ≤ sizeLine ∧
  ∀ p, H p = none → Q (.ref p) (upd H p (.lst ((bs.mergeSort (PySem.W.dataLe false enc)).map val)))
theorem each_vals {β : Type} {val : β → V} : ∀ {bs : List β} {us : List Value}, Vals (bs.map val) us → PySem.W.EachIs (fun u b => RelV (val b) u) us bs
  | [], _, .nil => .nil
  | _ :: _, _, .cons r t => .cons r (each_vals t)
theorem vals_each {β : Type} {val : β → V} : ∀ {bs : List β} {us : List Value}, PySem.W.EachIs (fun u b => RelV (val b) u) us bs → Vals (bs.map val) us
  | _, _, .nil => .nil
  | _, _, .cons r t => .cons r (vals_each t)
theorem each_mem {α β : Type} {R S : α → β → Prop} : ∀ {as : List α} {bs : List β}, PySem.W.EachIs R as bs → (∀ a b, b ∈ bs → R a b → S a b) → PySem.W.EachIs S as bs
  | _, _, .nil, _ => .nil
  | _, _, .cons r t, f => .cons (f _ _ List.mem_cons_self r) (each_mem t fun a b hb => f a b (List.mem_cons_of_mem _ hb))
theorem cr_sortG {β : Type} {val : β → V} {enc : β → PyData} (hu : X.A.units + 64 < cLine) : CallR X (.builtin "sorted") (rSortG X.K val enc) := by
  intro pins s σ H xs us Q I r h
  obtain ⟨a, bs, rfl, hL, hD, hal, hk, hz, q⟩ := h
  obtain ⟨u, rfl, rx⟩ : ∃ u, us = [u] ∧ RelV (.ref a) u := by
    cases r with
    | cons r1 r2 => cases r2; exact ⟨_, rfl, r1⟩
  have e2 : u = .ref a := rx
  subst e2
  obtain ⟨its, rv, pl, hz'⟩ := I.list hL
  have ev := each_vals rv
  have er : PySem.W.EachIs (fun v b => ∃ as, Reads s.heap v (enc b) as) its bs := each_mem ev fun v b hb rb => Dp.reads I (enc b) (val b) v (hD b hb).1 rb
  refine PySem.W.sorted_data pl.isList ev er hal hk hz (fun b hb => by have := (hD b hb).2; omega) fun out ho eo => ?_
  obtain ⟨n, hat⟩ := sortedAll_at s.heap its out.toArray
  have rout : Vals ((bs.mergeSort (PySem.W.dataLe false enc)).map val) out := vals_each eo
  have hlen : ((bs.mergeSort (PySem.W.dataLe false enc)).map val).length ≤ sizeLine := by rw [rout.length, ho]; exact hz
  have hf : H (s.heap.objs.size + 1) = none := I.hok.fresh (Nat.le_succ _)
  exact ⟨.ref (s.heap.objs.size + 1), upd H (s.heap.objs.size + 1) (.lst _), I.laid (t' := s.toks) (fun b o e => sortedAll_old e) (Nat.le_succ _) ⟨hlen, out, n, rout, hat⟩, rfl, q _ hf⟩
end

/-! ### the end of a law -/
section
variable {P : Program} {w : World} {K : PySem.W.Frag} {mg mb : Str → Option Value} {k : Nat} {fa a : Addr} {cs : List (Addr × Addr)} {fd : FuncData} {x : Str} {sp : Sp} {s₁ : Shared} {vs : List Value} {ns : List Int}
abbrev scriptObj (vs : List Value) : Obj := { cls := .type "list", data := .seq vs.toArray }
abbrev tabObj : Obj := { cls := .none, data := .fields #[] }
/-- the law's call from a heap in which the script and the tables alone are told -/
theorem law_from (H : Hp) (hT : ∀ p ∈ cs, H p.2 = some (.tbl #[])) (hall : ∀ b u, H b = some u → (b ∈ cs.map Prod.snd ∧ u = .tbl #[]) ∨ (b = a ∧ K.lookup a = none ∧ u = .frz (scriptObj vs) (.lst (ns.map V.int))))
    (KX : K.In s₁.heap) (hns : s₁.heap.Ns mainGlobals mg) (hb : s₁.heap.Ns builtinsNs mb) (hbb : ∀ x : Str, x ≠ "__name__" → mb x = bootBuiltins x) (hlim : s₁.heap.NoLimit) (hg : s₁.gens = #[])
    (tabs : ∀ p ∈ cs, s₁.heap.get? p.2 = some tabObj ∧ K.lookup p.2 = none ∧ PySem.W.CodeHd s₁.heap p.1 p.2)
    (hbm : ∃ (bm : Addr) (ob : Obj), mg "__builtins__" = some (.ref bm) ∧ bm ≠ builtinsNs ∧ s₁.heap.get? bm = some ob ∧ ob.cls = .type "module" ∧ ob.dict = some builtinsNs ∧ ob.data = .plain)
    (ha : s₁.heap.get? a = some (scriptObj vs)) (rv : Vals (ns.map V.int) vs) (hl : ns.length ≤ sizeLine) (hS : SqL K H a (ns.map V.int)) (hr : Room k callerA)
    (F : ∀ base : Heap, K.In base → base.Ns mainGlobals mg → (∀ p ∈ cs, TabB base mg p.1 p.2) → FnG P w K mg base CX0 k fa fd [x] sp) (hbind : ∀ (s : Shared) (u : Value), BindsTo s fd ⟨[u], []⟩ [(x, u)])
    (hsp : sp [.ref a] H (fun v _ => v = .bl true) E0) :
    codeAny (model P w) callerA (.call (.ref fa) ⟨[.ref a], []⟩) (fun r s' => r = .ok (.ret (.bool true)) ∧ OldK s₁.heap s'.heap ∧ s'.os = s₁.os ∧ AllBare s'.gens) s₁ := by
  have isT : ∀ b ∈ cs.map Prod.snd, s₁.heap.get? b = some tabObj := fun b h => by
    obtain ⟨p, hp, rfl⟩ := List.mem_map.mp h
    exact (tabs p hp).1
  -- what is of another kind is not told of
  have un : ∀ {b : Addr} {o : Obj}, s₁.heap.get? b = some o → o.data ≠ (scriptObj vs).data → o.data ≠ tabObj.data → H b = none := fun {b o} e n1 n2 => by
    cases q : H b with
    | none => rfl
    | some u =>
      rcases hall b u q with ⟨hm, _⟩ | ⟨rfl, _, _⟩
      · rw [isT b hm] at e
        exact (n2 (by rw [← Option.some.inj e])).elim
      · rw [ha] at e
        exact (n1 (by rw [← Option.some.inj e])).elim
  have unD : ∀ {b : Addr} {o : Obj} {es : Array DictEntry} {ep : Nat}, s₁.heap.get? b = some o → o.data = .dict es ep → H b = none := fun e d => un e (fun z => by rw [d] at z; cases z) fun z => by rw [d] at z; cases z
  have nsK : ∀ {b : Addr} {m : Str → Option Value}, s₁.heap.Ns b m → (hidT s₁.heap H).Ns b m := fun ⟨o, es, ep, e, d, r⟩ => ⟨o, es, ep, hidT_get e (unD e d), d, r⟩
  have hKb : K.In (hidT s₁.heap H) := fun b o e => hidT_get (KX b o e) (by
    cases q : H b with
    | none => rfl
    | some u =>
      rcases hall b u q with ⟨hm, _⟩ | ⟨rfl, hk, _⟩
      · obtain ⟨p, hp, rfl⟩ := List.mem_map.mp hm
        rw [(tabs p hp).2.1] at e
        cases e
      · rw [hk] at e
        cases e)
  have hok : HOk P w H s₁.heap := fun b u q => by
    rcases hall b u q with ⟨hm, rfl⟩ | ⟨rfl, _, rfl⟩
    · exact isT b hm
    · exact ⟨ha, by rw [List.length_map]; exact hl, vs, _, rv, ha⟩
  have TB : ∀ p ∈ cs, TabB (hidT s₁.heap H) mg p.1 p.2 := fun p hp => by
    obtain ⟨t1, t2, o, us, file, tf, flags, tg, inF, text, tt, e1, r1, r2, r3, rr⟩ := tabs p hp
    have nMain : mainGlobals ≠ p.2 := fun z => by
      obtain ⟨o, es, ep, e, d, _⟩ := hns
      rw [z, t1] at e
      cases e
      cases d
    refine ⟨⟨o, us, file, tf, flags, tg, inF, text, tt, hidT_get e1 (un e1 (fun z => ?_) fun z => ?_), r1, r2, r3, rr⟩, ?_, nMain⟩
    · rw [r2] at z
      cases z
    · rw [r2] at z
      cases z
      simp at r3
    · obtain ⟨bm, ob, b1, b2, b3, b4, b5, b6⟩ := hbm
      refine ⟨bm, ob, b1, b2, fun z => ?_, fun z => ?_, hidT_get b3 (un b3 (fun z => ?_) fun z => ?_), b4, b5, b6⟩
      · obtain ⟨o, es, ep, e, d, _⟩ := hns
        rw [z, e] at b3
        cases b3
        rw [d] at b6
        cases b6
      · rw [z, t1] at b3
        cases b3
        cases b6
      · rw [b6] at z
        cases z
      · rw [b6] at z
        cases z
  have lim2 : (hidT s₁.heap H).NoLimit := hlim.elim fun mc h => ⟨mc, nsK h.1, h.2⟩
  have e0 : Env0 P w K mg (hidT s₁.heap H) callerA [] s₁ H :=
    { frames := rfl, mod := ⟨hKb, nsK hns, ⟨mb, nsK hb, hbb⟩, lim2⟩, bs := fun b o e => of_hidT e, bsz := Nat.le_of_eq (hidT_size _ _), funs := trivial, frf := fun b hb => absurd (show b ∈ ([] : List Addr) from hb) (by simp), hok := hok, bare := .of_eq hg }
  refine codeAny_mono ((F _ hKb (nsK hns) TB).runs callerA [] s₁ H ⟨[.ref a], []⟩ [.ref a] [.ref a] _ _ rfl hr e0 (hbind s₁ (.ref a)) (.cons rfl .nil) hsp) fun r s' h => ?_
  match r, h with
  | .ok (.ret u), h =>
    obtain ⟨v, H', os, bare, U, hok', ru, ev⟩ := h
    subst ev
    have eu : u = .bool true := ru
    subst eu
    have kept : ∀ b o, b ∉ cs.map Prod.snd → s₁.heap.get? b = some o → s'.heap.get? b = some o := fun b o nb e => by
      cases q : H b with
      | none => exact U.keep b o e q (fun z => absurd (show b ∈ ([] : List Addr) from z) (by simp)) (by simp)
      | some u =>
        rcases hall b u q with ⟨hm, _⟩ | ⟨rfl, _, rfl⟩
        · exact (nb hm).elim
        · obtain ⟨e1, _⟩ := hok b _ q
          obtain ⟨e2, _⟩ := hok' b _ (U.frzs b _ _ q)
          rw [e] at e1
          rw [e1]
          exact e2
    have grown : ∀ p ∈ cs, ∃ more : Array Value, s'.heap.get? p.2 = some { cls := .none, data := .fields more } := fun p hp => by
      obtain ⟨more, z⟩ := U.tbls p.2 #[] (hT p hp)
      exact ⟨_, hok' p.2 _ z⟩
    refine ⟨rfl, ⟨fun b o e => ?_, fun b o e => ?_⟩, os, bare⟩
    · by_cases hm : b ∈ cs.map Prod.snd
      · obtain ⟨p, hp, rfl⟩ := List.mem_map.mp hm
        obtain ⟨more, hmore⟩ := grown p hp
        rw [(tabs p hp).1] at e
        cases e
        exact .inr (.inl ⟨((tabs p hp).2.2.tab (tabs p hp).1).isCodeTable, rfl, #[], more, rfl, by rw [Array.empty_append]; exact hmore⟩)
      · exact .inl (kept b o hm e)
    · by_cases hm : b ∈ cs.map Prod.snd
      · obtain ⟨p, hp, rfl⟩ := List.mem_map.mp hm
        exact (grown p hp).elim fun more h => ⟨_, h⟩
      · exact ⟨o, kept b o hm e⟩
/-- what is known of the law's promise at the heap h behind the top -/
def LawG (l : PySem.W.OpenLaw) (w : World) (K : PySem.W.Frag) (k n : Nat) (x : Str) (mg : Str → Option Value) (fa : Addr) (h : Heap) : Prop :=
  ∃ (fd : FuncData) (cs : List (Addr × Addr)) (sp : Sp), (∀ p ∈ cs, h.get? p.2 = some tabObj ∧ K.lookup p.2 = none ∧ PySem.W.CodeHd h p.1 p.2) ∧ (∀ (s : Shared) (u : Value), BindsTo s fd ⟨[u], []⟩ [(x, u)]) ∧
    (∀ (H : Hp) (a : Addr) (ns : List Int), ns.length ≤ n → (∀ z ∈ ns, Builtin.Int.intBits z ≤ 1048576) → (∀ p ∈ cs, H p.2 = some (.tbl #[])) → SqL K H a (ns.map V.int) → sp [.ref a] H (fun v _ => v = .bl true) E0) ∧
    ∀ base : Heap, K.In base → base.Ns mainGlobals mg → (∀ p ∈ cs, TabB base mg p.1 p.2) → FnG l.prog w K mg base CX0 k fa fd [x] sp
theorem walk_G {l : PySem.W.OpenLaw} {n k : Nat} {q : Program} {loose : List Str} {XP : (Str → Option Value) → Heap → Prop} {YP : World → Heap → Prop} {d : DefRec} {K : Params → PySem.W.Frag} {x : Str}
    (hn : l.most = some n) (hn2 : n ≤ sizeLine) (hdf : d.params.defaults = []) (hr : Room k callerA) (hY : ∀ (w : World) (h : Heap), YP w h → (K w.params).In h)
    (F : ∀ (w : World) (mg : Str → Option Value) (fa : Addr) (h : Heap), YP w h → (K w.params).In h → h.Ns mainGlobals mg → mg d.name = some (.ref fa) → LawG l w (K w.params) k n x mg fa h) :
    PySem.W.WalkO q loose XP YP l.row.toRowW d [] (fun f vs => PySem.call f vs) := by
  refine Att.attach_callB hn hdf fun w s₀ s₁ mg mb fa o pm cd doc a vs ns G Y ho hd hcd hmg hobj hints hlen hbits hg => ?_
  have KX := hY w _ Y
  obtain ⟨fd, cs, sp, hT, hb, hsp, hF⟩ := F w mg fa _ Y KX G.T.g hmg
  have aT : a ∉ cs.map Prod.snd := fun z => by
    obtain ⟨p, hp, e⟩ := List.mem_map.mp z
    have q := (hT p hp).1
    rw [e, hobj] at q
    have z' : Data.seq vs.toArray _ = Data.fields #[] := congrArg Obj.data (Option.some.inj q)
    cases z'
  have rv := vals_ints hints
  cases hk : (K w.params).lookup a with
  | some o2 =>
    have e := KX a o2 hk
    rw [hobj] at e
    cases e
    have sl : SqL (K w.params) (fun b => if b ∈ cs.map Prod.snd then some (.tbl #[]) else none) a (ns.map V.int) :=
      .inr ⟨_, vs.toArray, _, hk, rfl, rfl, rfl, by rw [List.size_toArray, hints.length]; exact Nat.le_trans hlen hn2, by simpa using rv⟩
    have hT' : ∀ p ∈ cs, (fun b => if b ∈ cs.map Prod.snd then some (HO.tbl #[]) else none) p.2 = some (.tbl #[]) := fun p hp => if_pos (List.mem_map.mpr ⟨p, hp, rfl⟩)
    refine law_from _ hT' (fun b u z => ?_) KX G.T.g G.T.b G.T.builtins G.T.nolimit hg hT G.T.bmain hobj rv (Nat.le_trans hlen hn2) sl hr hF hb (hsp _ a ns hlen hbits hT' sl)
    by_cases hm : b ∈ cs.map Prod.snd
    · exact .inl ⟨hm, Option.some.inj (z.symm.trans (if_pos hm))⟩
    · have z' := z.symm.trans (if_neg hm)
      cases z'
  | none =>
    have sl : SqL (K w.params) (fun b => if b = a then some (.frz (scriptObj vs) (.lst (ns.map V.int))) else if b ∈ cs.map Prod.snd then some (.tbl #[]) else none) a (ns.map V.int) := .inl (.inr ⟨scriptObj vs, if_pos rfl⟩)
    have hT' : ∀ p ∈ cs, (fun b => if b = a then some (HO.frz (scriptObj vs) (.lst (ns.map V.int))) else if b ∈ cs.map Prod.snd then some (.tbl #[]) else none) p.2 = some (.tbl #[]) := fun p hp =>
      (if_neg (show ¬ p.2 = a from fun z => aT (by rw [← z]; exact List.mem_map.mpr ⟨p, hp, rfl⟩))).trans (if_pos (List.mem_map.mpr ⟨p, hp, rfl⟩))
    refine law_from _ hT' (fun b u z => ?_) KX G.T.g G.T.b G.T.builtins G.T.nolimit hg hT G.T.bmain hobj rv (Nat.le_trans hlen hn2) sl hr hF hb (hsp _ a ns hlen hbits hT' sl)
    by_cases hm : b = a
    · exact .inr ⟨hm, hk, Option.some.inj (z.symm.trans (if_pos hm))⟩
    · have z1 := z.symm.trans (if_neg hm)
      by_cases hm2 : b ∈ cs.map Prod.snd
      · exact .inl ⟨hm2, Option.some.inj (z1.trans (if_pos hm2))⟩
      · have z' := z1.trans (if_neg hm2)
        cases z'
end
end Gx

/-! set( ) of a list of keys of any kind, fewer than 4,000; len(set( )) of a list of texts -/
namespace Gx
open PySem PySem.Spec PyProof.Rows L2 GxR GenW
/-- the unlike ones, in their order -/
def uq {κ : Type} [DecidableEq κ] : List κ → List κ → List κ
  | acc, [] => acc
  | acc, x :: r => uq (if x ∈ acc then acc else acc ++ [x]) r
theorem uq_append {κ : Type} [DecidableEq κ] : ∀ (l acc : List κ) (x : κ), uq acc (l ++ [x]) = if x ∈ uq acc l then uq acc l else uq acc l ++ [x]
  | [], acc, x => rfl
  | y :: r, acc, x => uq_append r _ x
theorem uq_len {κ : Type} [DecidableEq κ] : ∀ (l acc : List κ), (uq acc l).length ≤ acc.length + l.length
  | [], acc => Nat.le_refl _
  | x :: r, acc => by
    have h := uq_len r (if x ∈ acc then acc else acc ++ [x])
    have e : (if x ∈ acc then acc else acc ++ [x]).length ≤ acc.length + 1 := by split <;> simp
    show (uq _ r).length ≤ acc.length + (r.length + 1)
    omega
theorem uq_mem {κ : Type} [DecidableEq κ] : ∀ (l acc : List κ) (k : κ), k ∈ uq acc l ↔ k ∈ acc ∨ k ∈ l
  | [], acc, k => by simp [uq]
  | x :: r, acc, k => by
    show k ∈ uq (if x ∈ acc then acc else acc ++ [x]) r ↔ _
    rw [uq_mem r]
    by_cases h : x ∈ acc
    · rw [if_pos h]
      constructor
      · rintro (h1 | h1)
        · exact .inl h1
        · exact .inr (List.mem_cons_of_mem _ h1)
      · rintro (h1 | h1)
        · exact .inl h1
        · rcases List.mem_cons.mp h1 with e | h2
          · exact .inl (e ▸ h)
          · exact .inr h2
    · rw [if_neg h]
      simp only [List.mem_append, List.mem_cons, List.not_mem_nil, or_false]
      constructor
      · rintro ((h1 | h1) | h1)
        · exact .inl h1
        · exact .inr (.inl h1)
        · exact .inr (.inr h1)
      · rintro (h1 | h1 | h1)
        · exact .inl (.inl h1)
        · exact .inl (.inr h1)
        · exact .inr h1
theorem uq_nodup {κ : Type} [DecidableEq κ] : ∀ (l acc : List κ), (acc ++ l).Nodup → uq acc l = acc ++ l
  | [], acc, _ => by simp [uq]
  | x :: r, acc, h => by
    have hx : x ∉ acc := fun hm => by
      rw [List.nodup_append] at h
      exact h.2.2 x hm x List.mem_cons_self rfl
    show uq (if x ∈ acc then acc else acc ++ [x]) r = _
    rw [if_neg hx]
    have e : acc ++ x :: r = (acc ++ [x]) ++ r := by simp
    rw [e] at h ⊢
    exact uq_nodup r _ h
theorem uq_short {κ : Type} [DecidableEq κ] : ∀ (l acc : List κ), acc.Nodup → ¬ (acc ++ l).Nodup → (uq acc l).length < acc.length + l.length
  | [], acc, h, h2 => absurd (by simpa using h) h2
  | x :: r, acc, h, h2 => by
    show (uq (if x ∈ acc then acc else acc ++ [x]) r).length < acc.length + (r.length + 1)
    by_cases hx : x ∈ acc
    · rw [if_pos hx]
      have := uq_len r acc
      omega
    · rw [if_neg hx]
      have hn : (acc ++ [x]).Nodup := by
        rw [List.nodup_append]
        refine ⟨h, by simp, fun a ha b hb => ?_⟩
        have e : b = x := by simpa using hb
        rw [e]
        exact fun z => hx (z ▸ ha)
      have e : acc ++ x :: r = (acc ++ [x]) ++ r := by simp
      rw [e] at h2
      have := uq_short r (acc ++ [x]) hn h2
      rw [List.length_append, List.length_singleton] at this
      omega

section
variable {prog : Program} {w : World} {A : Around} {κ : Type} [DecidableEq κ] {knd : PySem.KeyKind prog w κ}
/-- the loop that fills it -/
theorem fill_set {R : Result → Shared → Prop} {it : Addr} {fp wr : List Addr} {G : Array GenState → Array GenState → Prop} {n : Nat} {P : Nat → Value → Prop} {St : Nat → Shared → Prop} (W : WalksS prog w A.in1 it fp wr G n P St) {Z : Addr} (zf : Z ∉ fp)
    (ks : List κ) (hn : ks.length = n) (hv : ∀ (i : Nat) (v : Value), P i v → v.scannable = true ∧ ∃ k, ks[i]? = some k ∧ knd.is k v = true) (hb : n + 1 < scanBound) :
    ∀ (m i : Nat) (s : Shared), n = i + m → St i s → s.heap.SetOf knd Z (fun k => decide (k ∈ ks.take i)) (uq [] (ks.take i)).length →
      (∀ s', Moved (Z :: wr) G s s' → s'.heap.SetOf knd Z (fun k => decide (k ∈ ks)) (uq [] ks).length → R (.ok (.ret .none)) s') →
      codeAny (model prog w) A (.builtin "set.update.loop" ⟨[.ref Z, .ref it], []⟩) R s := by
  have zw : Z ∉ wr := fun z => zf (W.sub _ z)
  have more : ∀ b ∈ wr, b ∈ Z :: wr := fun b hb => List.mem_cons_of_mem _ hb
  have stays : ∀ {s s' : Shared} {T : κ → Bool} {c : Nat}, Moved wr G s s' → s.heap.SetOf knd Z T c → s'.heap.SetOf knd Z T c := fun mv ⟨o, es, ep, tb, ho, r⟩ => ⟨o, es, ep, tb, mv.heap Z _ zw ho, r⟩
  intro m
  induction m with
  | zero =>
    intro i s hi hst hS hR
    have e1 : i = n := by omega
    subst e1
    have e2 : ks.take ks.length = ks := List.take_length
    refine codeAny_builtin PyProof.Rows.F.entry_set_update_loop ?_
    rw [Around.under_plainId PyProof.Rows.F.plain_set_update_loop _]
    show wpAny (model prog w) A.in1 (pyNext (.ref it) >>= _) _ _ s
    refine wpAny_bind (W.done s _ _ hst fun s' mv => ?_)
    show wpAny (model prog w) A.in1 (ret Value.none) _ _ s'
    refine wpAny_pure (hR s' (mv.mono more) ?_)
    have q := stays mv hS
    rw [← hn, e2] at q
    exact q
  | succ m ih =>
    intro i s hi hst hS hR
    have il : i < n := by omega
    refine codeAny_builtin PyProof.Rows.F.entry_set_update_loop ?_
    rw [Around.under_plainId PyProof.Rows.F.plain_set_update_loop _]
    show wpAny (model prog w) A.in1 (pyNext (.ref it) >>= _) _ _ s
    refine wpAny_bind (W.item i s _ _ il hst fun v s' hP hst' mv => ?_)
    obtain ⟨hsc, k, hk, his⟩ := hv i v hP
    have hS' := stays mv hS
    show wpAny (model prog w) A.in1 (holding [v] (setAdd Z v) >>= _) _ _ s'
    refine wpAny_bind (wpAny_holding ?_)
    unfold setAdd
    refine wpAny_holding (wpAny_bind (knd.pyHash his ?_))
    have room : (uq [] (ks.take i)).length + 1 < scanBound := by
      have h1 := uq_len (ks.take i) ([] : List κ)
      have h2 : (ks.take i).length ≤ i := by rw [List.length_take]; omega
      simp only [List.length_nil] at h1
      omega
    refine wpAny_setAddHashed_of (knd := knd) (s := { s' with toks := s'.toks + 1 }) his hsc hS' room fun h' sb hS2 => ?_
    have et : ks.take (i + 1) = ks.take i ++ [k] := by rw [List.take_add_one, hk]; rfl
    have hS3 : h'.SetOf knd Z (fun k => decide (k ∈ ks.take (i + 1))) (uq [] (ks.take (i + 1))).length := by
      have e1 : (fun k' => decide (k' ∈ ks.take i) || decide (k' = k)) = fun k' => decide (k' ∈ ks.take (i + 1)) := by
        funext k'
        rw [et]
        by_cases c1 : k' ∈ ks.take i <;> by_cases c2 : k' = k <;> simp [c1, c2]
      have e2 : (if decide (k ∈ ks.take i) = true then (uq [] (ks.take i)).length else (uq [] (ks.take i)).length + 1) = (uq [] (ks.take (i + 1))).length := by
        rw [et, uq_append]
        by_cases c : k ∈ ks.take i
        · have c2 : k ∈ uq [] (ks.take i) := (uq_mem _ _ _).mpr (.inr c)
          rw [if_pos c2, if_pos (decide_eq_true c)]
        · have c2 : k ∉ uq [] (ks.take i) := fun z => by
            rcases (uq_mem _ _ _).mp z with y | y
            · cases y
            · exact c y
          rw [if_neg c2, if_neg (by simpa using c), List.length_append, List.length_singleton]
      rw [← e1, ← e2]
      exact hS2
    have same : ∀ b o, b ≠ Z → s'.heap.get? b = some o → h'.get? b = some o := fun b o hb e => by rw [sb.2 b hb]; exact e
    refine wpAny_pure ⟨plainId_quiet PyProof.Rows.F.plain_set_update_loop _, ih (i + 1) _ (by omega) (W.frame _ s' _ _ hst' (Nat.le_succ _) fun b hb o e => same b o (fun z => zf (z ▸ hb)) e) hS3 fun s'' mv2 hS4 => ?_⟩
    exact hR s'' (Moved.trans W.gtrans ((mv.mono more).then_heap (Nat.le_succ _) fun b o hb e => same b o (fun z => hb (by rw [z]; exact List.mem_cons_self)) e) mv2) hS4

/-- set(l), l a list of keys -/
theorem set_of_list {E : Value → Shared → Prop} {s : Shared} {l : Addr} {items : Array Value} {ks : List κ} {Q : Value → Shared → Prop} (hh : A.handled = none) (hl : s.heap.IsList l items) (hn : ks.length = items.size)
    (hv : ∀ (i : Nat) (v : Value), items[i]? = some v → v.scannable = true ∧ ∃ k, ks[i]? = some k ∧ knd.is k v = true) (hb : items.size + 1 < scanBound)
    (h : ∀ (h' : Heap) (tk : Nat), h'.SetOf knd s.heap.objs.size (fun k => decide (k ∈ ks)) (uq [] ks).length → (∀ b o, s.heap.get? b = some o → h'.get? b = some o) → Q (.ref s.heap.objs.size) { s with heap := h', toks := tk }) :
    wpAny (model prog w) A (call (.type "set") [.ref l]) Q E s := by
  obtain ⟨c0, tl0, mro0⟩ := PySem.F.called_set.mro
  have made0 := PySem.F.called_set.made; have sub0 := PySem.F.called_set.sub
  have nt0 := PySem.F.called_set.notType; have cc0 := PySem.F.called_set.canCreate
  have tc0 := PySem.F.typeCall_set_1 (.ref l)
  refine wpAny_call (codeAny_of_tree ?_)
  show wpAny (model prog w) _ (callAny (.type "set") _) _ _ _
  refine wpAny_pure ⟨Code.quiet_builtin _ (by decide +kernel), codeAny_builtin PySem.F.entry_type_call ?_⟩
  rw [Around.under_plain (weight_type_call_type "set" [.ref l] []) rfl]
  repeat any_goals first | assumption | wp_step
  refine codeAny_mono (code_set_new_1 (.ref l) (E := E) (Q₁ := fun z t => ∃ led : Bool, z = .ref s.heap.objs.size ∧ t = { s with heap := s.heap.push { cls := .type "set", dict := none, data := .set #[] 0 (.fresh 0 0 led) } }) fun led => ⟨led, rfl, rfl⟩) fun r1 t1 q1 => ?_
  match r1, q1 with
  | .error e, q1 => exact q1
  | .ok (.ret z), q1 =>
    obtain ⟨led, rfl, rfl⟩ := q1
    have gS : (s.heap.push { cls := .type "set", dict := none, data := .set #[] 0 (.fresh 0 0 led) }).get? s.heap.objs.size = some { cls := .type "set", dict := none, data := .set #[] 0 (.fresh 0 0 led) } := Heap.get?_push_size _ rfl
    have tS : Shared.TypeIs { s with heap := s.heap.push { cls := .type "set", dict := none, data := .set #[] 0 (.fresh 0 0 led) } } (.ref s.heap.objs.size) "set" := ⟨_, gS, rfl⟩
    have li := PySem.F.called_set.init.lookup; have bi := PySem.F.called_set.init.bind (.ref s.heap.objs.size)
    repeat any_goals first | assumption | wp_step
    refine codeAny_mono (codeAny_call_builtin (R := wants (fun r t => r = .none ∧ ∃ h' tk, t = { s with heap := h', toks := tk } ∧ h'.SetOf knd s.heap.objs.size (fun k => decide (k ∈ ks)) (uq [] ks).length ∧
        ∀ b o, s.heap.get? b = some o → h'.get? b = some o) E) PySem.F.called_set.init.plain PySem.F.entry_set_init (check_set_init_1 tS ?_)) fun r2 t2 q2 => ?_
    · obtain ⟨ol, gl, cl, nl, dl⟩ := hl
      obtain ⟨oc, od, ot, os⟩ := ol
      simp only at cl dl
      subst cl; subst dl
      have ll : l < s.heap.objs.size := Heap.lt_size gl
      have gl' : (s.heap.push { cls := .type "set", dict := none, data := .set #[] 0 (.fresh 0 0 led) }).get? l = some { cls := .type "list", dict := od, data := .seq items nl, slots := os } := Heap.get?_push_of_some _ gl
      have il : (s.heap.push { cls := .type "set", dict := none, data := .set #[] 0 (.fresh 0 0 led) }).IsList l items := ⟨_, gl', rfl, nl, rfl⟩
      have s1 := PySem.F.sub_list_set; have s2 := PySem.F.sub_list_frozenset
      have nd : (Value.type "list" == Value.type "dict") = false := by decide
      unfold Builtin.«set.__init__» noKeywords Builtin.Frozenset.updateFrom
      generalize hp : pyIter = pI
      wp_walk
      subst hp
      refine wpAny_pyIter_list il (wpAny_bind (wpAny_runValue ?_))
      have h3 : A.in1.in1.in1.handled = none := by simp [hh]
      have ni : l ≠ (s.heap.push { cls := .type "set", dict := none, data := .set #[] 0 (.fresh 0 0 led) }).objs.size := by rw [Heap.size_push]; exact Nat.ne_of_lt (Nat.lt_succ_of_lt ll)
      have zf : s.heap.objs.size ∉ [(s.heap.push { cls := .type "set", dict := none, data := .set #[] 0 (.fresh 0 0 led) }).objs.size, l] := by
        rw [Heap.size_push]; simp only [List.mem_cons, List.mem_singleton, List.not_mem_nil, or_false, not_or]
        exact ⟨Nat.ne_of_lt (Nat.lt_succ_self _), Nat.ne_of_gt ll⟩
      refine fill_set ((Walks.list h3 _ l ni items).toS) zf ks hn hv hb items.size 0 _ (by omega) ⟨⟨_, Heap.get?_push_size _ rfl, rfl, rfl⟩, il.push _⟩ ?_ fun t mv hS => ?_
      · have g2 : ((s.heap.push { cls := .type "set", dict := none, data := .set #[] 0 (.fresh 0 0 led) }).push { cls := .type "list_iterator", data := .fields #[.ref l, .int 0 0] }).get? s.heap.objs.size =
            some { cls := .type "set", dict := none, data := .set #[] 0 (.fresh 0 0 led) } := Heap.get?_push_of_some _ gS
        have q := (PyProof.Rows.setObjOf_fresh (knd := knd) led).setOf g2 (by unfold scanBound; omega)
        have e : (fun k => decide (k ∈ ks.take 0)) = fun _ : κ => false := by funext k; simp
        rw [e]
        exact q
      · obtain ⟨h', g', d', tk', os'⟩ := t
        obtain rfl : g' = s.gens := mv.gens
        obtain rfl : d' = s.drawn := mv.drawn
        obtain rfl : os' = s.os := mv.os
        show wpAny (model prog w) _ _ _ _ _
        refine wpAny_pure ?_
        show wpAny (model prog w) _ (ret Value.none) _ _ _
        refine wpAny_pure ⟨rfl, h', tk', rfl, hS, fun b o e => ?_⟩
        have lb := Heap.lt_size e
        refine mv.heap b o (fun z => ?_) (Heap.get?_push_of_some _ (Heap.get?_push_of_some _ e))
        rcases List.mem_cons.mp z with y | y
        · exact Nat.ne_of_lt lb y
        · rcases List.mem_cons.mp y with y | y
          · rw [Heap.size_push] at y
            exact Nat.ne_of_lt (Nat.lt_succ_of_lt lb) y
          · cases y
    · match r2, q2 with
      | .error e, q2 => exact q2
      | .ok (.ret r), q2 =>
        obtain ⟨rfl, h', tk, rfl, hS, hk⟩ := q2
        repeat any_goals first | assumption | wp_step
        exact h _ _ hS hk
end
end Gx
namespace Gx
open PySem PySem.Spec PyProof.Rows L2 GxR GenW
section
variable {X : Cx}
/-- len(set(xs)) of a list of texts -/
def tLenSetS (K : PySem.W.Frag) (ta : TE) : TE := fun σ H Q => ta σ H fun x H1 => ∃ (l : Addr) (xs : List Str), x = .ref l ∧ SqL K H1 l (xs.map V.str) ∧ xs.length ≤ 4000 ∧ Q (.int ((uq [] xs).length : Nat)) H1
theorem pe_lenSetS {a : Expr} {ta : TE} {p p2 q pos : Pos} (hg : Gl X "len") (hm : X.mg "len" = none) (hg2 : Gl X "set") (hm2 : X.mg "set" = none) (hh : X.A.handled = none) (ha : PE X a ta)
    (na : starEach [a] X.env = (false, eval a X.env) :: starEach [] X.env := by rfl) : PE X (.Call (.Name "len" p) [.Call (.Name "set" p2) [a] [] q] [] pos) (tLenSetS X.K ta) := by
  refine ⟨fun pins s σ H Q I h => Call_ (ld_blt I hg hm boot_len (PyProof.Rows.callWith_builtin1 (PyProof.Rows.args_cons (Call_ (ld_blt I hg2 hm2 boot_set ?_)) rfl) rfl rfl))⟩
  refine PyProof.Rows.callWith_type1 (PyProof.Rows.args_cons (thn (ha.run pins s σ H _ I h) fun v s1 h1 => PyProof.Rows.args_nil ?_) na) na rfl
  obtain ⟨x, H1, I1, r1, l, xs, rfl, hq, hz, q1⟩ := h1
  have e : v = .ref l := r1
  subst e
  obtain ⟨its, rv, pl, _⟩ := I1.list hq
  have hlen : xs.length = its.length := by have := rv.length; rw [List.length_map] at this; exact this
  refine set_of_list (knd := PySem.strKind X.prog X.w) hh pl.isList (ks := xs) (by rw [List.size_toArray]; exact hlen) (fun i v hv => ?_) (by rw [List.size_toArray, ← hlen]; unfold scanBound; omega) fun h' tk hS hk => ?_
  · have hv' : its[i]? = some v := by simpa using hv
    have hi : i < xs.length := by rw [hlen]; exact (List.getElem?_eq_some_iff.mp hv').1
    have e1 : (xs.map V.str)[i]? = some (V.str xs[i]) := by rw [List.getElem?_map, List.getElem?_eq_getElem hi]; rfl
    obtain ⟨u, hu, t, rfl⟩ := rv.get e1
    rw [hv'] at hu
    obtain rfl := Option.some.inj hu
    exact ⟨rfl, xs[i], List.getElem?_eq_getElem hi, PySem.strKind_is _ _ _ _⟩
  · obtain ⟨o, es, ep, t, ho, hex, hd, _, _, _, hf, hn⟩ := hS
    have I2 : Inv X pins σ H1 { s1 with heap := h', toks := tk } := I1.kept hk
    have hle : (uq ([] : List Str) xs).length ≤ 4000 := by have := uq_len xs ([] : List Str); simp only [List.length_nil] at this; omega
    exact PyProof.Rows.args_nil (call_len_set ho hex hd hf (by rw [hn]; omega) ⟨.int _, H1, I2.tok _, ⟨_, by rw [hn]⟩, q1⟩)
end
end Gx

/-! What else the programs want: powers, generator expressions by their scopes, what stays of a heap. -/
namespace Gx
open PySem PySem.Spec PyProof.Rows L2 GxR GenW
theorem bits_le {x : Int} {n : Nat} (h0 : 0 < n) (h : x.natAbs < 2 ^ n) : Builtin.Int.intBits x ≤ n := by
  have l := PySem.Flt.log2_lt_of h0 h
  unfold Builtin.Int.intBits
  split <;> omega
section
variable {X : Cx}
/-- ** of any base, together below 2 ^ 27 bits -/
def CPowX (i j : Int) : Prop := 0 ≤ j ∧ (Builtin.Int.intBits i : Int) * j ≤ 2 ^ 27
theorem op_powX : OpR X (binaryOp .Pow) (rI CPowX fun i j => .int (i ^ j.toNat)) := opI fun _ _ _ _ _ _ _ hc q => pow_int hc.1 hc.2 q
theorem room_gx {k : Nat} {s : Shared} {H : Hp} {sc : Scope} {C : Addr} {code : Value} {fp : List Addr} (r : Room (k + 3) X.A) : Room k (gcx X s H sc C code fp).A := r.in1.in1.deeper _
def gxC (sc : Scope) : Bool := (sc.names.all fun y => match y.2 with | .cell => false | _ => true) && (match sc.names.lookup (".0" : Str) with | some .local => true | _ => false) && !sc.isCoroutine
theorem gx_ok {gsc dsc : Scope} {own : List (Str × Nat)} {c P : Addr} {N : List Str} (tb : TabB X.base X.mg c P) (nd : N.Nodup) (b : blkC N dsc gsc own = true) (h2 : gxC gsc = true)
    (e1 : X.N = N := by rfl) (e2 : X.env.scope = dsc := by rfl) (e3 : X.env.code = .ref c := by rfl) : GxOk X gsc own c P := by
  unfold gxC at h2
  rw [Bool.and_eq_true, Bool.and_eq_true, List.all_eq_true] at h2
  refine ⟨tb, e3, ?_, by rw [e1]; exact nd, fun y hy e => ?_, ?_, ?_⟩
  · rw [e1, e2]
    exact blkOk_by b
  · have := h2.1.1 y hy
    rw [e] at this
    cases this
  · have := h2.1.2
    split at this
    · assumption
    · cases this
  · simpa using h2.2
end

/-! ### what stays -/
/-- all but tables and what stands at ex is as it was; tables may have grown -/
structure Grow (ex : List Addr) (H H' : Hp) : Prop where
  keep : ∀ b o, b ∉ ex → H b = some o → (∀ ps, o ≠ .tbl ps) → H' b = some o
  tabs : ∀ b, TabG H b → TabG H' b
theorem Grow.refl (ex : List Addr) (H : Hp) : Grow ex H H := ⟨fun _ _ _ e _ => e, fun _ t => t⟩
theorem Grow.trans {ex : List Addr} {H H1 H2 : Hp} (a : Grow ex H H1) (b : Grow ex H1 H2) : Grow ex H H2 := ⟨fun c o h e t => b.keep c o h (a.keep c o h e t) t, fun c t => b.tabs c (a.tabs c t)⟩
theorem Grow.mono {ex ex' : List Addr} {H H1 : Hp} (a : Grow ex H H1) (h : ∀ b ∈ ex, b ∈ ex') : Grow ex' H H1 := ⟨fun c o n e t => a.keep c o (fun z => n (h c z)) e t, a.tabs⟩
theorem Grow.any {ex : List Addr} {H H1 : Hp} (a : Grow [] H H1) : Grow ex H H1 := a.mono fun _ z => by cases z
theorem Grow.lst {ex : List Addr} {H H' : Hp} (a : Grow ex H H') {p : Addr} {xs : List V} (n : p ∉ ex) (h : H p = some (.lst xs)) : H' p = some (.lst xs) := a.keep p _ n h fun ps z => by cases z
theorem Grow.tup {ex : List Addr} {H H' : Hp} (a : Grow ex H H') {p : Addr} {xs : List V} (n : p ∉ ex) (h : H p = some (.tup xs)) : H' p = some (.tup xs) := a.keep p _ n h fun ps z => by cases z
theorem Grow.seq {K : PySem.W.Frag} {ex : List Addr} {H H' : Hp} (a : Grow ex H H') {p : Addr} {xs : List V} (n : p ∉ ex) (h : SqL K H p xs) : SqL K H' p xs := by
  rcases h with (h | ⟨o, h⟩) | h
  · exact .inl (.inl (a.lst n h))
  · exact .inl (.inr ⟨o, a.keep p _ n h fun ps z => by cases z⟩)
  · exact .inr h
theorem Grow.seq0 {K : PySem.W.Frag} {H H' : Hp} (a : Grow [] H H') {p : Addr} {xs : List V} (h : SqL K H p xs) : SqL K H' p xs := a.seq (by simp) h
/-- a new object -/
theorem grow_new {ex : List Addr} {H : Hp} {p : Addr} {o : HO} (h : H p = none) : Grow ex H (upd H p o) :=
  ⟨fun b u _ e _ => by rw [upd_ne (ne_of_none e h)]; exact e, fun b ⟨ps, e, t⟩ => ⟨ps, by rw [upd_ne (ne_of_none e h)]; exact e, t⟩⟩
/-- what stands at p, no table, is changed -/
theorem grow_at {ex : List Addr} {H : Hp} {p : Addr} {o u : HO} (h : H p = some u) (hu : ∀ ps, u ≠ .tbl ps) (hp : p ∈ ex) : Grow ex H (upd H p o) :=
  ⟨fun b v n e _ => by rw [upd_ne (show b ≠ p from fun z => n (by rw [z]; exact hp))]; exact e, fun b ⟨ps, e, t⟩ => ⟨ps, by rw [upd_ne (show b ≠ p from fun z => by rw [z, h] at e; exact hu ps (Option.some.inj e))]; exact e, t⟩⟩
theorem grow_tab {ex : List Addr} {P : Addr} {H H' : Hp} (h : TabG H P) (t : Tabbed P H H') : Grow ex H H' :=
  ⟨fun b o _ e no => by
    have n : b ≠ P := fun z => by
      obtain ⟨ps, e2, _⟩ := h
      rw [z, e2] at e
      exact no ps (Option.some.inj e).symm
    rw [t.2 b n]
    exact e, fun b ht => by
    by_cases z : b = P
    · rw [z]
      exact t.1
    · obtain ⟨ps, e, q⟩ := ht
      exact ⟨ps, by rw [t.2 b z]; exact e, q⟩⟩
/-- what was not told of before may be dropped from ex -/
theorem Grow.less {ex : List Addr} {p : Addr} {H H' : Hp} (a : Grow (p :: ex) H H') (h : H p = none) : Grow ex H H' :=
  ⟨fun b o n e t => a.keep b o (fun z => by
    rcases List.mem_cons.mp z with y | y
    · rw [y, h] at e
      cases e
    · exact n y) e t, a.tabs⟩
/-- nothing stood there, or a table did -/
def Fresh (H : Hp) (p : Addr) : Prop := ∀ o, H p = some o → ∃ ps, o = .tbl ps
theorem fresh_none {H : Hp} {p : Addr} (h : H p = none) : Fresh H p := fun o e => by
  rw [h] at e
  cases e
theorem Grow.fresh {ex : List Addr} {H H' : Hp} (a : Grow ex H H') {p : Addr} (n : p ∉ ex) (h : Fresh H' p) : Fresh H p := fun o e => by
  cases o with
  | tbl ps => exact ⟨ps, rfl⟩
  | _ => exact h _ (a.keep p _ n e (fun ps z => by cases z))
theorem Grow.fresh0 {H H' : Hp} (a : Grow [] H H') {p : Addr} (h : H' p = none) : Fresh H p := a.fresh (by simp) (fresh_none h)
theorem Fresh.ne {H : Hp} {p b : Addr} {o : HO} (n : Fresh H p) (h : H b = some o) (ho : ∀ ps, o ≠ .tbl ps) : b ≠ p := fun z => by
  rw [z] at h
  obtain ⟨ps, e⟩ := n o h
  exact ho ps e
/-- what is new may be changed -/
theorem Grow.put {ex : List Addr} {p : Addr} {o u : HO} {H H' : Hp} (a : Grow ex H H') (n : Fresh H p) (h : H' p = some u) (hu : ∀ ps, u ≠ .tbl ps) : Grow ex H (upd H' p o) :=
  ⟨fun b v z e t => by
    rw [upd_ne (n.ne e t)]
    exact a.keep b v z e t, fun b t => by
    obtain ⟨ps, e, q⟩ := a.tabs b t
    exact ⟨ps, by rw [upd_ne (show b ≠ p from fun z => by rw [z, h] at e; exact hu ps (Option.some.inj e))]; exact e, q⟩⟩
theorem Grow.drop {ex : List Addr} {p : Addr} {H H' : Hp} (a : Grow (p :: ex) H H') (n : Fresh H p) : Grow ex H H' :=
  ⟨fun b o nb e t => a.keep b o (fun z => by
    rcases List.mem_cons.mp z with y | y
    · exact n.ne e t y
    · exact nb y) e t, a.tabs⟩
theorem Grow.new {ex : List Addr} {p : Addr} {o : HO} {H H' : Hp} (a : Grow ex H H') (h : H' p = none) : Grow ex H (upd H' p o) := a.trans (grow_new h)
/-! ### data -/
mutual
theorem Dp.grow {K : PySem.W.Frag} {H H' : Hp} (a : Grow [] H H') : ∀ {x : V} {d : PyData}, Dp K H x d → Dp K H' x d
  | _, _, .non => .non
  | _, _, .bl b => .bl b
  | _, _, .int i => .int i
  | _, _, .str x => .str x
  | _, _, .lst h1 h2 => .lst (a.seq0 h1) (DpAll.grow a h2)
  | _, _, .tup h1 h2 => .tup (by
      rcases h1 with (h | ⟨o, h⟩) | h
      · exact .inl (.inl (a.keep _ _ (by simp) h fun ps z => by cases z))
      · exact .inl (.inr ⟨o, a.keep _ _ (by simp) h fun ps z => by cases z⟩)
      · exact .inr h) (DpAll.grow a h2)
theorem DpAll.grow {K : PySem.W.Frag} {H H' : Hp} (a : Grow [] H H') : ∀ {x : List V} {d : List PyData}, DpAll K H x d → DpAll K H' x d
  | _, _, .nil => .nil
  | _, _, .cons h t => .cons (Dp.grow a h) (DpAll.grow a t)
end
theorem dp_strs {K : PySem.W.Frag} {H : Hp} : ∀ xs : List Str, DpAll K H (xs.map V.str) (xs.map PyData.str)
  | [] => .nil
  | x :: r => .cons (.str x) (dp_strs r)
theorem dp_book {K : PySem.W.Frag} {H : Hp} {p : Addr} {xs : List Str} (h : SqL K H p (xs.map V.str)) : Dp K H (.ref p) (.list (xs.map PyData.str)) := .lst h (dp_strs xs)

theorem tyB_str {K : PySem.W.Frag} {H : Hp} {z : Str} {p : String → Prop} : (∃ U, TyB K H (.str z) U ∧ p U) ↔ p "str" := by
  constructor
  · rintro ⟨U, t, h⟩
    cases t
    exact h
  · exact fun h => ⟨_, .str z, h⟩
theorem tyB_int {K : PySem.W.Frag} {H : Hp} {z : Int} {p : String → Prop} : (∃ U, TyB K H (.int z) U ∧ p U) ↔ p "int" := by
  constructor
  · rintro ⟨U, t, h⟩
    cases t
    exact h
  · exact fun h => ⟨_, .int z, h⟩

/-! ### all( ), any( ) over items that are known -/
section
variable {sb : Bool} {g : TG} {te : TE} {vs : List Nat} {σ : L2.St} {Q : VK} {P : Addr} {J : It} {H1 : Hp}
theorem truth_by {items : List V} (Pv : Nat → Hp → Prop) (h0 : ∀ H2, Tabbed P H1 H2 → Pv 0 H2) (yld : ∀ i H x H', Pv i H → J.yld i H x H' → H' = H ∧ items[i]? = some x) (go : ∀ i H, i < items.length → Pv i H → J.go i H)
    (stop : ∀ H, Pv items.length H → J.stop items.length H) (step : ∀ i x H, items[i]? = some x → Pv i H → g x (wipe σ vs) H fun σ2 H2 => wipe σ2 vs = wipe σ vs ∧ te σ2 H2 fun y H4 => ∃ b, y = .bl b ∧ if b = sb then Q (.bl sb) H4 else Pv (i + 1) H4)
    (fin : ∀ H, Pv items.length H → Q (.bl (!sb)) H) : rTruth P sb g te vs σ Q J H1 := by
  refine fun H2 t => ⟨fun i m H => m = items.length - i ∧ i ≤ items.length ∧ Pv i H, ⟨_, rfl, Nat.zero_le _, h0 H2 t⟩, fun i m H hw => ?_⟩
  obtain ⟨rfl, hi, hp⟩ := hw
  by_cases hl : i < items.length
  · refine .inr ⟨go i H hl hp, Pv (i + 1), fun H' h' => ⟨items.length - (i + 1), by omega, rfl, hl, h'⟩, fun x H' hy => ?_⟩
    obtain ⟨rfl, hx⟩ := yld i H x H' hp hy
    exact step i x _ hx hp
  · have e : i = items.length := by omega
    subst e
    exact .inl ⟨stop H hp, fin H hp⟩
theorem truth_list {K : PySem.W.Frag} {a : Addr} {xs : List V} (Pv : Nat → Hp → Prop) (h0 : ∀ H2, Tabbed P H1 H2 → Pv 0 H2) (hl : ∀ i H, Pv i H → SqL K H a xs)
    (step : ∀ i x H, xs[i]? = some x → Pv i H → g x (wipe σ vs) H fun σ2 H2 => wipe σ2 vs = wipe σ vs ∧ te σ2 H2 fun y H4 => ∃ b, y = .bl b ∧ if b = sb then Q (.bl sb) H4 else Pv (i + 1) H4)
    (fin : ∀ H, Pv xs.length H → Q (.bl (!sb)) H) : rTruth P sb g te vs σ Q (Itl K a) H1 :=
  truth_by (items := xs) Pv h0 (fun i H x H' hp hy => ⟨hy.1, hy.2 xs (hl i H hp)⟩) (fun i H hi hp => ⟨xs, xs[i], hl i H hp, List.getElem?_eq_getElem hi⟩) (fun H hp => ⟨xs, hl _ H hp, Nat.le_refl _⟩) step fin
theorem truth_text {z : Str} (Pv : Nat → Hp → Prop) (h0 : ∀ H2, Tabbed P H1 H2 → Pv 0 H2)
    (step : ∀ (i : Nat) (c : Nat) H, z.cps.toList[i]? = some c → Pv i H → g (.str ⟨#[c]⟩) (wipe σ vs) H fun σ2 H2 => wipe σ2 vs = wipe σ vs ∧ te σ2 H2 fun y H4 => ∃ b, y = .bl b ∧ if b = sb then Q (.bl sb) H4 else Pv (i + 1) H4)
    (fin : ∀ H, Pv z.cps.toList.length H → Q (.bl (!sb)) H) : rTruth P sb g te vs σ Q (Its z) H1 := by
  have el : (z.cps.toList.map fun c => V.str ⟨#[c]⟩).length = z.cps.toList.length := by rw [List.length_map]
  refine truth_by (items := z.cps.toList.map fun c => V.str ⟨#[c]⟩) Pv h0 (fun i H x H' hp hy => ?_) (fun i H hi hp => ?_) (fun H hp => ?_) (fun i x H hx hp => ?_) fun H hp => fin H (by rw [← el]; exact hp)
  · obtain ⟨e, c, hc, rfl⟩ := hy
    refine ⟨e, ?_⟩
    rw [List.getElem?_map, Array.getElem?_toList, hc]
    rfl
  · rw [el] at hi
    show i < z.cps.size
    simpa using hi
  · show z.cps.size ≤ _
    rw [el]
    simp
  · rw [List.getElem?_map] at hx
    cases hc : z.cps.toList[i]? with
    | none => rw [hc] at hx; cases hx
    | some c =>
      rw [hc] at hx
      cases hx
      exact step i c H hc hp
end

theorem put_len {κ : Type} [DecidableEq κ] (c : List (κ × V)) (k : κ) (x : V) : (putK c k x).length ≤ c.length + 1 := by
  unfold putK
  split
  · rw [List.length_map]
    omega
  · rw [List.length_append]
    exact Nat.le_refl _
/-! ### readings within a block -/
section
variable {X : Cx}
theorem blk_K {s : Shared} {H : Hp} {sc : Scope} {ce : Env} {fp : List Addr} : (X.blk s H sc ce fp).K = X.K := rfl
theorem gcx_K {s : Shared} {H : Hp} {sc : Scope} {C : Addr} {code : Value} {fp : List Addr} : (gcx X s H sc C code fp).K = X.K := rfl
theorem pe_to {e : Expr} {t t' : TE} (p : PE X e t) (h : t = t' := by first | exact rfl | (simp only [Gx.blk_K, Gx.gcx_K]; exact rfl)) : PE X e t' := h ▸ p
theorem pg_to {e : Expr} {t t' : TG} (p : PG X e t) (h : t = t' := by first | exact rfl | (simp only [Gx.blk_K, Gx.gcx_K]; exact rfl)) : PG X e t' := h ▸ p
theorem pts_to {e : List Expr} {t t' : TT} (p : PTs X e t) (h : t = t' := by first | exact rfl | (simp only [Gx.blk_K, Gx.gcx_K]; exact rfl)) : PTs X e t' := h ▸ p
theorem pi_to {tg e : Expr} {t t' : TI} (p : PI X tg e t) (h : t = t' := by first | exact rfl | (simp only [Gx.blk_K, Gx.gcx_K]; exact rfl)) : PI X tg e t' := h ▸ p
end
/-! ### things that are known, lists that are names -/
theorem _root_.L2.TyB.grow {K : PySem.W.Frag} {H H' : Hp} {x : V} {U : String} (g : Grow [] H H') (t : TyB K H x U) : TyB K H' x U := by
  cases t with
  | non => exact .non
  | bl b => exact .bl b
  | int i => exact .int i
  | str z => exact .str z
  | byt b => exact .byt b
  | lst h => exact .lst (g.seq0 h)
  | @tup p xs h =>
    refine .tup (xs := xs) ?_
    rcases h with (h | ⟨o, h⟩) | h
    · exact .inl (.inl (g.keep _ _ (by simp) h fun ps z => by cases z))
    · exact .inl (.inr ⟨o, g.keep _ _ (by simp) h fun ps z => by cases z⟩)
    · exact .inr h
  | dK h => exact .dK (g.keep _ _ (by simp) h fun ps z => by cases z)
/-- a text of no great length, or of a kind that is told -/
def Known (K : PySem.W.Frag) (H : Hp) (x : V) : Prop := (∃ z : Str, x = .str z ∧ z.length ≤ sizeLine) ∨ ∃ U, U ≠ "str" ∧ TyB K H x U
theorem Known.grow {K : PySem.W.Frag} {H H' : Hp} {x : V} (g : Grow [] H H') : Known K H x → Known K H' x
  | .inl h => .inl h
  | .inr ⟨U, n, t⟩ => .inr ⟨U, n, t.grow g⟩
/-- a text's own -/
def theStr : V → Str
  | .str z => z
  | _ => Str.empty
theorem strs_of {p : V → Bool} (hp : ∀ x, p x = true → ∃ z, x = .str z) : ∀ {xs : List V}, xs.all p = true → xs = (xs.map theStr).map V.str
  | [], _ => rfl
  | x :: r, h => by
    rw [List.all_cons, Bool.and_eq_true] at h
    obtain ⟨z, rfl⟩ := hp x h.1
    show V.str z :: r = V.str z :: (r.map theStr).map V.str
    rw [← strs_of hp h.2]
theorem nodup_str {zs : List Str} : (zs.map V.str).Nodup ↔ zs.Nodup := by
  constructor
  · exact fun h => (List.pairwise_map.mp h).imp fun q e => q (congrArg V.str e)
  · exact fun h => List.pairwise_map.mpr (h.imp fun q e => q (V.str.inj e))
theorem uq_same {κ : Type} [DecidableEq κ] (l : List κ) : decide (((uq [] l).length : Int) = (l.length : Int)) = decide l.Nodup := by
  by_cases h : l.Nodup
  · rw [decide_eq_true h, uq_nodup l [] (by simpa using h)]
    exact decide_eq_true rfl
  · rw [decide_eq_false h]
    have := uq_short l [] List.nodup_nil (by simpa using h)
    simp only [List.length_nil] at this
    exact decide_eq_false (by omega)
end Gx

/-! Dict comprehensions and comprehensions of two clauses over walks; data that no list is in. -/
namespace Gx
open PySem PySem.Spec PyProof.Rows L2 GxR
section
variable {J J1 : It} {n : Nat} {G : Hp → Prop} {Y : Nat → Hp → V → Hp → Prop}
theorem dc_it (w : Walk J n G Y) {g : TG} {tt : TT} {tk tv : TE} {vs : List Nat} {σ : L2.St} {H1 : Hp} {D : Addr} {Qd : Hp → Prop} (Pv : Nat → Hp → Prop) (h0 : Pv 0 (upd H1 D (.dK []))) (hG : ∀ i H, i ≤ n → Pv i H → G H)
    (hs : ∀ i x H H', i < n → Pv i H → Y i H x H' → g x (wipe σ vs) H' fun σ2 H2 => wipe σ2 vs = wipe σ vs ∧ tt σ2 H2 fun b H3 =>
      if b = true then tk σ2 H3 fun y H4 => tv σ2 H4 fun z H5 => ∃ kvs k, y = kV k ∧ H5 D = some (.dK kvs) ∧ kvs.length < sizeLine ∧ Pv (i + 1) (upd H5 D (.dK (putK kvs k z))) else Pv (i + 1) H3) (hd : ∀ H, Pv n H → Qd H) :
    ∃ W : Nat → Nat → Hp → Prop, (∃ m, W 0 m (upd H1 D (.dK []))) ∧ ∀ i m H, W i m H →
      (J.stop i H ∧ Qd H) ∨ (J.go i H ∧ ∃ Nx : Hp → Prop, (∀ H', Nx H' → ∃ m', m' < m ∧ W (i + 1) m' H') ∧ ∀ x H', J.yld i H x H' → g x (wipe σ vs) H' fun σ2 H2 => wipe σ2 vs = wipe σ vs ∧ tt σ2 H2 fun b H3 =>
        if b = true then tk σ2 H3 fun y H4 => tv σ2 H4 fun z H5 => ∃ kvs k, y = kV k ∧ H5 D = some (.dK kvs) ∧ kvs.length < sizeLine ∧ Nx (upd H5 D (.dK (putK kvs k z))) else Nx H3) := by
  refine ⟨fun i m H => m = n - i ∧ i ≤ n ∧ Pv i H, ⟨n, by simp, Nat.zero_le _, h0⟩, ?_⟩
  rintro i m H ⟨rfl, hi, p⟩
  by_cases hlt : i < n
  · exact .inr ⟨w.goes i H hlt (hG i H hi p), Pv (i + 1), fun H' p' => ⟨n - (i + 1), by omega, rfl, hlt, p'⟩, fun x H' y => hs i x H H' hlt p (w.yields i H x H' hlt (hG i H hi p) y)⟩
  · have e : i = n := by omega
    subst e
    exact .inl ⟨w.stops H (hG _ H hi p), hd H p⟩
/-- the loop of the second clause -/
abbrev In1 (D : Addr) (g1 : TG) (tt1 : TT) (te : TE) (vs1 : List Nat) (σ2 : L2.St) (Nx : Hp → Prop) (J1 : It) (H4 : Hp) : Prop := ∃ W1 : Nat → Nat → Hp → Prop, (∃ m, W1 0 m H4) ∧ ∀ j k H, W1 j k H →
  (J1.stop j H ∧ Nx H) ∨ (J1.go j H ∧ ∃ Nx1 : Hp → Prop, (∀ H', Nx1 H' → ∃ k', k' < k ∧ W1 (j + 1) k' H') ∧ ∀ x H', J1.yld j H x H' → g1 x (wipe σ2 vs1) H' fun σ3 H5 => wipe σ3 vs1 = wipe σ2 vs1 ∧ tt1 σ3 H5 fun b H6 =>
    if b = true then te σ3 H6 fun y H7 => ∃ acc, H7 D = some (.lst acc) ∧ acc.length < sizeLine ∧ Nx1 (upd H7 D (.lst (acc ++ [y]))) else Nx1 H6)
theorem lc2_it (w : Walk J n G Y) {g g1 : TG} {tt tt1 : TT} {wi1 : TI} {te : TE} {vs vs1 : List Nat} {σ : L2.St} {H1 : Hp} {D : Addr} {Qd : Hp → Prop} (Pv : Nat → Hp → Prop) (h0 : Pv 0 (upd H1 D (.lst []))) (hG : ∀ i H, i ≤ n → Pv i H → G H)
    (hs : ∀ i x H H', i < n → Pv i H → Y i H x H' → g x (wipe σ vs) H' fun σ2 H2 => wipe σ2 vs = wipe σ vs ∧ tt σ2 H2 fun b H3 =>
      if b = true then wi1 σ2 H3 fun J1 H4 => In1 D g1 tt1 te vs1 σ2 (Pv (i + 1)) J1 H4 else Pv (i + 1) H3) (hd : ∀ H, Pv n H → Qd H) :
    ∃ W : Nat → Nat → Hp → Prop, (∃ m, W 0 m (upd H1 D (.lst []))) ∧ ∀ i m H, W i m H →
      (J.stop i H ∧ Qd H) ∨ (J.go i H ∧ ∃ Nx : Hp → Prop, (∀ H', Nx H' → ∃ m', m' < m ∧ W (i + 1) m' H') ∧ ∀ x H', J.yld i H x H' → g x (wipe σ vs) H' fun σ2 H2 => wipe σ2 vs = wipe σ vs ∧ tt σ2 H2 fun b H3 =>
        if b = true then wi1 σ2 H3 fun J1 H4 => In1 D g1 tt1 te vs1 σ2 Nx J1 H4 else Nx H3) := by
  refine ⟨fun i m H => m = n - i ∧ i ≤ n ∧ Pv i H, ⟨n, by simp, Nat.zero_le _, h0⟩, ?_⟩
  rintro i m H ⟨rfl, hi, p⟩
  by_cases hlt : i < n
  · exact .inr ⟨w.goes i H hlt (hG i H hi p), Pv (i + 1), fun H' p' => ⟨n - (i + 1), by omega, rfl, hlt, p'⟩, fun x H' y => hs i x H H' hlt p (w.yields i H x H' hlt (hG i H hi p) y)⟩
  · have e : i = n := by omega
    subst e
    exact .inl ⟨w.stops H (hG _ H hi p), hd H p⟩
theorem in1_it (w : Walk J1 n G Y) {g1 : TG} {tt1 : TT} {te : TE} {vs1 : List Nat} {σ2 : L2.St} {H4 : Hp} {D : Addr} {Nx : Hp → Prop} (Pw : Nat → Hp → Prop) (h0 : Pw 0 H4) (hG : ∀ i H, i ≤ n → Pw i H → G H)
    (hs : ∀ i x H H', i < n → Pw i H → Y i H x H' → g1 x (wipe σ2 vs1) H' fun σ3 H5 => wipe σ3 vs1 = wipe σ2 vs1 ∧ tt1 σ3 H5 fun b H6 =>
      if b = true then te σ3 H6 fun y H7 => ∃ acc, H7 D = some (.lst acc) ∧ acc.length < sizeLine ∧ Pw (i + 1) (upd H7 D (.lst (acc ++ [y]))) else Pw (i + 1) H6) (hd : ∀ H, Pw n H → Nx H) :
    In1 D g1 tt1 te vs1 σ2 Nx J1 H4 := by
  refine ⟨fun i m H => m = n - i ∧ i ≤ n ∧ Pw i H, ⟨n, by simp, Nat.zero_le _, h0⟩, ?_⟩
  rintro i m H ⟨rfl, hi, p⟩
  by_cases hlt : i < n
  · exact .inr ⟨w.goes i H hlt (hG i H hi p), Pw (i + 1), fun H' p' => ⟨n - (i + 1), by omega, rfl, hlt, p'⟩, fun x H' y => hs i x H H' hlt p (w.yields i H x H' hlt (hG i H hi p) y)⟩
  · have e : i = n := by omega
    subst e
    exact .inl ⟨w.stops H (hG _ H hi p), hd H p⟩
end

theorem yes_if {σ : L2.St} {H : Hp} {A B : Hp → Prop} (h : A H) : tYes σ H fun b H3 => if b = true then A H3 else B H3 := by
  show if true = true then A H else B H
  rw [if_pos rfl]
  exact h
theorem if_yes {A B : Hp → Prop} {H : Hp} (h : A H) : (fun (b : Bool) H3 => if b = true then A H3 else B H3) true H := by
  show if true = true then A H else B H
  rw [if_pos rfl]
  exact h
theorem if_no {A B : Hp → Prop} {H : Hp} (h : B H) : (fun (b : Bool) H3 => if b = true then A H3 else B H3) false H := by
  show if false = true then A H else B H
  rw [if_neg Bool.false_ne_true]
  exact h
theorem tyl {K : PySem.W.Frag} {H : Hp} {p : Addr} {xs : List V} (h : H p = some (.lst xs)) : tyV K "list" (.ref p) H := .inl ⟨rfl, xs, .inl (.inl h)⟩
theorem erase_map {α β} (f : α → β) (l : List α) (i : Nat) : (l.map f).eraseIdx i = (l.eraseIdx i).map f := by
  simp [List.eraseIdx_eq_take_drop_succ, List.map_take, List.map_drop]
theorem erase_perm {α} : ∀ (l : List α) (i : Nat) (h : i < l.length), (l[i] :: l.eraseIdx i).Perm l
  | x :: r, 0, _ => .refl _
  | x :: r, i + 1, h => (List.Perm.swap x _ _).trans ((erase_perm r i (Nat.lt_of_succ_lt_succ h)).cons x)
theorem cut_lo (xs : List V) (k : Nat) : cutV xs (some (k : Int)) none = xs.drop k := by
  unfold cutV
  rw [HT.sIx_none, HT.sIx_nat]
  by_cases h : k ≤ xs.length
  · rw [Nat.min_eq_left h]
    exact List.take_of_length_le (by rw [List.length_drop]; exact Nat.le_refl _)
  · rw [Nat.min_eq_right (by omega), Nat.sub_self, List.take_zero, List.drop_of_length_le (by omega)]
theorem cut_hi (xs : List V) (k : Nat) : cutV xs none (some (k : Int)) = xs.take k := by
  unfold cutV
  rw [HT.sIx_none, HT.sIx_nat, List.drop_zero, Nat.sub_zero]
  by_cases h : k ≤ xs.length
  · rw [Nat.min_eq_left h]
  · rw [Nat.min_eq_right (by omega), List.take_length, List.take_of_length_le (by omega)]
theorem swap_perm {α : Type} (xs : List α) (a : Nat) (h : a + 1 < xs.length) : (xs.take a ++ [xs[a + 1], xs[a]] ++ xs.drop (a + 2)).Perm xs := by
  have e : xs = xs.take a ++ [xs[a], xs[a + 1]] ++ xs.drop (a + 2) := by
    have h1 : xs.drop a = xs[a] :: xs[a + 1] :: xs.drop (a + 2) := by rw [List.drop_eq_getElem_cons (by omega), List.drop_eq_getElem_cons h]
    conv => lhs; rw [← List.take_append_drop a xs, h1]
    simp
  conv => rhs; rw [e]
  exact List.Perm.append_right _ (List.Perm.append_left _ (List.Perm.swap _ _ _))
theorem turn_perm {α : Type} (xs : List α) (a : Nat) : (xs.drop a ++ xs.take a).Perm xs := List.perm_append_comm.trans (by rw [List.take_append_drop])
theorem cut_from (xs : List V) (k : Nat) : cutV xs (some ((k : Int) + 1)) none = xs.drop (k + 1) := by
  unfold cutV
  have e : ((k : Int) + 1) = ((k + 1 : Nat) : Int) := by omega
  rw [e, HT.sIx_none, HT.sIx_nat]
  by_cases h : k + 1 ≤ xs.length
  · rw [Nat.min_eq_left h]
    exact List.take_of_length_le (by rw [List.length_drop]; exact Nat.le_refl _)
  · rw [Nat.min_eq_right (by omega), Nat.sub_self, List.take_zero, List.drop_of_length_le (by omega)]
/-- a cut: what holds behind the statement, and from there the rest -/
def tCut (I : L2.St → Hp → Prop) (t u : TS) : TS := fun D σ H => t { D with nx := I } σ H ∧ ∀ σ' H', I σ' H' → u D σ' H'
theorem pss_cut {X : Cx} {st : Stmt} {rest : List Stmt} {t u : TS} (I : L2.St → Hp → Prop) (h1 : PS X st t) (h2 : PSs X rest u) : PSs X (st :: rest) (tCut I t u) := by
  refine ⟨fun pins s σ H D J h => ?_⟩
  refine wpAny_execs_cons (thn (h1.run pins s σ H { D with nx := I } J h.1) fun f s1 q => ?_)
  cases f with
  | next =>
    obtain ⟨σ', H', I', q⟩ := q
    exact h2.run pins s1 σ' H' D I' (h.2 σ' H' q)
  | ret v => exact q
  | brk => exact q
  | cont => exact q
theorem valV_none {κ : Type} [DecidableEq κ] {k : κ} : ∀ {kvs : List (κ × V)}, k ∉ kvs.map Prod.fst → valV kvs k = none
  | [], _ => rfl
  | p :: r, h => by
    rw [valV_neg fun e => h (by rw [← e]; exact List.mem_cons_self)]
    exact valV_none fun z => h (List.mem_cons_of_mem _ z)
theorem valV_some {κ : Type} [DecidableEq κ] {k : κ} {v : V} : ∀ {kvs : List (κ × V)} {j : Nat}, (kvs.map Prod.fst).Nodup → kvs[j]? = some (k, v) → valV kvs k = some v
  | p :: r, 0, _, e => by
    cases e
    exact valV_pos rfl
  | p :: r, j + 1, nd, e => by
    obtain ⟨h1, h2⟩ := List.nodup_cons.mp nd
    have hk : k ∈ r.map Prod.fst := List.mem_map.mpr ⟨(k, v), List.mem_of_getElem? (i := j) e, rfl⟩
    rw [valV_neg fun q => h1 (by rw [q]; exact hk)]
    exact valV_some (j := j) h2 e
/-! ### data that no list is in -/
mutual
inductive DpT (K : PySem.W.Frag) (H : Hp) : V → PyData → Prop
  | non : DpT K H .non .none
  | bl (b : Bool) : DpT K H (.bl b) (.bool b)
  | int (i : Int) : DpT K H (.int i) (.int i)
  | str (z : Str) : DpT K H (.str z) (.str z)
  | tup {a : Addr} {xs : List V} {ds : List PyData} : H a = some (.tup xs) → DpTs K H xs ds → DpT K H (.ref a) (.tuple ds)
inductive DpTs (K : PySem.W.Frag) (H : Hp) : List V → List PyData → Prop
  | nil : DpTs K H [] []
  | cons {x : V} {d : PyData} {xs : List V} {ds : List PyData} : DpT K H x d → DpTs K H xs ds → DpTs K H (x :: xs) (d :: ds)
end
mutual
theorem DpT.dp {K : PySem.W.Frag} {H : Hp} : ∀ {x : V} {d : PyData}, DpT K H x d → Dp K H x d
  | _, _, .non => .non
  | _, _, .bl b => .bl b
  | _, _, .int i => .int i
  | _, _, .str z => .str z
  | _, _, .tup h t => .tup (.inl (.inl h)) (DpTs.dp t)
theorem DpTs.dp {K : PySem.W.Frag} {H : Hp} : ∀ {x : List V} {d : List PyData}, DpTs K H x d → DpAll K H x d
  | _, _, .nil => .nil
  | _, _, .cons h t => .cons (DpT.dp h) (DpTs.dp t)
end
/-- where only lists (or nothing) stood, they stay -/
def Lists (ex : List Addr) (H : Hp) : Prop := ∀ b ∈ ex, ∀ xs, H b ≠ some (.tup xs)
theorem lists_none (H : Hp) : Lists [] H := fun b h => by cases h
theorem lists_one {H : Hp} {a : Addr} {xs : List V} (h : H a = some (.lst xs)) : Lists [a] H := fun b hb ys e => by
  rw [List.mem_singleton.mp hb, h] at e
  cases e
mutual
theorem DpT.grow {K : PySem.W.Frag} {ex : List Addr} {H H' : Hp} (a : Grow ex H H') (l : Lists ex H) : ∀ {x : V} {d : PyData}, DpT K H x d → DpT K H' x d
  | _, _, .non => .non
  | _, _, .bl b => .bl b
  | _, _, .int i => .int i
  | _, _, .str z => .str z
  | _, _, .tup (a := p) (xs := xs) h t => .tup (a.keep p _ (fun z => l p z xs h) h fun ps z => by cases z) (DpTs.grow a l t)
theorem DpTs.grow {K : PySem.W.Frag} {ex : List Addr} {H H' : Hp} (a : Grow ex H H') (l : Lists ex H) : ∀ {x : List V} {d : List PyData}, DpTs K H x d → DpTs K H' x d
  | _, _, .nil => .nil
  | _, _, .cons h t => .cons (DpT.grow a l h) (DpTs.grow a l t)
end
theorem dpT_str {K : PySem.W.Frag} {H : Hp} (z : Str) : DpT K H (.str z) (.str z) := .str z
theorem dpT_int {K : PySem.W.Frag} {H : Hp} (z : Int) : DpT K H (.int z) (.int z) := .int z
theorem dpT_strs {K : PySem.W.Frag} {H : Hp} : ∀ xs : List Str, DpTs K H (xs.map V.str) (xs.map PyData.str)
  | [] => .nil
  | x :: r => .cons (dpT_str x) (dpT_strs r)
theorem DpTs.snoc {K : PySem.W.Frag} {H : Hp} : ∀ {xs : List V} {ds : List PyData} {x : V} {d : PyData}, DpTs K H xs ds → DpT K H x d → DpTs K H (xs ++ [x]) (ds ++ [d])
  | _, _, _, _, .nil, q => .cons q .nil
  | _, _, _, _, .cons h t, q => .cons h (t.snoc q)
theorem DpTs.app {K : PySem.W.Frag} {H : Hp} : ∀ {xs ys : List V} {ds es : List PyData}, DpTs K H xs ds → DpTs K H ys es → DpTs K H (xs ++ ys) (ds ++ es)
  | _, _, _, _, .nil, q => q
  | _, _, _, _, .cons h t, q => .cons h (t.app q)
theorem DpTs.get {K : PySem.W.Frag} {H : Hp} : ∀ {xs : List V} {ds : List PyData} {i : Nat} {x : V}, DpTs K H xs ds → xs[i]? = some x → ∃ d, ds[i]? = some d ∧ DpT K H x d
  | _, _, 0, _, .cons h _, e => ⟨_, rfl, by cases e; exact h⟩
  | _, _, _ + 1, _, .cons _ t, e => t.get e
theorem DpTs.zip {K : PySem.W.Frag} {H : Hp} : ∀ {xs : List V} {ds : List PyData}, DpTs K H xs ds → ∀ b ∈ xs.zip ds, DpT K H b.1 b.2
  | _, _, .nil, b, hb => by cases hb
  | _, _, .cons h t, b, hb => by
    rcases List.mem_cons.mp hb with rfl | hb
    · exact h
    · exact t.zip b hb
theorem dpTs_of {K : PySem.W.Frag} {H : Hp} : ∀ {bs : List (V × PyData)}, (∀ b ∈ bs, DpT K H b.1 b.2) → DpTs K H (bs.map Prod.fst) (bs.map Prod.snd)
  | [], _ => .nil
  | b :: r, h => .cons (h b List.mem_cons_self) (dpTs_of fun c hc => h c (List.mem_cons_of_mem _ hc))
theorem DpTs.length {K : PySem.W.Frag} {H : Hp} : ∀ {xs : List V} {ds : List PyData}, DpTs K H xs ds → xs.length = ds.length
  | _, _, .nil => rfl
  | _, _, .cons _ t => congrArg (· + 1) t.length
/-- a list of such data -/
def LstT (K : PySem.W.Frag) (H : Hp) (D : Addr) (ds : List PyData) : Prop := ∃ xs, H D = some (.lst xs) ∧ DpTs K H xs ds
theorem LstT.dp {K : PySem.W.Frag} {H : Hp} {D : Addr} {ds : List PyData} (h : LstT K H D ds) : Dp K H (.ref D) (.list ds) := by
  obtain ⟨xs, h1, h2⟩ := h
  exact .lst (.inl (.inl h1)) h2.dp
theorem LstT.grow {K : PySem.W.Frag} {ex : List Addr} {H H' : Hp} {D : Addr} {ds : List PyData} (h : LstT K H D ds) (a : Grow ex H H') (l : Lists ex H) (n : D ∉ ex) : LstT K H' D ds := by
  obtain ⟨xs, h1, h2⟩ := h
  exact ⟨xs, a.lst n h1, h2.grow a l⟩
/-- one more at the end -/
theorem LstT.push {K : PySem.W.Frag} {H H' : Hp} {D : Addr} {ds : List PyData} {x : V} {d : PyData} (h : LstT K H D ds) (g : Grow [] H H') (q : DpT K H' x d) :
    ∃ acc, H' D = some (.lst acc) ∧ acc.length = ds.length ∧ LstT K (upd H' D (.lst (acc ++ [x]))) D (ds ++ [d]) := by
  obtain ⟨xs, h1, h2⟩ := h
  have e := g.lst (p := D) (by simp) h1
  have gr : Grow [D] H' (upd H' D (.lst (xs ++ [x]))) := grow_at e (fun ps z => by cases z) (by simp)
  exact ⟨xs, e, h2.length, _, upd_same, ((h2.grow g (lists_none H)).snoc q).grow gr (lists_one e)⟩
/-- the items of another such list behind them -/
theorem LstT.ext {K : PySem.W.Frag} {H : Hp} {D F : Addr} {ds es : List PyData} (h : LstT K H D ds) (k : LstT K H F es) :
    ∃ xs zs, H D = some (.lst xs) ∧ H F = some (.lst zs) ∧ xs.length = ds.length ∧ zs.length = es.length ∧ LstT K (upd H D (.lst (xs ++ zs))) D (ds ++ es) := by
  obtain ⟨xs, h1, h2⟩ := h
  obtain ⟨zs, k1, k2⟩ := k
  have gr : Grow [D] H (upd H D (.lst (xs ++ zs))) := grow_at h1 (fun ps z => by cases z) (by simp)
  exact ⟨xs, zs, h1, k1, h2.length, k2.length, _, upd_same, (h2.app k2).grow gr (lists_one h1)⟩
/-- list.index of a text that is in -/
theorem index_str {K : PySem.W.Frag} {H : Hp} {m : Addr} {ws : List Str} {b : Str} {Q : VK} (h : SqL K H m (ws.map V.str)) (hb : b ∈ ws) (q : Q (.int (ws.idxOf b : Nat)) H) : rIndex K (.ref m) [.str b] H Q := by
  have h1 := List.idxOf_lt_length_of_mem hb
  refine ⟨m, ws.map V.str, .str b, ws.idxOf b, .str b, rfl, rfl, h, rfl, ?_, ?_, by simp [eqV], fun j z' hj hz => ?_, q⟩
  · rw [List.all_map, List.all_eq_true]
    exact fun x _ => rfl
  · rw [List.getElem?_map, List.getElem?_eq_getElem h1, List.getElem_idxOf h1]
    rfl
  · rw [List.getElem?_map] at hz
    cases hw : ws[j]? with
    | none => rw [hw] at hz; cases hz
    | some z =>
      rw [hw] at hz
      cases hz
      have : z ≠ b := fun e => by
        subst e
        have h2 := List.not_of_lt_findIdx (p := (· == z)) (xs := ws) hj
        obtain ⟨h3, h4⟩ := List.getElem?_eq_some_iff.mp hw
        rw [h4] at h2
        simp at h2
      simp [eqV, this]
end Gx

/-! Sorted rows of data: what is a rearrangement of another sorts alike. -/
namespace Gx
open PySem PySem.Spec PyProof.Rows L2 GxR
open PySem.W in
theorem sort_same {β : Type} {enc : β → PyData} {xs ys : List β} (p : xs.Perm ys) (inj : ∀ a b, keyToks (enc a) = keyToks (enc b) → a = b) : xs.mergeSort (dataLe false enc) = ys.mergeSort (dataLe false enc) := by
  have tot := sortLe_total (listOrd itemOrd) false fun b => keyToks (enc b)
  refine List.Perm.eq_of_pairwise (le := fun a b => dataLe false enc a b = true) (fun a b _ _ h h' => ?_) (sort_pairwise tot xs) (sort_pairwise tot ys) ((List.mergeSort_perm xs _).trans (p.trans (List.mergeSort_perm ys _).symm))
  have h1 : (listOrd itemOrd).blt (keyToks (enc b)) (keyToks (enc a)) = false := by simpa [dataLe, sortLe] using h
  have h2 : (listOrd itemOrd).blt (keyToks (enc a)) (keyToks (enc b)) = false := by simpa [dataLe, sortLe] using h'
  exact inj a b ((listOrd itemOrd).total _ _ h2 h1)
theorem str_cps {x y : Str} (h : x.cps.toList = y.cps.toList) : x = y := by
  cases x; cases y
  congr 1
  exact Array.ext' h
theorem toks_str {a b : Str} (h : PySem.W.keyToks (.str a) = PySem.W.keyToks (.str b)) : a = b := by
  simp only [PySem.W.keyToks] at h
  exact str_cps (by simpa using h)
/-- a pair of texts -/
def encP (p : Str × Str) : PyData := .tuple [.str p.1, .str p.2]
theorem toks_pair {a b : Str × Str} (h : PySem.W.keyToks (encP a) = PySem.W.keyToks (encP b)) : a = b := by
  unfold encP at h
  simp only [PySem.W.keyToks, PySem.W.keyToksAll] at h
  simp at h
  exact Prod.ext (by have := h.1; exact str_cps (by simpa using this)) (by have := h.2; exact str_cps (by simpa using this))
theorem alike_strs (zs : List Str) : PySem.W.AllAlike (zs.map PyData.str) := PySem.W.AllAlike.of fun b b' => by simp [PySem.W.alike]
theorem sortable_strs (zs : List Str) : PySem.W.Sortable (zs.map PyData.str) := PySem.W.Sortable.others (enc := PyData.str) fun b => ⟨(nomatch ·), fun xs => (nomatch ·)⟩
theorem alike_pairs (ps : List (Str × Str)) : PySem.W.AllAlike (ps.map encP) := PySem.W.AllAlike.of fun b b' => by simp [encP, PySem.W.alike, PySem.W.alikeAll]
theorem sortable_pairs (ps : List (Str × Str)) : PySem.W.Sortable (ps.map encP) := PySem.W.Sortable.tuples fun b => ⟨_, _, rfl⟩

/-- of a pair of texts -/
theorem pair_inv {K : PySem.W.Frag} {H : Hp} {x : V} {p : Str × Str} (h : DpT K H x (encP p)) : ∃ r, x = .ref r ∧ H r = some (.tup [.str p.1, .str p.2]) := by
  unfold encP at h
  cases h with
  | tup e t =>
    cases t with
    | cons a t =>
      cases t with
      | cons b t =>
        cases t
        cases a
        cases b
        exact ⟨_, rfl, e⟩
/-- sorted of a list of pairs of texts -/
theorem sort_pairs {K : PySem.W.Frag} {H : Hp} {D : Addr} {ps : List (Str × Str)} {Q : VK} (h : LstT K H D (ps.map encP)) (hl : ps.length ≤ 1000000)
    (q : ∀ p o, H p = none → LstT K (upd H p o) p ((ps.mergeSort (PySem.W.dataLe false encP)).map encP) → Q (.ref p) (upd H p o)) : rSortG K Prod.fst Prod.snd [.ref D] H Q := by
  obtain ⟨xs, e, t⟩ := h
  have hlen := t.length
  have m1 : (xs.zip (ps.map encP)).map Prod.fst = xs := List.map_fst_zip (Nat.le_of_eq hlen)
  have m2 : (xs.zip (ps.map encP)).map Prod.snd = ps.map encP := List.map_snd_zip (Nat.le_of_eq hlen.symm)
  refine ⟨D, xs.zip (ps.map encP), rfl, .inl (.inl (by rw [m1]; exact e)), fun b hb => ⟨(t.zip b hb).dp, ?_⟩, by rw [m2]; exact alike_pairs ps, by rw [m2]; exact sortable_pairs ps, ?_, fun p np => q p _ np ⟨_, upd_same, ?_⟩⟩
  · have := List.mem_map_of_mem (f := Prod.snd) hb
    rw [m2] at this
    obtain ⟨y, _, hy⟩ := List.mem_map.mp this
    rw [← hy]
    simp [encP, PyData.depth, PyData.depthAll]
  · rw [List.length_zip, hlen, Nat.min_self, List.length_map]
    unfold sizeLine
    omega
  · have k : ((xs.zip (ps.map encP)).mergeSort (PySem.W.dataLe false Prod.snd)).map Prod.snd = (ps.mergeSort (PySem.W.dataLe false encP)).map encP := by
      rw [List.map_mergeSort (f := Prod.snd) (r := PySem.W.dataLe false Prod.snd) (s := PySem.W.dataLe false id) fun a _ b _ => rfl, m2,
        ← List.map_mergeSort (f := encP) (r := PySem.W.dataLe false encP) (s := PySem.W.dataLe false id) fun a _ b _ => rfl]
    rw [← k]
    exact (dpTs_of fun b hb => t.zip b ((List.mergeSort_perm _ _).mem_iff.mp hb)).grow (grow_new (ex := []) np) (lists_none _)
/-- data that can be shown, compared, sorted: no deeper than n, no more than m -/
structure Fine (d : PyData) (n m : Nat) : Prop where
  lay : d.canLay0 = true
  show_ : d.showable = true
  nod : d.hasDict = false
  leaves : d.leavesShort 8 = true
  deep : d.depth ≤ n
  bulk : d.bulk ≤ m
structure Fines (ds : List PyData) (n m : Nat) : Prop where
  lay : PyData.canLayAll0 ds = true
  show_ : PyData.showableAll ds = true
  nod : PyData.hasDictAll ds = false
  leaves : PyData.leavesShortAll 8 ds = true
  deep : PyData.depthAll ds ≤ n
  bulk : PyData.bulkAll ds ≤ ds.length * (m + 1)
theorem fines {n m : Nat} : ∀ {ds : List PyData}, (∀ d ∈ ds, Fine d n m) → Fines ds n m
  | [], _ => ⟨rfl, rfl, rfl, rfl, Nat.zero_le _, by simp [PyData.bulkAll]⟩
  | d :: r, h => by
    have h1 := h d List.mem_cons_self
    have h2 := fines (ds := r) fun d q => h d (List.mem_cons_of_mem _ q)
    refine ⟨?_, ?_, ?_, ?_, ?_, ?_⟩
    · rw [PyData.canLayAll0, h1.lay, h2.lay]; rfl
    · rw [PyData.showableAll, h1.show_, h2.show_]; rfl
    · rw [PyData.hasDictAll, h1.nod, h2.nod]; rfl
    · rw [PyData.leavesShortAll, h1.leaves, h2.leaves]; rfl
    · rw [PyData.depthAll]
      exact Nat.max_le.mpr ⟨h1.deep, h2.deep⟩
    · rw [PyData.bulkAll, List.length_cons, Nat.succ_mul]
      have := h1.bulk
      have := h2.bulk
      omega
theorem Fine.list {n m k : Nat} {ds : List PyData} (h : ∀ d ∈ ds, Fine d n m) (hk : ds.length * (m + 1) ≤ k) : Fine (.list ds) (n + 1) k := by
  have f := fines h
  exact ⟨by rw [PyData.canLay0]; exact f.lay, by rw [PyData.showable]; exact f.show_, by rw [PyData.hasDict]; exact f.nod, by rw [PyData.leavesShort]; exact f.leaves, by rw [PyData.depth]; exact Nat.succ_le_succ f.deep, by rw [PyData.bulk]; exact Nat.le_trans f.bulk hk⟩
theorem Fine.tuple {n m k : Nat} {ds : List PyData} (h : ∀ d ∈ ds, Fine d n m) (hk : ds.length * (m + 1) ≤ k) : Fine (.tuple ds) (n + 1) k := by
  have f := fines h
  exact ⟨by rw [PyData.canLay0]; exact f.lay, by rw [PyData.showable]; exact f.show_, by rw [PyData.hasDict]; exact f.nod, by rw [PyData.leavesShort]; exact f.leaves, by rw [PyData.depth]; exact Nat.succ_le_succ f.deep, by rw [PyData.bulk]; exact Nat.le_trans f.bulk hk⟩
theorem Fine.str {z : Str} {m : Nat} (h : ∀ c ∈ z.cps.toList, c < 0x110000) (l : z.length ≤ m) : Fine (.str z) 0 m := by
  refine ⟨?_, rfl, rfl, ?_, Nat.le_refl _, l⟩
  · show PyData.strOk z = true
    unfold PyData.strOk
    rw [← Array.all_toList, List.all_eq_true]
    exact fun c hc => decide_eq_true (h c hc)
  · show (z.cps.toList.all fun c => decide (c < 16 ^ 8)) = true
    rw [List.all_eq_true]
    exact fun c hc => decide_eq_true (Nat.lt_of_lt_of_le (h c hc) (by decide))
theorem Fine.shaped {d : PyData} {n m : Nat} (f : Fine d n m) (hn : n ≤ 60) : SeqAt.shaped d = true := by
  unfold SeqAt.shaped
  rw [f.lay, decide_eq_true (by have := f.deep; omega)]
  rfl
theorem Fine.shown {d : PyData} {n m : Nat} (f : Fine d n m) (h : 10 * m + 8 ≤ sizeLine) : d.shown.length ≤ sizeLine := by
  have := PyData.shown_le_bulk 8 (by decide) d f.leaves
  have := f.bulk
  omega
theorem Fine.eqv {d : PyData} {n m : Nat} (f : Fine d n m) : PyData.eqv d d = true := PySem.SeqAt.eqv_refl d f.lay
end Gx

/-! The end of a law over a head whose facts are told by names. -/
namespace Gx
open PySem PySem.Spec PyProof.Rows L2 GxR GenW
/-- a def without defaults, from the head's word of it -/
theorem DefIs.of {K : PySem.W.Frag} {x qual : Str} {st : Stmt} {fd : FuncData} {p : He.Defn} (F : FunD K x qual (defArgs st) (defBody st) (defScope st) [] [] (He.fAd K p) fd) : DefIs K x qual st (He.fAd K p) fd (.ref (He.cT K p).1) := by
  obtain ⟨oc, od, dV, kV, doc, pm, an, cdv, ct, osl, rfl, lk, hcd, hd, _⟩ := F.ex
  obtain ⟨c, rfl⟩ := He.codeIn_ref hcd
  rcases hd with ⟨_, rfl⟩ | ⟨h, _⟩
  · have e : He.codeOf K p = c := He.codeOf_eq lk rfl
    show DefIs K x qual st (He.fAd K p) _ (.ref (He.codeOf K p))
    rw [e]
    exact ⟨⟨oc, od, kV, doc, pm, an, ct, osl, rfl, lk⟩, hcd, F.kp⟩
  · exact absurd rfl h
section
theorem walk_GE {l : PySem.W.OpenLaw} {n k : Nat} {q : Program} {loose : List Str} {XP : (Str → Option Value) → Heap → Prop} {YP : World → Heap → Prop} {d : DefRec} {x : Str}
    (hn : l.most = some n) (hn2 : n ≤ sizeLine) (hdf : d.params.defaults = []) (hr : Room k callerA)
    (F : ∀ (w : World) (mg : Str → Option Value) (fa : Addr) (h : Heap), YP w h → h.Ns mainGlobals mg → mg d.name = some (.ref fa) → ∃ K : PySem.W.Frag, K.In h ∧ LawG l w K k n x mg fa h) :
    PySem.W.WalkO q loose XP YP l.row.toRowW d [] (fun f vs => PySem.call f vs) := by
  refine Att.attach_callB hn hdf fun w s₀ s₁ mg mb fa o pm cd doc a vs ns G Y ho hd hcd hmg hobj hints hlen hbits hg => ?_
  obtain ⟨K, KX, fd, cs, sp, hT, hb, hsp, hF⟩ := F w mg fa _ Y G.T.g hmg
  have aT : a ∉ cs.map Prod.snd := fun z => by
    obtain ⟨p, hp, e⟩ := List.mem_map.mp z
    have q := (hT p hp).1
    rw [e, hobj] at q
    have z' : Data.seq vs.toArray _ = Data.fields #[] := congrArg Obj.data (Option.some.inj q)
    cases z'
  have rv := vals_ints hints
  cases hk : K.lookup a with
  | some o2 =>
    have e := KX a o2 hk
    rw [hobj] at e
    cases e
    have sl : SqL K (fun b => if b ∈ cs.map Prod.snd then some (.tbl #[]) else none) a (ns.map V.int) :=
      .inr ⟨_, vs.toArray, _, hk, rfl, rfl, rfl, by rw [List.size_toArray, hints.length]; exact Nat.le_trans hlen hn2, by simpa using rv⟩
    have hT' : ∀ p ∈ cs, (fun b => if b ∈ cs.map Prod.snd then some (HO.tbl #[]) else none) p.2 = some (.tbl #[]) := fun p hp => if_pos (List.mem_map.mpr ⟨p, hp, rfl⟩)
    refine law_from _ hT' (fun b u z => ?_) KX G.T.g G.T.b G.T.builtins G.T.nolimit hg hT G.T.bmain hobj rv (Nat.le_trans hlen hn2) sl hr hF hb (hsp _ a ns hlen hbits hT' sl)
    by_cases hm : b ∈ cs.map Prod.snd
    · exact .inl ⟨hm, Option.some.inj (z.symm.trans (if_pos hm))⟩
    · have z' := z.symm.trans (if_neg hm)
      cases z'
  | none =>
    have sl : SqL K (fun b => if b = a then some (.frz (scriptObj vs) (.lst (ns.map V.int))) else if b ∈ cs.map Prod.snd then some (.tbl #[]) else none) a (ns.map V.int) := .inl (.inr ⟨scriptObj vs, if_pos rfl⟩)
    have hT' : ∀ p ∈ cs, (fun b => if b = a then some (HO.frz (scriptObj vs) (.lst (ns.map V.int))) else if b ∈ cs.map Prod.snd then some (.tbl #[]) else none) p.2 = some (.tbl #[]) := fun p hp =>
      (if_neg (show ¬ p.2 = a from fun z => aT (by rw [← z]; exact List.mem_map.mpr ⟨p, hp, rfl⟩))).trans (if_pos (List.mem_map.mpr ⟨p, hp, rfl⟩))
    refine law_from _ hT' (fun b u z => ?_) KX G.T.g G.T.b G.T.builtins G.T.nolimit hg hT G.T.bmain hobj rv (Nat.le_trans hlen hn2) sl hr hF hb (hsp _ a ns hlen hbits hT' sl)
    by_cases hm : b = a
    · exact .inr ⟨hm, hk, Option.some.inj (z.symm.trans (if_pos hm))⟩
    · have z1 := z.symm.trans (if_neg hm)
      by_cases hm2 : b ∈ cs.map Prod.snd
      · exact .inl ⟨hm2, Option.some.inj (z1.trans (if_pos hm2))⟩
      · have z' := z1.trans (if_neg hm2)
        cases z'
end
end Gx

/-! max( ) of whole numbers with a default. -/
namespace Gx
open PySem PySem.Spec PyProof.Rows L2
def MaxA (a d : Value) : Args := ⟨[a], [(Str.ofString "default", d)]⟩
theorem maxA_ok (a d : Value) : argsOk "max" (MaxA a d) := by
  unfold argsOk MaxA
  kernel_rfl
section
variable {prog : Program} {w : World} {A : Around} {R : Result → Shared → Prop} {I : Addr} {fp wr : List Addr} {n : Nat} {P : Nat → Value → Prop} {St : Nat → Heap → Prop}
/-- what the loop holds: nothing yet, or the best so far -/
def MaxHeld (P : Nat → Value → Prop) (bt : Nat → Nat → Bool) (j : Nat) (vs : Array Value) : Prop := (j = 0 ∧ vs = #[]) ∨ ∃ v, vs = #[v, v] ∧ 0 < j ∧ P (argBest bt (j - 1)) v
def MaxOut (P : Nat → Value → Prop) (bt : Nat → Nat → Bool) (n : Nat) (d v : Value) : Prop := (n = 0 ∧ v = d) ∨ (0 < n ∧ P (argBest bt (n - 1)) v)
theorem max_rounds (W : Walks prog w A.in1 I fp wr n P St) (bt : Nat → Nat → Bool) (hcmp : CmpOf prog w A.in1 .Gt P bt) (S : Addr) (hS0 : S ∉ fp) (d : Value) :
    ∀ (k j : Nat) (s : Shared) (vs : Array Value) (c : Nat), n - j = k → j ≤ n → St j s.heap → MaxHeld P bt j vs → s.heap.get? S = some { cls := .type "list", dict := none, data := .seq vs c, slots := #[] } →
    (∀ v h2 tk, MaxOut P bt n d v → (∀ b o, b ∉ wr → b ≠ S → s.heap.get? b = some o → h2.get? b = some o) → R (.ok (.ret v)) { s with heap := h2, toks := tk }) →
    codeAny (model prog w) A (.builtin "max.loop" ⟨[.ref I, .none, .ref S], [(Str.ofString "default", d)]⟩) R s := by
  have sw : S ∉ wr := fun h => hS0 (W.sub _ h)
  have nm : (toString "max" ++ toString ".loop" : String) = "max.loop" := by decide
  intro k
  induction k with
  | zero =>
    intro j s vs c e hj st held hS fin
    have ej : j = n := by omega
    subst ej
    refine codeAny_builtin F.entry_max_loop (by
      rw [Around.under_plainId F.plain_max_loop _]
      show wpAny _ A.in1 (seqItems? (.ref S) >>= _) _ _ s
      refine wpAny_bind (wpAny_seqItems hS rfl ?_)
      show wpAny _ A.in1 (tryCatch (pyNext (.ref I)) _ >>= _) _ _ s
      refine wpAny_bind (wpAny_tryCatch (W.done s _ _ st fun h2 tk keep => ?_))
      have hS2 := keep S _ sw hS
      rcases held with ⟨e0, rfl⟩ | ⟨v, rfl, j0, hv⟩
      · show wpAny _ A.in1 (rule _ >>= _) _ _ _
        refine wpAny_bind (wpAny_rule ?_)
        refine wpAny_pure ?_
        exact fin d h2 tk (.inl ⟨e0, rfl⟩) fun b o hw _ q => keep b o hw q
      · show wpAny _ A.in1 (updateSeq S (fun _ => #[]) >>= _) _ _ _
        refine wpAny_bind (wpAny_updateSeq hS2 rfl (wpAny_bind (wpAny_letGo (wpAny_pure ?_))))
        exact fin v _ tk (.inr ⟨j0, hv⟩) fun b o hw hb q => (Heap.get?_update_other _ _ (Ne.symm hb)).trans (keep b o hw q))
  | succ k ih =>
    intro j s vs c e hj st held hS fin
    have hlt : j < n := by omega
    refine codeAny_builtin F.entry_max_loop (by
      rw [Around.under_plainId F.plain_max_loop _]
      show wpAny _ A.in1 (seqItems? (.ref S) >>= _) _ _ s
      refine wpAny_bind (wpAny_seqItems hS rfl ?_)
      show wpAny _ A.in1 (tryCatch (pyNext (.ref I)) _ >>= _) _ _ s
      refine wpAny_bind (wpAny_tryCatch (W.item j s _ _ hlt st fun v h2 tk hP st2 keep => ?_))
      have hS2 := keep S _ sw hS
      rcases held with ⟨rfl, rfl⟩ | ⟨b0, rfl, j0, hb0⟩
      · show wpAny _ A.in1 (updateSeq S (fun _ => #[v, v]) >>= _) _ _ _
        refine wpAny_bind (wpAny_updateSeq hS2 rfl ?_)
        rw [nm]
        refine wpAny_pure ⟨plainId_quiet F.plain_max_loop _, ih 1 _ #[v, v] _ (by omega) (by omega) (W.frame _ _ _ st2 fun b hb o q => (Heap.get?_update_other _ _ (fun h : S = b => hS0 (by rw [h]; exact hb))).trans q) (.inr ⟨v, rfl, Nat.one_pos, hP⟩) (Heap.get?_update_self _ hS2 rfl) fun v3 h3 tk3 out keep3 => ?_⟩
        exact fin v3 h3 tk3 out fun b o hw hb q => keep3 b o hw hb ((Heap.get?_update_other _ _ (Ne.symm hb)).trans (keep b o hw q))
      · show wpAny _ A.in1 (tryCatch (holding [v, v] (richCompare .Gt v b0 >>= _)) _ >>= _) _ _ _
        refine wpAny_bind (wpAny_tryCatch (wpAny_holding (wpAny_bind (hcmp j (argBest bt (j - 1)) v b0 _ _ _ hP hb0 ?_))))
        refine wpAny_bind (wpAny_holding (wpAny_truthy_bool (wpAny_bind (wpAny_letGo (wpAny_pure ?_)))))
        have ea : ∀ q, bt j (argBest bt (j - 1)) = q → argBest bt j = if q = true then j else argBest bt (j - 1) := fun q hq => by
          obtain ⟨i, rfl⟩ : ∃ i, j = i + 1 := ⟨j - 1, by omega⟩
          rw [argBest]
          rw [show i + 1 - 1 = i from rfl] at hq ⊢
          rw [hq]
        cases hb : bt j (argBest bt (j - 1)) with
        | true =>
          have eb := ea true hb
          rw [if_pos rfl] at eb ⊢
          refine wpAny_bind (wpAny_updateSeq hS2 rfl (wpAny_bind (wpAny_letGo ?_)))
          rw [nm]
          refine wpAny_pure ⟨plainId_quiet F.plain_max_loop _, ih (j + 1) _ #[v, v] _ (by omega) (by omega) (W.frame _ _ _ st2 fun b hb o q => (Heap.get?_update_other _ _ (fun h : S = b => hS0 (by rw [h]; exact hb))).trans q) (.inr ⟨v, rfl, Nat.succ_pos _, by rw [Nat.add_sub_cancel, eb]; exact hP⟩) (Heap.get?_update_self _ hS2 rfl) fun v3 h3 tk3 out keep3 => ?_⟩
          exact fin v3 h3 tk3 out fun b o hw hb q => keep3 b o hw hb ((Heap.get?_update_other _ _ (Ne.symm hb)).trans (keep b o hw q))
        | false =>
          have eb := ea false hb
          rw [if_neg Bool.false_ne_true] at eb ⊢
          refine wpAny_bind (wpAny_letGo ?_)
          rw [nm]
          refine wpAny_pure ⟨plainId_quiet F.plain_max_loop _, ih (j + 1) _ #[b0, b0] c (by omega) (by omega) st2 (.inr ⟨b0, rfl, Nat.succ_pos _, by rw [Nat.add_sub_cancel, eb]; exact hb0⟩) hS2 fun v3 h3 tk3 out keep3 => ?_⟩
          exact fin v3 h3 tk3 out fun b o hw hb q => keep3 b o hw hb (keep b o hw q))
end
end Gx
namespace Gx
open PySem PySem.Spec PyProof.Rows L2
section
variable {prog : Program} {w : World} {A : Around} {E : Value → Shared → Prop} {s : Shared}
theorem max_def_walk {x d : Value} {Q : Value → Shared → Prop}
    (h : wpAny (model prog w) A.in1 (pyIter x) (fun it s2 => ∃ I fp wr n P St bt, it = .ref I ∧ Walks prog w A.in1 I fp wr n P St ∧ St 0 s2.heap ∧ (∀ b ∈ fp, b < s2.heap.objs.size) ∧ CmpOf prog w A.in1 .Gt P bt ∧
      ∀ v h2 tk, MaxOut P bt n d v → (∀ b o, b ∉ wr → s2.heap.get? b = some o → h2.get? b = some o) → Q v { s2 with heap := h2, toks := tk }) E s) :
    wpAny (model prog w) A (call (.builtin "max") [x] [(Str.ofString "default", d)]) Q E s := by
  have nm : (toString "max" ++ toString ".loop" : String) = "max.loop" := by decide
  refine wpAny_call (codeAny_call_builtin F.plain_max F.entry_max ?_)
  simp only [checkBuiltinCall, F.kind_max]
  have body : wpAny (model prog w) A.in1 (Builtin.«max» (MaxA x d)) (fun fin s' => match fin with
      | .done f => (match (Except.ok f : Result) with | .ok (.ret v) => Q v s' | .ok _ => False | .error e => E e s')
      | .again c' => c'.quiet = true ∧ codeAny (model prog w) A c' (fun r s' => match r with | .ok (.ret v) => Q v s' | .ok _ => False | .error e => E e s') s') E s := by
    show wpAny _ A.in1 (Builtin.Builtins.bindParams "max" ["key", "default"] 0 ⟨[], [(Str.ofString "default", d)]⟩ >>= _) _ _ s
    refine wpAny_bind (wpAny_of_eq (show Builtin.Builtins.bindParams "max" ["key", "default"] 0 ⟨[], [(Str.ofString "default", d)]⟩ = pure [none, some d] from rfl) ?_)
    refine wpAny_bind (wpAny_pure ?_)
    refine wpAny_bind (wpAny_mono h (fun it s2 h2 => ?_) fun _ _ e => e)
    obtain ⟨I, fp, wr, n, P, St, bt, rfl, W, hst, hfp, hcmp, hQ⟩ := h2
    refine wpAny_bind (wpAny_newObj_type ?_)
    have sf : s2.heap.objs.size ∉ fp := fun hm => Nat.lt_irrefl _ (hfp _ hm)
    rw [nm]
    refine wpAny_pure ⟨plainId_quiet F.plain_max_loop _, max_rounds W bt hcmp s2.heap.objs.size sf d n 0 _ #[] _ rfl (Nat.zero_le _) (W.frame _ _ _ hst fun b _ o e => Heap.get?_push_of_some _ e) (.inl ⟨rfl, rfl⟩) (Heap.get?_push_size _ rfl) fun v h3 tk out keep => ?_⟩
    exact hQ v h3 tk out fun b o hbw e => keep b o hbw (Nat.ne_of_lt (Heap.lt_size e)) (Heap.get?_push_of_some _ e)
  cases hsig : Manifest.signature? "max" with
  | none => exact wpAny_pure body
  | some sig =>
    have ok := maxA_ok x d
    simp only [argsOk, hsig] at ok
    have h2 : Bind.checkArgs "max" sig (MaxA x d) = pure () := ok
    show wpAny _ A.in1 (Bind.checkArgs "max" sig (MaxA x d)) _ _ s
    rw [h2]
    exact wpAny_pure body
end
end Gx
namespace Gx
open PySem PySem.Spec PyProof.Rows L2
/-- what max(ns, default=d) is -/
def TopOf (d : Int) (ns : List Int) (m : Int) : Prop := (ns = [] ∧ m = d) ∨ (m ∈ ns ∧ ∀ y ∈ ns, y ≤ m)
section
variable {prog : Program} {w : World} {A : Around} {E : Value → Shared → Prop} {s : Shared}
theorem max_def_ints {l : Addr} {its : List Value} {ns : List Int} {d : Int} {dt : Tok} {Q : Value → Shared → Prop} (hh : A.handled = none) (hl : s.heap.IsList l its.toArray) (hi : IntsAre its ns)
    (h : ∀ h2 tk m t2, (∀ b o, s.heap.get? b = some o → h2.get? b = some o) → TopOf d ns m → Q (.int m t2) { s with heap := h2, toks := tk }) : wpAny (model prog w) A (call (.builtin "max") [.ref l] [(Str.ofString "default", .int d dt)]) Q E s := by
  obtain ⟨xs, e⟩ := hi.allInts.items
  have hn : numsOf (intItems xs).toList = ns := by rw [← e]; exact hi.numsOf
  rw [nums_intItems] at hn
  subst hn
  rw [e] at hl
  refine max_def_walk (iter_intList hl fun s2 e2 st hfp hlI => ?_)
  subst e2
  refine ⟨_, _, _, _, _, _, _, rfl, Walks.list (A := A.in1) hh _ l hlI (intItems xs), st, hfp, CmpOf.ints_gt (numAt xs) (fun _ _ => intItems_at), fun v h2 tk out keep => ?_⟩
  rcases out with ⟨e0, rfl⟩ | ⟨n0, hv⟩
  · refine h h2 tk d dt (old_kept keep) (.inl ⟨?_, rfl⟩)
    have : xs.toList = [] := List.eq_nil_of_length_eq_zero (by simpa [intItems] using e0)
    rw [this]
    rfl
  · obtain ⟨t, rfl⟩ := intItems_at hv
    obtain ⟨h1, h2'⟩ := argBest_gt (numAt xs) ((intItems xs).size - 1)
    have hs : (intItems xs).size = xs.size := by simp [intItems]
    rw [hs] at h1 h2' n0
    rw [hs]
    refine h h2 tk _ t (old_kept keep) (.inr ⟨?_, fun a ha => ?_⟩)
    · rw [numAt_eq]
      exact PySem.getD_mem (by rw [List.length_map, Array.length_toList]; omega)
    · obtain ⟨j, hj, rfl⟩ := mem_getD ha
      rw [List.length_map, Array.length_toList] at hj
      rw [← numAt_eq]
      exact h2' j (by omega)
end
section
variable {X : Cx}
def rMaxDef (K : PySem.W.Frag) : List V → List V → Hp → VK → Prop := fun vs zs H Q => ∃ (a : Addr) (ns : List Int) (d : Int), vs = [V.ref a] ∧ zs = [V.int d] ∧ SqL K H a (ns.map V.int) ∧ ∀ m, TopOf d ns m → Q (.int m) H
theorem cr_maxDef (hc : X.calm = true) : CallRK X (.builtin "max") [Str.ofString "default"] (rMaxDef X.K) := by
  intro pins s σ H xs zs us ws Q I r1 r2 h
  obtain ⟨a, ns, d, rfl, rfl, hs, q⟩ := h
  obtain ⟨its, rv, hl, _⟩ := I.list hs
  rw [Vals.ref1 r1]
  cases r2 with
  | cons r rr =>
    cases rr
    obtain ⟨t, rfl⟩ := r
    exact max_def_ints (I.ok.hd hc) hl.isList rv.ints fun h2 tk m t2 keep top => ⟨.int m, H, I.kept keep, ⟨_, rfl⟩, q m top⟩
end
end Gx

/-! max(d.values(), default=k) of whole numbers. -/
namespace Gx
open PySem PySem.Spec PyProof.Rows L2
theorem topOf_out {ns : List Int} {d : Int} {n : Nat} (hn : n = ns.length) {P : Nat → Value → Prop} (hP : ∀ i v, P i v → i < n ∧ ∃ t, v = .int (ns.getD i 0) t) {dv v : Value} {dt : Tok} (hd : dv = .int d dt)
    (out : MaxOut P (fun i j => decide (ns.getD i 0 > ns.getD j 0)) n dv v) : ∃ m t, v = .int m t ∧ TopOf d ns m := by
  rcases out with ⟨e0, rfl⟩ | ⟨n0, hv⟩
  · exact ⟨d, dt, hd, .inl ⟨List.eq_nil_of_length_eq_zero (by omega), rfl⟩⟩
  · obtain ⟨hi, t, rfl⟩ := hP _ _ hv
    obtain ⟨h1, h2⟩ := argBest_gt (fun i => ns.getD i 0) (n - 1)
    refine ⟨_, t, rfl, .inr ⟨PySem.getD_mem (by omega), fun a ha => ?_⟩⟩
    obtain ⟨j, hj, rfl⟩ := mem_getD ha
    exact h2 j (by omega)
section
variable {X : Cx}
def tMaxVals (td : TE) (k : Int) : TE := fun σ H Q => td σ H fun x H1 => ∃ (d : Addr) (kvs : List (Key × V)) (ns : List Int), x = .ref d ∧ H1 d = some (.dK kvs) ∧ kvs.map Prod.snd = ns.map V.int ∧ ∀ m, TopOf k ns m → Q (.int m) H1
theorem pe_maxVals {e : Expr} {td : TE} {p apos cpos kpos kp pos : Pos} {k : Int} {kk : Nat} (hc : X.calm = true) (hg : Gl X "max") (hm : X.mg "max" = none) (he : PE X e td)
    (hbase : attributeBase e "values" X.env (eval e X.env) = eval e X.env := by rfl) (hline : (apos.endLine == cpos.line) = true := by rfl) :
    PE X (.Call (.Name "max" p) [.Call (.Attribute e "values" apos) [] [] cpos] [⟨some "default", .Constant (.int k) kk kp, kpos⟩] pos) (tMaxVals td k) := by
  refine ⟨fun pins s σ H Q I h => ?_⟩
  refine wpAny_Call_Name_kw (ld_blt I hg hm (show bootBuiltins "max" = some (.builtin "max") by decide +kernel) ?_)
  refine PyProof.Rows.callWith_kw ?_
  refine Calls.spliced_cons ?_
  refine wpAny_Call_method (T := "dict") (id := "dict.values") hbase rfl hline F.plainAttrs_dict F.slot_dict_values F.type_dict_values (thn (he.run pins s σ H _ I h) fun u s1 h1 => ?_)
  obtain ⟨x, H1, I1, rx, d, kvs, ns, rfl, hd, hv, q⟩ := h1
  obtain rfl : u = Value.ref d := rx
  obtain ⟨hz, hs, vs, kv, o1, es, ep, ho, hx, hdt, r⟩ := I1.hok d _ hd
  have hD : s1.heap.DictAt (mixKind X.prog X.w) d vs ep := ⟨o1, es, ho, hx, hdt, r⟩
  have hl : kvs.length = vs.length := Paired.length kv
  have hln : kvs.length = ns.length := by have := congrArg List.length hv; rwa [List.length_map, List.length_map] at this
  refine ⟨hD.dictOf.typeIs, hD.dictOf.mapOf.noDict, ?_⟩
  refine method_meetsIn F.slot_dict_values F.entry_dict_values rfl (PySem.evalArgs_none ⟨rfl, hD.dictOf.typeIs, F.args_dict_values_1 _, _, meets_dict_values (mixKind X.prog X.w) d hs, ⟨vs, hD.dictOf⟩, ?_⟩)
  have I2 : L2.Inv X pins σ H1 { s1 with heap := s1.heap.push { cls := .type "dict_values", data := .fields #[.ref d] } } := I1.kept (t' := s1.toks) fun b ob z => Heap.get?_push_of_some _ z
  have nb : H1 s1.heap.objs.size = none := I1.hok.fresh (Nat.le_refl _)
  have I3 := I2.pinned (fp := [s1.heap.objs.size]) (fun b hb => by
    rw [List.mem_singleton.mp hb]
    exact I1.fpOk (Nat.le_refl _) nb) (fun b hb => by
    rw [List.mem_singleton.mp hb]
    exact ⟨_, Heap.get?_push_size _ rfl, fun v z => by cases z⟩)
  show wpAny _ _ (spliced []) _ _ _
  refine Calls.spliced_nil ?_
  refine thn ((pk_cons pe_int pk_nil).run pos _ _ σ H1 _ I3 (show tCons (tC (.int k)) tNil σ H1 (fun zs H2 => zs = [V.int k] ∧ H2 = H1) from ⟨rfl, rfl⟩)) fun ws s4 h4 => ?_
  obtain ⟨zs, H2, I4, rz, rfl, rfl⟩ := h4
  obtain ⟨t, rfl⟩ : ∃ t, ws = [Value.int k t] := by
    cases rz with
    | cons r0 rr =>
      cases rr
      obtain ⟨t, rfl⟩ := r0
      exact ⟨t, rfl⟩
  obtain ⟨_, _, us, ku, o4, es4, ep4, ho4, hx4, hdt4, r4⟩ := I4.hok d _ hd
  have hD4 : s4.heap.DictAt (mixKind X.prog X.w) d us ep4 := ⟨o4, es4, ho4, hx4, hdt4, r4⟩
  have hlu : kvs.length = us.length := Paired.length ku
  have view : s4.heap.get? s1.heap.objs.size = some { cls := .type "dict_values", data := .fields #[.ref d] } :=
    (I4.pin (s1.heap.objs.size, { cls := .type "dict_values", data := .fields #[.ref d] }) (List.mem_append_right _ (List.mem_append_right _ (mem_pinsAt (List.mem_singleton.mpr rfl) (Heap.get?_push_size _ rfl))))).1
  show wpAny _ _ (call (.builtin "max") [.ref s1.heap.objs.size] [(Str.ofString "default", .int k t)]) _ _ _
  have vals : ∀ i v, (∃ key, us[i]? = some (key, v)) → i < us.length ∧ ∃ t, v = .int (ns.getD i 0) t := fun i v hk => by
    obtain ⟨key, hk⟩ := hk
    have hi := (List.getElem?_eq_some_iff.mp hk).1
    obtain ⟨⟨k2, x2⟩, hk2⟩ : ∃ q, kvs[i]? = some q := ⟨kvs[i]'(by omega), List.getElem?_eq_getElem (by omega)⟩
    obtain ⟨u2, hu2, ru2⟩ := kv_get ku hk2
    rw [hk] at hu2
    cases hu2
    have e1 := congrArg (fun l => l[i]?) hv
    simp only [List.getElem?_map, hk2] at e1
    have hni : i < ns.length := by omega
    rw [List.getElem?_eq_getElem hni] at e1
    have e2 : x2 = V.int ns[i] := Option.some.inj e1
    subst e2
    obtain ⟨t2, rfl⟩ := ru2
    exact ⟨hi, t2, by rw [List.getD_eq_getElem?_getD, List.getElem?_eq_getElem hni]; rfl⟩
  refine max_def_walk (wpAny_pyIter_values (d := d) (knd := mixKind X.prog X.w) ⟨_, view, rfl, rfl⟩ hD4 ?_)
  have hlt : d < s4.heap.objs.size := by
    obtain ⟨_, _, e, _⟩ := hD4
    exact Heap.lt_size e
  refine ⟨s4.heap.objs.size, _, _, _, _, _, fun i j => decide (ns.getD i 0 > ns.getD j 0), rfl, Walks.dictValues (A := X.A.in1) (knd := mixKind X.prog X.w) (I.ok.hd hc) s4.heap.objs.size d (Nat.ne_of_lt hlt) us ep4, ⟨⟨_, Heap.get?_push_size _ rfl, rfl, rfl⟩, hD4.push _⟩, fun b hb => ?_, CmpOf.ints_gt (fun i => ns.getD i 0) (fun i v hk => (vals i v hk).2), fun v h2 tk out keep => ?_⟩
  · show b < (s4.heap.push _).objs.size
    rw [Heap.size_push]
    rcases List.mem_cons.mp hb with rfl | hb
    · exact Nat.lt_succ_self _
    · rw [List.mem_singleton.mp hb]
      exact Nat.lt_succ_of_lt hlt
  · obtain ⟨m, t3, rfl, top⟩ := topOf_out (by omega) vals rfl out
    refine ⟨.int m, H2, (I4.unpinned.kept fun b o e => ?_), ⟨_, rfl⟩, q m top⟩
    exact keep b o (fun z => by rw [List.mem_singleton.mp z] at e; exact absurd (Heap.lt_size e) (Nat.lt_irrefl _)) (Heap.get?_push_of_some _ e)
end
end Gx
namespace Gx
open PySem PySem.Spec PyProof.Rows L2
theorem kv_vals {κ : Type} : ∀ {kvs : List (κ × V)} {us : List (κ × Value)} {vs : List Value}, KV kvs us → vs = us.map Prod.snd → Vals (kvs.map Prod.snd) vs
  | _, _, _, .nil, rfl => .nil
  | _, _, _, .cons h t, rfl => .cons h.2 (kv_vals t rfl)
section
variable {X : Cx}
/-- list(d.values()) -/
def tListVals (td : TE) : TE := fun σ H Q => td σ H fun x H1 => ∃ (d : Addr) (kvs : List (Key × V)), x = .ref d ∧ H1 d = some (.dK kvs) ∧ ∀ l, H1 l = none → Q (.ref l) (upd H1 l (.lst (kvs.map Prod.snd)))
theorem pe_listVals {e : Expr} {td : TE} {p apos cpos pos : Pos} (hc : X.calm = true) (hg : Gl X "list") (hm : X.mg "list" = none) (he : PE X e td)
    (hbase : attributeBase e "values" X.env (eval e X.env) = eval e X.env := by rfl) (hline : (apos.endLine == cpos.line) = true := by rfl) (na : starEach [(.Call (.Attribute e "values" apos) [] [] cpos : Expr)] X.env = (false, eval (.Call (.Attribute e "values" apos) [] [] cpos) X.env) :: starEach [] X.env := by rfl) :
    PE X (.Call (.Name "list" p) [.Call (.Attribute e "values" apos) [] [] cpos] [] pos) (tListVals td) := by
  refine ⟨fun pins s σ H Q I h => Call_ (ld_blt I hg hm (show bootBuiltins "list" = some (.type "list") by decide +kernel) ?_)⟩
  refine PyProof.Rows.callWith_type1 (PyProof.Rows.args_cons ?_ na) na rfl
  refine wpAny_Call_method (T := "dict") (id := "dict.values") hbase rfl hline F.plainAttrs_dict F.slot_dict_values F.type_dict_values (thn (he.run pins s σ H _ I h) fun u s1 h1 => ?_)
  obtain ⟨x, H1, I1, rx, d, kvs, rfl, hd, q⟩ := h1
  obtain rfl : u = Value.ref d := rx
  obtain ⟨hz, hs, vs, kv, o1, es, ep, ho, hx, hdt, r⟩ := I1.hok d _ hd
  have hD : s1.heap.DictAt (mixKind X.prog X.w) d vs ep := ⟨o1, es, ho, hx, hdt, r⟩
  have hl : kvs.length = vs.length := Paired.length kv
  refine ⟨hD.dictOf.typeIs, hD.dictOf.mapOf.noDict, ?_⟩
  refine method_meetsIn F.slot_dict_values F.entry_dict_values rfl (PySem.evalArgs_none ⟨rfl, hD.dictOf.typeIs, F.args_dict_values_1 _, _, meets_dict_values (mixKind X.prog X.w) d hs, ⟨vs, hD.dictOf⟩, PyProof.Rows.args_nil ?_⟩)
  have I2 : L2.Inv X pins σ H1 { s1 with heap := s1.heap.push { cls := .type "dict_values", data := .fields #[.ref d] } } := I1.kept (t' := s1.toks) fun b ob z => Heap.get?_push_of_some _ z
  refine PySem.W.kdl_call (PySem.W.kdl_values (knd := mixKind X.prog X.w) (d := d) (r := s1.heap.objs.size) (kvs := vs) (ep := ep)) (I.ok.hd hc) ⟨⟨_, Heap.get?_push_size _ rfl, rfl, rfl⟩, hD.push _⟩ (by omega) fun h2 tk acc c keep new items => ?_
  have ev : acc.toList = vs.map Prod.snd := PySem.W.kdl_vals_eq acc.toList (by rw [Array.length_toList]; exact items.1) fun j v e => items.2 j v (by rw [← Array.getElem?_toList]; exact e)
  refine ⟨.ref _, _, I2.laid (t' := tk) (h' := h2) keep (Nat.le_refl _) (show ObjOk X.prog X.w _ h2 _ (.lst (kvs.map Prod.snd)) from ⟨by rw [List.length_map]; exact hz, acc.toList, c, kv_vals kv ev, ?_⟩), rfl, q _ (I2.hok.fresh (Nat.le_refl _))⟩
  rw [Array.toArray_toList]
  exact new
end
end Gx

/-! min(d) of a dict with text keys: some key. -/
namespace Gx
open PySem PySem.Spec PyProof.Rows L2
section
variable {X : Cx}
def rMinD : List V → Hp → VK → Prop := fun xs H Q => ∃ (a : Addr) (kvs : List (Key × V)) (ks : List Str), xs = [.ref a] ∧ Rd H a (.dK kvs) ∧ kvs.map (·.1) = ks.map Sum.inr ∧ 0 < ks.length ∧ ∀ k ∈ ks, Q (.str k) H
theorem cr_minD (hcalm : X.calm = true) : CallR X (.builtin "min") rMinD := by
  intro pins s σ H xs us Q I r q
  obtain ⟨a, kvs, ks, ex, hd, hks, h0, q⟩ := q
  subst ex
  rw [Vals.ref1 r]
  obtain ⟨z, lo, vs, rel, dd⟩ := dk_rd I.hok hd
  obtain ⟨ep, hat⟩ := dd.dictAt
  have hkeys : vs.map Prod.fst = ks.map Sum.inr := rel.keys.symm.trans hks
  have hl : vs.length = ks.length := by
    have e := congrArg List.length hkeys
    rw [List.length_map, List.length_map] at e
    exact e
  have keys : ∀ (i : Nat) (v : Value), (∃ k x, vs[i]? = some (k, x) ∧ (mixKind X.prog X.w).is k v = true) → ∃ y t, ks[i]? = some y ∧ v = .str y t := fun i v hk => by
    obtain ⟨k, x, e1, e2⟩ := hk
    have e3 : (vs.map Prod.fst)[i]? = some k := by rw [List.getElem?_map, e1]; rfl
    rw [hkeys, List.getElem?_map] at e3
    cases e4 : ks[i]? with
    | none => rw [e4] at e3; cases e3
    | some y =>
      rw [e4] at e3
      have e5 : Sum.inr y = k := Option.some.inj e3
      subst e5
      obtain ⟨t, ev⟩ := Value.isStrOf_shape (x := y) (v := v) e2
      exact ⟨y, t, rfl, ev⟩
  have hlt : a < s.heap.objs.size := by
    obtain ⟨_, _, e, _⟩ := hat
    exact Heap.lt_size e
  refine call_min_walk (wpAny_pyIter_dict (knd := mixKind X.prog X.w) lo hat ?_)
  refine ⟨s.heap.objs.size, _, _, vs.length, _, _, fun i j => decide ((ks.getD i Str.empty).cps.toList < (ks.getD j Str.empty).cps.toList), rfl, Walks.dictKeys (A := X.A.in1) (knd := mixKind X.prog X.w) (I.ok.hd hcalm) s.heap.objs.size a (Nat.ne_of_lt hlt) vs ep, ⟨⟨_, Heap.get?_push_size _ rfl, rfl, rfl⟩, hat.push _⟩, fun b hb => ?_, by omega, fun i j vi vj s2 Q2 E2 hi hj h2 => ?_, fun v h2 tk out keep => ?_⟩
  · show b < (s.heap.push _).objs.size
    rw [Heap.size_push]
    rcases List.mem_cons.mp hb with rfl | hb
    · exact Nat.lt_succ_self _
    · rw [List.mem_singleton.mp hb]
      exact Nat.lt_succ_of_lt hlt
  · obtain ⟨x, t, ex, rfl⟩ := keys i vi hi
    obtain ⟨y, u, ey, rfl⟩ := keys j vj hj
    dsimp only at h2
    rw [List.getD_eq_getElem?_getD, List.getD_eq_getElem?_getD, ex, ey] at h2
    exact richCompare_gives (op := .Lt) (typeIs_str s2 x t) (typeIs_str s2 y u) F.slot_str_lt F.entry_str_lt (F.args_str_lt_2 _ _) (gives_str_lt x y t u) (fun e => nomatch e) h2
  · obtain ⟨y, t, ey, rfl⟩ := keys _ v out
    refine ⟨.str y, H, I.kept (t' := tk) fun b o e => keep b o (fun z => by rw [List.mem_singleton.mp z] at e; exact absurd (Heap.lt_size e) (Nat.lt_irrefl _)) (Heap.get?_push_of_some _ e), ⟨_, rfl⟩, q y (List.mem_of_getElem? ey)⟩
end
end Gx

/-! combinations of two of a list: how it is made, what it hands out -/
namespace Gx
open PySem PySem.Spec
open Sem (wp)
theorem cm_mro : mroOf (.type "itertools.combinations") = pure [.type "itertools.combinations", .type "object"] := by rw [mroOf_type]; kernel_rfl
theorem cm_look : typeLookup (.type "itertools.combinations") "__new__" = pure (some (.builtin "itertools.combinations.__new__")) := by rw [typeLookup_type, builtinLookup_eq_fast]; kernel_rfl
theorem cm_sub : isSubtype (.type "itertools.combinations") (.type "itertools.combinations") = pure true := by rw [isSubtype_type]; kernel_rfl
theorem cm_init : Slot "itertools.combinations" "__init__" "object.__init__" := by
  refine Slot.of (owner := "object") (n := "__init__") ?_ (by decide +kernel) (by decide +kernel) (by decide +kernel) ?_ ?_
  · rw [typeLookup_type, builtinLookup_eq_fast]; kernel_rfl
  · first | exact .inl (by decide +kernel) | exact .inr (by decide +kernel)
  · rw [isSubtype_type]; kernel_rfl
theorem cm_iter : Slot "itertools.combinations" "__iter__" "itertools.combinations.__iter__" := by
  refine Slot.of (owner := "itertools.combinations") (n := "__iter__") ?_ (by decide +kernel) (by decide +kernel) (by decide +kernel) ?_ cm_sub
  · rw [typeLookup_type, builtinLookup_eq_fast]; kernel_rfl
  · first | exact .inl (by decide +kernel) | exact .inr (by decide +kernel)
theorem cm_next : Slot "itertools.combinations" "__next__" "itertools.combinations.__next__" := by
  refine Slot.of (owner := "itertools.combinations") (n := "__next__") ?_ (by decide +kernel) (by decide +kernel) (by decide +kernel) ?_ cm_sub
  · rw [typeLookup_type, builtinLookup_eq_fast]; kernel_rfl
  · first | exact .inl (by decide +kernel) | exact .inr (by decide +kernel)
theorem cm_called : TypeCalled "itertools.combinations" "itertools.combinations.__new__" "object.__init__" :=
  ⟨by decide +kernel, by decide +kernel, ⟨_, _, cm_mro⟩, madeBy_type cm_mro cm_look (by decide +kernel), by decide +kernel, cm_sub, cm_init⟩
theorem cm_call2 (a b : Value) : checkTypeCall "itertools.combinations" ⟨[a, b], []⟩ = pure () := by kernel_rfl
theorem cm_new2 (a b : Value) : checkBuiltinCall "itertools.combinations.__new__" ⟨[.type "itertools.combinations", a, b], []⟩ = pure () := by kernel_rfl
theorem cm_entN : entryFor table "itertools.combinations.__new__" = some Builtin.«itertools.combinations.__new__» := entryFor_of_tree (by kernel_rfl)
theorem cm_entI : entryFor table "itertools.combinations.__iter__" = some Builtin.«dict_keyiterator.__iter__» := by
  refine entryFor_alias (id' := "dict_keyiterator.__iter__") (by kernel_rfl) ?_ (by decide +kernel) (by kernel_rfl)
  first | rfl | decide +kernel | (unfold String.splitOn; simp +decide [String.splitOnAux])
theorem cm_entX : entryFor table "itertools.combinations.__next__" = some Builtin.«itertools.combinations.__next__» := entryFor_of_tree (by kernel_rfl)
theorem cm_owner : Manifest.owners.lookup (String.ofList ['s', 'n', 'o', 'i', 't', 'a', 'n', 'i', 'b', 'm', 'o', 'c', '.', 's', 'l', 'o', 'o', 't', 'r', 'e', 't', 'i'].reverse) = some Manifest.sig_itertools_combinations := by kernel_rfl
theorem cm_argI (a : Value) : argsOk "itertools.combinations.__iter__" ⟨[a], []⟩ := by
  unfold argsOk
  rw [signature?_of (id := "itertools.combinations.__iter__") (n := ['_', '_', 'r', 'e', 't', 'i', '_', '_']) (o := ['s', 'n', 'o', 'i', 't', 'a', 'n', 'i', 'b', 'm', 'o', 'c', '.', 's', 'l', 'o', 'o', 't', 'r', 'e', 't', 'i']) (by kernel_rfl) cm_owner]
  kernel_rfl
theorem cm_argX (a : Value) : argsOk "itertools.combinations.__next__" ⟨[a], []⟩ := by
  unfold argsOk
  rw [signature?_of (id := "itertools.combinations.__next__") (n := ['_', '_', 't', 'x', 'e', 'n', '_', '_']) (o := ['s', 'n', 'o', 'i', 't', 'a', 'n', 'i', 'b', 'm', 'o', 'c', '.', 's', 'l', 'o', 'o', 't', 'r', 'e', 't', 'i']) (by kernel_rfl) cm_owner]
  kernel_rfl
theorem cm_noDict : typeHasDict (.type "itertools.combinations") = false := by decide +kernel

/-- such a thing: its pool, how far it is, what it told last, the two places -/
abbrev IsCm (h : Heap) (it p : Addr) (st : Nat) (last : Value) (i j : Nat) : Prop :=
  h.get? it = some { cls := .type "itertools.combinations", dict := none, data := .fields #[.ref p, rawInt st, last, rawInt i, rawInt j], slots := #[] }
abbrev IsPool (h : Heap) (p : Addr) (us : List Value) : Prop := h.get? p = some { cls := .type "tuple", dict := none, data := .seq us.toArray, slots := #[] }
end Gx

namespace Gx
open PySem PySem.Spec
open Sem (wp)
theorem cm_new (l : Addr) (t : Tok) (us : List Value) (hsz : us.length ≤ sizeLine) :
    Meets (Builtin.«itertools.combinations.__new__» ⟨[.type "itertools.combinations", .ref l, .int 2 t], []⟩)
      (fun _ R s => s.heap.IsList l us.toArray ∧ ∀ h' : Heap, (∀ b o', s.heap.get? b = some o' → h'.get? b = some o') →
        R (.ok (.ret (.ref (h'.objs.size + 1)))) { s with heap := (h'.push { cls := .type "tuple", data := .seq us.toArray }).push { cls := .type "itertools.combinations", data := .fields #[.ref h'.objs.size, rawInt (if 2 > us.length then 2 else 0), .none, rawInt 0, rawInt 1] } }) :=
  .of_wp fun prog w A R s h => by
    obtain ⟨hp, g, d, tk, os⟩ := s
    obtain ⟨⟨o, ho, hc, n, hd⟩, h⟩ := h
    have hsub := cm_sub
    have hsub2 : isSubtype (.type "itertools.combinations") (.type ("itertools." ++ "combinations")) = pure true := by rw [show ("itertools." ++ "combinations" : String) = "itertools.combinations" by decide]; exact cm_sub
    have hbn : Builtin.Itertools.itBindNamed "combinations" ["iterable", "r"] 2 2 [.ref l, .int 2 t] [] = pure [some (.ref l), some (.int 2 t)] := by kernel_rfl
    have hnd := cm_noDict
    have hz : us.toArray.size ≤ sizeLine := by simpa using hsz
    wp_walk using wpAny_collect_seq (hsz := hz) l (.inl rfl) ho hc hd
    intro h' k
    have e0 : us.toArray.toList = us := rfl
    rw [e0]
    have hsz' : us.length ≤ sizeLine := hsz
    show wpAny _ _ (newTuple us >>= _) _ _ _
    refine wpAny_bind (wpAny_newTuple ?_ hsz')
    refine wpAny_pure ?_
    show wpAny _ _ (Builtin.Itertools.itNewRecord _ _ >>= _) _ _ _
    refine wpAny_bind ?_
    unfold Builtin.Itertools.itNewRecord
    rw [hnd]
    rw [if_pos (show (!false) = true from rfl)]
    refine wpAny_newObj_type ?_ (by show (5 : Nat) ≤ _; decide)
    refine wpAny_pure ⟨_, rfl, ?_⟩
    have := h h' k
    rw [Heap.size_push]
    exact this
end Gx

namespace Gx
open PySem PySem.Spec
open Sem (wp)
section
variable {prog : Program} {w : World} {A : Around} {E : Value → Shared → Prop} {s : Shared}
theorem cm_self {it p : Addr} {st : Nat} {last : Value} {i j : Nat} {Q : Value → Shared → Prop} (hit : IsCm s.heap it p st last i j) (h : Q (.ref it) s) : wpAny (model prog w) A (pyIter (.ref it)) Q E s := by
  have hT : s.TypeIs (.ref it) "itertools.combinations" := ⟨_, hit, rfl⟩
  refine wpAny_pyIter_slot hT cm_iter (wpAny_call_entry cm_iter hT cm_entI ?_ (cm_argI _))
  show wpAny _ _ (ret (.ref it)) _ _ s
  exact wpAny_pure ⟨_, rfl, "itertools.combinations", _, hT, cm_next.lookup, h⟩
theorem cm_stop {α : Type} {Q : α → Shared → Prop} (hh : A.handled = none)
    (hQ : ∀ e h', (∃ o, h'.get? e = some o ∧ o.cls = .type "StopIteration") → (∀ b o, s.heap.get? b = some o → h'.get? b = some o) → E (.ref e) { s with heap := h' }) :
    wpAny (model prog w) A (Builtin.Itertools.itStop : Sem α) Q E s := by
  unfold Builtin.Itertools.itStop
  refine wpAny_bind ?_
  simp only [newExc, newTuple]
  refine wpAny_bind (wpAny_newObj_type ?_ (by size_fits))
  refine wpAny_bind (m := firstArgMember _ _) (wpAny_of_eq (a := Value.none) (by first | rfl | (simp only [firstArgMember]; rfl)) ?_)
  refine wpAny_newObj_type ?_ (by size_fits)
  simp only [raiseNew]
  refine wpAny_bind (wpAny_handled ?_)
  rw [hh]
  refine wpAny_bind (wpAny_pure (wpAny_throw ?_))
  exact hQ _ _ ⟨_, Heap.get?_push_size _ rfl, rfl⟩ fun b o e => Heap.get?_push_of_some _ (Heap.get?_push_of_some _ e)
/-- the two things at the places are handed out -/
theorem cm_pick {p : Addr} {i j : Nat} {x y : Value} {us : List Value} {Q : Value → Shared → Prop} (hp : IsPool s.heap p us) (hx : us[i]? = some x) (hy : us[j]? = some y)
    (hQ : Q (.ref s.heap.objs.size) { s with heap := s.heap.push { cls := .type "tuple", data := .seq #[x, y] } }) :
    wpAny (model prog w) A (Builtin.Itertools.itPoolItems (.ref p) >>= fun items => newTuple ([i, j].map fun k => items.getD k .none)) Q E s := by
  refine wpAny_bind ?_
  unfold Builtin.Itertools.itPoolItems
  refine wpAny_bind (wpAny_seqItems hp rfl (wpAny_pure ?_))
  have ex : us.toArray.getD i Value.none = x := by simp [Array.getD_eq_getD_getElem?, hx]
  have ey : us.toArray.getD j Value.none = y := by simp [Array.getD_eq_getD_getElem?, hy]
  show wpAny _ _ (newTuple [us.toArray.getD i Value.none, us.toArray.getD j Value.none]) _ _ _
  rw [ex, ey]
  exact wpAny_newTuple hQ (by show 2 ≤ sizeLine; decide)
theorem cm_apart {h : Heap} {it p : Addr} {st : Nat} {last : Value} {i j : Nat} {us : List Value} (hp : IsPool h p us) (hit : IsCm h it p st last i j) : p ≠ it := fun e => by
  rw [e] at hp
  have h1 := Option.some.inj (hp.symm.trans hit)
  have h2 := congrArg Obj.data h1
  exact nomatch h2
theorem cm_hand {it p : Addr} {st : Nat} {last : Value} {i j a b : Nat} {x y : Value} {us : List Value} {Q : Value → Shared → Prop} (hit : IsCm s.heap it p st last a b) (hp : IsPool s.heap p us) (hx : us[i]? = some x) (hy : us[j]? = some y)
    (hQ : ∀ h', IsCm h' it p st (.ref s.heap.objs.size) a b → IsPair h' s.heap.objs.size x y → h'.objs.size = s.heap.objs.size + 1 → (∀ c o, c ≠ it → s.heap.get? c = some o → h'.get? c = some o) → Q (.ref s.heap.objs.size) { s with heap := h' }) :
    wpAny (model prog w) A ((Builtin.Itertools.itPoolItems (.ref p) >>= fun items => newTuple ([i, j].map fun k => items.getD k .none)) >>= fun result => field (.ref it) 2 >>= fun before => setField (.ref it) 2 result >>= fun _ => letGo [before] [result] >>= fun _ => ret result)
      (fun fin s' => ∃ v, fin = .done (.ret v) ∧ Q v s') E s := by
  refine wpAny_bind (cm_pick hp hx hy ?_)
  have hit1 : IsCm (s.heap.push { cls := .type "tuple", data := .seq #[x, y] }) it p st last a b := Heap.get?_push_of_some _ hit
  refine wpAny_bind (wpAny_field hit1 rfl (x := last) rfl ?_)
  refine wpAny_bind (wpAny_setField_rec hit1 (by simp) fun h2 hit2 sb2 => ?_)
  refine wpAny_bind (wpAny_letGo ?_)
  have lt : it < s.heap.objs.size := Heap.lt_size hit
  refine wpAny_pure ⟨_, rfl, hQ h2 hit2 ((sb2.2 _ (Nat.ne_of_gt lt)).trans (Heap.get?_push_size _ rfl)) (by rw [sb2.1, Heap.size_push]) fun c o hc e => (sb2.2 c hc).trans (Heap.get?_push_of_some _ e)⟩
/-- what the next step does with the two places -/
theorem cm_item0 {it p : Addr} {i j : Nat} {x y : Value} {us : List Value} {Q : Value → Shared → Prop} (hit : IsCm s.heap it p 0 .none i j) (hp : IsPool s.heap p us) (hx : us[i]? = some x) (hy : us[j]? = some y)
    (hQ : ∀ h', IsCm h' it p 1 (.ref s.heap.objs.size) i j → IsPair h' s.heap.objs.size x y → h'.objs.size = s.heap.objs.size + 1 → (∀ c o, c ≠ it → s.heap.get? c = some o → h'.get? c = some o) → Q (.ref s.heap.objs.size) { s with heap := h' }) :
    wpAny (model prog w) A (Builtin.«itertools.combinations.__next__» ⟨[.ref it], []⟩) (fun fin s' => ∃ v, fin = .done (.ret v) ∧ Q v s') E s := by
  show wpAny _ _ (field (.ref it) 0 >>= _) _ _ s
  refine wpAny_bind (wpAny_field hit rfl (x := .ref p) rfl ?_)
  show wpAny _ _ (Builtin.Itertools.itNumbersFrom (.ref it) 3 >>= _) _ _ s
  refine wpAny_bind ?_
  unfold Builtin.Itertools.itNumbersFrom
  refine wpAny_bind (wpAny_load hit ?_)
  refine wpAny_pure ?_
  show wpAny _ _ (Builtin.Itertools.itIntField (.ref it) 1 >>= _) _ _ s
  refine wpAny_bind ?_
  unfold Builtin.Itertools.itIntField
  refine wpAny_bind (wpAny_field hit rfl (x := rawInt 0) rfl ?_)
  refine wpAny_pure ?_
  show wpAny _ _ (setField (.ref it) 1 (rawInt 1) >>= _) _ _ s
  refine wpAny_bind (wpAny_setField_rec hit (by simp) fun h1 hit1 sb1 => ?_)
  have hp1 : IsPool h1 p us := (sb1.2 p (cm_apart hp hit)).trans hp
  replace hit1 : IsCm h1 it p 1 .none i j := hit1
  refine cm_hand (s := { s with heap := h1 }) hit1 hp1 hx hy fun h' a b c d => ?_
  have e1 : h1.objs.size = s.heap.objs.size := sb1.1
  have a' : IsCm h' it p 1 (.ref h1.objs.size) i j := a
  have b' : IsPair h' h1.objs.size x y := b
  have c' : h'.objs.size = h1.objs.size + 1 := c
  show Q (.ref h1.objs.size) _
  rw [e1] at a' b' c' ⊢
  exact hQ h' a' b' c' fun q o hq e => d q o hq ((sb1.2 q hq).trans e)
theorem cm_item1 {it p : Addr} {i j a b : Nat} {x y last : Value} {us : List Value} {Q : Value → Shared → Prop} (hit : IsCm s.heap it p 1 last a b) (hp : IsPool s.heap p us) (hn : (b + 1 < us.length ∧ i = a ∧ j = b + 1) ∨ (b + 1 = us.length ∧ a + 2 < us.length ∧ i = a + 1 ∧ j = a + 2)) (hx : us[i]? = some x) (hy : us[j]? = some y)
    (hQ : ∀ h', IsCm h' it p 1 (.ref s.heap.objs.size) i j → IsPair h' s.heap.objs.size x y → h'.objs.size = s.heap.objs.size + 1 → (∀ c o, c ≠ it → s.heap.get? c = some o → h'.get? c = some o) → Q (.ref s.heap.objs.size) { s with heap := h' }) :
    wpAny (model prog w) A (Builtin.«itertools.combinations.__next__» ⟨[.ref it], []⟩) (fun fin s' => ∃ v, fin = .done (.ret v) ∧ Q v s') E s := by
  show wpAny _ _ (field (.ref it) 0 >>= _) _ _ s
  refine wpAny_bind (wpAny_field hit rfl (x := .ref p) rfl ?_)
  show wpAny _ _ (Builtin.Itertools.itNumbersFrom (.ref it) 3 >>= _) _ _ s
  refine wpAny_bind ?_
  unfold Builtin.Itertools.itNumbersFrom
  refine wpAny_bind (wpAny_load hit ?_)
  refine wpAny_pure ?_
  show wpAny _ _ (Builtin.Itertools.itIntField (.ref it) 1 >>= _) _ _ s
  refine wpAny_bind ?_
  unfold Builtin.Itertools.itIntField
  refine wpAny_bind (wpAny_field hit rfl (x := rawInt 1) rfl ?_)
  refine wpAny_pure ?_
  show wpAny _ _ (Builtin.Itertools.itPoolItems (.ref p) >>= _) _ _ s
  refine wpAny_bind ?_
  unfold Builtin.Itertools.itPoolItems
  refine wpAny_bind (wpAny_seqItems hp rfl (wpAny_pure ?_))
  have key : (match List.find? (fun k => [a, b].getD k 0 != k + us.toArray.size - 2) [1, 0] with | none => (none : Option (List Nat)) | some k => some ([a, b].take k ++ (List.range (2 - k)).map fun m => [a, b].getD k 0 + 1 + m)) = some [i, j] := by
    rw [List.size_toArray]
    rcases hn with ⟨h1, rfl, rfl⟩ | ⟨h1, h2, rfl, rfl⟩
    · rw [List.find?_cons_of_pos (by simp; omega)]
      rfl
    · rw [List.find?_cons_of_neg (by simp; omega), List.find?_cons_of_pos (by simp; omega)]
      rfl
  split
  · next nx e =>
    have e2 : some nx = some [i, j] := e.symm.trans key
    cases e2
    show wpAny _ _ (Builtin.Itertools.itSetNumbersFrom (.ref it) 3 [i, j] >>= _) _ _ s
    unfold Builtin.Itertools.itSetNumbersFrom
    refine wpAny_bind (wpAny_updateFields hit rfl ?_ (by show (5 : Nat) ≤ _; decide))
    have hit1 : IsCm (s.heap.update it (Obj.mapFields fun fs => fs.extract 0 3 ++ ([i, j].map fun (n : Nat) => rawInt n).toArray)) it p 1 last i j := Heap.get?_update_self _ hit rfl
    have sb : Heap.SameBut it s.heap (s.heap.update it (Obj.mapFields fun fs => fs.extract 0 3 ++ ([i, j].map fun (n : Nat) => rawInt n).toArray)) := Heap.SameBut.update ..
    generalize (s.heap.update it (Obj.mapFields fun fs => fs.extract 0 3 ++ ([i, j].map fun (n : Nat) => rawInt n).toArray)) = h1 at *
    have hp1 : IsPool h1 p us := (sb.2 p (cm_apart hp hit)).trans hp
    refine cm_hand (s := { s with heap := h1 }) hit1 hp1 hx hy fun h' q1 q2 q3 q4 => ?_
    have e1 : h1.objs.size = s.heap.objs.size := sb.1
    have a' : IsCm h' it p 1 (.ref h1.objs.size) i j := q1
    have b' : IsPair h' h1.objs.size x y := q2
    have c' : h'.objs.size = h1.objs.size + 1 := q3
    show Q (.ref h1.objs.size) _
    rw [e1] at a' b' c' ⊢
    exact hQ h' a' b' c' fun q o hq e => q4 q o hq ((sb.2 q hq).trans e)
  · next e => exact nomatch e.symm.trans key
theorem cm_end1 {it p : Addr} {a b : Nat} {last : Value} {us : List Value} {Q : Fin → Shared → Prop} (hh : A.handled = none) (hit : IsCm s.heap it p 1 last a b) (hp : IsPool s.heap p us) (h1 : b + 1 = us.length) (h2 : us.length ≤ a + 2) (h3 : a < b)
    (hE : ∀ e h', (∃ o, h'.get? e = some o ∧ o.cls = .type "StopIteration") → (∀ c o, c ≠ it → s.heap.get? c = some o → h'.get? c = some o) → E (.ref e) { s with heap := h' }) :
    wpAny (model prog w) A (Builtin.«itertools.combinations.__next__» ⟨[.ref it], []⟩) Q E s := by
  show wpAny _ _ (field (.ref it) 0 >>= _) _ _ s
  refine wpAny_bind (wpAny_field hit rfl (x := .ref p) rfl ?_)
  show wpAny _ _ (Builtin.Itertools.itNumbersFrom (.ref it) 3 >>= _) _ _ s
  refine wpAny_bind ?_
  unfold Builtin.Itertools.itNumbersFrom
  refine wpAny_bind (wpAny_load hit ?_)
  refine wpAny_pure ?_
  show wpAny _ _ (Builtin.Itertools.itIntField (.ref it) 1 >>= _) _ _ s
  refine wpAny_bind ?_
  unfold Builtin.Itertools.itIntField
  refine wpAny_bind (wpAny_field hit rfl (x := rawInt 1) rfl ?_)
  refine wpAny_pure ?_
  show wpAny _ _ (Builtin.Itertools.itPoolItems (.ref p) >>= _) _ _ s
  refine wpAny_bind ?_
  unfold Builtin.Itertools.itPoolItems
  refine wpAny_bind (wpAny_seqItems hp rfl (wpAny_pure ?_))
  have key : (match List.find? (fun k => [a, b].getD k 0 != k + us.toArray.size - 2) [1, 0] with | none => (none : Option (List Nat)) | some k => some ([a, b].take k ++ (List.range (2 - k)).map fun m => [a, b].getD k 0 + 1 + m)) = none := by
    rw [List.size_toArray]
    rw [List.find?_cons_of_neg (by simp; omega), List.find?_cons_of_neg (by simp; omega)]
    rfl
  split
  · next nx e => exact nomatch e.symm.trans key
  · show wpAny _ _ (setField (.ref it) 1 (rawInt 2) >>= _) _ _ s
    refine wpAny_bind (wpAny_setField_rec hit (by simp) fun h5 hit5 sb5 => ?_)
    exact cm_stop (s := { s with heap := h5 }) hh fun e h' he k => hE e h' he fun c o hc q => k c o ((sb5.2 c hc).trans q)
theorem cm_end2 {it p : Addr} {a b : Nat} {last : Value} {Q : Fin → Shared → Prop} (hh : A.handled = none) (hit : IsCm s.heap it p 2 last a b)
    (hE : ∀ e h', (∃ o, h'.get? e = some o ∧ o.cls = .type "StopIteration") → (∀ c o, c ≠ it → s.heap.get? c = some o → h'.get? c = some o) → E (.ref e) { s with heap := h' }) :
    wpAny (model prog w) A (Builtin.«itertools.combinations.__next__» ⟨[.ref it], []⟩) Q E s := by
  show wpAny _ _ (field (.ref it) 0 >>= _) _ _ s
  refine wpAny_bind (wpAny_field hit rfl (x := .ref p) rfl ?_)
  show wpAny _ _ (Builtin.Itertools.itNumbersFrom (.ref it) 3 >>= _) _ _ s
  refine wpAny_bind ?_
  unfold Builtin.Itertools.itNumbersFrom
  refine wpAny_bind (wpAny_load hit ?_)
  refine wpAny_pure ?_
  show wpAny _ _ (Builtin.Itertools.itIntField (.ref it) 1 >>= _) _ _ s
  refine wpAny_bind ?_
  unfold Builtin.Itertools.itIntField
  refine wpAny_bind (wpAny_field hit rfl (x := rawInt 2) rfl ?_)
  refine wpAny_pure ?_
  show wpAny _ _ (rule "itertools.combinations.ended" >>= _) _ _ s
  refine wpAny_bind (wpAny_rule ?_)
  exact cm_stop hh fun e h' he k => hE e h' he fun c o _ q => k c o q
/-- the next one -/
theorem cm_pyItem {it : Addr} {Q : Option Value → Shared → Prop} (hT : s.TypeIs (.ref it) "itertools.combinations")
    (h : ∀ E' : Value → Shared → Prop, wpAny (model prog w) A.in1 (Builtin.«itertools.combinations.__next__» ⟨[.ref it], []⟩) (fun fin s' => ∃ v, fin = .done (.ret v) ∧ Q (some v) s') E' s) : wpAny (model prog w) A (pyNext (.ref it)) Q E s := by
  unfold pyNext
  refine wpAny_bind (wpAny_attempt (wpAny_callSpecial?_slot (name := Str.ofString "__next__") hT cm_next (wpAny_call_entry cm_next hT cm_entX ?_ (cm_argX _))))
  exact wpAny_mono (h _) (fun fin s' ⟨v, e, q⟩ => ⟨v, e, wpAny_pure q⟩) fun _ _ x => x
theorem cm_pyEnd {it : Addr} {Q : Option Value → Shared → Prop} (hT : s.TypeIs (.ref it) "itertools.combinations")
    (h : ∀ Q' : Fin → Shared → Prop, wpAny (model prog w) A.in1 (Builtin.«itertools.combinations.__next__» ⟨[.ref it], []⟩) Q' (fun e s' => ∃ a, e = .ref a ∧ (∃ o, s'.heap.get? a = some o ∧ o.cls = .type "StopIteration") ∧ Q none s') s) : wpAny (model prog w) A (pyNext (.ref it)) Q E s := by
  unfold pyNext
  refine wpAny_bind (wpAny_attempt (wpAny_callSpecial?_slot (name := Str.ofString "__next__") hT cm_next (wpAny_call_entry cm_next hT cm_entX ?_ (cm_argX _))))
  refine wpAny_mono (h _) (fun _ _ x => x) fun e s' ⟨a, ea, ⟨o, ho, hc⟩, q⟩ => ?_
  subst ea
  refine wpAny_bind (wpAny_isInstance (T := "StopIteration") (b := true) ⟨o, ho, hc⟩ isSubtype_stop ?_)
  exact wpAny_pure q
end
end Gx

/-! a loop over combinations(xs, 2) -/
namespace Gx
open PySem PySem.Spec PyProof.Rows L2
/-- all two of a list, by their places -/
def combos {α : Type} : List α → List (α × α)
  | [] => []
  | x :: xs => (xs.map fun y => (x, y)) ++ combos xs
def idxs : Nat → Nat → List (Nat × Nat)
  | _, 0 => []
  | i, m + 1 => ((List.range m).map fun k => (i, i + 1 + k)) ++ idxs (i + 1) m
def later2 (n i j : Nat) : List (Nat × Nat) := ((List.range (n - 1 - j)).map fun k => (i, j + 1 + k)) ++ idxs (i + 1) (n - 1 - i)
theorem range_head (m : Nat) {α : Type} (f : Nat → α) : (List.range (m + 1)).map f = f 0 :: (List.range m).map fun k => f (k + 1) := by
  rw [List.range_succ_eq_map, List.map_cons, List.map_map]
  rfl
theorem later2_next {n i j : Nat} (h : j + 1 < n) : later2 n i j = (i, j + 1) :: later2 n i (j + 1) := by
  unfold later2
  rw [show n - 1 - j = (n - 1 - (j + 1)) + 1 by omega, range_head]
  simp only [List.cons_append, Nat.add_zero]
  congr 2
  refine List.map_congr_left fun k _ => ?_
  rw [show j + 1 + (k + 1) = j + 1 + 1 + k by omega]
theorem later2_row {n i j : Nat} (h : j + 1 = n) (h2 : i + 2 < n) : later2 n i j = (i + 1, i + 2) :: later2 n (i + 1) (i + 2) := by
  unfold later2
  rw [show n - 1 - j = 0 by omega, List.range_zero, List.map_nil, List.nil_append, show n - 1 - i = (n - 1 - (i + 2)) + 1 + 1 by omega, idxs, range_head]
  simp only [List.cons_append, Nat.add_zero]
  rw [show n - 1 - (i + 1) = (n - 1 - (i + 2)) + 1 by omega]
  congr 2
  refine List.map_congr_left fun k _ => ?_
  rw [show i + 1 + 1 + (k + 1) = i + 2 + 1 + k by omega]
theorem later2_end {n i j : Nat} (h : j + 1 = n) (h2 : n ≤ i + 2) : later2 n i j = [] := by
  unfold later2
  rw [show n - 1 - j = 0 by omega, List.range_zero, List.map_nil, List.nil_append]
  rcases (by omega : n - 1 - i = 0 ∨ n - 1 - i = 1) with e | e
  · rw [e]; rfl
  · rw [e]; rfl
theorem idxs_first {n : Nat} (h : 2 ≤ n) : idxs 0 n = (0, 1) :: later2 n 0 1 := by
  obtain ⟨m, rfl⟩ : ∃ m, n = m + 1 + 1 := ⟨n - 2, by omega⟩
  unfold later2
  rw [idxs, range_head]
  simp only [List.cons_append, Nat.add_zero]
  rw [show m + 1 + 1 - 1 - 1 = m by omega, show m + 1 + 1 - 1 - 0 = m + 1 by omega]
  congr 2
  refine List.map_congr_left fun k _ => ?_
  rw [show 0 + 1 + (k + 1) = 1 + 1 + k by omega]
theorem idxs_none {n : Nat} (h : n < 2) : idxs 0 n = [] := by
  rcases (by omega : n = 0 ∨ n = 1) with e | e
  · rw [e]; rfl
  · rw [e]; rfl
theorem combos_idx {α : Type} (d : α) (xs : List α) : ∀ (m i : Nat), i + m = xs.length → combos (xs.drop i) = (idxs i m).map fun p => (xs.getD p.1 d, xs.getD p.2 d)
  | 0, i, h => by rw [List.drop_of_length_le (by omega)]; rfl
  | m + 1, i, h => by
    have hi : i < xs.length := by omega
    rw [List.drop_eq_getElem_cons hi, combos, combos_idx d xs m (i + 1) (by omega), idxs, List.map_append, List.map_map]
    congr 1
    have e : xs.drop (i + 1) = (List.range m).map fun k => xs.getD (i + 1 + k) d := by
      refine List.ext_getElem? fun k => ?_
      rw [List.getElem?_drop, List.getElem?_map]
      by_cases hk : k < m
      · rw [List.getElem?_range hk, List.getElem?_eq_getElem (by omega)]
        simp [List.getD, List.getElem?_eq_getElem (show i + 1 + k < xs.length by omega)]
      · rw [List.getElem?_eq_none (by omega), List.getElem?_eq_none (by simp; omega)]
        rfl
    rw [e, List.map_map]
    refine List.map_congr_left fun k _ => ?_
    simp [List.getD, List.getElem?_eq_getElem hi]
theorem combos_all {α : Type} (d : α) (xs : List α) : combos xs = (idxs 0 xs.length).map fun p => (xs.getD p.1 d, xs.getD p.2 d) := by
  have := combos_idx d xs xs.length 0 (Nat.zero_add _)
  rwa [List.drop_zero] at this
/-- what is handed out -/
def Itm (ps : List (V × V)) : It :=
  ⟨fun i _ => i < ps.length, fun i H v H' => ∃ T x y, v = .ref T ∧ H T = none ∧ H' = upd H T (.tup [x, y]) ∧ ps[i]? = some (x, y), fun i _ => ps.length ≤ i⟩
def CmAt (n : Nat) (it p : Addr) (us : List Value) (i : Nat) (h : Heap) : Prop := IsPool h p us ∧
  ((n < 2 ∧ ∃ last a b, IsCm h it p 2 last a b) ∨ (2 ≤ n ∧ i = 0 ∧ IsCm h it p 0 .none 0 1) ∨ ∃ k last a b, i = k + 1 ∧ IsCm h it p 1 last a b ∧ a < b ∧ b < n ∧ (idxs 0 n).drop (k + 1) = later2 n a b)
theorem CmAt.typ {n : Nat} {it p : Addr} {us : List Value} {i : Nat} {s : Shared} (h : CmAt n it p us i s.heap) : s.TypeIs (.ref it) "itertools.combinations" := by
  obtain ⟨_, ⟨_, _, _, _, h⟩ | ⟨_, _, h⟩ | ⟨_, _, _, _, _, h, _⟩⟩ := h
  · exact ⟨_, h, rfl⟩
  · exact ⟨_, h, rfl⟩
  · exact ⟨_, h, rfl⟩
theorem turn_cm {P : Program} {w : World} {K : PySem.W.Frag} {tg : Expr} {it p : Addr} {xs : List V} {us : List Value} (rv : Vals xs us) :
    Turn P w K tg (Itm (combos xs)) [it, p] it (CmAt xs.length it p us) where
  mem := by simp
  obj := fun i h st c hc => by
    obtain ⟨hp, st⟩ := st
    have e : c = it ∨ c = p := by simpa using hc
    rcases e with e | e
    · rw [e]
      rcases st with ⟨_, _, _, _, h⟩ | ⟨_, _, h⟩ | ⟨_, _, _, _, _, h, _⟩
      · exact ⟨_, h, fun v q => nomatch q⟩
      · exact ⟨_, h, fun v q => nomatch q⟩
      · exact ⟨_, h, fun v q => nomatch q⟩
    · rw [e]; exact ⟨_, hp, fun v q => nomatch q⟩
  keep := fun i h h' st k => by
    obtain ⟨hp, st⟩ := st
    refine ⟨k p (by simp) _ hp, ?_⟩
    rcases st with ⟨a1, a2, a3, a4, h⟩ | ⟨a1, a2, h⟩ | ⟨a1, a2, a3, a4, a5, h, a6⟩
    · exact .inl ⟨a1, a2, a3, a4, k it (by simp) _ h⟩
    · exact .inr (.inl ⟨a1, a2, k it (by simp) _ h⟩)
    · exact .inr (.inr ⟨a1, a2, a3, a4, a5, k it (by simp) _ h, a6⟩)
  item := by
    intro X hP hw hK hc i pins s σ H E I hf st hg
    subst hP hw hK
    have hT := st.typ
    obtain ⟨hp, st⟩ := st
    replace hg : i < (combos xs).length := hg
    have hl := rv.length
    have ce := combos_all V.non xs
    -- the places of this turn
    have fin : ∀ (a b : Nat), a < xs.length → b < xs.length → (idxs 0 xs.length)[i]? = some (a, b) → (idxs 0 xs.length).drop (i + 1) = later2 xs.length a b → a < b →
        (∀ (x y : Value) (Q : Value → Shared → Prop) (E' : Value → Shared → Prop), us[a]? = some x → us[b]? = some y →
          (∀ h', IsCm h' it p 1 (.ref s.heap.objs.size) a b → IsPair h' s.heap.objs.size x y → h'.objs.size = s.heap.objs.size + 1 → (∀ c o, c ≠ it → s.heap.get? c = some o → h'.get? c = some o) → Q (.ref s.heap.objs.size) { s with heap := h' }) →
          wpAny (model X.prog X.w) X.A.in1 (Builtin.«itertools.combinations.__next__» ⟨[.ref it], []⟩) (fun fin s' => ∃ v, fin = .done (.ret v) ∧ Q v s') E' s) →
        wpAny (model X.prog X.w) X.A (pyNext (.ref it)) (fun r s1 => ∃ u, r = some u ∧
          wpAny (model X.prog X.w) X.A (letOwnedTupleGo tg (.ref it) u) (fun _ s2 => ∃ x H', Inv X pins σ H' s2 ∧ RelV x u ∧ (Itm (combos xs)).yld i H x H' ∧ CmAt xs.length it p us (i + 1) s2.heap ∧ ∀ b ∈ [it, p], H' b = none) E s1) E s := by
      intro a b ha hb hi hd hab step
      have ea : xs[a]? = some (xs.getD a V.non) := by rw [List.getD, List.getElem?_eq_getElem ha]; rfl
      have eb : xs[b]? = some (xs.getD b V.non) := by rw [List.getD, List.getElem?_eq_getElem hb]; rfl
      obtain ⟨u, hu, ru⟩ := rv.get ea
      obtain ⟨u2, hu2, ru2⟩ := rv.get eb
      refine cm_pyItem hT fun E' => step u u2 (fun v s' => ∃ u, some v = some u ∧ _) E' hu hu2 fun h' a1 a2 a3 a4 => ⟨_, rfl, go_of (s := { s with heap := h' }) a1 rfl rfl (by decide) ?_⟩
      have pit : p ≠ it := fun e => by
        obtain ⟨o, ho, hco⟩ := hT
        rw [e] at hp
        have := Option.some.inj (hp.symm.trans ho)
        rw [← this] at hco
        simp at hco
      · have new : ObjOk X.prog X.w (upd H s.heap.objs.size (.tup [xs.getD a V.non, xs.getD b V.non])) h' s.heap.objs.size (.tup [xs.getD a V.non, xs.getD b V.non]) :=
          ⟨by show 2 ≤ sizeLine; decide, [u, u2], .cons ru (.cons ru2 .nil), ⟨_, a2, rfl, _, rfl⟩⟩
        have I1 : Inv X pins σ (upd H s.heap.objs.size (.tup [xs.getD a V.non, xs.getD b V.non])) { s with heap := h' } :=
          I.turnedNew (t' := s.toks) (ch := [it]) (fun c o hb q => a4 c o (fun e => hb (by simp [e])) q) (fun c hc => hf c (by simp at hc ⊢; exact .inl hc)) (Nat.le_refl _) new
        refine ⟨.ref s.heap.objs.size, _, I1, rfl, ⟨_, _, _, rfl, I.hok.fresh (Nat.le_refl _), rfl, ?_⟩, ⟨a4 p _ pit hp, .inr (.inr ⟨i, _, a, b, rfl, a1, hab, hb, hd⟩)⟩, fun c hc => ?_⟩
        · rw [ce, List.getElem?_map, hi]; rfl
        · have lt : c < s.heap.objs.size := by
            have e : c = it ∨ c = p := by simpa using hc
            rcases e with e | e
            · rw [e]; obtain ⟨o, ho, _⟩ := hT; exact Heap.lt_size ho
            · rw [e]; exact Heap.lt_size hp
          rw [upd_ne (Nat.ne_of_lt lt)]
          exact (hf c hc).1
    have hn : ∀ {k : Nat}, (idxs 0 xs.length).length = k → i < k := fun {k} e => by rw [← e]; rw [ce, List.length_map] at hg; exact hg
    have hi : i < (idxs 0 xs.length).length := hn rfl
    rcases st with ⟨n2, last, a, b, hit⟩ | ⟨n2, rfl, hit⟩ | ⟨k, last, a, b, rfl, hit, hab, hb, hd⟩
    · rw [idxs_none n2] at hi; exact absurd hi (by simp)
    · refine fin 0 1 (by omega) (by omega) (by rw [idxs_first n2]; rfl) (by rw [idxs_first n2]; rfl) (by omega) fun x y Q E' hx hy hQ => cm_item0 hit hp hx hy hQ
    · have hb' : b < us.length := by omega
      by_cases c1 : b + 1 < xs.length
      · rw [later2_next c1] at hd
        refine fin a (b + 1) (by omega) c1 ?_ ?_ (by omega) fun x y Q E' hx hy hQ => cm_item1 hit hp (.inl ⟨by omega, rfl, rfl⟩) hx hy hQ
        · have := congrArg (fun l : List (Nat × Nat) => l[0]?) hd
          simpa using this
        · have := congrArg (fun l : List (Nat × Nat) => l.drop 1) hd
          simpa [List.drop_drop] using this
      · have hb1 : b + 1 = xs.length := by omega
        by_cases c2 : a + 2 < xs.length
        · rw [later2_row hb1 c2] at hd
          refine fin (a + 1) (a + 2) (by omega) c2 ?_ ?_ (by omega) fun x y Q E' hx hy hQ => cm_item1 hit hp (.inr ⟨by omega, by omega, rfl, rfl⟩) hx hy hQ
          · have := congrArg (fun l : List (Nat × Nat) => l[0]?) hd
            simpa using this
          · have := congrArg (fun l : List (Nat × Nat) => l.drop 1) hd
            simpa [List.drop_drop] using this
        · rw [later2_end hb1 (by omega)] at hd
          have := congrArg List.length hd
          rw [List.length_drop, List.length_nil] at this
          omega
  done := by
    intro X hP hw hK hc i pins s σ H E I hf st hg
    subst hP hw hK
    have hT := st.typ
    obtain ⟨hp, st⟩ := st
    replace hg : (combos xs).length ≤ i := hg
    have hl := rv.length
    rw [combos_all V.non xs, List.length_map] at hg
    have hend : ∀ (e : Value) (h' : Heap), (∀ c o, c ≠ it → s.heap.get? c = some o → h'.get? c = some o) → Inv X pins σ H { s with heap := h' } := fun e h' k =>
      I.turnedL (t' := s.toks) (ch := [it]) (fun c o hb q => k c o (fun e => hb (by simp [e])) q) fun c hc => hf c (by simp at hc ⊢; exact .inl hc)
    rcases st with ⟨n2, last, a, b, hit⟩ | ⟨n2, rfl, hit⟩ | ⟨k, last, a, b, rfl, hit, hab, hb, hd⟩
    · exact cm_pyEnd hT fun Q' => cm_end2 (I.ok.hd hc) hit fun e h' q k => ⟨e, rfl, q, rfl, hend (.ref e) h' k⟩
    · rw [idxs_first n2] at hg; exact absurd hg (by simp)
    · have c1 : ¬ b + 1 < xs.length := fun c1 => by
        rw [later2_next c1] at hd
        have := congrArg List.length hd
        rw [List.length_drop, List.length_cons] at this
        omega
      have hb1 : b + 1 = xs.length := by omega
      have c2 : ¬ a + 2 < xs.length := fun c2 => by
        rw [later2_row hb1 c2] at hd
        have := congrArg List.length hd
        rw [List.length_drop, List.length_cons] at this
        omega
      exact cm_pyEnd hT fun Q' => cm_end1 (I.ok.hd hc) hit hp (by omega) (by omega) hab fun e h' q k => ⟨e, rfl, q, rfl, hend (.ref e) h' k⟩
  self := fun A i s Q E st h => by
    obtain ⟨_, ⟨_, _, _, _, q⟩ | ⟨_, _, q⟩ | ⟨_, _, _, _, _, q, _⟩⟩ := st
    · exact cm_self q h
    · exact cm_self q h
    · exact cm_self q h
/-- combinations(xs, 2) of a list -/
def iComb (K : PySem.W.Frag) (ta : TA) : TI := fun σ H R => ta σ H fun vs H1 => ∃ (a : Addr) (xs : List V), vs = [.ref a, .int 2] ∧ SqL K H1 a xs ∧ R (Itm (combos xs)) H1
theorem pi_comb {X : Cx} {tg e e2 : Expr} {ta : TA} {p pos : Pos} (hg : Gl X "combinations") (hm : X.mg "combinations" = some (.type "itertools.combinations")) (ha : PA X [e, e2] ta)
    (hs : starEach [e, e2] X.env = (false, eval e X.env) :: starEach [e2] X.env := by rfl) (hpl : (backTo pos (starEach [e2] X.env)).any (·.1) = false := by rfl) :
    PI X tg (.Call (.Name "combinations" p) [e, e2] [] pos) (iComb X.K ta) := by
  refine ⟨fun pins s σ H R I h => ?_⟩
  refine Call_ (ld_glob I hg hm (PyProof.Rows.callWith_type1 (thn (ha.run pos pins s σ H _ I h) fun us s1 ⟨vs, H1, I1, r1, q1⟩ => ?_) hs hpl))
  obtain ⟨a, xs, ex, hq, q⟩ := q1
  subst ex
  cases r1 with
  | cons r rr =>
    cases rr with
    | cons r' rr =>
      cases rr
      cases r
      obtain ⟨t, rfl⟩ := r'
      obtain ⟨its, rv, p1, hz⟩ := I1.list hq
      have hl := rv.length
      refine callType_new cm_called (by decide) (cm_call2 _ _) (cm_new2 _ _) (fun obj => F.args_object_init_3 obj _ _) cm_entN (cm_new a t its ?_) ⟨p1.isList, fun h' k => ?_⟩
      · omega
      · have z1 : (h'.push { cls := .type "tuple", data := .seq its.toArray }).objs.size = h'.objs.size + 1 := Heap.size_push ..
        have g1 := Heap.get?_push_size (h'.push { cls := .type "tuple", data := .seq its.toArray }) (o := { cls := .type "itertools.combinations", data := .fields #[.ref h'.objs.size, rawInt (if 2 > its.length then 2 else 0), .none, rawInt 0, rawInt 1] }) rfl
        rw [z1] at g1
        have g0 : ((h'.push { cls := .type "tuple", data := .seq its.toArray }).push { cls := .type "itertools.combinations", data := .fields #[.ref h'.objs.size, rawInt (if 2 > its.length then 2 else 0), .none, rawInt 0, rawInt 1] }).get? h'.objs.size = some _ := Heap.get?_push_of_some _ (Heap.get?_push_size _ rfl)
        have kk : ∀ b o, s1.heap.get? b = some o → ((h'.push { cls := .type "tuple", data := .seq its.toArray }).push { cls := .type "itertools.combinations", data := .fields #[.ref h'.objs.size, rawInt (if 2 > its.length then 2 else 0), .none, rawInt 0, rawInt 1] }).get? b = some o := fun b o e => Heap.get?_push_of_some _ (Heap.get?_push_of_some _ (k b o e))
        generalize ((h'.push { cls := .type "tuple", data := .seq its.toArray }).push { cls := .type "itertools.combinations", data := .fields #[.ref h'.objs.size, rawInt (if 2 > its.length then 2 else 0), .none, rawInt 0, rawInt 1] }) = h2 at g1 g0 kk ⊢
        refine ⟨⟨_, g1, rfl⟩, ?_⟩
        have I2 : Inv X pins σ H1 { s1 with heap := h2 } := I1.kept (t' := s1.toks) kk
        have at0 : CmAt xs.length (h'.objs.size + 1) h'.objs.size its 0 h2 := by
          refine ⟨g0, ?_⟩
          by_cases c : xs.length < 2
          · rw [if_pos (by omega)] at g1
            exact .inl ⟨c, _, 0, 1, g1⟩
          · rw [if_neg (by omega)] at g1
            exact .inr (.inl ⟨by omega, rfl, g1⟩)
        refine (turn_cm (P := X.prog) (w := X.w) (K := X.K) (tg := tg) rv).self _ 0 _ _ _ at0 ⟨_, _, _, _, H1, rfl, I2, turn_cm rv, at0, fun c hc => ?_, q⟩
        have I' : Inv X pins σ H1 { s1 with heap := h' } := I1.kept (t' := s1.toks) k
        have hle : h'.objs.size ≤ c := by
          have e : c = h'.objs.size + 1 ∨ c = h'.objs.size := by simpa using hc
          rcases e with e | e
          · exact e ▸ Nat.le_succ _
          · exact e ▸ Nat.le_refl _
        exact I'.fpOk hle (I'.hok.fresh hle)
theorem walk_comb {ps : List (V × V)} : Walk (Itm ps) ps.length (fun _ => True) (YPair (fun i => ps[i]?.map Prod.fst) (fun i => ps[i]?.map Prod.snd)) := by
  refine ⟨fun _ _ hi _ => hi, fun _ _ => Nat.le_refl _, fun i H v H' _ _ y => ?_⟩
  obtain ⟨T, x, z, h1, h2, h3, h4⟩ := y
  exact ⟨T, x, z, h1, h2, h3, by show Option.map Prod.fst ps[i]? = _; rw [h4]; rfl, by show Option.map Prod.snd ps[i]? = _; rw [h4]; rfl⟩
end Gx

/-! sorted(set(xs)) of a list of whole numbers -/
namespace Gx
open PySem PySem.Spec PyProof.Rows L2
section
variable {prog : Program} {w : World} {A : Around}
/-- set(l), l a list of whole numbers, with the order of its members -/
theorem set_of_ints {E : Value → Shared → Prop} {s : Shared} {l : Addr} {items : Array Value} {ns : List Int} {Q : Value → Shared → Prop} (hh : A.handled = none) (hl : s.heap.IsList l items) (hi : IntsAre items.toList ns) (hb : ns.length + 1 < scanBound)
    (h : ∀ (h' : Heap) (tk c : Nat), SetR w h' s.heap.objs.size (fun j => decide (j ∈ ns)) c → c ≤ ns.length → (∀ b o, s.heap.get? b = some o → h'.get? b = some o) → Q (.ref s.heap.objs.size) { s with heap := h', toks := tk }) :
    wpAny (model prog w) A (call (.type "set") [.ref l]) Q E s := by
  have hn : ns.length = items.size := by have q := IntsAre.length hi; rw [Array.length_toList] at q; exact q.symm
  obtain ⟨led, hled⟩ : ∃ led : Bool, (!w.params.followText "set-order") = led := ⟨_, rfl⟩
  obtain ⟨c0, tl0, mro0⟩ := PySem.F.called_set.mro
  have made0 := PySem.F.called_set.made; have sub0 := PySem.F.called_set.sub
  have nt0 := PySem.F.called_set.notType; have cc0 := PySem.F.called_set.canCreate
  have tc0 := PySem.F.typeCall_set_1 (.ref l)
  refine wpAny_call (codeAny_of_tree ?_)
  show wpAny (model prog w) _ (callAny (.type "set") _) _ _ _
  refine wpAny_pure ⟨Code.quiet_builtin _ (by decide +kernel), codeAny_builtin PySem.F.entry_type_call ?_⟩
  rw [Around.under_plain (weight_type_call_type "set" [.ref l] []) rfl]
  repeat any_goals first | assumption | wp_step
  refine codeAny_mono (code_set_led1 (.ref l) (E := E) (Q₁ := fun z t => z = .ref s.heap.objs.size ∧ t = { s with heap := s.heap.push { cls := .type "set", dict := none, data := .set #[] 0 (.fresh 0 0 (!w.params.followText "set-order")) } }) ⟨rfl, rfl⟩) fun r1 t1 q1 => ?_
  match r1, q1 with
  | .error e, q1 => exact q1
  | .ok (.ret z), q1 =>
    obtain ⟨rfl, rfl⟩ := q1
    have gS : (s.heap.push { cls := .type "set", dict := none, data := .set #[] 0 (.fresh 0 0 (!w.params.followText "set-order")) }).get? s.heap.objs.size = some { cls := .type "set", dict := none, data := .set #[] 0 (.fresh 0 0 (!w.params.followText "set-order")) } := Heap.get?_push_size _ rfl
    have tS : Shared.TypeIs { s with heap := s.heap.push { cls := .type "set", dict := none, data := .set #[] 0 (.fresh 0 0 (!w.params.followText "set-order")) } } (.ref s.heap.objs.size) "set" := ⟨_, gS, rfl⟩
    have li := PySem.F.called_set.init.lookup; have bi := PySem.F.called_set.init.bind (.ref s.heap.objs.size)
    repeat any_goals first | assumption | wp_step
    refine codeAny_mono (codeAny_call_builtin (R := wants (fun r t => r = .none ∧ ∃ h' tk c, t = { s with heap := h', toks := tk } ∧ SetR w h' s.heap.objs.size (fun j => decide (j ∈ ns)) c ∧ c ≤ ns.length ∧
        ∀ b o, s.heap.get? b = some o → h'.get? b = some o) E) PySem.F.called_set.init.plain PySem.F.entry_set_init (check_set_init_1 tS ?_)) fun r2 t2 q2 => ?_
    · obtain ⟨ol, gl, cl, nl, dl⟩ := hl
      obtain ⟨oc, od, ot, os⟩ := ol
      simp only at cl dl
      subst cl; subst dl
      have ll : l < s.heap.objs.size := Heap.lt_size gl
      have gl' : (s.heap.push { cls := .type "set", dict := none, data := .set #[] 0 (.fresh 0 0 (!w.params.followText "set-order")) }).get? l = some { cls := .type "list", dict := od, data := .seq items nl, slots := os } := Heap.get?_push_of_some _ gl
      have il : (s.heap.push { cls := .type "set", dict := none, data := .set #[] 0 (.fresh 0 0 (!w.params.followText "set-order")) }).IsList l items := ⟨_, gl', rfl, nl, rfl⟩
      have s1 := PySem.F.sub_list_set; have s2 := PySem.F.sub_list_frozenset
      have nd : (Value.type "list" == Value.type "dict") = false := by decide
      unfold Builtin.«set.__init__» noKeywords Builtin.Frozenset.updateFrom
      generalize hp : pyIter = pI
      wp_walk
      subst hp
      refine wpAny_pyIter_list il ?_
      refine wpAny_bind (wpAny_runValue ?_)
      have h3 : A.in1.in1.in1.handled = none := by simp [hh]
      have ni : l ≠ (s.heap.push { cls := .type "set", dict := none, data := .set #[] 0 (.fresh 0 0 (!w.params.followText "set-order")) }).objs.size := by rw [Heap.size_push]; exact Nat.ne_of_lt (Nat.lt_succ_of_lt ll)
      have zf : s.heap.objs.size ∉ [(s.heap.push { cls := .type "set", dict := none, data := .set #[] 0 (.fresh 0 0 (!w.params.followText "set-order")) }).objs.size, l] := by
        rw [Heap.size_push]; simp only [List.mem_cons, List.mem_singleton, List.not_mem_nil, or_false, not_or]
        exact ⟨Nat.ne_of_lt (Nat.lt_succ_self _), Nat.ne_of_gt ll⟩
      have hv : ∀ (i : Nat) (v : Value), items[i]? = some v → ∃ k t, ns[i]? = some k ∧ v = .int k t := fun i v q => by
        have il2 : i < ns.length := by rw [hn]; exact (Array.getElem?_eq_some_iff.mp q).1
        obtain ⟨t, e⟩ := PyProof.Rows.IntsAre.int_at hi i v (by rw [Array.getElem?_toList]; exact q)
        refine ⟨ns[i], t, List.getElem?_eq_getElem il2, ?_⟩
        rw [e, List.getD_eq_getElem?_getD, List.getElem?_eq_getElem il2] <;> rfl
      refine set_update_ints ((Walks.list h3 _ l ni items).toS) s.heap.objs.size zf ns hn.symm hb hv (items.size - 0) 0 _ (by omega) (Nat.zero_le _) ⟨⟨_, Heap.get?_push_size _ rfl, rfl, rfl⟩, il.push _⟩ ?_ fun t c mv hc hS => ?_
      · refine ⟨0, Nat.le_refl 0, setR_new_at ?_⟩
        exact Heap.get?_push_of_some _ gS
      · obtain ⟨h', g', d', tk', os'⟩ := t
        obtain rfl : g' = s.gens := mv.gens
        obtain rfl : d' = s.drawn := mv.drawn
        obtain rfl : os' = s.os := mv.os
        show wpAny (model prog w) _ _ _ _ _
        refine wpAny_pure ?_
        show wpAny (model prog w) _ (ret Value.none) _ _ _
        refine wpAny_pure ⟨rfl, h', tk', c, rfl, hS, by omega, fun b o e => ?_⟩
        have lb := Heap.lt_size e
        refine mv.heap b o (fun z => ?_) (Heap.get?_push_of_some _ (Heap.get?_push_of_some _ e))
        rcases List.mem_cons.mp z with y | y
        · exact Nat.ne_of_lt lb y
        · rcases List.mem_cons.mp y with y | y
          · rw [Heap.size_push] at y
            exact Nat.ne_of_lt (Nat.lt_succ_of_lt lb) y
          · cases y
    · match r2, q2 with
      | .error e, q2 => exact q2
      | .ok (.ret r), q2 =>
        obtain ⟨rfl, h', tk, c, rfl, hS, hc, hk⟩ := q2
        repeat any_goals first | assumption | wp_step
        exact h _ _ _ hS hc hk
/-- sorted(s), s a set of whole numbers, any number of them -/
theorem sorted_setN {E : Value → Shared → Prop} {s : Shared} {a : Addr} {S : Int → Bool} {n : Nat} {Q : Value → Shared → Prop} (R : SetR w s.heap a S n) (hh : A.handled = none)
    (hQ : ∀ s' p (out : Array Value) (c : Nat) (ns : List Int), (∀ b o, s.heap.get? b = some o → s'.heap.get? b = some o) → s'.gens = s.gens → s'.os = s.os → s.heap.objs.size ≤ p →
      s'.heap.get? p = some (seqObj "list" out c) → IntsAre out.toList ns → ns.Pairwise (· < ·) → (∀ k, k ∈ ns ↔ S k = true) → ns.length = n → Q (.ref p) s') :
    wpAny (model prog w) A (call (.builtin "sorted") [.ref a]) Q E s := by
  obtain ⟨o, es, ep, t, ho, hex, hd, g, nd, hm, hb, hf, hn, hr, hl⟩ := R
  refine Calls.call_function_entry kind_sorted plain_sorted entry_sorted (args_sorted1 _) ?_
  unfold Builtin.«sorted»
  refine wpAny_bind (m := checkCount "sorted" 1 1 _) (wpAny_pure (wpAny_bind (collect_set (A := A.in1) hh ⟨o, ho, hex.1, hd⟩ hf hb hr hl fun s1 vs keep le g1 o1 pm => ?_)))
  have lv : vs.length = n := by rw [pm.length_eq, List.length_map, Array.length_toList]; exact hn
  have lz : vs.length ≤ sizeLine := by rw [lv, ← hn]; unfold scanBound at hb; unfold sizeLine; omega
  have hI : IntsAre vs (vs.map Builtin.Re.reRawOf) := ints_of vs fun v hv => by
    obtain ⟨e, he, q⟩ := List.mem_map.mp (pm.mem_iff.mp hv)
    obtain ⟨k, tk, h1, _⟩ := g e he
    exact ⟨k, tk, q.symm.trans h1⟩
  have pk : (vs.map Builtin.Re.reRawOf).Perm (es.toList.map keyOf) := by
    have q := pm.map Builtin.Re.reRawOf
    rwa [List.map_map] at q
  refine wpAny_bind (wpAny_newList ?_ lz)
  have gL : (s1.heap.push (seqObj "list" vs.toArray 0)).get? s1.heap.objs.size = some (seqObj "list" vs.toArray 0) := Heap.get?_push_size _ rfl
  refine wpAny_bind (wpAny_holding (wpAny_call_entry slot_list_sort ⟨_, gL, rfl⟩ entry_list_sort (SrtO.list_sort_ord SrtO.swo_int gL lz (fun h2 => SrtO.ints_sortable hI h2) fun out a1 a2 => ⟨_, rfl, ?_⟩) (args_list_sort _)))
  obtain ⟨k1, k2, k3⟩ := SrtO.ints_out hI a1 a2
  obtain ⟨c, hc⟩ := sortedHeap_at (vs := vs) (out := out.toArray) gL
  have pn : (out.map SrtO.iv).Perm (es.toList.map keyOf) := k2.trans pk
  refine wpAny_pure ⟨_, rfl, hQ _ s1.heap.objs.size out.toArray c _ (fun b u e => ?_) g1 o1 le hc k1 (lt_of_le_nodup _ k3 (pn.nodup_iff.mpr nd)) (fun k => by rw [pn.mem_iff, ← hm k]) ?_⟩
  · have q := keep b u e
    have hlt := Heap.lt_size q
    show (sortedHeap (s1.heap.push (seqObj "list" vs.toArray 0)) s1.heap.objs.size vs out.toArray).get? b = some u
    rw [sortedHeap_old (Nat.ne_of_lt hlt) (by rw [size_push']; exact Nat.lt_succ_of_lt hlt)]
    exact Heap.get?_push_of_some _ q
  · rw [pn.length_eq, List.length_map, Array.length_toList]; exact hn
end
section
variable {X : Cx}
/-- sorted(set(xs)) of a list of whole numbers -/
def tSortedSetI (K : PySem.W.Frag) (ta : TE) : TE := fun σ H Q => ta σ H fun x H1 => ∃ (l : Addr) (ns : List Int), x = .ref l ∧ SqL K H1 l (ns.map V.int) ∧ ns.length ≤ 4000 ∧
  ∀ (ms : List Int) p, ms.Pairwise (· < ·) → (∀ k, k ∈ ms ↔ k ∈ ns) → H1 p = none → Q (.ref p) (upd H1 p (.lst (ms.map V.int)))
theorem pe_sortedSetI {a : Expr} {ta : TE} {p p2 q pos : Pos} (hg : Gl X "sorted") (hm : X.mg "sorted" = none) (hg2 : Gl X "set") (hm2 : X.mg "set" = none) (hh : X.A.handled = none) (ha : PE X a ta)
    (na : starEach [a] X.env = (false, eval a X.env) :: starEach [] X.env := by rfl) : PE X (.Call (.Name "sorted" p) [.Call (.Name "set" p2) [a] [] q] [] pos) (tSortedSetI X.K ta) := by
  refine ⟨fun pins s σ H Q I h => Call_ (ld_blt I hg hm (show bootBuiltins "sorted" = some (.builtin "sorted") by decide +kernel) (PyProof.Rows.callWith_builtin1 (PyProof.Rows.args_cons (Call_ (ld_blt I hg2 hm2 boot_set ?_)) rfl) rfl rfl))⟩
  refine PyProof.Rows.callWith_type1 (PyProof.Rows.args_cons (thn (ha.run pins s σ H _ I h) fun v s1 h1 => PyProof.Rows.args_nil ?_) na) na rfl
  obtain ⟨x, H1, I1, r1, l, ns, rfl, hq, hz, q1⟩ := h1
  have e : v = .ref l := r1
  subst e
  obtain ⟨its, rv, pl, _⟩ := I1.list hq
  refine set_of_ints hh pl.isList (ns := ns) (by simpa using rv.ints) (by unfold scanBound; omega) fun h' tk c hS hc hk => ?_
  have I2 : Inv X pins σ H1 { s1 with heap := h', toks := tk } := I1.kept hk
  refine PyProof.Rows.args_nil ?_
  obtain ⟨s2, hs2⟩ : ∃ s2 : Shared, s2 = { s1 with heap := h', toks := tk } := ⟨_, rfl⟩
  rw [← hs2] at I2 ⊢
  refine sorted_setN (by rw [hs2]; exact hS) hh fun s' p out c ms k g o hp hgp hi hs hm hl => ?_
  have hlen : (ms.map V.int).length ≤ sizeLine := by rw [List.length_map, hl]; unfold sizeLine; omega
  have hn : H1 p = none := I2.hok.fresh hp
  have J : Inv X pins σ (upd H1 p (.lst (ms.map V.int))) { s2 with heap := s'.heap, gens := s'.gens, drawn := s'.drawn, toks := s'.toks } :=
    I2.call (ch := []) (Un.laid k hp hn) (I2.hok.laid k hp ⟨hlen, out.toList, c, vals_of_ints hi, hgp⟩) (by rw [g]; exact I2.bare) (fun _ z => nomatch z)
  have e : s' = { s2 with heap := s'.heap, gens := s'.gens, drawn := s'.drawn, toks := s'.toks } := by
    cases s'
    cases s2
    cases o
    rfl
  rw [e]
  exact ⟨.ref p, _, J, rfl, q1 ms p hs (fun k => by rw [hm k]; exact decide_eq_true_iff) hn⟩
end
end Gx
namespace Gx
open L2
theorem room65 {A : PySem.Around} {k : Nat} (r : Room k A) : A.units + 65 < PySem.cLine := by have := r.un; omega
end Gx

/-! ### xs[i:j] = ys of another list, where j may lie behind the end -/
namespace Gx
open PySem PySem.Spec PyProof.Rows L2
section
variable {prog : Program} {w : World} {A : Around} {E : Value → Shared → Prop} {s : Shared}
theorem bounds_one {m n : Nat} (h : m ≤ n) : sliceBounds (some (m : Int)) (some ((m : Int) + 1)) none n = ((m : Int), ((min (m + 1) n : Nat) : Int), 1) := by
  have a1 : ¬ ((m : Int) < 0) := by omega
  have a2 : ¬ ((m : Int) + 1 < 0) := by omega
  have a3 : min (m : Int) (n : Int) = m := by omega
  have a4 : min ((m : Int) + 1) (n : Int) = ((min (m + 1) n : Nat) : Int) := by omega
  unfold sliceBounds
  rw [Option.getD_none]
  have a5 : max (0 : Int) (m : Int) = m := by omega
  have a6 : max (0 : Int) ((min (m + 1) n : Nat) : Int) = ((min (m + 1) n : Nat) : Int) := by omega
  simp only [a1, a2, if_false, show (1 : Int) > 0 by decide, if_true, a3, a4, a5, a6]
theorem setItem_cut {x y z : Addr} {us vs : Array Value} {n1 n2 : Nat} {u v : Value} {lo hi : Option Int} {m k : Nat} {Q : Unit → Shared → Prop}
    (ex : s.heap.get? x = some { cls := .type "list", data := .seq us n1 }) (ey : s.heap.get? y = some { cls := .type "list", data := .seq vs n2 }) (xy : x ≠ y)
    (ez : s.heap.IsSliceOf z u v .none) (pu : IsPart u lo) (pv : IsPart v hi) (bd : sliceBounds lo hi none us.size = ((m : Int), (k : Int), 1)) (hmk : m ≤ k) (hk : k ≤ us.size)
    (room : us.size + vs.size ≤ sizeLine) (fin : Q () { s with heap := s.heap.update x (Obj.mapSeq fun q => q.extract 0 m ++ vs ++ q.extract k q.size) }) :
    wpAny (model prog w) A (setItem (.ref x) (.ref z) (.ref y)) Q E s := by
  have lx := PySem.IsL.isList ex
  have ly := PySem.IsL.isList ey
  have ⟨oz, gz, cz, dz⟩ := ez
  have tz : s.TypeIs (.ref z) "slice" := ⟨oz, gz, cz⟩
  have no : Builtin.List.listSameRef (.ref x) (.ref y) = false := beq_eq_false_iff_ne.mpr xy
  have top : (max (m : Int) (k : Int)).toNat = k := by omega
  have big : ((fun q : Array Value => q.extract 0 m ++ vs ++ q.extract k q.size) us).size ≤ sizeLine + 1 := by
    simp only [Array.size_append, Array.size_extract]; omega
  unfold setItem
  try with_reducible refine wpAny_holding ?_
  first | (refine wpAny_bind (wpAny_pure ?_)) | skip
  refine wpAny_bind (wpAny_sequenceKey lx.typeIs (by decide) (wpAny_bind (wpAny_callSpecial?_slot (name := Str.ofString "__setitem__") lx.typeIs slot_list_setitem
    (wpAny_call_entry slot_list_setitem lx.typeIs entry_list_setitem ?_ (args_list_setitem _ _ _)))))
  show wpAny _ _ (Builtin.List.listSubscript? (.ref z) >>= _) _ _ s
  unfold Builtin.List.listSubscript?
  refine wpAny_bind (wpAny_bind (wpAny_specialOf tz slice_no_index ?_))
  rw [if_pos (show (none : Option Value).isNone = true from rfl)]
  refine wpAny_pure ?_
  show wpAny _ _ (typeOf (.ref z) >>= _) _ _ s
  refine wpAny_bind (wpAny_typeOf tz ?_)
  first
    | (rw [if_neg (by decide)]; skip)
    | (refine PySem.W.KFB.if_not (by decide) ?_; skip)
  rw [listSliceParts_eq]
  refine wpAny_bind (wpAny_bind (wpAny_field gz dz (x := .none) rfl (wpAny_bind (wpAny_listPart .none ?_))))
  rw [if_neg (show ¬ ((rawPart none == rawInt 0) = true) from Bool.false_ne_true)]
  refine wpAny_bind (wpAny_field gz dz (x := u) rfl (wpAny_bind (wpAny_listPart pu (wpAny_bind (wpAny_field gz dz (x := v) rfl (wpAny_bind (wpAny_listPart pv (wpAny_pure ?_))))))))
  first
    | (simp only [no, Bool.false_eq_true, if_false]; skip)
    | (refine PySem.W.KFB.if_not no ?_; skip)
    | (dsimp only; rw [if_neg (by rw [no]; exact Bool.false_ne_true)])
  refine wpAny_bind (m := Builtin.List.listAllItems (.ref y) "must assign iterable to extended slice") ?_
  unfold Builtin.List.listAllItems
  refine wpAny_bind (wpAny_typeOf ly.typeIs ?_)
  first
    | (refine PySem.W.KFB.if_so (by decide) ?_; skip)
    | (rw [if_pos (by decide)]; skip)
    | (simp only [beq_self_eq_true, Bool.true_or, if_true]; skip)
  unfold Builtin.List.listItems
  refine wpAny_bind (wpAny_seqItems ey rfl (wpAny_pure (wpAny_bind (wpAny_bind (wpAny_seqItems ex rfl (wpAny_pure ?_))))))
  refine wpAny_bind (wpAny_of_eq ((sliceIndices_raw lo hi none us.size (by simp)).trans (congrArg (pure : Int × Int × Int → Sem (Int × Int × Int)) bd)) ?_)
  show wpAny _ _ (if ((1 : Int) == 1) = true then _ else _) _ _ s; rw [if_pos (by decide)]
  refine wpAny_bind (wpAny_rule ?_)
  first
    | (simp only [notLongL room, Bool.false_eq_true, if_false]; skip)
    | (refine PySem.W.KFB.if_not (notLongL room) ?_; skip)
  first | (refine wpAny_bind (wpAny_pure ?_)) | skip
  show wpAny _ _ (updateSeq x (fun q => q.extract 0 ((m : Int)).toNat ++ vs ++ q.extract (max (m : Int) (k : Int)).toNat q.size) >>= _) _ _ s
  rw [top, Int.toNat_natCast]
  refine wpAny_bind (wpAny_updateSeq (hz := Nat.le_trans (Nat.le_add_right _ _) room) (_hz' := big) ex rfl (wpAny_bind (wpAny_letGo ?_)))
  first
    | (exact wpAny_bind (wpAny_pure (wpAny_pure ⟨.none, rfl, wpAny_pure fin⟩)))
    | (exact wpAny_pure ⟨.none, rfl, wpAny_pure fin⟩)
end
section
variable {X : Cx}
/-- xs[m:m+1] = ys, m no greater than xs is long -/
def sSlc (te : TE) (tl th : TO) (tv : TE) : TS := fun D σ H => tv σ H fun y H1 => te σ H1 fun x H2 => tl σ H2 fun l H3 => th σ H3 fun u H4 =>
  ∃ (a b : Addr) (xs ys : List V) (m : Nat), x = .ref a ∧ y = .ref b ∧ l = some (m : Int) ∧ u = some ((m : Int) + 1) ∧ a ≠ b ∧ H4 a = some (.lst xs) ∧ H4 b = some (.lst ys) ∧ m ≤ xs.length ∧
    xs.length + ys.length ≤ sizeLine ∧ D.nx σ (upd H4 a (.lst (xs.take m ++ ys ++ xs.drop (m + 1))))
theorem ps_slc {e value : Expr} {lo hi : Option Expr} {p1 p2 pos : Pos} {te tv : TE} {tl th : TO} (he : PE X e te) (hl : PO X lo tl) (hh : PO X hi th) (hv : PE X value tv)
    (hs : swapsWith value (some (.Subscript e (.Slice lo hi none p1) p2)) pos.line X.env = pure false) : PS X (.Assign [.Subscript e (.Slice lo hi none p1) p2] value pos) (sSlc te tl th tv) := by
  refine ⟨fun pins s σ H D I h => ?_⟩
  refine wpAny_Assign_Subscript (thn (hv.run pins s σ H _ I h) fun r s1 ⟨y, H1, I1, ry, q1⟩ => thn (he.run pins s1 σ H1 _ I1 q1) fun v s2 ⟨x, H2, I2, rx, q2⟩ => ?_) hs
  refine wpAny_Slice (thn (hl.run pins s2 σ H2 _ I2 q2) fun vl s3 ⟨l, H3, I3, pl, q3⟩ => thn (hh.run pins s3 σ H3 _ I3 q3) fun vu s4 ⟨u, H4, I4, pu, q4⟩ => ?_)
  rw [evalPart_none]
  refine wpAny_pure ?_
  obtain ⟨a, b, xs, ys, m, ex, ey, el, eu, ab, ha, hb, hm, hz, q⟩ := q4
  subst ex ey el eu
  cases rx
  cases ry
  have I5 : Inv X pins σ H4 { s4 with heap := s4.heap.push { cls := .type "slice", data := .fields #[vl, vu, .none] } } := I4.kept (t' := s4.toks) fun _ _ q => Heap.get?_push_of_some _ q
  obtain ⟨z1, its, n1, r1, l1, e1⟩ := I5.lstM ha
  obtain ⟨z2, jts, n2, r2, l2, e2⟩ := I5.lstM hb
  have len1 : its.toArray.size = xs.length := by rw [List.size_toArray]; exact l1.symm
  have len2 : jts.toArray.size = ys.length := by rw [List.size_toArray]; exact l2.symm
  refine setItem_cut (m := m) (k := min (m + 1) xs.length) e1 e2 ab (Heap.IsSliceOf.new ..) pl pu (by rw [len1]; exact bounds_one hm) (by omega) (by rw [len1]; omega) (by rw [len1, len2]; exact hz) ⟨σ, _, ?_, q⟩
  have ed : its.drop (min (m + 1) xs.length) = its.drop (m + 1) := by
    by_cases hc : m + 1 ≤ xs.length
    · rw [Nat.min_eq_left hc]
    · rw [List.drop_eq_nil_of_le (by omega), List.drop_eq_nil_of_le (by omega)]
  refine I5.lset (its' := its.take m ++ jts ++ its.drop (m + 1)) (t' := s4.toks) ha e1 ?_ (Vals.append (Vals.append (r1.take _) r2) (r1.drop _)) ?_
  · rw [← ed]
    exact splice_eq its jts m (min (m + 1) xs.length)
  · rw [List.length_append, List.length_append, List.length_take, List.length_drop]
    omega
end
end Gx

/-! name = {key: value for ..}, the name a local of its def -/
namespace Gx
open PySem PySem.Spec PyProof.Rows L2 GxR
section
variable {X : Cx}
theorem swD_true {k v : Expr} {gs : List Comprehension} {sc : Scope} {p q : Pos} {n : Str} {ln : Nat} {en : Env} (k1 : en.scope.kind = .function) (k2 : en.scope.names.lookup n = some .local) (k3 : (q.line == p.line) = true)
    (k4 : (sc.names.any fun (z, y) => z == n && (y == .local || y == .cell)) = false) : swapsWith (.DictComp k v gs sc p) (some (.Name n q)) ln en = pure true := by
  have e1 : en.kindOf n = some .local := k2
  have e2 : en.blockKind = .function := by
    unfold Env.blockKind
    rw [k1]
    rfl
  unfold swapsWith
  simp only [e2, e1, k4, Expr.pos, k3]
  rfl
theorem ps_setDc {n : Nat} {x : Str} {px p sp : Pos} {ke ve tg it : Expr} {ifs : List Expr} {sc : Scope} {own : List (Str × Nat)} {w : TI} {g : TG} {tt : TT} {tk tv : TE}
    (calm : X.calm = true) (nd : X.N.Nodup) (at_ : X.N[n]? = some x) (loc : X.env.scope.names.lookup x = some .local) (used : swapsWith (.DictComp ke ve [⟨tg, it, ifs, 0⟩] sc p) (some (.Name x px)) sp.line X.env = pure true)
    (hw : PI X tg it w) (ok : BlkOk X.N X.env.scope sc own)
    (hg : ∀ (s : Shared) (H : Hp) (C : Addr) (cl : List (Str × Addr)) (fp : List Addr),
      PG (X.blk s H sc (compEnvC sc cl C X.env) fp) tg g)
    (ht : ∀ (s : Shared) (H : Hp) (C : Addr) (cl : List (Str × Addr)) (fp : List Addr),
      PTs (X.blk s H sc (compEnvC sc cl C X.env) fp) ifs tt)
    (hk : ∀ (s : Shared) (H : Hp) (C : Addr) (cl : List (Str × Addr)) (fp : List Addr),
      PE (X.blk s H sc (compEnvC sc cl C X.env) fp) ke tk)
    (hv : ∀ (s : Shared) (H : Hp) (C : Addr) (cl : List (Str × Addr)) (fp : List Addr),
      PE (X.blk s H sc (compEnvC sc cl C X.env) fp) ve tv)
    (fold : ∀ z, foldedSetIterable it X.env z = pure z := by intro _; rfl) :
    PS X (.Assign [.Name x px] (.DictComp ke ve [⟨tg, it, ifs, 0⟩] sc p) sp) (tAsg (tDc w g tt tk tv (own.map (·.2))) (gName n)) := by
  refine ⟨fun pins s σ H J I h => ?_⟩
  rw [exec_Assign_Name_used _ _ _ _ used]
  refine wpAny_bind (wpAny_standAt (wpAny_bind ?_))
  show wpAny _ X.A (do
    let _ ← comprehension (.DictComp ke ve [⟨tg, it, ifs, 0⟩] sc p) sc X.env (firstIterPos [⟨tg, it, ifs, 0⟩] p) newDict false (eval it X.env) (some (assign (.Name x px) X.env))) _ _ s
  have h2 : tDc w g tt tk tv (own.map (·.2)) σ H (fun y H1 => gName n y σ H1 J.nx) := h
  refine wpAny_bind (thn (dc_core (Qf := fun _ s' => SP X pins J .next s') calm nd I hw ok hg ht hk hv fold h2 fun L C t m H' I' q ns fr => ?_) fun _ t hq => wpAny_pure (wpAny_pure hq))
  show wpAny _ _ (assign (.Name x px) X.env (.ref L)) _ _ _
  refine wpAny_assign_Name (store_ok2 (v := V.ref L) I' nd at_ (.inl loc) rfl (fun t2 I2 hb => ?_) (.inr loc))
  obtain ⟨b, sb, hb⟩ := hb
  obtain ⟨r0, r1, r2, r3, r4, r5⟩ := fr
  have ne : C ≠ b := by
    rcases hb with z | z
    · rw [z]
      exact r1
    · exact fun e => r4 x b z e.symm
  refine ⟨m, ns.sameBut sb ne, fun h3 sb3 => ⟨_, H', I2.turned (t' := t2.toks) (fun c o hc e => ?_) r0 r1 r3 r4 r5, q⟩⟩
  exact (sb3.2 c hc).trans e
end
end Gx

/-! Tuples whose objects are known to have no names of their own: made by tuple( ), and their methods. -/
namespace Gx
open PySem PySem.Spec PyProof.Rows L2 GxR
section
variable {X : Cx}
def rTupF (K : PySem.W.Frag) : List V → Hp → VK → Prop := fun xs H Q => ∃ (p : Addr) (ys : List V), xs = [.ref p] ∧ SqL K H p ys ∧ ∀ (l : Addr) (o : Obj), H l = none → o.dict = none → Q (.ref l) (upd H l (.frz o (.tup ys)))
theorem call_tupleF : CallR X (.type "tuple") (rTupF X.K) := by
  intro pins s σ H xs us Q I r h
  obtain ⟨p, ys, rfl, hq, q⟩ := h
  obtain ⟨u, rfl, rx⟩ := vals1 r
  obtain rfl : u = Value.ref p := rx
  obtain ⟨its, rv, pl, hz⟩ := I.list hq
  have hlen := rv.length
  refine call_tuple_list pl.isList (fun g keep => ?_) (by rw [List.size_toArray]; omega)
  have J : Inv X pins σ H { s with heap := g } := I.kept (t' := s.toks) keep
  have J2 : Inv X pins σ (upd H g.objs.size (.frz { cls := .type "tuple", data := .seq its.toArray } (.tup ys))) { s with heap := g.push { cls := .type "tuple", data := .seq its.toArray } } :=
    J.laid (t' := s.toks) (fun b o e => Heap.get?_push_of_some _ e) (Nat.le_refl _)
      (show ObjOk X.prog X.w _ _ _ (.frz _ (.tup ys)) from ⟨Heap.get?_push_size _ rfl, hz, its, rv, IsTup.new _ _⟩)
  exact ⟨.ref g.objs.size, _, J2, rfl, q _ _ (J.hok.fresh (Nat.le_refl _)) rfl⟩
/-- t.name(..), t such a tuple -/
def tBMF (r : V → List V → Hp → VK → Prop) (to : TE) (t : TA) : TE := fun σ H Q => to σ H fun x H1 => (∃ (p : Addr) (o : Obj) (ys : List V), x = .ref p ∧ H1 p = some (.frz o (.tup ys)) ∧ o.dict = none) ∧ t σ H1 fun xs H2 => r x xs H2 Q
variable {o e : Expr} {es : List Expr} {to : TE} {t : TA} {name : Str} {apos cpos : Pos} {id : String} {r : V → List V → Hp → VK → Prop}
theorem pe_bmF (slot : Slot "tuple" name id) (hty : typeOf (.builtin id) = pure (.type "method_descriptor")) (hm : MtR X id r) (ho : PE X o to) (ha : PA X (e :: es) t)
    (base : attributeBase o name X.env (eval o X.env) = eval o X.env := by rfl)
    (few : ((backTo cpos (starEach (e :: es) X.env)).all (fun x => !x.1) && (backToKw cpos (keywordEach [] X.env)).all (fun x => x.1.isSome) && decide ((e :: es).length + ([] : List Keyword).length + (if ([] : List Keyword).isEmpty then 0 else 1) < 30)) = true := by rfl)
    (line : (apos.endLine == cpos.line) = true := by rfl) (star : starEach (e :: es) X.env = (false, eval e X.env) :: starEach es X.env := by rfl)
    (plain : (backTo cpos (starEach es X.env)).any (·.1) = false := by rfl) :
    PE X (.Call (.Attribute o name apos) (e :: es) [] cpos) (tBMF r to t) := by
  refine ⟨fun pins s σ H Q I h => ?_⟩
  refine wpAny_Call_method_late base few line rfl (thn (ho.run pins s σ H _ I h) fun v s1 hx => ?_)
  obtain ⟨x, H1, I1, r1, ⟨p, ob, ys, rfl, hp, hd⟩, q1⟩ := hx
  obtain rfl : v = Value.ref p := r1
  obtain ⟨g, _, its, _, o2, g2, c2, _⟩ := I1.hok p _ hp
  have ty : s1.TypeIs (.ref p) "tuple" := ⟨o2, g2, c2⟩
  refine ⟨"tuple", id, PySem.F.plainAttrs_tuple, slot, hty, ty, fun a ea => ?_, ?_⟩
  · cases ea
    exact ⟨ob, g, hd⟩
  · have hA := ha.run cpos pins s1 σ H1 _ I1 q1
    rw [star] at hA ⊢
    refine Calls.callWith_builtin (by show (false || (backTo cpos (starEach es X.env)).any (·.1)) = false; rw [plain] <;> rfl) (Calls.evalArgs_plain ?_)
    exact thn hA fun us s2 hu => by
      obtain ⟨vs, H2, I2, r2, q2⟩ := hu
      exact hm pins s2 σ H2 (.ref p) vs (.ref p) us Q I2 rfl r2 q2
end
end Gx

/-! sorted(d), d a dict of up to sizeLine texts -/
namespace Gx
open PySem PySem.Spec PyProof.Rows L2 GxR GenW
section
variable {X : Cx}
def rSortD : List V → Hp → VK → Prop := fun xs H Q => ∃ (a : Addr) (kvs : List (Key × V)) (ks : List Str), xs = [.ref a] ∧ Rd H a (.dK kvs) ∧ kvs.map (·.1) = ks.map Sum.inr ∧ ks.length ≤ sizeLine ∧
  ∀ p, H p = none → Q (.ref p) (upd H p (.lst ((ks.mergeSort (PySem.W.dataLe false PyData.str)).map V.str)))
theorem strs_each : ∀ {vs : List Value} {ks : List Str}, StrsAre vs ks → PySem.W.EachIs (fun u b => RelV (V.str b) u) vs ks
  | _, _, h => by
    exact each_vals (val := V.str) (vals_of_strs h)
theorem cr_sortD (hcalm : X.calm = true) (hu : X.A.units + 64 < cLine) : CallR X (.builtin "sorted") rSortD := by
  intro pins s σ H xs us Q I r q
  obtain ⟨a, kvs, ks, ex, hd, hks, h64, q⟩ := q
  subst ex
  obtain ⟨u, eu, rx⟩ := vals1 r
  subst eu
  cases rx
  obtain ⟨z, lo, vs, rel, dd⟩ := dk_rd I.hok hd
  obtain ⟨ep, hat⟩ := dd.dictAt
  have hkeys : vs.map (·.1) = ks.map Sum.inr := rel.keys.symm.trans hks
  have hl : vs.length = ks.length := by
    have e := congrArg List.length hkeys
    rw [List.length_map, List.length_map] at e
    exact e
  have h16 : vs.length ≤ sizeLine := by rw [hl]; exact h64
  refine Calls.call_function_entry PyProof.Rows.kind_sorted PyProof.Rows.plain_sorted PyProof.Rows.entry_sorted (PyProof.Rows.args_sorted1 _) ?_
  unfold Builtin.«sorted»
  refine wpAny_bind (m := checkCount "sorted" 1 1 _) (wpAny_pure ?_)
  refine wpAny_bind (PySem.W.kdu_collect (A := X.A.in1) (PySem.W.kdl_dict (knd := mixKind X.prog X.w) (kvs := vs) (ep := ep) lo) (I.ok.hd hcalm) hat h16 fun h' tk acc hk hacc => ?_)
  have hal : acc.toList.length = ks.length := by rw [Array.length_toList, hacc.1, hl]
  have hS : StrsAre acc.toList ks := strs_at hal fun j v e => by
    obtain ⟨k, x, e1, e2⟩ := hacc.2 j v (by rw [← Array.getElem?_toList]; exact e)
    have e3 : (vs.map (·.1))[j]? = some k := by rw [List.getElem?_map, e1]; all_goals rfl
    rw [hkeys, List.getElem?_map] at e3
    cases e4 : ks[j]? with
    | none => rw [e4] at e3; cases e3
    | some y =>
      rw [e4] at e3
      have e5 : Sum.inr y = k := Option.some.inj e3
      subst e5
      obtain ⟨t, ev⟩ := Value.isStrOf_shape (x := y) (v := v) e2
      exact ⟨y, t, rfl, ev⟩
  have I1 : Inv X pins σ H { s with heap := h', toks := tk } := I.kept hk
  refine wpAny_bind (wpAny_newList ?_ (by rw [hal]; exact h64))
  have hoL : (h'.push (seqObj "list" acc.toList.toArray 0)).get? h'.objs.size = some (seqObj "list" acc.toList.toArray 0) := Heap.get?_push_size _ rfl
  show wpAny _ _ _ _ _ { s with heap := h'.push (seqObj "list" acc.toList.toArray 0), toks := tk }
  have ev := strs_each hS
  have er : PySem.W.EachIs (fun v b => ∃ as, Reads (h'.push (seqObj "list" acc.toList.toArray 0)) v (PyData.str b) as ∧ h'.objs.size ∉ as) acc.toList ks := each_mem ev fun v b hb rb => by
    obtain ⟨t, rfl⟩ := rb
    exact ⟨_, Reads.str b t, List.not_mem_nil⟩
  refine wpAny_bind (wpAny_holding (PySem.W.list_sort_data (s := { s with heap := h'.push (seqObj "list" acc.toList.toArray 0), toks := tk }) hoL ev er (alike_strs _) (sortable_strs _) h64 (fun b hb => by
    have : (PyData.str b).depth ≤ 1 := by show 0 ≤ 1; decide
    show X.A.in1.units + 1 + (PyData.str b).depth < cLine
    have : X.A.in1.units ≤ X.A.units + 32 := by
      show X.A.units + 1 ≤ X.A.units + 32
      omega
    omega) fun out ho eo => ?_))
  have rout : Vals ((ks.mergeSort (PySem.W.dataLe false PyData.str)).map V.str) out := vals_each eo
  obtain ⟨e', he'⟩ := PyProof.Rows.sortedHeap_at (vs := acc.toList) (out := out.toArray) hoL
  have hlen : ((ks.mergeSort (PySem.W.dataLe false PyData.str)).map V.str).length ≤ sizeLine := by rw [rout.length, ho]; exact h64
  refine wpAny_pure ⟨_, rfl, .ref h'.objs.size, upd H h'.objs.size (.lst ((ks.mergeSort (PySem.W.dataLe false PyData.str)).map V.str)), I1.laid (t' := tk) (fun b u e => ?_) (Nat.le_refl _)
    (show ObjOk X.prog X.w _ _ _ (.lst ((ks.mergeSort (PySem.W.dataLe false PyData.str)).map V.str)) from ⟨hlen, out, e', rout, he'⟩), rfl, q _ (I1.hok.fresh (Nat.le_refl _))⟩
  have hb : b < h'.objs.size := Heap.lt_size e
  rw [PyProof.Rows.sortedHeap_old (Nat.ne_of_lt hb) (by rw [size_push']; exact Nat.lt_succ_of_lt hb)]
  exact Heap.get?_push_of_some _ e
end
end Gx

/-! xs[i] op= v, xs a list -/
namespace L2
open PySem PySem.Spec PyProof.Rows
section
variable {X : Cx}
def rGetL (K : PySem.W.Frag) : V → V → Hp → VK → Prop := fun o i H Q => ∃ p xs k z, o = .ref p ∧ i = .int k ∧ SqL K H p xs ∧ 0 ≤ k ∧ xs[k.toNat]? = some z ∧ Q z H
theorem get_list : PGet X (rGetL X.K) := by
  intro pins s σ H o i ov iv Q I ro ri h
  obtain ⟨p, xs, k, z, rfl, rfl, hq, h0, he, q⟩ := h
  cases ro
  obtain ⟨t, rfl⟩ := ri
  obtain ⟨its, r, pl, hz⟩ := I.list hq
  obtain ⟨w, ew, rw'⟩ := r.get he
  have hl := (List.getElem?_eq_some_iff.mp he).1
  have hn := line63
  exact wpAny_getItem_list pl.isList h0 (by omega) (by simpa using ew) ⟨z, H, I, rw', q⟩
theorem ip_or : PIp X .BitOr (rI0 fun i j => .int (Builtin.bitOr i j)) := fun pins s σ H x y v u Q I r1 r2 h => iop_or pins s σ H x y v u Q I r1 r2 h
end
end L2

/-! ### repr of a list in which dicts from texts to whole numbers stand -/
namespace Gx
open PySem PySem.Spec PyProof.Rows L2 GxR GenW
def encN (ps : List (Str × Int)) : PyData := .dict (ps.map fun p => (.str p.1, .int p.2))
inductive Dm (K : PySem.W.Frag) (H : Hp) : V → PyData → Prop
  | p {v : V} {d : PyData} : Dp K H v d → d.hasDict = false → Dm K H v d
  | k {a : Addr} {ps : List (Str × Int)} : H a = some (.dK (ps.map fun p => ((Sum.inr p.1 : Key), V.int p.2))) → Dm K H (.ref a) (encN ps)
inductive Dms (K : PySem.W.Frag) (H : Hp) : List V → List PyData → Prop
  | nil : Dms K H [] []
  | cons {v : V} {d : PyData} {vs : List V} {ds : List PyData} : Dm K H v d → Dms K H vs ds → Dms K H (v :: vs) (d :: ds)
section
variable {X : Cx} {pins : List (Addr × Obj)} {σ : L2.St} {H : Hp} {s : Shared}
theorem pairs_read {h : Heap} : ∀ {ps : List (Str × Int)} {vs : List (Key × Value)}, KV (ps.map fun p => ((Sum.inr p.1 : Key), V.int p.2)) vs →
    PyProof.V.PairsRead h (fun k : Key => match k with | .inl i => PyData.int i | .inr x => PyData.str x) vs (ps.map fun p => (.str p.1, .int p.2)) []
  | [], _, h => by
    unfold KV at h
    rw [List.map_nil] at h
    cases h
    exact .nil
  | p :: ps, _, h => by
    unfold KV at h
    rw [List.map_cons] at h
    cases h with
    | @cons a b as bs r t =>
      obtain ⟨k, u⟩ := b
      obtain ⟨e, t2, eu⟩ := r
      have e : Sum.inr p.1 = k := e
      have eu : u = Value.int p.2 t2 := eu
      subst e eu
      exact PyProof.V.PairsRead.cons (as := []) (bs := []) (Reads.int _ _) (pairs_read t)
theorem Dm.shows (I : Inv X pins σ H s) {v : V} {u : Value} {d : PyData} (h : Dm X.K H v d) (r : RelV v u) (hs : d.showable = true) (hz : d.shown.length ≤ sizeLine) :
    ∃ as bs, Reads s.heap u d as ∧ ReadAtMost s.heap d.depth bs ∧ ReprK X.prog X.w bs s.heap d.depth u d.shown := by
  cases h with
  | p hd nod =>
    obtain ⟨as, rd⟩ := Dp.reads I d v u hd r
    obtain ⟨bs, h1, h2⟩ := ReprK.of_reads (prog := X.prog) (w := X.w) rd hs (PyData.noDict_hsm nod) hz
    exact ⟨as, bs, rd, h1, h2⟩
  | @k a ps e =>
    cases r
    obtain ⟨_, lo, vs, rel, dd⟩ := dk_of I.hok e
    have rd : Reads s.heap (.ref a) (encN ps) [a] := PyProof.V.reads_dictOf (fun k key hk => by
      rcases keyIs_shape hk with ⟨i, t, rfl, rfl⟩ | ⟨x, t, rfl, rfl⟩
      · exact Reads.int i t
      · exact Reads.str x t) dd (pairs_read rel)
    obtain ⟨bs, h1, h2⟩ := ReprK.of_reads (prog := X.prog) (w := X.w) rd hs (fun _ hm => by
      rw [List.mem_singleton.mp hm] at lo
      exact absurd lo (by simp)) hz
    exact ⟨_, bs, rd, h1, h2⟩
theorem Dms.shows (I : Inv X pins σ H s) : ∀ {vs : List V} {us : List Value} {ds : List PyData}, Dms X.K H vs ds → Vals vs us → PyData.showableAll ds = true → (∀ t ∈ PyData.shownAll ds, t.length ≤ sizeLine) →
    ∃ as bs, ReadsAll s.heap us ds as ∧ ReadAtMost s.heap (PyData.depthAll ds) bs ∧ ReprAllK X.prog X.w bs s.heap (PyData.depthAll ds) us (PyData.shownAll ds)
  | _, _, _, .nil, r, _, _ => by
    cases r
    exact ⟨[], [], .nil, (fun _ h => nomatch h), by simp only [PyData.shownAll]; exact .nil⟩
  | _, _, _, .cons (d := d) (ds := ds) h t, r, hs, hz => by
    cases r with
    | cons r1 r2 =>
      rw [PyData.showableAll, Bool.and_eq_true] at hs
      obtain ⟨as, bs, a1, a2, a3⟩ := h.shows I r1 hs.1 (hz _ (by rw [PyData.shownAll]; exact List.mem_cons_self))
      obtain ⟨cs, ds', b1, b2, b3⟩ := t.shows I r2 hs.2 fun t ht => hz t (by rw [PyData.shownAll]; exact List.mem_cons_of_mem _ ht)
      refine ⟨_, bs ++ ds', .cons a1 b1, (a2.mono ?_).append (b2.mono ?_), ?_⟩
      · rw [PyData.depthAll]
        exact Nat.le_max_left _ _
      · rw [PyData.depthAll]
        exact Nat.le_max_right _ _
      · rw [PyData.shownAll, PyData.depthAll]
        exact .cons ((a3.more fun b hb => List.mem_append_left _ hb).level_le (Nat.le_max_left _ _)) (b3.more_le (fun b hb => List.mem_append_right _ hb) (Nat.le_max_right _ _))
end
section
variable {X : Cx}
def rReprM (K : PySem.W.Frag) : List V → Hp → VK → Prop := fun xs H Q => ∃ (L : Addr) (v : V) (vs : List V) (ds : List PyData), xs = [.ref L] ∧ H L = some (.lst (v :: vs)) ∧ Dms K H (v :: vs) ds ∧ PyData.showableAll ds = true ∧
  PyData.depthAll ds ≤ 60 ∧ (PyData.list ds).shown.length ≤ sizeLine ∧ Q (.str (PyData.list ds).shown) H
theorem cr_reprM (g : X.A.guards = some []) (hu : X.A.units + 64 < cLine) : CallR X (.builtin "repr") (rReprM X.K) := by
  intro pins s σ H xs us Q I r h
  obtain ⟨L, v, vs, ds, rfl, hL, hD, hs, hd, hz, q⟩ := h
  obtain ⟨u, rfl, rx⟩ : ∃ u, us = [u] ∧ RelV (.ref L) u := by
    cases r with
    | cons r1 r2 => cases r2; exact ⟨_, rfl, r1⟩
  cases rx
  obtain ⟨z, its, n, ri, hl, e⟩ := I.lstM hL
  have hz2 : (listText (PyData.shownAll ds)).length ≤ sizeLine := by simpa only [PyData.shown] using hz
  obtain ⟨as, bs, a1, a2, a3⟩ := hD.shows I ri hs fun t ht => Nat.le_trans (listText_mem_le ht) hz2
  have rd : Reads s.heap (.ref L) (.list ds) (L :: as) := Reads.list e rfl rfl (by simpa using a1)
  have hna : L ∉ bs := not_mem_of_deeper rd (by simp only [PyData.depth]; omega) a2
  cases ri with
  | @cons _ y _ ys r1 r2 =>
    refine call_repr_slot (T := "list") (by omega) ⟨_, e, rfl⟩ F.slot_list_repr.toG ?_
    refine call_list_reprK e rfl rfl hna (by simpa using a3.length_eq) (fun i y e => a3.item i y (by simpa using e)) g (fun b _ => Clear.nil b) (by show X.A.units + 1 + (_ + 1) < cLine; omega) (fun _ _ e => e) (fun h' u tk hk => ?_) hz2
    refine ⟨_, _, rfl, .str _, H, I.kept hk, ⟨_, rfl⟩, ?_⟩
    have : (PyData.list ds).shown = listText (PyData.shownAll ds) := by simp only [PyData.shown]
    rw [this] at q
    exact q
end
end Gx

/-! A dict of the module, with text keys, asked by get. -/
namespace Gx
open PySem PySem.Spec PyProof.Rows L2 GxR
section
variable {X : Cx} {d : Addr} {es : Array DictEntry} {n : Nat}
def tKGet (K : PySem.W.Frag) (d : Addr) (ty : TE) : TE := fun σ H Q => ty σ H fun y H2 => ∃ (z : Str) (u0 : Value) (v0 : V), y = .str z ∧ PySem.W.nsIn K d z = some (some u0) ∧ RelV v0 u0 ∧ Q v0 H2
theorem pe_kget1 {o e : Expr} {apos cpos : Pos} {ty : TE} (D : KDict X.K X.w d es n) (ho : PE X o (tC (.ref d))) (he : PE X e ty) (m : M1 X o "get" apos e cpos) : PE X (.Call (.Attribute o "get" apos) [e] [] cpos) (tKGet X.K d ty) := by
  refine ⟨fun pins s σ H Q I h => ?_⟩
  refine wpAny_Call_method m.base m.few m.line PySem.F.plainAttrs_dict PySem.F.slot_dict_get PySem.F.type_dict_get (thn (ho.run pins s σ H (fun x H1 => x = .ref d ∧ tKGet X.K d ty σ H1 Q) I ⟨rfl, h⟩) fun u s1 ⟨x, H1, I1, rx, ex, q1⟩ => ?_)
  subst ex
  obtain rfl : u = Value.ref d := rx
  refine ⟨kd_type D I1, fun a ea => ?_, ?_⟩
  · cases ea
    exact ⟨_, I1.kIn d _ D.at_, rfl⟩
  · rw [m.trees]
    refine Calls.callWith_builtin rfl (Calls.evalArgs_plain (Calls.spliced_cons (thn (he.run pins s1 σ H1 _ I1 q1) fun iv s2 ⟨y, H2, I2, ry, z, u0, v0, ey, e0, r0, q2⟩ => Calls.spliced_nil ?_)))
    subst ey
    obtain ⟨t, rfl⟩ := ry
    refine call_meetsIn PySem.F.slot_dict_get (kd_type D I2) PySem.F.entry_dict_get (PySem.F.args_dict_get_2 _ _) (meets_dict_get (PySem.strKind X.prog X.w) d (PySem.strKind_is X.prog X.w z t) D.low) ⟨_, PySem.W.mapOf_K (prog := X.prog) I2.kIn D.at_ D.lit, ?_⟩
    rw [PySem.W.find_K D.at_ e0]
    exact ⟨v0, H2, I2.tok _, r0, q2⟩
/-- f'..' -/
def tJoin (ts : List TE) : TE := fun σ H Q => tJs ts Str.empty σ H fun out H1 => Q (.str out) H1
theorem pe_joinF {v1 v2 : Expr} {rest : List Expr} {ts : List TE} {pos : Pos} (h : PJ X (v1 :: v2 :: rest) ts) : PE X (.JoinedStr (v1 :: v2 :: rest) pos) (tJoin ts) := pe_joined h
end
end Gx

/-! ### tuples in which dicts with text keys stand: repr, == -/
namespace Gx
open PySem PySem.Spec PyProof.Rows L2 GxR GenW
inductive KvD (K : PySem.W.Frag) (H : Hp) : List (Key × V) → List (Str × PyData) → Prop
  | nil : KvD K H [] []
  | cons {x : Str} {v : V} {d : PyData} {r : List (Key × V)} {t : List (Str × PyData)} : Dp K H v d → d.hasDict = false → KvD K H r t → KvD K H ((Sum.inr x, v) :: r) ((x, d) :: t)
def dicD (ps : List (Str × PyData)) : PyData := .dict (ps.map fun p => (.str p.1, p.2))
/-- data, or a dict of data -/
inductive Di (K : PySem.W.Frag) (H : Hp) : V → PyData → Prop
  | p {v : V} {d : PyData} : Dp K H v d → d.hasDict = false → Di K H v d
  | k {a : Addr} {kvs : List (Key × V)} {ps : List (Str × PyData)} : H a = some (.dK kvs) → KvD K H kvs ps → Di K H (.ref a) (dicD ps)
inductive Dis (K : PySem.W.Frag) (H : Hp) : List V → List PyData → Prop
  | nil : Dis K H [] []
  | cons {v : V} {d : PyData} {vs : List V} {ds : List PyData} : Di K H v d → Dis K H vs ds → Dis K H (v :: vs) (d :: ds)
theorem kvd_plain {K : PySem.W.Frag} {H : Hp} {kvs : List (Key × V)} {ps : List (Str × PyData)} (h : KvD K H kvs ps) : PyData.hasDictAll ((ps.map fun p => ((.str p.1 : PyData), p.2)).map (·.2)) = false ∧ PyData.hasDictAll ((ps.map fun p => ((.str p.1 : PyData), p.2)).map (·.1)) = false := by
  induction h with
  | nil => exact ⟨rfl, rfl⟩
  | cons h1 h2 _ ih =>
    refine ⟨?_, ?_⟩
    · rw [List.map_cons, List.map_cons, PyData.hasDictAll, ih.1, h2]
      rfl
    · rw [List.map_cons, List.map_cons, PyData.hasDictAll, ih.2]
      rfl
section
variable {X : Cx} {pins : List (Addr × Obj)} {σ : L2.St} {H : Hp} {s : Shared}
theorem kvd_read (I : Inv X pins σ H s) {kvs : List (Key × V)} {ps : List (Str × PyData)} (h : KvD X.K H kvs ps) : ∀ {vs : List (Key × Value)}, KV kvs vs →
    ∃ bs, PyProof.V.PairsRead s.heap (fun k : Key => match k with | .inl i => PyData.int i | .inr x => PyData.str x) vs (ps.map fun p => (.str p.1, p.2)) bs := by
  induction h with
  | nil =>
    intro vs r
    cases r
    exact ⟨[], .nil⟩
  | cons h1 h2 _ ih =>
    intro vs r
    cases r with
    | @cons a b as bs r t =>
      obtain ⟨k, u⟩ := b
      obtain ⟨e, ru⟩ := r
      have e : Sum.inr _ = k := e
      subst e
      obtain ⟨as, rd⟩ := Dp.reads I _ _ u h1 ru
      obtain ⟨bs, pb⟩ := ih t
      exact ⟨_, .cons rd pb⟩
theorem Di.shows (I : Inv X pins σ H s) {v : V} {u : Value} {d : PyData} (h : Di X.K H v d) (r : RelV v u) (hs : d.showable = true) (hz : d.shown.length ≤ sizeLine) :
    ∃ as bs, Reads s.heap u d as ∧ ReadAtMost s.heap d.depth bs ∧ ReprK X.prog X.w bs s.heap d.depth u d.shown := by
  cases h with
  | p hd nod =>
    obtain ⟨as, rd⟩ := Dp.reads I d v u hd r
    obtain ⟨bs, h1, h2⟩ := ReprK.of_reads (prog := X.prog) (w := X.w) rd hs (PyData.noDict_hsm nod) hz
    exact ⟨as, bs, rd, h1, h2⟩
  | @k a kvs ps e kd =>
    cases r
    obtain ⟨_, lo, vs, rel, o, es, ep, ho, hx, hdat, c1, hp, c2⟩ := dk_of I.hok e
    obtain ⟨bs0, pr⟩ := kvd_read I kd rel
    obtain ⟨r1, r2⟩ := PyProof.V.readsAll_of_pairs (fun k key hk => by
      rcases keyIs_shape hk with ⟨i, t, rfl, rfl⟩ | ⟨x, t, rfl, rfl⟩
      · exact Reads.int i t
      · exact Reads.str x t) hp pr
    have rd : Reads s.heap (.ref a) (dicD ps) _ := Reads.dict ho hx.1 hdat r1 r2
    have big : (dictText (PyData.shownKv (ps.map fun p => ((.str p.1 : PyData), p.2)))).length ≤ sizeLine := by
      have e2 : (dicD ps).shown = dictText (PyData.shownKv (ps.map fun p => ((.str p.1 : PyData), p.2))) := by
        unfold dicD
        rw [PyData.shown]
      rw [← e2]
      exact hz
    obtain ⟨s1, s2⟩ := PyData.showableKv_split (ps.map fun p => ((.str p.1 : PyData), p.2)) (by
      unfold dicD at hs
      rwa [PyData.showable] at hs)
    obtain ⟨n2, n1⟩ := kvd_plain kd
    obtain ⟨b1, m1, k1⟩ := ReprAllK.of_readsAll (prog := X.prog) (w := X.w) r1 s1 (fun q => by rw [n1] at q; cases q) (fun t ht => by
      obtain ⟨q, hq, l⟩ := PyData.shownKv_key_le _ t ht
      exact Nat.le_trans (Nat.le_trans l (dictText_mem_le hq)) big)
    obtain ⟨b2, m2, k2⟩ := ReprAllK.of_readsAll (prog := X.prog) (w := X.w) r2 s2 (fun q => by rw [n2] at q; cases q) (fun t ht => by
      obtain ⟨q, hq, l⟩ := PyData.shownKv_val_le _ t ht
      exact Nat.le_trans (Nat.le_trans l (dictText_mem_le hq)) big)
    have dd : (dicD ps).depth = PyData.depthKv (ps.map fun p => ((.str p.1 : PyData), p.2)) + 1 := by
      unfold dicD
      rw [PyData.depth]
    have both : ReadAtMost s.heap (PyData.depthKv (ps.map fun p => ((.str p.1 : PyData), p.2))) (b1 ++ b2) := (m1.mono (PyData.depthAll_keys_le _)).append (m2.mono (PyData.depthAll_vals_le _))
    have out : a ∉ b1 ++ b2 := not_mem_of_deeper rd (by rw [dd]; omega) both
    refine ⟨_, a :: (b1 ++ b2), rd, ReadAtMost.cons rd (by rw [dd]; omega) both, ?_⟩
    rw [dd]
    unfold dicD
    rw [PyData.shown, PyData.shownKv_eq]
    exact ReprK.dict ho hx.1 hdat lo out (ReprEntriesK.of_two es.toList _ _ (k1.more_le (fun b hb => List.mem_append_left b2 hb) (PyData.depthAll_keys_le _)) (k2.more_le (fun b hb => List.mem_append_right b1 hb) (PyData.depthAll_vals_le _)))
theorem Dis.shows (I : Inv X pins σ H s) {vs : List V} {ds : List PyData} (h : Dis X.K H vs ds) : ∀ {us : List Value}, Vals vs us → PyData.showableAll ds = true → (∀ t ∈ PyData.shownAll ds, t.length ≤ sizeLine) →
    ∃ as bs, ReadsAll s.heap us ds as ∧ ReadAtMost s.heap (PyData.depthAll ds) bs ∧ ReprAllK X.prog X.w bs s.heap (PyData.depthAll ds) us (PyData.shownAll ds) := by
  induction h with
  | nil =>
    intro us r _ _
    cases r
    exact ⟨[], [], .nil, (fun _ h => nomatch h), by simp only [PyData.shownAll]; exact .nil⟩
  | @cons v d vs ds h t ih =>
    intro us r hs hz
    cases r with
    | cons r1 r2 =>
      rw [PyData.showableAll, Bool.and_eq_true] at hs
      obtain ⟨as, bs, a1, a2, a3⟩ := h.shows I r1 hs.1 (hz _ (by rw [PyData.shownAll]; exact List.mem_cons_self))
      obtain ⟨cs, ds', b1, b2, b3⟩ := ih r2 hs.2 fun t ht => hz t (by rw [PyData.shownAll]; exact List.mem_cons_of_mem _ ht)
      refine ⟨_, bs ++ ds', .cons a1 b1, (a2.mono ?_).append (b2.mono ?_), ?_⟩
      · rw [PyData.depthAll]
        exact Nat.le_max_left _ _
      · rw [PyData.depthAll]
        exact Nat.le_max_right _ _
      · rw [PyData.shownAll, PyData.depthAll]
        exact .cons ((a3.more fun b hb => List.mem_append_left _ hb).level_le (Nat.le_max_left _ _)) (b3.more_le (fun b hb => List.mem_append_right _ hb) (Nat.le_max_right _ _))
end
section
variable {X : Cx}
def rReprT (K : PySem.W.Frag) : List V → Hp → VK → Prop := fun xs H Q => ∃ (T : Addr) (vs : List V) (ds : List PyData), xs = [.ref T] ∧ SqT K H T vs ∧ Dis K H vs ds ∧ PyData.showableAll ds = true ∧
  PyData.depthAll ds ≤ 60 ∧ (PyData.tuple ds).shown.length ≤ sizeLine ∧ Q (.str (PyData.tuple ds).shown) H
theorem cr_reprT (g : X.A.guards = some []) (hu : X.A.units + 64 < cLine) : CallR X (.builtin "repr") (rReprT X.K) := by
  intro pins s σ H xs us Q I r h
  obtain ⟨T, vs, ds, rfl, hT, hD, hs, hd, hz, q⟩ := h
  obtain ⟨u, rfl, rx⟩ : ∃ u, us = [u] ∧ RelV (.ref T) u := by
    cases r with
    | cons r1 r2 => cases r2; exact ⟨_, rfl, r1⟩
  cases rx
  obtain ⟨its, ri, ⟨o, ho, hc, n, hdat⟩, hl⟩ := I.tuple hT
  have e0 : (PyData.tuple ds).shown = tupleText (PyData.shownAll ds) := by rw [PyData.shown]
  have hz2 : (tupleText (PyData.shownAll ds)).length ≤ sizeLine := by rw [← e0]; exact hz
  obtain ⟨as, bs, a1, a2, a3⟩ := hD.shows I ri hs fun t ht => Nat.le_trans (tupleText_mem_le ht) hz2
  have rd : Reads s.heap (.ref T) (.tuple ds) as := Reads.tuple ho hc hdat (by simpa using a1)
  have hna : T ∉ bs := not_mem_of_deeper rd (by simp only [PyData.depth]; omega) a2
  refine call_repr_slot (T := "tuple") (by omega) ⟨_, ho, hc⟩ F.slot_tuple_repr ?_
  refine call_tuple_reprK ho hc hdat hna (by simpa using a3) g (fun b _ => Clear.nil b) (by show X.A.units + 1 + (_ + 1) < cLine; omega) (fun _ _ e => e) (fun h' u tk hk => ?_) hz2
  refine ⟨_, _, rfl, .str _, H, I.kept hk, ⟨_, rfl⟩, ?_⟩
  rw [e0] at q
  exact q
end
/-! ### == -/
/-- the values of two dicts, key by key -/
def Hits (K : PySem.W.Frag) (H : Hp) (kvs lvs : List (Key × V)) (e : Key → Bool) : Prop := ∀ k v w, (k, v) ∈ kvs → valV lvs k = some w → ∃ d d', Dp K H v d ∧ Dp K H w d' ∧ SeqAt.shaped d = true ∧ SeqAt.shaped d' = true ∧ e k = PyData.eqv d d'
def dicE (kvs lvs : List (Key × V)) (e : Key → Bool) : Bool := kvs.length == lvs.length && kvs.all fun p => (valV lvs p.1).isSome && e p.1
inductive EqV (K : PySem.W.Frag) (H : Hp) : V → V → Bool → Prop
  | p {v w : V} {d d' : PyData} : Dp K H v d → Dp K H w d' → SeqAt.shaped d = true → SeqAt.shaped d' = true → EqV K H v w (PyData.eqv d d')
  | k {a b : Addr} {kvs lvs : List (Key × V)} {e : Key → Bool} : a ≠ b → H a = some (.dK kvs) → H b = some (.dK lvs) → Hits K H kvs lvs e → EqV K H (.ref a) (.ref b) (dicE kvs lvs e)
inductive EqVs (K : PySem.W.Frag) (H : Hp) : List V → List V → List Bool → Prop
  | nil : EqVs K H [] [] []
  | cons {v w : V} {b : Bool} {vs ws : List V} {bs : List Bool} : EqV K H v w b → EqVs K H vs ws bs → EqVs K H (v :: vs) (w :: ws) (b :: bs)
section
variable {X : Cx} {pins : List (Addr × Obj)} {σ : L2.St} {H : Hp} {s : Shared}
theorem dp_leaf (I : Inv X pins σ H s) {v w : V} {u y : Value} {d d' : PyData} (h : Dp X.K H v d) (k : Dp X.K H w d') (sd : SeqAt.shaped d = true) (se : SeqAt.shaped d' = true) (ru : RelV v u) (ry : RelV w y) :
    PySem.W.EqTree X.prog X.w s 64 u y (PyData.eqv d d') := by
  obtain ⟨as, r1⟩ := Dp.reads I d v u h ru
  obtain ⟨bs, r2⟩ := Dp.reads I d' w y k ry
  refine .leaf fun A hu => SeqAt.eqAt_reads d d' A s u y as bs r1 r2 (SeqAt.canLay_of_shaped sd) (SeqAt.canLay_of_shaped se) ?_
  have := SeqAt.depth_of_shaped sd
  have : min d.depth d'.depth ≤ d.depth := Nat.min_le_left _ _
  omega
theorem paired_mem {α β : Type} {F : α → β → Prop} : ∀ {xs : List α} {ys : List β}, Paired F xs ys → ∀ {y : β}, y ∈ ys → ∃ x, x ∈ xs ∧ F x y
  | _, _, .nil, _, h => by cases h
  | _, _, .cons r t, y, h => by
    rcases List.mem_cons.mp h with rfl | h
    · exact ⟨_, List.mem_cons_self, r⟩
    · obtain ⟨x, hx, fx⟩ := paired_mem t h
      exact ⟨x, List.mem_cons_of_mem _ hx, fx⟩
theorem EqV.tree (I : Inv X pins σ H s) {v w : V} {b : Bool} (h : EqV X.K H v w b) {u y : Value} (ru : RelV v u) (ry : RelV w y) : PySem.W.EqTree X.prog X.w s 65 u y b := by
  cases h with
  | @p _ _ d d' h1 h2 s1 s2 =>
    obtain ⟨as, r1⟩ := Dp.reads I _ v u h1 ru
    obtain ⟨bs, r2⟩ := Dp.reads I _ w y h2 ry
    refine .leaf fun A hu => SeqAt.eqAt_reads _ _ A s u y as bs r1 r2 (SeqAt.canLay_of_shaped s1) (SeqAt.canLay_of_shaped s2) ?_
    have := SeqAt.depth_of_shaped s1
    have : min d.depth d'.depth ≤ d.depth := Nat.min_le_left _ _
    omega
  | @k a b kvs lvs e ne ha hb hit =>
    cases ru
    cases ry
    obtain ⟨_, la, va, ra, da⟩ := dk_of I.hok ha
    obtain ⟨_, lb, vb, rb, db⟩ := dk_of I.hok hb
    have t := PySem.W.EqTree.dicts (prog := X.prog) (w := X.w) (s := s) (n := 64) (knd := mixKind X.prog X.w) (e := e) ne la lb da db fun k u y hm hv => by
      obtain ⟨⟨k', v⟩, hv', e1, r1⟩ := paired_mem ra hm
      have e1 : k' = k := e1
      subst e1
      have rv := rb.val k'
      rw [hv] at rv
      obtain ⟨w, hw, rw_⟩ : ∃ w, valV lvs k' = some w ∧ RelV w y := by
        cases z : valV lvs k' with
        | none =>
          rw [z] at rv
          exact absurd rv (by intro q; cases q)
        | some w =>
          rw [z] at rv
          exact ⟨w, rfl, rv⟩
      obtain ⟨d, d', p1, p2, s1, s2, ee⟩ := hit k' v w hv' hw
      rw [ee]
      exact dp_leaf I p1 p2 s1 s2 r1 rw_
    have e3 : (va.length == vb.length && va.all fun p => (valueAt vb p.1).isSome && e p.1) = dicE kvs lvs e := by
      unfold dicE
      rw [← ra.length, ← rb.length]
      congr 1
      have some_ : ∀ k, (valueAt vb k).isSome = (valV lvs k).isSome := fun k => by
        have rv := rb.val k
        cases z1 : valV lvs k with
        | none =>
          rw [z1] at rv
          cases z2 : valueAt vb k with
          | none => rfl
          | some q =>
            rw [z2] at rv
            exact absurd rv (by intro q; cases q)
        | some w =>
          rw [z1] at rv
          cases z2 : valueAt vb k with
          | none =>
            rw [z2] at rv
            exact absurd rv (by intro q; cases q)
          | some q => rfl
      have a1 : ∀ (l : List (Key × Value)), (l.all fun p => (valueAt vb p.1).isSome && e p.1) = (l.map (·.1)).all fun k => (valV lvs k).isSome && e k := fun l => by
        rw [List.all_map]
        congr 1
        funext p
        show ((valueAt vb p.1).isSome && e p.1) = ((valV lvs p.1).isSome && e p.1)
        rw [some_]
      rw [a1, ← ra.keys, List.all_map]
      rfl
    rw [← e3]
    exact t
theorem EqVs.trees (I : Inv X pins σ H s) {vs ws : List V} {bs : List Bool} (h : EqVs X.K H vs ws bs) : ∀ {us ys : List Value}, Vals vs us → Vals ws ys → us.length = bs.length ∧ ys.length = bs.length ∧
    ∀ j (h1 : j < us.length) (h2 : j < ys.length), PySem.W.EqTree X.prog X.w s 65 us[j] ys[j] (bs.getD j false) := by
  induction h with
  | nil =>
    intro us ys r1 r2
    cases r1
    cases r2
    exact ⟨rfl, rfl, fun j h1 => absurd h1 (Nat.not_lt_zero _)⟩
  | cons hb _ ih =>
    intro us ys r1 r2
    cases r1 with
    | cons a1 t1 =>
      cases r2 with
      | cons a2 t2 =>
        obtain ⟨l1, l2, t⟩ := ih t1 t2
        refine ⟨congrArg (· + 1) l1, congrArg (· + 1) l2, fun j h1 h2 => ?_⟩
        cases j with
        | zero => exact hb.tree I a1 a2
        | succ j => exact t j (Nat.lt_of_succ_lt_succ h1) (Nat.lt_of_succ_lt_succ h2)
end
section
open AutoSeq1 SeqRoads2 MeetsSeq MeetsSeq2 MeetsSeq3 SeqAt
variable {prog : Program} {w : World}
/-- tuple.__ne__ of two of one length, item by item -/
theorem ne_meets (p q : Addr) (us ys : List Value) (bs : List Bool) (n m : Nat) (od oe : Option Addr) (so sp : Array (Option Value)) (lu : us.length = bs.length) (ly : ys.length = bs.length) :
    MeetsIn prog w (Builtin.«tuple.__ne__» ⟨[.ref p, .ref q], []⟩) (fun A R s =>
      s.heap.get? p = some { cls := .type "tuple", dict := od, data := .seq us.toArray n, slots := so } ∧
      s.heap.get? q = some { cls := .type "tuple", dict := oe, data := .seq ys.toArray m, slots := sp } ∧
      (∀ (j : Nat) (u y : Value) (b : Bool), us[j]? = some u → ys[j]? = some y → bs[j]? = some b → EqIn prog w A.in1 s u y b) ∧ R (.ok (.ret (.bool (!bs.all id)))) s) := .of_wp fun A R s h => by
  obtain ⟨hp, g, d, tk, os⟩ := s
  obtain ⟨e1, e2, each, fin⟩ := h
  have sub := AutoSeq1.sub_tuple_tuple
  have zl : (us.zip ys).length = bs.length := by rw [List.length_zip, lu, ly, Nat.min_self]
  wp_walk using wpAny_loadPart' e1, wpAny_loadPart' e2, wpAny_forIn_list _ (fun left acc st => acc.1 = none ∧ st = ⟨hp, g, d, tk, os⟩ ∧ ∃ i, left = (us.zip ys).drop i ∧ R (.ok (.ret (.bool (!(bs.drop i).all id)))) ⟨hp, g, d, tk, os⟩) _
  case turn =>
    rintro ⟨u, y⟩ left acc st ⟨ha, rfl, i, hz, hr⟩
    have hi : i < (us.zip ys).length := Nat.lt_of_not_le fun z => by
      rw [List.drop_of_length_le z] at hz
      cases hz
    have hb : i < bs.length := by omega
    have at_ : (us.zip ys)[i]? = some (u, y) := by
      have := congrArg List.head? hz
      rw [List.head?_cons, List.head?_drop] at this
      exact this.symm
    have tl : left = (us.zip ys).drop (i + 1) := by
      have := congrArg List.tail hz
      rw [List.tail_cons, List.tail_drop] at this
      exact this
    obtain ⟨a1, a2⟩ := List.getElem?_zip_eq_some.mp at_
    have bd : bs.drop i = bs[i] :: bs.drop (i + 1) := List.drop_eq_getElem_cons hb
    rw [bd, List.all_cons] at hr
    refine wpAny_bind (each i u y bs[i] a1 a2 (List.getElem?_eq_getElem hb) _ _ ?_)
    cases cb : bs[i] with
    | true =>
      rw [cb] at hr
      wp_walk
      exact ⟨rfl, rfl, i + 1, tl, by simpa using hr⟩
    | false =>
      rw [cb] at hr
      wp_walk
      exact ⟨_, rfl, by simpa using hr⟩
  case fin =>
    rintro ⟨c1, c2⟩ st ⟨hc, rfl, i, hz, hr⟩
    have hc : c1 = none := hc
    subst hc
    have hi : bs.length ≤ i := Nat.le_of_not_lt fun z => by
      rw [List.drop_eq_getElem_cons (by omega : i < (us.zip ys).length)] at hz
      cases hz
    rw [List.drop_of_length_le hi] at hr
    wp_walk
    refine ⟨_, rfl, ?_⟩
    simpa [Builtin.Tuple.tupleCompareSizes, bne, lu, ly] using hr
  case h =>
    exact ⟨rfl, rfl, 0, by simp, by simpa using fin⟩
end
section
variable {X : Cx}
def rEqT (K : PySem.W.Frag) : R2 := fun x y H Q => ∃ (a b : Addr) (vs ws : List V) (bs : List Bool), x = .ref a ∧ y = .ref b ∧ SqT K H a vs ∧ SqT K H b ws ∧ EqVs K H vs ws bs ∧ Q (.bl (bs.all id)) H
def rNeT (K : PySem.W.Frag) : R2 := fun x y H Q => ∃ (a b : Addr) (vs ws : List V) (bs : List Bool), x = .ref a ∧ y = .ref b ∧ SqT K H a vs ∧ SqT K H b ws ∧ EqVs K H vs ws bs ∧ Q (.bl (!bs.all id)) H
theorem all_range {bs : List Bool} : ((List.range bs.length).all fun j => bs.getD j false) = bs.all id := by
  induction bs with
  | nil => rfl
  | cons b r ih =>
    rw [List.length_cons, List.range_succ_eq_map, List.all_cons, List.all_cons, ← ih, List.all_map]
    rfl
theorem op_eqT (hu : X.A.units + 128 < cLine) : OpR X (compareOp .Eq) (rEqT X.K) := by
  intro pins s σ H x y v u Q I rx ry h
  obtain ⟨a, b, vs, ws, bs, rfl, rfl, ha, hb, he, q⟩ := h
  cases rx
  cases ry
  obtain ⟨i1, r1, ⟨o1, x1, x2, n1, x3⟩, _⟩ := I.tuple ha
  obtain ⟨i2, r2, ⟨o2, y1, y2, n2, y3⟩, _⟩ := I.tuple hb
  obtain ⟨l1, l2, t⟩ := he.trees I r1 r2
  refine PySem.W.eq_tuplesT (n := 65) (e := fun j => bs.getD j false) ⟨o1, x1, x2, n1, x3⟩ ⟨o2, y1, y2, n2, y3⟩ (fun j h1 h2 => by simpa using t j (by simpa using h1) (by simpa using h2)) (by omega) ?_
  have e1 : ((List.range (min i1.toArray.size i2.toArray.size)).all (fun j => bs.getD j false) && i1.toArray.size == i2.toArray.size) = bs.all id := by
    rw [List.size_toArray, List.size_toArray, l1, l2, Nat.min_self, all_range, beq_self_eq_true, Bool.and_true]
  rw [e1]
  exact ⟨.bl _, H, I, rfl, q⟩
theorem op_neT (hu : X.A.units + 128 < cLine) : OpR X (compareOp .NotEq) (rNeT X.K) := by
  intro pins s σ H x y v u Q I rx ry h
  obtain ⟨a, b, vs, ws, bs, rfl, rfl, ha, hb, he, q⟩ := h
  cases rx
  cases ry
  obtain ⟨i1, r1, ⟨⟨c1, d1, t1, s1⟩, x1, x2, n1, x3⟩, _⟩ := I.tuple ha
  obtain ⟨i2, r2, ⟨⟨c2, d2, t2, s2⟩, y1, y2, n2, y3⟩, _⟩ := I.tuple hb
  have x2 : c1 = .type "tuple" := x2
  have x3 : t1 = .seq i1.toArray n1 := x3
  have y2 : c2 = .type "tuple" := y2
  have y3 : t2 = .seq i2.toArray n2 := y3
  subst x2 x3 y2 y3
  obtain ⟨l1, l2, t⟩ := he.trees I r1 r2
  show wpAny (model X.prog X.w) X.A (richCompare .NotEq (.ref a) (.ref b)) _ _ s
  refine wpAny_richCompare_same_room (T := "tuple") (op := .NotEq) ⟨_, x1, rfl⟩ ⟨_, y1, rfl⟩ F.slot_tuple_ne (call_meetsIn F.slot_tuple_ne ⟨_, x1, rfl⟩ F.entry_tuple_ne (F.args_tuple_ne_2 _ _) (ne_meets a b i1 i2 bs n1 n2 d1 d2 s1 s2 l1 l2)
    ⟨x1, y1, fun j u y b e1 e2 e3 => ?_, show Value.bool (!bs.all id) ≠ Value.notImplemented ∧ _ from ⟨(fun x => nomatch x), ⟨.bl _, H, I, rfl, q⟩⟩⟩) (by omega)
  obtain ⟨h1, rfl⟩ := List.getElem?_eq_some_iff.mp e1
  obtain ⟨h2, rfl⟩ := List.getElem?_eq_some_iff.mp e2
  have t2 := t j h1 h2
  rw [List.getD_eq_getElem?_getD, e3] at t2
  exact t2.at _ (by show X.A.units + 1 + 65 < cLine; omega)
/-- d != {} -/
def rNeD0 : R2 := fun x y H Q => ∃ (a b : Addr) (kvs : List (Key × V)), x = .ref a ∧ y = .ref b ∧ H a = some (.dK kvs) ∧ H b = some (.dK []) ∧ Q (.bl (decide (kvs ≠ []))) H
theorem op_neD0 (hu : X.A.units < cLine) : OpR X (compareOp .NotEq) rNeD0 := by
  intro pins s σ H x y v u Q I rx ry h
  obtain ⟨a, b, kvs, rfl, rfl, ha, hb, q⟩ := h
  cases rx
  cases ry
  obtain ⟨_, la, va, ra, da⟩ := dk_of I.hok ha
  obtain ⟨_, lb, vb, rb, db⟩ := dk_of I.hok hb
  cases rb
  have e : (!(va.length == ([] : List (Key × Value)).length && true)) = decide (kvs ≠ []) := by
    rw [← ra.length, Bool.and_true]
    cases kvs <;> rfl
  refine PySem.W.keq_ne (knd := mixKind X.prog X.w) (r := true) la lb da db hu (fun z => ?_) ?_
  · rw [List.length_nil] at z
    rw [List.eq_nil_of_length_eq_zero z]
    exact .nil
  · rw [e]
    exact ⟨.bl _, H, I, rfl, q⟩
theorem room128 {A : PySem.Around} {k : Nat} (r : Room k A) : A.units + 128 < PySem.cLine := by
  have := r.un
  omega
end
end Gx

/-! repr of a dict of texts to data -/
namespace Gx
open PySem PySem.Spec PyProof.Rows L2 GxR GenW
section
variable {X : Cx}
def rReprD (K : PySem.W.Frag) : List V → Hp → VK → Prop := fun xs H Q => ∃ (a : Addr) (kvs : List (Key × V)) (ps : List (Str × PyData)), xs = [.ref a] ∧ H a = some (.dK kvs) ∧ KvD K H kvs ps ∧ (dicD ps).showable = true ∧ (dicD ps).depth ≤ 60 ∧ (dicD ps).shown.length ≤ sizeLine ∧ Q (.str (dicD ps).shown) H
theorem cr_reprD (g : X.A.guards = some []) (hu : X.A.units + 64 < cLine) : CallR X (.builtin "repr") (rReprD X.K) := by
  intro pins s σ H xs us Q I r h
  obtain ⟨a, kvs, ps, rfl, e, kd, hs, hd, hz, q⟩ := h
  rw [Vals.ref1 r]
  obtain ⟨_, lo, vs, rel, o, es, ep, ho, hx, hdat, c1, hp, c2⟩ := dk_of I.hok e
  obtain ⟨bs0, pr⟩ := kvd_read I kd rel
  obtain ⟨r1, r2⟩ := PyProof.V.readsAll_of_pairs (fun k key hk => by
    rcases keyIs_shape hk with ⟨i, t, rfl, rfl⟩ | ⟨x, t, rfl, rfl⟩
    · exact Reads.int i t
    · exact Reads.str x t) hp pr
  have rd : Reads s.heap (.ref a) (dicD ps) _ := Reads.dict ho hx.1 hdat r1 r2
  have e2 : (dicD ps).shown = dictText (PyData.shownKv (ps.map fun p => ((.str p.1 : PyData), p.2))) := by
    unfold dicD
    rw [PyData.shown]
  have big : (dictText (PyData.shownKv (ps.map fun p => ((.str p.1 : PyData), p.2)))).length ≤ sizeLine := by
    rw [← e2]
    exact hz
  obtain ⟨s1, s2⟩ := PyData.showableKv_split (ps.map fun p => ((.str p.1 : PyData), p.2)) (by
    unfold dicD at hs
    rwa [PyData.showable] at hs)
  obtain ⟨n2, n1⟩ := kvd_plain kd
  obtain ⟨b1, m1, k1⟩ := ReprAllK.of_readsAll (prog := X.prog) (w := X.w) r1 s1 (fun q => by rw [n1] at q; cases q) (fun t ht => by
    obtain ⟨q, hq, l⟩ := PyData.shownKv_key_le _ t ht
    exact Nat.le_trans (Nat.le_trans l (dictText_mem_le hq)) big)
  obtain ⟨b2, m2, k2⟩ := ReprAllK.of_readsAll (prog := X.prog) (w := X.w) r2 s2 (fun q => by rw [n2] at q; cases q) (fun t ht => by
    obtain ⟨q, hq, l⟩ := PyData.shownKv_val_le _ t ht
    exact Nat.le_trans (Nat.le_trans l (dictText_mem_le hq)) big)
  have dd : (dicD ps).depth = PyData.depthKv (ps.map fun p => ((.str p.1 : PyData), p.2)) + 1 := by
    unfold dicD
    rw [PyData.depth]
  have both : ReadAtMost s.heap (PyData.depthKv (ps.map fun p => ((.str p.1 : PyData), p.2))) (b1 ++ b2) := (m1.mono (PyData.depthAll_keys_le _)).append (m2.mono (PyData.depthAll_vals_le _))
  have out : a ∉ b1 ++ b2 := not_mem_of_deeper rd (by rw [dd]; omega) both
  refine call_repr_slot (T := "dict") (by omega) ⟨o, ho, hx.1⟩ F.slot_dict_repr ?_
  refine call_dict_reprK ho hx.1 hdat lo out (ReprEntriesK.of_two es.toList _ _ (k1.more_le (fun b hb => List.mem_append_left b2 hb) (PyData.depthAll_keys_le _)) (k2.more_le (fun b hb => List.mem_append_right b1 hb) (PyData.depthAll_vals_le _))) g (fun b _ => Clear.nil b) (by show X.A.units + 1 + (_ + 1) < cLine; omega) (fun _ _ e => e) (fun h' u tk hk => ?_) (by rw [← PyData.shownKv_eq]; exact big)
  refine ⟨_, _, rfl, .str _, H, I.kept hk, ⟨_, rfl⟩, ?_⟩
  rw [e2, PyData.shownKv_eq] at q
  exact q
end
end Gx

/-! A caught exception that outlives its suite: try/except that keeps it in the told heap; isinstance of it; a def whose callees raise. -/
namespace Gx
open PySem PySem.Spec PyProof.Rows L2 GxR GenW

/-- a caught exception of the class cls, its dict d -/
def ExcAt (a : Addr) (cls : Value) (d : Option Addr) (h : Heap) : Prop := ∃ oe vs, h.get? a = some oe ∧ oe.cls = cls ∧ oe.dict = d ∧ oe.data = .fields vs
def excO (a : Addr) (cls : Value) (d : Option Addr) : HO := .ext (ExcAt a cls d)
theorem excO_ok {P : Program} {w : World} {H : Hp} {h : Heap} {a : Addr} {cls : Value} {d : Option Addr} {oe : Obj} {vs : Array Value} (he : h.get? a = some oe) (hz : Zc cls d oe) (hd : oe.data = .fields vs) : ObjOk P w H h a (excO a cls d) :=
  ⟨⟨oe, vs, he, hz.1, hz.2, hd⟩, ⟨oe, he⟩, fun _ _ ⟨o, vs, e, r⟩ k => ⟨o, vs, k o e, r⟩⟩

section
variable {X : Cx} {pins : List (Addr × Obj)} {σ : L2.St} {H : Hp} {s : Shared}
/-- what stands in the heap, new to the def, is told from here on -/
theorem Inv_told (I : Inv X pins σ H s) {a : Addr} {o : HO} (na : H a = none) (nL : a ≠ X.env.locals) (nC : ∀ x c, X.env.cells.lookup x = some c → c ≠ a) (n0 : X.s_0.heap.get? a = none)
    (nP : ∀ p ∈ X.pn ++ pins, p.1 ≠ a) (ho : ObjOk X.prog X.w (upd H a o) s.heap a o) : Inv X pins σ (upd H a o) s where
  ok := I.ok
  os := I.os
  bare := I.bare
  base :=
    { keep := I.base.keep
      slot := I.base.slot
      free := fun b ob e n hx => by
        rw [upd_ne (fun z => by rw [z, n0] at e; cases e)]
        exact I.base.free b ob e n hx
      there := I.base.there
      tups := fun b xs e => by
        have q := I.base.tups b xs e
        rw [upd_ne (fun z => by rw [z, na] at q; cases q)]
        exact q
      frzs := fun b ob u e => by
        have q := I.base.frzs b ob u e
        rw [upd_ne (fun z => by rw [z, na] at q; cases q)]
        exact q
      tbls := fun b ps e => by
        obtain ⟨more, q⟩ := I.base.tbls b ps e
        exact ⟨more, by rw [upd_ne (fun z => by rw [z, na] at q; cases q)]; exact q⟩ }
  loc := I.loc
  cell := I.cell
  free := by rw [upd_ne (Ne.symm nL)]; exact I.free
  freeC := fun x c e => by rw [upd_ne (nC x c e)]; exact I.freeC x c e
  pin := fun p hp => by
    obtain ⟨e, n, r⟩ := I.pin p hp
    exact ⟨e, by rw [upd_ne (nP p hp)]; exact n, r⟩
  hok := fun b u e => by
    by_cases hb : b = a
    · subst hb
      rw [upd_same] at e
      cases e
      exact ho
    · rw [upd_ne hb] at e
      exact (I.hok b u e).stay (fun _ _ _ q => q) (fun c q => by rw [upd_ne (ne_of_none q na)]; exact q) fun c xs q => by rw [upd_ne (ne_of_none q na)]; exact q
  len := I.len
end

/-- what the clause wishes of an exception: its class is caught; the suite, with the exception told and in slot i, goes on to what follows -/
def wKeep (K : PySem.W.Frag) (c : Value) (i : Nat) (ts : TS) (D : Ends) : WX := fun cls d σ H =>
  PySem.W.exmOne K cls c = some true ∧ ∀ a, H a = none → ts { nx := fun τ H' => D.nx (τ.set i none) H', rt := fun _ _ => False, bk := fun _ _ => False, ct := fun _ _ => False } (σ.set i (some (.ref a))) (upd H a (excO a cls d))

section
variable {X : Cx} {c : Value} {i : Nat} {ts : TS}
/-- an exception that has come down to this def: from here on the heap tells of it -/
theorem sky_told (hs : X.stack = X.env :: X.outer) (hf : X.env.frame = some X.env.locals) (hex : X.ex = []) {ps : List (Addr × Obj)} {τ : L2.St} {H : Hp} {s0 s1 : Shared} {G h : Heap} {a : Addr} {cls : Value} {d : Option Addr}
    (J : Inv X ps τ H s0) (ground : ∀ b o, s0.heap.get? b = some o → b ∉ frs X.stack → G.get? b = some o) (fly : HandSPX.FlyingZ G (X.env :: X.outer) a (Zc cls d) h) (slots : s0.heap.UpToSlots h) (os : s1.os = s0.os) (bare : AllBare s1.gens) (na : H a = none) :
    Inv X ps τ (upd H a (excO a cls d)) { s1 with heap := h } ∧ ∃ oe, h.get? a = some oe ∧ oe.cls = cls := by
  obtain ⟨stay, noG, funs, oe, vs, _, _, _, he, hz, hd, _⟩ := fly
  have L := J.landed (s' := { s1 with heap := h }) ground stay slots os bare
  have out : a ∉ frs X.stack := by
    intro hm
    rw [hs] at hm
    obtain ⟨_, o2, e2, nf⟩ := funs.mem hm
    cases he.symm.trans e2
    exact nf vs hd
  have gone : s0.heap.get? a = none := by
    cases q : s0.heap.get? a with
    | none => rfl
    | some o =>
      have z := ground a o q out
      rw [noG] at z
      cases z
  refine ⟨Inv_told L na (fun z => out ?_) (fun y k q z => ?_) ?_ (fun p hp z => ?_) (excO_ok he hz hd), oe, he, hz.1⟩
  · rw [hs, z]
    exact List.mem_filterMap.mpr ⟨X.env, List.mem_cons_self, hf⟩
  · obtain ⟨v, o2, e2, dk⟩ := L.cell y k q
    rw [z] at e2
    cases he.symm.trans e2
    rw [hd] at dk
    cases dk
  · cases q : X.s_0.heap.get? a with
    | none => rfl
    | some o =>
      obtain ⟨o2, e2⟩ := J.base.there a o q (by rw [hex]; simp)
      rw [gone] at e2
      cases e2
  · have z2 := (J.pin p hp).1
    rw [z, gone] at z2
    cases z2
theorem Inv_suite0 {ps : List (Addr × Obj)} {τ : L2.St} {H : Hp} {s : Shared} (I : Inv X ps τ H s) (a : Addr) : Inv (X.suite a (X.pn ++ ps)) [] τ H s := by
  have p0 := I.pin
  obtain ⟨k1, k2, k3, k4, k5, k6, k7, k8, _, k9, k10⟩ := I
  refine ⟨k1.suite _ _, k2, k3, k4, k5, k6, k7, k8, fun z hz => p0 z ?_, k9, k10⟩
  rwa [List.append_nil] at hz
theorem Inv_unsuite0 {ps qs : List (Addr × Obj)} {a : Addr} {τ : L2.St} {H : Hp} {s : Shared} (I : Inv (X.suite a (X.pn ++ ps)) qs τ H s) (ok : X.Ok) : Inv X ps τ H s := by
  have p0 := I.pin
  obtain ⟨_, k2, k3, k4, k5, k6, k7, k8, _, k9, k10⟩ := I
  exact ⟨ok, k2, k3, k4, k5, k6, k7, k8, fun z hz => p0 z (List.mem_append.mpr (.inl hz)), k9, k10⟩
/-- try: body, except x as n: suite, where all that the body lets out is of the class x and the suite goes on to what follows -/
theorem ps_try_keep {x n : Str} {t0 : Stmt} {body rest : List Stmt} {q1 q2 q3 : Pos} {tb : WX → TS} (hs : X.stack = X.env :: X.outer) (hf : X.env.frame = some X.env.locals) (hex : X.ex = []) (hN : X.N.Nodup) (hi : X.N[i]? = some n) (hl : X.env.kindOf n = some .local)
    (hg : Gl X x) (hx : X.mg x = some c) (hb : ∀ (W : WX) (ps : List (Addr × Obj)) (xe : Value → Shared → Prop), Takes (X.tr ps xe) W → PSs (X.tr ps xe) body (tb W)) (hsu : ∀ (a : Addr) (ps : List (Addr × Obj)), PSs (X.suite a ps) (t0 :: rest) ts)
    (hdb : (x == ("__debug__" : Str)) = false := by decide) :
    PS X (.Try body [.ExceptHandler (some (.Name x q1)) (some n) (t0 :: rest) q2] [] [] q3) (fun D τ H => tb (wKeep X.K c i ts D) D τ H) := by
  refine ⟨fun ps s τ H D I h => wpAny_Try_except ?_⟩
  have ok := I.ok
  refine wpAny_mono ((hb (wKeep X.K c i ts D) (X.pn ++ ps) _ ?_).run [] s τ H D (I.toTry _) h) (fun fl s1 r => ?_) fun _ _ z => z
  · rintro u s1 ⟨a, G, s0, _, τ1, H1, cls, d, rfl, J0, ground, slots, sky, na, os, bare, yes, go⟩
    have J := J0.ofTry ok
    refine Sky.land Zc.steady (ok.frames.trans (congrArg some hs)) hf (hs ▸ sky) fun h3 f3 u3 => ?_
    obtain ⟨I3, oe, he, hc⟩ := sky_told (s1 := s1) hs hf hex J ground f3 (slots.trans u3) os bare na
    have ask : PySem.W.Looks (model X.prog X.w) h3 (typeOf (.ref a)) cls := fun _ _ _ _ kept r => wpAny_typeOf_ref (kept _ _ he) (hc ▸ r)
    refine wpAny_handleBy_cons (codeAny_handlers_test (ld_glob (X := X.suite a (X.pn ++ ps)) (Inv_suite0 I3 a) hg hx ?_ hdb)) (fun z => nomatch z)
    refine (PySem.W.exm_one (M := model X.prog X.w) I3.kIn ask yes).here (codeAny_handlers_suite_as (HandSPX.lands_againZ f3 fun h4 f4 u4 => ?_))
    have I4 := (sky_told (s1 := s1) hs hf hex J ground f4 ((slots.trans u3).trans u4) os bare na).1
    refine store_ok (X := X.suite a (X.pn ++ ps)) (v := .ref a) (Inv_suite0 I4 a) hN hi (.inl hl) rfl (fun s5 I5 => wpAny_mono ((hsu a (X.pn ++ ps)).run [] s5 _ _ _ I5 (go a na)) (fun fl s6 r => ?_) fun _ _ z => z.elim) (.inr hl)
    match fl, r with
    | .next, ⟨τ6, H6, I6, r6⟩ => exact gone_ok (Inv_unsuite0 I6 ok) hN hi hl fun s7 I7 => ⟨_, _, I7, r6⟩
    | .brk, ⟨_, _, _, r6⟩ => exact r6.elim
    | .cont, ⟨_, _, _, r6⟩ => exact r6.elim
    | .ret _, ⟨_, _, _, _, _, r6⟩ => exact r6.elim
  · match fl, r with
    | .next, ⟨τ1, H1, I1, r1⟩ => exact wpAny_execs_nil ⟨τ1, H1, I1.ofTry ok, r1⟩
    | .brk, ⟨τ1, H1, I1, r1⟩ => exact ⟨τ1, H1, I1.ofTry ok, r1⟩
    | .cont, ⟨τ1, H1, I1, r1⟩ => exact ⟨τ1, H1, I1.ofTry ok, r1⟩
    | .ret _, ⟨v, τ1, H1, I1, rv, r1⟩ => exact ⟨v, τ1, H1, I1.ofTry ok, rv, r1⟩
end

/-- isinstance(e, c), e a caught exception that the heap tells of -/
def rIsX (K : PySem.W.Frag) : List V → Hp → VK → Prop := fun xs H Q => ∃ (a D : Addr) (c : V) (cv : Value) (b : Bool), xs = [.ref a, c] ∧ H a = some (excO a (.ref D) none) ∧ ExcC K D ∧ (∀ u, RelV c u → u = cv) ∧ PySem.W.kitOne K (.ref D) cv = some b ∧ Q (.bl b) H
theorem call_isX {X : Cx} : CallR X (.builtin "isinstance") (rIsX X.K) := by
  rintro ps s τ H _ us Q I r ⟨a, D, c, cv, b, rfl, told, C, hcv, yes, q⟩
  match us, r with
  | [u, w], .cons r1 (.cons r2 .nil) =>
    cases r1
    cases hcv _ r2
    obtain ⟨⟨⟨oc, od, dt, sl⟩, vs, at_, k1, k2, k3⟩, _⟩ := I.hok a _ told
    cases k1
    cases k2
    cases k3
    exact PySem.W.kia_one (PySem.W.handS_kitx_exc C.hg C.hk C.hs C.hd C.ha C.hn C.ht C.hm) I.kIn ⟨at_, rfl, rfl, trivial⟩ yes (fun z => nomatch z) fun k => ⟨.bl b, H, I.kept (t' := k) (fun _ _ z => z), rfl, q⟩

/-! ### defs that raise -/
section
variable {P : Program} {w : World} {K : PySem.W.Frag} {mg : Str → Option Value} {base : Heap} {CX : CXT} {k : Nat} {f : Addr} {fd : FuncData} {x : Str} {ps : List Str} {sp : Sp}
theorem FnG.toCX (F : FnG P w K mg base CX0 k f fd ps sp) : FnG P w K mg base CX k f fd ps sp :=
  ⟨F.many, fun A outer s H args us vs Q E g hr e0 hb r h => codeAny_mono (F.runs A outer s H args us vs Q E g hr e0 hb r h) fun q s' hq => by
    match q, hq with
    | .error e, hq => exact hq.elim
    | .ok (.ret u), hq => exact hq⟩
theorem Callee.toCX (C : Callee P w K mg base CX0 k x ps sp) : Callee P w K mg base CX k x ps sp :=
  let ⟨f, fd, F, r⟩ := C.is
  ⟨f, fd, F.toCX, r⟩
end
end Gx

/-! Own classes of error: what the head says of them, raise, calls that may raise, the one class by its name. -/
namespace Gx
open PySem PySem.Spec PyProof.Rows L2 GxR GenW

/-! ### a call that may raise, within try -/
section
variable {X : Cx} {CX : CXT} {k : Nat} {x : Str} {ps : List Str} {sp : Sp} {E : L2.St → XK} {p pos : Pos} {e : Expr} {es : List Expr} {t : TA}
theorem run_gS {pins : List (Addr × Obj)} {σ : L2.St} {H : Hp} {s : Shared} {Q : VK} {us : List Value} {vs : List V} {f : Addr} {fd : FuncData} (F : FnG X.prog X.w X.K X.mg X.base CX k f fd ps sp) (g : X.A.guards = some []) (hr : Room k X.A) (hb : Binds X.K fd ps []) (hx : PassesAt CX X σ (E σ))
    (I : Inv X pins σ H s) (r : Vals vs us) (h : sp vs H Q (E σ)) : wpAny (model X.prog X.w) X.A (call (.ref f) us) (EP X pins σ Q) X.xe s := by
  have hl : (us ++ ([] : List Value)).length = ps.length := by rw [List.append_nil, ← r.length]; exact F.many _ _ _ _ h
  have hB := hb s us I.kIn hl
  rw [List.append_nil] at hB
  refine wpAny_call (codeAny_mono (F.runs X.A X.stack s H ⟨us, []⟩ us vs Q (E σ) g hr I.env0 hB r h) fun q s' hq => ?_)
  match q, hq with
  | .error e, hq => exact hx pins H s e s' I hq
  | .ok (.ret u), hq => exact I.after hq
/-- f(e, ..), which may raise -/
theorem pe_gS (C : Callee X.prog X.w X.K X.mg X.base CX k x ps sp) (g : X.A.guards = some []) (hr : Room k X.A) (hx : ∀ σ, PassesAt CX X σ (E σ)) (ha : PA X (e :: es) t) (hg : Gl X x := by rfl)
    (hdb : (x == ("__debug__" : Str)) = false := by decide) (he : starEach (e :: es) X.env = (false, eval e X.env) :: starEach es X.env := by rfl) (hpl : (backTo pos (starEach es X.env)).any (·.1) = false := by rfl) :
    PE X (.Call (.Name x p) (e :: es) [] pos) (tCallS sp E t) := by
  obtain ⟨f, fd, F, hm, hk, hb⟩ := C.is
  refine ⟨fun pins s σ H Q I h => wpAny_Call_Name_kw (ld_glob I hg hm (PySem.W.callWith_K (h₀ := X.base) I.ok.mod.kin hk (thn (ha.run pos pins s σ H _ I h) fun us s1 h1 => ?_) he hpl) hdb)⟩
  obtain ⟨vs, H1, I1, r, q⟩ := h1
  exact ⟨I1.kIn, run_gS F g hr hb (hx σ) I1 r q⟩
end

/-! ### the classes -/
/-- what the head asks of a class of error that the law's defs raise, over all classes -/
def xsOne (K : PySem.W.Frag) (names : List Str) (x : Str) : Bool :=
  (He.Fa.exc x).ok K && ((He.Fa.exm x "ApartError" true).ok K && (
  decide (PySem.W.findIn K (.ref (He.ga K x)) "__getattribute__" = some (some (.builtin "BaseException.__getattribute__"))) && (
  decide (PySem.W.findIn K (.ref (He.ga K x)) "__getattr__" = some none) && (
  PySem.W.hasDictIn K (He.ga K x) && (
  decide (PySem.W.findIn K (.ref (He.ga K x)) "__class__" = some (some (.builtin "object.__class__"))) && (
  decide (PySem.W.specialIn K (.builtin "object.__class__") "__get__" = some (some (.builtin "getset_descriptor.__get__"))) && (
  decide (PySem.W.takesIn K (.builtin "object.__class__") = some true) && (
  decide (PySem.W.mroIn K (He.ga K x) (.type "object") = some true) && (
  decide (PySem.W.kitOne K (.ref (He.ga K x)) (.type "ValueError") = some true) &&
  names.all fun y => decide (PySem.W.kitOne K (.ref (He.ga K x)) (.ref (He.ga K y)) = some (decide (y = x))))))))))))
def xsB (K : PySem.W.Frag) (names rs : List Str) : Bool := names.all (fun x => He.eqO (PySem.W.nsIn K mainGlobals x) (some (some (.ref (He.ga K x))))) && (He.eqO (PySem.W.nsIn K mainGlobals "ApartError") (some (some (.ref (He.ga K "ApartError")))) && rs.all (xsOne K names))
structure XOne (K : PySem.W.Frag) (names : List Str) (x : Str) : Prop where
  made : PySem.W.excIn K (He.ga K x) He.veBase "ValueError.__new__" = true
  kept : PySem.W.keepIn K (.ref (He.ga K x)) = true
  sub : PySem.W.subIn K (.ref (He.ga K x)) (.type "BaseException") = some true
  ty : PySem.W.typeIn K (.ref (He.ga K x)) = some (.type "type")
  apart : PySem.W.exmOne K (.ref (He.ga K x)) (.ref (He.ga K "ApartError")) = some true
  is : ExcC K (He.ga K x)
  ve : PySem.W.kitOne K (.ref (He.ga K x)) (.type "ValueError") = some true
  kit : ∀ y ∈ names, PySem.W.kitOne K (.ref (He.ga K x)) (.ref (He.ga K y)) = some (decide (y = x))
structure Xs (K : PySem.W.Frag) (mg : Str → Option Value) (names rs : List Str) : Prop where
  glo : ∀ x ∈ names, mg x = some (.ref (He.ga K x))
  top : mg "ApartError" = some (.ref (He.ga K "ApartError"))
  one : ∀ x ∈ rs, XOne K names x
theorem xs_of {K : PySem.W.Frag} {h : Heap} {mg : Str → Option Value} {names rs : List Str} (X : K.In h) (G : h.Ns mainGlobals mg) (c : xsB K names rs = true) : Xs K mg names rs := by
  obtain ⟨c1, c⟩ := He.ba c
  obtain ⟨c2, c3⟩ := He.ba c
  refine ⟨fun x hx => PySem.W.mg_of X G (He.eqO_ok (List.all_eq_true.mp c1 x hx)), PySem.W.mg_of X G (He.eqO_ok c2), fun x hx => ?_⟩
  obtain ⟨d1, d⟩ := He.ba (List.all_eq_true.mp c3 x hx)
  obtain ⟨d2, d⟩ := He.ba d
  obtain ⟨d3, d⟩ := He.ba d
  obtain ⟨d4, d⟩ := He.ba d
  obtain ⟨d5, d⟩ := He.ba d
  obtain ⟨d6, d⟩ := He.ba d
  obtain ⟨d7, d⟩ := He.ba d
  obtain ⟨d8, d⟩ := He.ba d
  obtain ⟨d9, d⟩ := He.ba d
  obtain ⟨d10, d11⟩ := He.ba d
  obtain ⟨e1, e2, e3, e4⟩ := He.exc_ok d1
  exact ⟨e1, e2, e3, e4, He.exm_ok d2, ⟨of_decide_eq_true d3, of_decide_eq_true d4, e3, d5, of_decide_eq_true d6, of_decide_eq_true d7, of_decide_eq_true d8, of_decide_eq_true d9⟩, of_decide_eq_true d10, fun y hy => of_decide_eq_true (List.all_eq_true.mp d11 y hy)⟩

section
variable {X : Cx} {names rs : List Str} {x m : Str} {p p2 pos pos' : Pos} {j : Nat} {W : WX}
/-- raise C('..') -/
theorem ps_raiseX (hc : X.calm = true) (tk : Takes X W) (Z : Xs X.K X.mg names rs) (hx : x ∈ rs) (hn : x ∈ names) (hg : Gl X x) (hdb : (x == ("__debug__" : Str)) = false := by decide) :
    PS X (.Raise (some (.Call (.Name x p) [.Constant (.str m) j p2] [] pos)) none pos') (fun _ σ H => W (.ref (He.ga X.K x)) none σ H) :=
  ps_raise hc tk (pmk_own PySem.F.excBase_ValueError (Z.one x hx).made (Z.glo x hn) (Z.one x hx).kept (raises_own (Z.one x hx).sub (Z.one x hx).ty) hg hdb)
end

/-! ### [("A", isinstance(e, A)), ..] -/
def tKinds (K : PySem.W.Frag) : List (Str × Addr) → TA
  | [] => tNil
  | (w, c) :: r => tCons (tTup (tCons (tC (.str w)) (tCons (tCB (rIsX K) (tCons (tVar 0) (tCons (tC (.ref c)) tNil))) tNil))) (tKinds K r)
/-- tuples of a word and whether -/
def KsAt (H : Hp) (zs : List (Addr × (Str × Bool))) : Prop := ∀ z ∈ zs, H z.1 = some (.tup [.str z.2.1, .bl z.2.2])
theorem KsAt.grow {H H' : Hp} {zs : List (Addr × (Str × Bool))} (k : KsAt H zs) (g : Grow [] H H') : KsAt H' zs := fun z hz => g.tup (by simp) (k z hz)
theorem kinds_go {K : PySem.W.Frag} {a D : Addr} {b : Str × Addr → Bool} (E : ExcC K D) {σ : L2.St} (e0 : σ[0]? = some (some (.ref a))) : ∀ (ks : List (Str × Addr)) (H : Hp) (Q : List V → Hp → Prop), H a = some (excO a (.ref D) none) →
    (∀ p ∈ ks, PySem.W.kitOne K (.ref D) (.ref p.2) = some (b p)) → (∀ zs H', Grow [] H H' → KsAt H' zs → zs.map Prod.snd = ks.map (fun p => (p.1, b p)) → Q (zs.map fun z => V.ref z.1) H') → tKinds K ks σ H Q
  | [], H, Q, _, _, q => q [] H (Grow.refl _ _) (fun _ z => by cases z) rfl
  | (w, c) :: r, H, Q, ha, hk, q => by
    refine ⟨.ref a, e0, a, D, .ref c, .ref c, b (w, c), rfl, ha, E, fun u r => r, hk _ List.mem_cons_self, by show 2 ≤ sizeLine; decide, fun t nt => ?_⟩
    have gt : Grow [] H (upd H t (.tup [.str w, .bl (b (w, c))])) := grow_new nt
    have et : upd H t (.tup [.str w, .bl (b (w, c))]) t = some (.tup [.str w, .bl (b (w, c))]) := upd_same
    generalize upd H t (.tup [.str w, .bl (b (w, c))]) = H1 at gt et ⊢
    refine kinds_go E e0 r H1 _ (gt.keep a _ (by simp) ha fun ps z => by cases z) (fun p hp => hk p (List.mem_cons_of_mem _ hp)) fun zs H' g' k' m' => ?_
    refine q ((t, (w, b (w, c))) :: zs) H' (gt.trans g') (fun z hz => ?_) ?_
    · rcases List.mem_cons.mp hz with rfl | h
      · exact g'.tup (by simp) et
      · exact k' z h
    · rw [List.map_cons, List.map_cons, m']
end Gx
namespace Gx
open PySem PySem.Spec PyProof.Rows L2 GxR GenW
theorem takes_no {X : Cx} : Takes X (fun _ _ _ _ => False) := fun _ _ ⟨_, _, _, _, _, _, _, _, _, _, _, _, _, _, _, _, w⟩ => w.elim
/-- a def that may raise, where it does not -/
theorem passX0 {X : Cx} : Passes (L2.CX X.prog X.w) X E0 := fun _ _ _ _ _ _ _ h => by
  obtain ⟨_, _, _, _, _, _, _, _, _, _, _, _, z⟩ := h
  exact z.elim
/-- all classes of refusal, by name -/
def excNames : List Str := ["NoName", "NoWeb", "NoHand", "NoRoad", "NoBook", "Unlike", "NoNumber", "NoNumbering", "NoSpot", "TooMany", "Twice", "Empty", "NoWord", "Alike", "NoMoment", "Faulty", "NoBooks", "NoParting", "Cross", "Common", "NoLine", "NoHeap", "NoText", "NoRow", "NoNet", "Unfinished"]
end Gx
namespace Gx
open PySem PySem.Spec PyProof.Rows L2 GxR GenW
def ksOf (K : PySem.W.Frag) (names : List Str) : List (Str × Addr) := names.map fun y => (y, He.ga K y)
section
variable {K : PySem.W.Frag} {a : Addr} {x : Str} {σ : L2.St} {H : Hp} {R : TS} {D : Ends}
theorem ks_go (XO : XOne K excNames x) (names : List Str) (hs : ∀ y ∈ names, y ∈ excNames) (e0 : σ[0]? = some (some (.ref a))) (ha : H a = some (excO a (.ref (He.ga K x)) none)) {Q : List V → Hp → Prop}
    (q : ∀ zs H', Grow [] H H' → KsAt H' zs → zs.map Prod.snd = names.map (fun y => (y, decide (y = x))) → Q (zs.map fun z => V.ref z.1) H') : tKinds K (ksOf K names) σ H Q := by
  refine kinds_go (b := fun p => decide (p.1 = x)) XO.is e0 (ksOf K names) H Q ha (fun p hp => ?_) fun zs H' g k m => q zs H' g k ?_
  · obtain ⟨y, hy, rfl⟩ := List.mem_map.mp hp
    exact XO.kit y (hs y hy)
  · rw [m, ksOf, List.map_map]
    rfl
theorem ks_first (XO : XOne K excNames x) {o0 o1 o2 o3 o4 : Option V} (names : List Str) (hs : ∀ y ∈ names, y ∈ excNames) (hl : names.length ≤ 30) (e0 : o0 = some (.ref a)) (ha : H a = some (excO a (.ref (He.ga K x)) none))
    (q : ∀ L zs H', Grow [] H H' → H' L = some (.lst (zs.map fun z => V.ref z.1)) → KsAt H' zs → zs.map Prod.snd = names.map (fun y => (y, decide (y = x))) → R D [o0, some (.ref L), o2, o3, o4] H') :
    tSeq (tAsg (tLst (tKinds K (ksOf K names))) (gName 1)) R D [o0, o1, o2, o3, o4] H := by
  refine ks_go (σ := [o0, o1, o2, o3, o4]) XO names hs (by rw [e0]; rfl) ha fun zs H' g k m => ?_
  have l : zs.length = names.length := by rw [← List.length_map (f := Prod.snd) (as := zs), m, List.length_map]
  refine ⟨by rw [List.length_map]; unfold sizeLine; omega, fun L nL => ?_⟩
  exact q L zs _ (g.trans (grow_new nL)) upd_same (k.grow (grow_new nL)) m
theorem ks_cat (XO : XOne K excNames x) {old : List Str} {L : Addr} {zs : List (Addr × (Str × Bool))} (names : List Str) (hs : ∀ y ∈ names, y ∈ excNames) (hl : old.length + names.length ≤ 30) (e0 : σ[0]? = some (some (.ref a))) (e1 : σ[1]? = some (some (.ref L)))
    (ha : H a = some (excO a (.ref (He.ga K x)) none)) (eL : H L = some (.lst (zs.map fun z => V.ref z.1))) (k0 : KsAt H zs) (m0 : zs.map Prod.snd = old.map (fun y => (y, decide (y = x)))) {Q : VK}
    (q : ∀ L' zs' H', Grow [] H H' → H' L' = some (.lst (zs'.map fun z => V.ref z.1)) → KsAt H' zs' → zs'.map Prod.snd = (old ++ names).map (fun y => (y, decide (y = x))) → Q (.ref L') H') :
    tOp rCat (tVar 1) (tLst (tKinds K (ksOf K names))) σ H Q := by
  refine ⟨.ref L, e1, ?_⟩
  refine ks_go XO names hs e0 ha fun zs1 H1 g1 k1 m1 => ?_
  have l0 : zs.length = old.length := by rw [← List.length_map (f := Prod.snd) (as := zs), m0, List.length_map]
  have l : zs1.length = names.length := by rw [← List.length_map (f := Prod.snd) (as := zs1), m1, List.length_map]
  refine ⟨by rw [List.length_map]; unfold sizeLine; omega, fun b nb => ?_⟩
  have g2 : Grow [] H1 (upd H1 b (.lst (zs1.map fun z => V.ref z.1))) := grow_new nb
  have eb : upd H1 b (.lst (zs1.map fun z => V.ref z.1)) b = some (.lst (zs1.map fun z => V.ref z.1)) := upd_same
  generalize upd H1 b (.lst (zs1.map fun z => V.ref z.1)) = H2 at g2 eb ⊢
  refine ⟨L, b, _, _, rfl, rfl, (g1.trans g2).lst (by simp) eL, eb, by rw [List.length_map, List.length_map]; unfold sizeLine; omega, fun p np => ?_⟩
  have g3 : Grow [] H2 (upd H2 p (.lst ((zs.map fun z => V.ref z.1) ++ zs1.map fun z => V.ref z.1))) := grow_new np
  refine q p (zs ++ zs1) _ ((g1.trans g2).trans g3) (by rw [List.map_append]; exact upd_same) (fun z hz => ?_) (by rw [List.map_append, List.map_append, m0, m1])
  rcases List.mem_append.mp hz with h | h
  · exact ((k0.grow g1).grow g2).grow g3 z h
  · exact (k1.grow g2).grow g3 z h
theorem ks_more (XO : XOne K excNames x) {old : List Str} {L : Addr} {zs : List (Addr × (Str × Bool))} {o0 o2 o3 o4 : Option V} (names : List Str) (hs : ∀ y ∈ names, y ∈ excNames) (hl : old.length + names.length ≤ 30) (e0 : o0 = some (.ref a))
    (ha : H a = some (excO a (.ref (He.ga K x)) none)) (eL : H L = some (.lst (zs.map fun z => V.ref z.1))) (k0 : KsAt H zs) (m0 : zs.map Prod.snd = old.map (fun y => (y, decide (y = x))))
    (q : ∀ L' zs' H', Grow [] H H' → H' L' = some (.lst (zs'.map fun z => V.ref z.1)) → KsAt H' zs' → zs'.map Prod.snd = (old ++ names).map (fun y => (y, decide (y = x))) → R D [o0, some (.ref L'), o2, o3, o4] H') :
    tSeq (tAsg (tOp rCat (tVar 1) (tLst (tKinds K (ksOf K names)))) (gName 1)) R D [o0, some (.ref L), o2, o3, o4] H :=
  ks_cat (σ := [o0, some (.ref L), o2, o3, o4]) XO names hs hl (by rw [e0]; rfl) rfl ha eL k0 m0 q
end
end Gx
namespace Gx
open PySem PySem.Spec PyProof.Rows L2 GxR GenW
theorem filter_one {α : Type} [DecidableEq α] {x : α} : ∀ {l : List α}, l.Nodup → x ∈ l → (l.filter fun y => decide (y = x)) = [x]
  | y :: l, nd, h => by
    obtain ⟨h1, h2⟩ := List.nodup_cons.mp nd
    by_cases e : y = x
    · subst e
      rw [List.filter_cons_of_pos (by simp), List.filter_eq_nil_iff.mpr]
      intro z hz
      simp only [decide_eq_true_eq]
      exact fun q => h1 (q ▸ hz)
    · rw [List.filter_cons_of_neg (by simpa using e)]
      rcases List.mem_cons.mp h with q | q
      · exact absurd q.symm e
      · exact filter_one h2 q
theorem exc_nd : excNames.Nodup := by unfold excNames; decide +kernel
end Gx
namespace Gx
open PySem PySem.Spec PyProof.Rows L2 GxR GenW
section
variable {sb : Bool} {g : TG} {te : TE} {vs : List Nat} {σ : L2.St} {Q : VK} {P : Addr} {H1 : Hp}
theorem truth_tup {K : PySem.W.Frag} {a : Addr} {xs : List V} (Pv : Nat → Hp → Prop) (h0 : ∀ H2, Tabbed P H1 H2 → Pv 0 H2) (hl : ∀ i H, Pv i H → SqT K H a xs)
    (step : ∀ i x H, xs[i]? = some x → Pv i H → g x (wipe σ vs) H fun σ2 H2 => wipe σ2 vs = wipe σ vs ∧ te σ2 H2 fun y H4 => ∃ b, y = .bl b ∧ if b = sb then Q (.bl sb) H4 else Pv (i + 1) H4)
    (fin : ∀ H, Pv xs.length H → Q (.bl (!sb)) H) : rTruth P sb g te vs σ Q (Itt K a) H1 :=
  truth_by (items := xs) Pv h0 (fun i H x H' hp hy => ⟨hy.1, hy.2 xs (hl i H hp)⟩) (fun i H hi hp => ⟨xs, xs[i], hl i H hp, List.getElem?_eq_getElem hi⟩) (fun H hp => ⟨xs, hl _ H hp, Nat.le_refl _⟩) step fin
end
end Gx
namespace Gx
open PySem PySem.Spec PyProof.Rows L2 GxR GenW
theorem Grow.sqt {K : PySem.W.Frag} {H H' : Hp} (g : Grow [] H H') {p : Addr} {xs : List V} (h : SqT K H p xs) : SqT K H' p xs := by
  rcases h with (h | ⟨o, h⟩) | h
  · exact .inl (.inl (g.tup (by simp) h))
  · exact .inl (.inr ⟨o, g.keep p _ (by simp) h fun ps z => by cases z⟩)
  · exact .inr h
end Gx

/-! sorted(t), t a tuple of texts -/
namespace Gx
open PySem PySem.Spec PyProof.Rows L2 GxR GenW
section
variable {X : Cx}
def rSortT (K : PySem.W.Frag) : List V → Hp → VK → Prop := fun xs H Q => ∃ (a : Addr) (ks : List Str), xs = [.ref a] ∧ SqT K H a (ks.map V.str) ∧
  ∀ p, H p = none → Q (.ref p) (upd H p (.lst ((ks.mergeSort (PySem.W.dataLe false PyData.str)).map V.str)))
theorem cr_sortT (hu : X.A.units + 64 < cLine) : CallR X (.builtin "sorted") (rSortT X.K) := by
  intro pins s σ H xs us Q I r q
  obtain ⟨a, ks, ex, hT, q⟩ := q
  subst ex
  obtain ⟨u, eu, rx⟩ := vals1 r
  subst eu
  cases rx
  obtain ⟨its, rv, pl, hz⟩ := I.tuple hT
  rw [List.length_map] at hz
  have h64 : ks.length ≤ sizeLine := hz
  have hl : its.length = ks.length := by rw [← rv.length, List.length_map]
  obtain ⟨o, ho, hc, n, hd⟩ := pl
  refine Calls.call_function_entry PyProof.Rows.kind_sorted PyProof.Rows.plain_sorted PyProof.Rows.entry_sorted (PyProof.Rows.args_sorted1 _) ?_
  unfold Builtin.«sorted»
  refine wpAny_bind (m := checkCount "sorted" 1 1 _) (wpAny_pure ?_)
  refine wpAny_bind (wpAny_collect_seq a (.inr rfl) ho hc hd (fun h' hk => ?_) (by rw [List.size_toArray, hl]; exact h64))
  rw [show its.toArray.toList = its from rfl]
  have I1 : Inv X pins σ H { s with heap := h' } := I.kept (t' := s.toks) hk
  refine wpAny_bind (wpAny_newList ?_ (by rw [hl]; exact h64))
  have hoL : (h'.push (seqObj "list" its.toArray 0)).get? h'.objs.size = some (seqObj "list" its.toArray 0) := Heap.get?_push_size _ rfl
  show wpAny _ _ _ _ _ { s with heap := h'.push (seqObj "list" its.toArray 0) }
  have ev : PySem.W.EachIs (fun u b => RelV (V.str b) u) its ks := each_vals rv
  have er : PySem.W.EachIs (fun v b => ∃ as, Reads (h'.push (seqObj "list" its.toArray 0)) v (PyData.str b) as ∧ h'.objs.size ∉ as) its ks := each_mem ev fun v b hb rb => by
    obtain ⟨t, rfl⟩ := rb
    exact ⟨_, Reads.str b t, List.not_mem_nil⟩
  refine wpAny_bind (wpAny_holding (PySem.W.list_sort_data (s := { s with heap := h'.push (seqObj "list" its.toArray 0) }) hoL ev er (alike_strs _) (sortable_strs _) h64 (fun b hb => by
    have : (PyData.str b).depth ≤ 1 := by show 0 ≤ 1; decide
    show X.A.in1.units + 1 + (PyData.str b).depth < cLine
    have : X.A.in1.units ≤ X.A.units + 32 := by
      show X.A.units + 1 ≤ X.A.units + 32
      omega
    omega) fun out ho eo => ?_))
  have rout : Vals ((ks.mergeSort (PySem.W.dataLe false PyData.str)).map V.str) out := vals_each eo
  obtain ⟨e', he'⟩ := PyProof.Rows.sortedHeap_at (vs := its) (out := out.toArray) hoL
  have hlen : ((ks.mergeSort (PySem.W.dataLe false PyData.str)).map V.str).length ≤ sizeLine := by rw [rout.length, ho]; exact h64
  refine wpAny_pure ⟨_, rfl, .ref h'.objs.size, upd H h'.objs.size (.lst ((ks.mergeSort (PySem.W.dataLe false PyData.str)).map V.str)), I1.laid (t' := s.toks) (fun b u e => ?_) (Nat.le_refl _)
    (show ObjOk X.prog X.w _ _ _ (.lst ((ks.mergeSort (PySem.W.dataLe false PyData.str)).map V.str)) from ⟨hlen, out, e', rout, he'⟩), rfl, q _ (I1.hok.fresh (Nat.le_refl _))⟩
  have hb : b < h'.objs.size := Heap.lt_size e
  rw [PyProof.Rows.sortedHeap_old (Nat.ne_of_lt hb) (by rw [size_push']; exact Nat.lt_succ_of_lt hb)]
  exact Heap.get?_push_of_some _ e
end
end Gx
namespace Gx
open PySem PySem.Spec PyProof.Rows L2 GxR PySem.W
theorem sorted_pw (l : List Str) : (l.mergeSort (dataLe false PyData.str)).Pairwise fun a b => dataLe false PyData.str a b = true := sort_pairwise (sortLe_total (listOrd itemOrd) false fun b => keyToks (PyData.str b)) l
end Gx

/-! Partings that do not cross, and the places of their tree: without a heap, of names of any kind. -/
namespace Gx
section
variable {α : Type} [DecidableEq α]
theorem snoc_ind {β : Type} {C : List β → Prop} (h0 : C []) (hs : ∀ l a, C l → C (l ++ [a])) (l : List β) : C l := by
  have : ∀ k : List β, C k.reverse := fun k => by
    induction k with
    | nil => exact h0
    | cons a k ih => rw [List.reverse_cons]; exact hs _ _ ih
  rw [← l.reverse_reverse]
  exact this _
/-! ### pairs of a list, counted -/
def pc {β : Type} (R : β → β → Bool) : List β → Nat
  | [] => 0
  | x :: xs => xs.countP (R x) + pc R xs
theorem pc_perm {β : Type} {R : β → β → Bool} (sy : ∀ a b, R a b = R b a) {l k : List β} (h : l.Perm k) : pc R l = pc R k := by
  induction h with
  | nil => rfl
  | cons x p ih => rw [pc, pc, ih, p.countP_eq]
  | swap x y l =>
    rw [pc, pc, pc, pc, List.countP_cons, List.countP_cons, sy x y]
    omega
  | trans _ _ h1 h2 => exact h1.trans h2
theorem pc_map {β γ : Type} {R : γ → γ → Bool} (g : β → γ) (l : List β) : pc R (l.map g) = pc (fun a b => R (g a) (g b)) l := by
  induction l with
  | nil => rfl
  | cons x l ih =>
    rw [List.map_cons, pc, pc, ih, List.countP_map]
    rfl
theorem pc_congr {β : Type} {R S : β → β → Bool} {l : List β} (nd : l.Nodup) (h : ∀ a ∈ l, ∀ b ∈ l, a ≠ b → R a b = S a b) : pc R l = pc S l := by
  induction l with
  | nil => rfl
  | cons x l ih =>
    have nd2 := List.nodup_cons.mp nd
    rw [pc, pc, ih nd2.2 fun a ha b hb => h a (List.mem_cons_of_mem _ ha) b (List.mem_cons_of_mem _ hb)]
    congr 1
    refine List.countP_congr fun b hb => ?_
    rw [h x List.mem_cons_self b (List.mem_cons_of_mem _ hb) fun z => nd2.1 (by rw [z]; exact hb)]
theorem pc_snoc {β : Type} {R : β → β → Bool} (l : List β) (x : β) : pc R (l ++ [x]) = pc R l + l.countP fun y => R y x := by
  induction l with
  | nil => rfl
  | cons y l ih =>
    rw [List.cons_append, pc, pc, ih, List.countP_append, List.countP_cons (a := y)]
    rw [List.countP_singleton]
    omega
/-! ### meeting, crossing -/
def meet (a b : List α) : Bool := a.any fun x => decide (x ∈ b)
theorem meet_iff {a b : List α} : meet a b = true ↔ ∃ x, x ∈ a ∧ x ∈ b := by
  unfold meet
  rw [List.any_eq_true]
  exact ⟨fun ⟨x, h1, h2⟩ => ⟨x, h1, of_decide_eq_true h2⟩, fun ⟨x, h1, h2⟩ => ⟨x, h1, decide_eq_true h2⟩⟩
theorem meet_no {a b : List α} : meet a b = false ↔ ∀ x, x ∈ a → x ∉ b := by
  rw [← Bool.not_eq_true, meet_iff]
  exact ⟨fun h x h1 h2 => h ⟨x, h1, h2⟩, fun h ⟨x, h1, h2⟩ => h x h1 h2⟩
theorem meet_comm (a b : List α) : meet a b = meet b a := by
  rw [Bool.eq_iff_iff, meet_iff, meet_iff]
  exact ⟨fun ⟨x, h⟩ => ⟨x, h.2, h.1⟩, fun ⟨x, h⟩ => ⟨x, h.2, h.1⟩⟩
def crossB (p q : List α × List α) : Bool := (meet p.1 q.1 && meet p.1 q.2) && (meet p.2 q.1 && meet p.2 q.2)
theorem cross_comm (p q : List α × List α) : crossB p q = crossB q p := by
  unfold crossB
  rw [meet_comm q.1 p.1, meet_comm q.1 p.2, meet_comm q.2 p.1, meet_comm q.2 p.2]
  cases meet p.1 q.1 <;> cases meet p.1 q.2 <;> cases meet p.2 q.1 <;> cases meet p.2 q.2 <;> rfl
def fitsB (s : List (List α)) (c : List α) : Bool := s.all fun d => meet c d
def ext (p : List α × List α) (s : List (List α)) : List (List (List α)) := ([p.1, p.2].filter (fitsB s)).map fun c => s ++ [c]
def placesOf (ps : List (List α × List α)) : List (List (List α)) := ps.foldl (fun acc p => acc.flatMap (ext p)) [[]]
theorem places_snoc (ps : List (List α × List α)) (p : List α × List α) : placesOf (ps ++ [p]) = (placesOf ps).flatMap (ext p) := by
  unfold placesOf
  rw [List.foldl_append]
  rfl
def sd (p : List α × List α) (b : Bool) : List α := if b = true then p.1 else p.2
/-- partings of names `ns` with the first name `h`, no two of which cross -/
structure Prts (ns : List α) (h : α) (ps : List (List α × List α)) : Prop where
  nd : ps.Nodup
  hd1 : ∀ p ∈ ps, h ∈ p.1
  hd2 : ∀ p ∈ ps, h ∉ p.2
  ne2 : ∀ p ∈ ps, p.2 ≠ []
  nd2 : ∀ p ∈ ps, p.2.Nodup
  cov : ∀ p ∈ ps, ∀ x, x ∈ p.1 ↔ x ∈ ns ∧ x ∉ p.2
  sub : ∀ p ∈ ps, ∀ x ∈ p.2, x ∈ ns
  eqv : ∀ p ∈ ps, ∀ q ∈ ps, (∀ x, x ∈ p.2 ↔ x ∈ q.2) → p = q
  nc : ps.Pairwise fun p q => crossB p q = false
theorem Prts.left {ns : List α} {h : α} {ps qs : List (List α × List α)} (g : Prts ns h (ps ++ qs)) : Prts ns h ps :=
  have m : ∀ {p}, p ∈ ps → p ∈ ps ++ qs := fun hp => List.mem_append_left _ hp
  ⟨(List.nodup_append.mp g.nd).1, fun p hp => g.hd1 p (m hp), fun p hp => g.hd2 p (m hp), fun p hp => g.ne2 p (m hp), fun p hp => g.nd2 p (m hp), fun p hp => g.cov p (m hp), fun p hp => g.sub p (m hp), fun p hp q hq => g.eqv p (m hp) q (m hq), (List.pairwise_append.mp g.nc).1⟩
theorem Prts.one {ns : List α} {h : α} {ps : List (List α × List α)} (g : Prts ns h ps) {p : List α × List α} (hp : p ∈ ps) (x : α) (hx : x ∈ ns) (b : Bool) : x ∈ sd p b ↔ x ∉ sd p (!b) := by
  have c := g.cov p hp x
  cases b
  · show x ∈ p.2 ↔ x ∉ p.1
    rw [c]
    by_cases z : x ∈ p.2
    · simp [z]
    · simp [z, hx]
  · show x ∈ p.1 ↔ x ∉ p.2
    rw [c]
    simp [hx]
theorem Prts.in_ {ns : List α} {h : α} {ps : List (List α × List α)} (g : Prts ns h ps) {p : List α × List α} (hp : p ∈ ps) {b : Bool} {x : α} (hx : x ∈ sd p b) : x ∈ ns := by
  cases b
  · exact g.sub p hp x hx
  · exact ((g.cov p hp x).mp hx).1
theorem Prts.some_ {ns : List α} {h : α} {ps : List (List α × List α)} (g : Prts ns h ps) {p : List α × List α} (hp : p ∈ ps) (b : Bool) : ∃ x, x ∈ sd p b := by
  cases b
  · exact List.exists_mem_of_ne_nil _ (g.ne2 p hp)
  · exact ⟨h, g.hd1 p hp⟩
theorem Prts.ne {ns : List α} {h : α} {ps : List (List α × List α)} (g : Prts ns h ps) {p : List α × List α} (hp : p ∈ ps) {a b : Bool} : sd p a = sd p b ↔ a = b := by
  refine ⟨fun e => ?_, fun e => by rw [e]⟩
  have h1 := g.hd1 p hp
  have h2 := g.hd2 p hp
  cases a <;> cases b
  · rfl
  · exact absurd (show h ∈ p.2 by have e' : p.2 = p.1 := e; rw [e']; exact h1) h2
  · exact absurd (show h ∈ p.2 by have e' : p.1 = p.2 := e; rw [← e']; exact h1) h2
  · rfl
/-- the side of an earlier parting that meets both sides of a new one -/
def b0 (p q : List α × List α) : Bool := meet q.1 p.1 && meet q.1 p.2
theorem Prts.mid {ns : List α} {h : α} {ps : List (List α × List α)} {p : List α × List α} (g : Prts ns h (ps ++ [p])) {q : List α × List α} (hq : q ∈ ps) :
    (∀ c, ∃ x, x ∈ sd q (b0 p q) ∧ x ∈ sd p c) ∧ ∃ c, ∀ x, x ∈ sd p c → x ∈ sd q (b0 p q) := by
  have hq' : q ∈ ps ++ [p] := List.mem_append_left _ hq
  have hp' : p ∈ ps ++ [p] := List.mem_append_right _ List.mem_cons_self
  have qp : q ≠ p := fun z => (List.nodup_append.mp g.nd).2.2 q hq p List.mem_cons_self z
  have nc : crossB q p = false := (List.pairwise_append.mp g.nc).2.2 q hq p List.mem_cons_self
  have m11 : meet q.1 p.1 = true := meet_iff.mpr ⟨h, g.hd1 q hq', g.hd1 p hp'⟩
  obtain ⟨z, hz⟩ := g.some_ hp' false
  have hz' : z ∈ p.2 := hz
  cases m12 : meet q.1 p.2 with
  | false =>
    have eb : b0 p q = false := by unfold b0; rw [m12, Bool.and_false]
    rw [eb]
    have sub : ∀ x, x ∈ p.2 → x ∈ q.2 := fun x hx => by
      have := meet_no.mp m12
      exact (g.one hq' x (g.sub p hp' x hx) false).mpr fun y => this x y hx
    refine ⟨fun c => ?_, false, sub⟩
    cases c
    · exact ⟨z, sub z hz', hz'⟩
    · refine Classical.byContradiction fun no => qp (g.eqv q hq' p hp' fun x => ⟨fun hx => ?_, sub x⟩)
      refine Classical.byContradiction fun y => no ⟨x, hx, ?_⟩
      exact (g.one hp' x (g.sub q hq' x hx) true).mpr y
  | true =>
    have eb : b0 p q = true := by unfold b0; rw [m11, m12]; rfl
    rw [eb]
    obtain ⟨y, hy1, hy2⟩ := meet_iff.mp m12
    refine ⟨fun c => ?_, ?_⟩
    · cases c
      · exact ⟨y, hy1, hy2⟩
      · exact ⟨h, g.hd1 q hq', g.hd1 p hp'⟩
    · unfold crossB at nc
      rw [m11, m12] at nc
      simp only [Bool.true_and, Bool.and_self] at nc
      cases m21 : meet q.2 p.1 with
      | false =>
        refine ⟨true, fun x hx => ?_⟩
        have := meet_no.mp m21
        exact (g.one hq' x (g.in_ hp' (b := true) hx) true).mpr fun y => this x y hx
      | true =>
        rw [m21, Bool.true_and] at nc
        refine ⟨false, fun x hx => ?_⟩
        have := meet_no.mp nc
        exact (g.one hq' x (g.in_ hp' (b := false) hx) true).mpr fun y => this x y hx
/-- the other side lies within one side of the new one -/
theorem Prts.side {ns : List α} {h : α} {ps : List (List α × List α)} {p : List α × List α} (g : Prts ns h (ps ++ [p])) {q : List α × List α} (hq : q ∈ ps) : ∃ c, ∀ x, x ∈ sd q (!b0 p q) → x ∈ sd p c := by
  have hq' : q ∈ ps ++ [p] := List.mem_append_left _ hq
  have hp' : p ∈ ps ++ [p] := List.mem_append_right _ List.mem_cons_self
  obtain ⟨_, c, hc⟩ := g.mid hq
  refine ⟨!c, fun x hx => ?_⟩
  have hn := g.in_ hq' hx
  refine (g.one hp' x hn (!c)).mpr fun y => ?_
  rw [Bool.not_not] at y
  exact (g.one hq' x hn (b0 p q)).mp (hc x y) hx
/-- any two sides that are chosen meet -/
def Met (ps : List (List α × List α)) (f : List α × List α → Bool) : Prop := ∀ p ∈ ps, ∀ q ∈ ps, ∃ x, x ∈ sd p (f p) ∧ x ∈ sd q (f q)
def plOf (ps : List (List α × List α)) (f : List α × List α → Bool) : List (List α) := ps.map fun p => sd p (f p)
theorem fits_iff {ps : List (List α × List α)} {f : List α × List α → Bool} {c : List α} : fitsB (plOf ps f) c = true ↔ ∀ q ∈ ps, ∃ x, x ∈ c ∧ x ∈ sd q (f q) := by
  unfold fitsB plOf
  rw [List.all_eq_true]
  constructor
  · intro h q hq
    exact meet_iff.mp (h _ (List.mem_map.mpr ⟨q, hq, rfl⟩))
  · intro h d hd
    obtain ⟨q, hq, rfl⟩ := List.mem_map.mp hd
    exact meet_iff.mpr (h q hq)
theorem Prts.fit {ns : List α} {h : α} {ps : List (List α × List α)} {p : List α × List α} (g : Prts ns h (ps ++ [p])) {f : List α × List α → Bool} (hm : Met ps f) :
    ((∀ q ∈ ps, f q = b0 p q) ∧ ∀ c, fitsB (plOf ps f) (sd p c) = true) ∨
    ∃ c, (∃ q ∈ ps, f q ≠ b0 p q ∧ ∀ x, x ∈ sd q (f q) → x ∈ sd p c) ∧ fitsB (plOf ps f) (sd p c) = true ∧ fitsB (plOf ps f) (sd p (!c)) = false := by
  have hp' : p ∈ ps ++ [p] := List.mem_append_right _ List.mem_cons_self
  by_cases a : ∀ q ∈ ps, f q = b0 p q
  · refine .inl ⟨a, fun c => fits_iff.mpr fun q hq => ?_⟩
    obtain ⟨x, h1, h2⟩ := (g.mid hq).1 c
    exact ⟨x, h2, by rw [a q hq]; exact h1⟩
  · obtain ⟨q, a⟩ := Classical.not_forall.mp a
    obtain ⟨hq, ne⟩ := Classical.not_imp.mp a
    have hq' : q ∈ ps ++ [p] := List.mem_append_left _ hq
    have e : f q = !b0 p q := by
      cases h1 : f q <;> cases h2 : b0 p q <;> simp_all
    obtain ⟨c, hc⟩ := g.side hq
    rw [← e] at hc
    refine .inr ⟨c, ⟨q, hq, ne, hc⟩, fits_iff.mpr fun r hr => ?_, ?_⟩
    · obtain ⟨x, h1, h2⟩ := hm q hq r hr
      exact ⟨x, hc x h1, h2⟩
    · refine Bool.eq_false_iff.mpr fun y => ?_
      obtain ⟨x, h1, h2⟩ := fits_iff.mp y q hq
      have hn := g.in_ hp' h1
      exact (g.one hp' x hn c).mp (hc x h2) h1
/-! ### the places -/
def df (s t : List (List α)) : Nat := ((s.zip t).filter fun z => decide (z.1 ≠ z.2)).length
def nb (s t : List (List α)) : Bool := decide (df s t = 1)
theorem df_comm : ∀ (s t : List (List α)), df s t = df t s
  | [], [] => rfl
  | [], _ :: _ => rfl
  | _ :: _, [] => rfl
  | x :: s, y :: t => by
    have ih := df_comm s t
    unfold df at ih ⊢
    rw [List.zip_cons_cons, List.zip_cons_cons, List.filter_cons, List.filter_cons]
    by_cases e : x = y
    · simp [e] at ih ⊢; exact ih
    · have e2 : ¬ y = x := fun z => e z.symm
      simp [e, e2] at ih ⊢; exact ih
theorem nb_comm (s t : List (List α)) : nb s t = nb t s := by unfold nb; rw [df_comm]
theorem df_snoc {s t : List (List α)} (h : s.length = t.length) (c d : List α) : df (s ++ [c]) (t ++ [d]) = df s t + (if c = d then 0 else 1) := by
  unfold df
  rw [List.zip_append h, List.filter_append, List.length_append]
  congr 1
  by_cases e : c = d
  · simp [e]
  · simp [e]
theorem df_eq {s t : List (List α)} (h : s.length = t.length) : df s t = 0 ↔ s = t := by
  induction s generalizing t with
  | nil =>
    cases t with
    | nil => exact ⟨fun _ => rfl, fun _ => rfl⟩
    | cons y t => cases h
  | cons x s ih =>
    cases t with
    | nil => cases h
    | cons y t =>
      have ih := ih (Nat.succ.inj h)
      unfold df at ih ⊢
      rw [List.zip_cons_cons, List.filter_cons]
      by_cases e : x = y
      · simp [e] at ih ⊢; exact ih
      · simp [e]
structure TreeR (ns : List α) (ps : List (List α × List α)) (F : List (List (List α))) : Prop where
  mem : ∀ s, s ∈ F ↔ ∃ f, s = plOf ps f ∧ Met ps f
  nd : F.Nodup
  len : F.length = ps.length + 1
  nbs : pc nb F = ps.length
theorem plOf_snoc (ps : List (List α × List α)) (p : List α × List α) (f) : plOf (ps ++ [p]) f = plOf ps f ++ [sd p (f p)] := by
  unfold plOf
  rw [List.map_append]
  rfl
theorem plOf_congr {ps : List (List α × List α)} {f k : List α × List α → Bool} (h : ∀ q ∈ ps, f q = k q) : plOf ps f = plOf ps k :=
  List.map_congr_left fun q hq => by rw [h q hq]
theorem ext_mem {p : List α × List α} {s t : List (List α)} : t ∈ ext p s ↔ ∃ c, t = s ++ [sd p c] ∧ fitsB s (sd p c) = true := by
  unfold ext
  rw [List.mem_map]
  constructor
  · rintro ⟨c, hc, rfl⟩
    obtain ⟨h1, h2⟩ := List.mem_filter.mp hc
    rcases List.mem_cons.mp h1 with e | h1
    · exact ⟨true, by rw [e]; rfl, by rw [e] at h2; exact h2⟩
    · exact ⟨false, by rw [List.mem_singleton.mp h1]; rfl, by rw [List.mem_singleton.mp h1] at h2; exact h2⟩
  · rintro ⟨c, rfl, h⟩
    refine ⟨_, List.mem_filter.mpr ⟨?_, h⟩, rfl⟩
    cases c
    · exact List.mem_cons_of_mem _ List.mem_cons_self
    · exact List.mem_cons_self
theorem plOf_len (ps : List (List α × List α)) (f) : (plOf ps f).length = ps.length := List.length_map _
theorem Prts.plOf_ne {ns : List α} {h : α} {ps : List (List α × List α)} (g : Prts ns h ps) {f k : List α × List α → Bool} (e : plOf ps f = plOf ps k) : ∀ q ∈ ps, f q = k q := fun q hq => by
  unfold plOf at e
  exact (g.ne hq).mp (List.map_inj_left.mp e q hq)
theorem flat_map1 {β γ : Type} {f : β → List γ} {k : β → γ} : ∀ (l : List β), (∀ b ∈ l, f b = [k b]) → l.flatMap f = l.map k
  | [], _ => rfl
  | b :: l, h => by
    rw [List.flatMap_cons, List.map_cons, h b List.mem_cons_self, flat_map1 l fun x hx => h x (List.mem_cons_of_mem _ hx)]
    rfl
theorem ext_eq {p : List α × List α} {s : List (List α)} : ext p s = (if fitsB s (sd p true) = true then [s ++ [sd p true]] else []) ++ (if fitsB s (sd p false) = true then [s ++ [sd p false]] else []) := by
  unfold ext
  rw [List.filter_cons, List.filter_cons, List.filter_nil]
  show List.map _ (if fitsB s (sd p true) = true then _ else _) = _
  by_cases c1 : fitsB s (sd p true) = true
  · rw [if_pos c1, if_pos c1, List.map_cons]
    show _ :: List.map _ (if fitsB s (sd p false) = true then _ else _) = _
    by_cases c2 : fitsB s (sd p false) = true
    · rw [if_pos c2, if_pos c2]; rfl
    · rw [if_neg c2, if_neg c2]; rfl
  · rw [if_neg c1, if_neg c1]
    show List.map _ (if fitsB s (sd p false) = true then _ else _) = _
    by_cases c2 : fitsB s (sd p false) = true
    · rw [if_pos c2, if_pos c2]; rfl
    · rw [if_neg c2, if_neg c2]; rfl
theorem ext_two {p : List α × List α} {s : List (List α)} (h : ∀ c, fitsB s (sd p c) = true) : ext p s = [s ++ [sd p true], s ++ [sd p false]] := by
  rw [ext_eq, if_pos (h true), if_pos (h false)]
  rfl
/-- the one side by which a place goes on that is not the middle -/
def cc (p : List α × List α) (s : List (List α)) : Bool := fitsB s (sd p true)
theorem ext_one {p : List α × List α} {s : List (List α)} {c : Bool} (h : fitsB s (sd p c) = true) (h2 : fitsB s (sd p (!c)) = false) : ext p s = [s ++ [sd p (cc p s)]] ∧ cc p s = c := by
  rw [ext_eq]
  cases c
  · have h2' : fitsB s (sd p true) = false := h2
    refine ⟨?_, h2'⟩
    rw [if_neg (by rw [h2']; exact Bool.false_ne_true), if_pos h, show cc p s = false from h2']
    rfl
  · have h2' : fitsB s (sd p false) = false := h2
    refine ⟨?_, h⟩
    rw [if_pos h, if_neg (by rw [h2']; exact Bool.false_ne_true), show cc p s = true from h]
    rfl
theorem bool_ne {a b : Bool} (h : a ≠ b) : b = !a := by cases a <;> cases b <;> simp_all
/-- two places, neither of them the middle, that go on by two sides are no neighbours -/
theorem Prts.far {ns : List α} {h : α} {ps : List (List α × List α)} {p : List α × List α} (g : Prts ns h (ps ++ [p])) {f k : List α × List α → Bool} (mk : Met ps k) (mf : Met ps f) {c : Bool}
    (hf : ∃ q ∈ ps, f q ≠ b0 p q ∧ ∀ x, x ∈ sd q (f q) → x ∈ sd p c) (hk : ∃ q ∈ ps, k q ≠ b0 p q ∧ ∀ x, x ∈ sd q (k q) → x ∈ sd p (!c)) : nb (plOf ps f) (plOf ps k) = false := by
  have hp' : p ∈ ps ++ [p] := List.mem_append_right _ List.mem_cons_self
  obtain ⟨q, hq, nq, sq⟩ := hf
  obtain ⟨r, hr, nr, sr⟩ := hk
  have hq' : q ∈ ps ++ [p] := List.mem_append_left _ hq
  have hr' : r ∈ ps ++ [p] := List.mem_append_left _ hr
  have out : ∀ (f' : List α × List α → Bool), Met ps f' → (∀ x, x ∈ sd q (f' q) → x ∈ sd p c) → (∀ x, x ∈ sd r (f' r) → x ∈ sd p (!c)) → False := fun f' m a b => by
    obtain ⟨x, h1, h2⟩ := m q hq r hr
    have hn := g.in_ hq' h1
    exact (g.one hp' x hn c).mp (a x h1) (b x h2)
  have dq : f q ≠ k q := fun e => out k mk (by rw [← e]; exact sq) sr
  have dr : f r ≠ k r := fun e => out f mf sq (by rw [e]; exact sr)
  have qr : q ≠ r := fun e => by
    subst e
    have e1 : k q = !f q := bool_ne dq
    have qp : q ≠ p := fun z => (List.nodup_append.mp g.nd).2.2 q hq p List.mem_cons_self z
    have same : ∀ x, x ∈ sd q (f q) ↔ x ∈ sd p c := fun x => ⟨sq x, fun hx => by
      have hn := g.in_ hp' hx
      refine (g.one hq' x hn (f q)).mpr fun y => ?_
      rw [← e1] at y
      exact (g.one hp' x hn c).mp hx (sr x y)⟩
    cases e2 : f q <;> cases e3 : c
    · rw [e2, e3] at same
      exact qp (g.eqv q hq' p hp' same)
    · rw [e2, e3] at same
      exact g.hd2 q hq' ((same h).mpr (g.hd1 p hp'))
    · rw [e2, e3] at same
      exact g.hd2 p hp' ((same h).mp (g.hd1 q hq'))
    · rw [e2, e3] at same
      refine qp (g.eqv q hq' p hp' fun x => ?_)
      constructor
      · intro hx
        have hn := g.sub q hq' x hx
        refine (g.one hp' x hn false).mpr fun y => ?_
        exact (g.one hq' x hn false).mp hx ((same x).mpr y)
      · intro hx
        have hn := g.sub p hp' x hx
        refine (g.one hq' x hn false).mpr fun y => ?_
        exact (g.one hp' x hn false).mp hx ((same x).mp y)
  unfold nb
  refine decide_eq_false fun e => ?_
  have gl := g.left
  have key : ∀ l : List (List α × List α), (∀ z ∈ l, z ∈ ps) → df (plOf l f) (plOf l k) = (l.filter fun z => decide (f z ≠ k z)).length := fun l => by
    induction l with
    | nil => intro _; rfl
    | cons z l ih =>
      intro hl
      have ih := ih fun y hy => hl y (List.mem_cons_of_mem _ hy)
      have hz := hl z List.mem_cons_self
      unfold df plOf at ih ⊢
      rw [List.map_cons, List.map_cons, List.zip_cons_cons, List.filter_cons, List.filter_cons]
      have ne := gl.ne hz (a := f z) (b := k z)
      by_cases w : f z = k z
      · have w2 := ne.mpr w
        simp only [w2, w, ne_eq, not_true_eq_false, decide_false] at ih ⊢
        exact ih
      · have w2 : ¬ sd z (f z) = sd z (k z) := fun y => w (ne.mp y)
        simp only [w2, w, ne_eq, not_false_eq_true, decide_true, if_true, List.length_cons] at ih ⊢
        rw [ih]
  rw [key ps fun _ hz => hz] at e
  obtain ⟨z, ez⟩ := List.length_eq_one_iff.mp e
  have h1 : q ∈ [z] := by rw [← ez]; exact List.mem_filter.mpr ⟨hq, decide_eq_true dq⟩
  have h2 : r ∈ [z] := by rw [← ez]; exact List.mem_filter.mpr ⟨hr, decide_eq_true dr⟩
  exact qr ((List.mem_singleton.mp h1).trans (List.mem_singleton.mp h2).symm)
theorem count_two {β : Type} (f k : β → Bool) (l : List β) : l.countP (fun s => f s && decide (k s = true)) + l.countP (fun s => f s && decide (k s = false)) = l.countP f := by
  induction l with
  | nil => rfl
  | cons s l ih =>
    rw [List.countP_cons, List.countP_cons, List.countP_cons]
    have e1 : (if (f s && decide (k s = true)) = true then 1 else 0) + (if (f s && decide (k s = false)) = true then 1 else 0) = (if f s = true then 1 else 0) := by
      cases f s <;> cases k s <;> rfl
    omega
theorem tree_right {ns : List α} {h : α} (ps : List (List α × List α)) : Prts ns h ps → TreeR ns ps (placesOf ps) := by
  induction ps using snoc_ind with
  | h0 =>
    intro _
    refine ⟨fun s => ?_, by show [[]].Nodup; simp, rfl, rfl⟩
    show s ∈ [[]] ↔ _
    rw [List.mem_singleton]
    exact ⟨fun e => ⟨fun _ => true, e, fun p hp => nomatch hp⟩, fun ⟨_, e, _⟩ => e⟩
  | hs ps p ih =>
    intro g
    have t := ih g.left
    have hp' : p ∈ ps ++ [p] := List.mem_append_right _ List.mem_cons_self
    have pn : p ∉ ps := fun z => (List.nodup_append.mp g.nd).2.2 p z p List.mem_cons_self rfl
    rw [places_snoc]
    generalize placesOf ps = F at t
    have m0 : Met ps (b0 p) := fun q hq r hr => by
      obtain ⟨c, hc⟩ := (g.mid hq).2
      obtain ⟨x, h1, h2⟩ := (g.mid hr).1 c
      exact ⟨x, hc x h2, h1⟩
    obtain ⟨p0, ep0⟩ : ∃ s, plOf ps (b0 p) = s := ⟨_, rfl⟩
    have hp0 : p0 ∈ F := (t.mem p0).mpr ⟨_, ep0.symm, m0⟩
    have pm : F.Perm (p0 :: F.erase p0) := List.perm_cons_erase hp0
    obtain ⟨F0, eF0⟩ : ∃ l, F.erase p0 = l := ⟨_, rfl⟩
    rw [eF0] at pm
    have nd0 := pm.nodup_iff.mp t.nd
    have nF0 := List.nodup_cons.mp nd0
    have two : ext p p0 = [p0 ++ [sd p true], p0 ++ [sd p false]] := ext_two fun c => by
      rcases g.fit m0 with ⟨_, a⟩ | ⟨_, ⟨q, _, a, _⟩, _⟩
      · rw [← ep0]; exact a c
      · exact absurd rfl a
    -- what holds of every other place
    have oth : ∀ s ∈ F0, s.length = ps.length ∧ ext p s = [s ++ [sd p (cc p s)]] ∧ ∃ f, s = plOf ps f ∧ Met ps f ∧ ∃ q ∈ ps, f q ≠ b0 p q ∧ ∀ x, x ∈ sd q (f q) → x ∈ sd p (cc p s) := fun s hs => by
      have hsF : s ∈ F := pm.mem_iff.mpr (List.mem_cons_of_mem _ hs)
      obtain ⟨f, rfl, mf⟩ := (t.mem s).mp hsF
      rcases g.fit mf with ⟨a, _⟩ | ⟨c, a, b1, b2⟩
      · refine absurd hs ?_
        rw [plOf_congr a, ep0]
        exact nF0.1
      · obtain ⟨e1, e2⟩ := ext_one b1 b2
        exact ⟨plOf_len _ _, e1, f, rfl, mf, by rw [e2]; exact a⟩
    have l0 : p0.length = ps.length := by rw [← ep0]; exact plOf_len _ _
    have pm2 : (F.flatMap (ext p)).Perm ((p0 ++ [sd p true]) :: (p0 ++ [sd p false]) :: F0.map fun s => s ++ [sd p (cc p s)]) := by
      refine (pm.flatMap_right _).trans ?_
      rw [List.flatMap_cons, two, flat_map1 F0 fun s hs => (oth s hs).2.1]
      exact .refl _
    have inj : ∀ {s u : List (List α)} {c d : List α}, s ++ [c] = u ++ [d] → s = u ∧ c = d := fun {s u c d} e => by
      have := List.append_inj_left' e rfl
      subst this
      exact ⟨rfl, by simpa using e⟩
    have n2 : ((p0 ++ [sd p true]) :: (p0 ++ [sd p false]) :: F0.map fun s => s ++ [sd p (cc p s)]).Nodup := by
      refine List.nodup_cons.mpr ⟨fun z => ?_, List.nodup_cons.mpr ⟨fun z => ?_, ?_⟩⟩
      · rcases List.mem_cons.mp z with z | z
        · have := (g.ne hp').mp (inj z).2
          cases this
        · obtain ⟨s, hs, e⟩ := List.mem_map.mp z
          rw [(inj e).1] at hs
          exact nF0.1 hs
      · obtain ⟨s, hs, e⟩ := List.mem_map.mp z
        rw [(inj e).1] at hs
        exact nF0.1 hs
      · exact List.pairwise_map.mpr (nF0.2.imp fun ne e => ne (inj e).1)
    refine ⟨fun s => ?_, pm2.nodup_iff.mpr n2, ?_, ?_⟩
    · rw [List.mem_flatMap]
      constructor
      · rintro ⟨u, hu, hs⟩
        obtain ⟨f, rfl, mf⟩ := (t.mem u).mp hu
        obtain ⟨c, rfl, hc⟩ := ext_mem.mp hs
        have hc := fits_iff.mp hc
        have ef : ∀ q ∈ ps, (fun z => if z = p then c else f z) q = f q := fun q hq => if_neg fun z => pn (by rw [← z]; exact hq)
        have ep : (fun z => if z = p then c else f z) p = c := if_pos rfl
        refine ⟨fun z => if z = p then c else f z, ?_, fun q hq r hr => ?_⟩
        · rw [plOf_snoc, plOf_congr ef]
          show _ = plOf ps f ++ [sd p ((fun z => if z = p then c else f z) p)]
          rw [ep]
        · rcases List.mem_append.mp hq with hq | hq <;> rcases List.mem_append.mp hr with hr | hr
          · rw [ef q hq, ef r hr]; exact mf q hq r hr
          · rw [List.mem_singleton.mp hr, ef q hq, ep]
            obtain ⟨x, h1, h2⟩ := hc q hq
            exact ⟨x, h2, h1⟩
          · rw [List.mem_singleton.mp hq, ef r hr, ep]
            obtain ⟨x, h1, h2⟩ := hc r hr
            exact ⟨x, h1, h2⟩
          · rw [List.mem_singleton.mp hq, List.mem_singleton.mp hr]
            obtain ⟨x, hx⟩ := g.some_ hp' ((fun z => if z = p then c else f z) p)
            exact ⟨x, hx, hx⟩
      · rintro ⟨f, rfl, mf⟩
        refine ⟨plOf ps f, (t.mem _).mpr ⟨f, rfl, fun q hq r hr => mf q (List.mem_append_left _ hq) r (List.mem_append_left _ hr)⟩, ext_mem.mpr ⟨f p, plOf_snoc _ _ _, fits_iff.mpr fun q hq => ?_⟩⟩
        exact mf p hp' q (List.mem_append_left _ hq)
    · rw [pm2.length_eq, List.length_cons, List.length_cons, List.length_map, List.length_append]
      have h1 := t.len
      rw [pm.length_eq, List.length_cons] at h1
      show F0.length + 1 + 1 = ps.length + 1 + 1
      omega
    · rw [pc_perm nb_comm pm2, pc, pc, List.countP_cons, pc_map, List.countP_map, List.countP_map]
      have h1 := t.nbs
      rw [pc_perm nb_comm pm, pc] at h1
      have e1 : nb (p0 ++ [sd p true]) (p0 ++ [sd p false]) = true := by
        unfold nb
        rw [df_snoc rfl, (df_eq rfl).mpr rfl, if_neg (fun z => by have := (g.ne hp').mp z; cases this)]
        rfl
      have e2 : pc (fun a b => nb (a ++ [sd p (cc p a)]) (b ++ [sd p (cc p b)])) F0 = pc nb F0 := by
        refine pc_congr nF0.2 fun a ha b hb ne => ?_
        obtain ⟨la, _, f, ea, mf, hf⟩ := oth a ha
        obtain ⟨lb, _, k, eb, mk, hk⟩ := oth b hb
        have lab : a.length = b.length := la.trans lb.symm
        by_cases c : cc p a = cc p b
        · unfold nb
          rw [df_snoc lab, c, if_pos rfl]
          rfl
        · have eb2 := bool_ne c
          rw [eb2] at hk
          have fr := g.far mk mf hf hk
          rw [← ea, ← eb] at fr
          rw [fr]
          unfold nb
          rw [df_snoc lab, if_neg fun z => c ((g.ne hp').mp z)]
          refine decide_eq_false fun z => ?_
          have : df a b = 0 := by omega
          exact ne ((df_eq lab).mp this)
      have e3 : ∀ c : Bool, ∀ s ∈ F0, nb (p0 ++ [sd p c]) (s ++ [sd p (cc p s)]) = (nb p0 s && decide (cc p s = c)) := fun c s hs => by
        have ls := (oth s hs).1
        have lp : p0.length = s.length := l0.trans ls.symm
        have d0 : df p0 s ≠ 0 := fun z => nF0.1 (by rw [(df_eq lp).mp z]; exact hs)
        unfold nb
        rw [df_snoc lp]
        by_cases e : cc p s = c
        · rw [e, if_pos rfl, decide_eq_true (rfl : c = c), Bool.and_true]
          rfl
        · rw [if_neg (fun z => e ((g.ne hp').mp z).symm), decide_eq_false e, Bool.and_false]
          exact decide_eq_false fun z => d0 (by omega)
      have e4 : F0.countP ((nb (p0 ++ [sd p true])) ∘ fun s => s ++ [sd p (cc p s)]) + F0.countP ((nb (p0 ++ [sd p false])) ∘ fun s => s ++ [sd p (cc p s)]) = F0.countP (nb p0) := by
        rw [List.countP_congr (p := (nb (p0 ++ [sd p true])) ∘ fun s => s ++ [sd p (cc p s)]) (q := fun s => nb p0 s && decide (cc p s = true)) fun s hs => by rw [Function.comp, e3 true s hs],
          List.countP_congr (p := (nb (p0 ++ [sd p false])) ∘ fun s => s ++ [sd p (cc p s)]) (q := fun s => nb p0 s && decide (cc p s = false)) fun s hs => by rw [Function.comp, e3 false s hs]]
        exact count_two _ _ _
      rw [e1, e2, List.length_append]
      simp only [if_true]
      show _ = ps.length + 1
      omega
theorem Prts.few {h : α} {r : List α} {ps : List (List α × List α)} (g : Prts (h :: r) h ps) : ps.length ≤ r.length * r.length := by
  have inr : ∀ p ∈ ps, ∀ x ∈ p.2, x ∈ r := fun p hp x hx => by
    rcases List.mem_cons.mp (g.sub p hp x hx) with e | e
    · exact absurd (by rw [← e]; exact hx) (g.hd2 p hp)
    · exact e
  have nd : (ps.map fun p => (p.2.headD h, p.2.length)).Nodup := by
    refine List.pairwise_map.mpr ?_
    refine ((List.pairwise_and_iff).mpr ⟨g.nd, g.nc⟩).imp_of_mem fun {p q} hp hq hh e => ?_
    obtain ⟨ne, nc⟩ := hh
    obtain ⟨e1, e2⟩ := Prod.mk.inj e
    have hd : ∀ {z : List α × List α}, z ∈ ps → z.2.headD h ∈ z.2 := fun {z} hz => by
      cases ez : z.2 with
      | nil => exact absurd ez (g.ne2 z hz)
      | cons a l => exact List.mem_cons_self
    have m22 : meet p.2 q.2 = true := meet_iff.mpr ⟨_, hd hp, by rw [e1]; exact hd hq⟩
    have m11 : meet p.1 q.1 = true := meet_iff.mpr ⟨h, g.hd1 p hp, g.hd1 q hq⟩
    have same : (∀ x ∈ p.2, x ∈ q.2) ∨ (∀ x ∈ q.2, x ∈ p.2) := by
      unfold crossB at nc
      rw [m11, m22, Bool.true_and, Bool.and_true] at nc
      cases m12 : meet p.1 q.2 with
      | false =>
        refine .inr fun x hx => ?_
        exact (g.one hp x (g.sub q hq x hx) false).mpr fun y => meet_no.mp m12 x y hx
      | true =>
        rw [m12, Bool.true_and] at nc
        refine .inl fun x hx => ?_
        exact (g.one hq x (g.sub p hp x hx) false).mpr fun y => meet_no.mp nc x hx y
    have full : ∀ {a b : List α}, a.Nodup → b.Nodup → (∀ x ∈ a, x ∈ b) → a.length = b.length → ∀ x, x ∈ a ↔ x ∈ b := fun {a b} na nb s l x => by
      refine ⟨s x, fun hx => ?_⟩
      refine Classical.byContradiction fun y => ?_
      have := (List.nodup_cons.mpr ⟨y, na⟩).length_le_of_subset (l₂ := b) fun z hz => by
        rcases List.mem_cons.mp hz with e | hz
        · rw [e]; exact hx
        · exact s z hz
      rw [List.length_cons] at this
      omega
    rcases same with s | s
    · exact ne (g.eqv p hp q hq (full (g.nd2 p hp) (g.nd2 q hq) s e2))
    · exact ne (g.eqv p hp q hq fun x => (full (g.nd2 q hq) (g.nd2 p hp) s e2.symm x).symm)
  have sub : ∀ z ∈ ps.map (fun p => (p.2.headD h, p.2.length)), z ∈ r.flatMap fun x => (List.range r.length).map fun k => (x, k + 1) := fun z hz => by
    obtain ⟨p, hp, rfl⟩ := List.mem_map.mp hz
    have l1 : p.2.length ≤ r.length := (g.nd2 p hp).length_le_of_subset fun x hx => inr p hp x hx
    cases ez : p.2 with
    | nil => exact absurd ez (g.ne2 p hp)
    | cons a l =>
      rw [ez, List.length_cons] at l1
      refine List.mem_flatMap.mpr ⟨a, inr p hp a (by rw [ez]; exact List.mem_cons_self), List.mem_map.mpr ⟨l.length, List.mem_range.mpr l1, rfl⟩⟩
  have := nd.length_le_of_subset sub
  rw [List.length_map] at this
  refine Nat.le_trans this (Nat.le_of_eq ?_)
  have c : ∀ (l : List α) (n : Nat), (l.flatMap fun x => (List.range n).map fun k => (x, k + 1)).length = l.length * n := fun l n => by
    induction l with
    | nil => simp
    | cons a l ih => rw [List.flatMap_cons, List.length_append, ih, List.length_map, List.length_range, List.length_cons, Nat.succ_mul]; omega
  exact c r r.length
end
end Gx

/-! [val z for z in zs if p z], the test and the value told from without; any two of a list that cross. -/
namespace Gx
open PySem PySem.Spec PyProof.Rows L2 GxR
section
variable {J : It} {n : Nat} {G : Hp → Prop} {Y : Nat → Hp → V → Hp → Prop}
theorem lc_filt {β : Type} (w : Walk J n G Y) (zs : List β) (p : β → Bool) (val : β → V) {g : TG} {tt : TT} {te : TE} {vs : List Nat} {σ : L2.St} {H1 : Hp} {D : Addr} {Qd : Hp → Prop} (nD : H1 D = none) (hn : n = zs.length) (hz : zs.length ≤ 1000000)
    (hG : ∀ H, Grow [] H1 H → G H)
    (hs : ∀ i z x Ha Hb (Pu : V → Hp → Prop) (Pn : Hp → Prop), zs[i]? = some z → Grow [] H1 Ha → Y i Ha x Hb → (∀ Hc, Grow [] Ha Hc → p z = true → Pu (val z) Hc) → (∀ Hc, Grow [] Ha Hc → p z = false → Pn Hc) →
      g x (wipe σ vs) Hb fun σ2 H2 => wipe σ2 vs = wipe σ vs ∧ tt σ2 H2 fun b H3 => if b = true then te σ2 H3 Pu else Pn H3)
    (hd : ∀ H, Grow [] H1 H → H D = some (.lst ((zs.filter p).map val)) → Qd H) :
    ∃ W : Nat → Nat → Hp → Prop, (∃ m, W 0 m (upd H1 D (.lst []))) ∧ ∀ i m H, W i m H →
      (J.stop i H ∧ Qd H) ∨ (J.go i H ∧ ∃ Nx : Hp → Prop, (∀ H', Nx H' → ∃ m', m' < m ∧ W (i + 1) m' H') ∧ ∀ x H', J.yld i H x H' → g x (wipe σ vs) H' fun σ2 H2 => wipe σ2 vs = wipe σ vs ∧ tt σ2 H2 fun b H3 =>
        if b = true then te σ2 H3 fun y H4 => ∃ acc, H4 D = some (.lst acc) ∧ acc.length < sizeLine ∧ Nx (upd H4 D (.lst (acc ++ [y]))) else Nx H3) := by
  subst hn
  refine lc_it w (fun i H' => Grow [] H1 H' ∧ H' D = some (.lst (((zs.take i).filter p).map val))) ⟨grow_new nD, upd_same⟩ (fun i H' _ h => hG H' h.1) (fun i x Ha Hb hi hp hy => ?_) (fun H2 hp => ?_)
  · obtain ⟨ga, ea⟩ := hp
    obtain ⟨z, ez⟩ : ∃ z, zs[i]? = some z := ⟨_, List.getElem?_eq_getElem hi⟩
    have tk : zs.take (i + 1) = zs.take i ++ [z] := by rw [List.take_add_one, ez]; rfl
    refine hs i z x Ha Hb _ _ ez ga hy (fun Hc gc hb => ?_) (fun Hc gc hb => ?_)
    · have ec := gc.lst (by simp) ea
      refine ⟨_, ec, ?_, (ga.trans gc).put (fresh_none nD) ec (fun ps z => by cases z), ?_⟩
      · rw [List.length_map]
        have h1 := List.length_filter_le p (zs.take i)
        rw [List.length_take] at h1
        have : (1000001 : Nat) < sizeLine := by decide
        omega
      · rw [upd_same, tk, List.filter_append, List.filter_cons_of_pos hb, List.filter_nil, List.map_append]
        rfl
    · refine ⟨ga.trans gc, ?_⟩
      rw [gc.lst (by simp) ea, tk, List.filter_append, List.filter_cons_of_neg (by rw [hb]; exact Bool.false_ne_true), List.filter_nil, List.append_nil]
  · obtain ⟨g2, e2⟩ := hp
    rw [List.take_length] at e2
    exact hd H2 g2 e2
end
section
variable {α : Type} [DecidableEq α]
/-- any two of these partings cross -/
def crs (ps : List (List α × List α)) : Bool := (combos ps).any fun z => crossB z.1 z.2
theorem crs_iff (ps : List (List α × List α)) : crs ps = false ↔ ps.Pairwise fun p q => crossB p q = false := by
  unfold crs
  induction ps with
  | nil => exact ⟨fun _ => .nil, fun _ => rfl⟩
  | cons p ps ih =>
    rw [combos, List.any_append, Bool.or_eq_false_iff, ih, List.pairwise_cons, List.any_map, List.any_eq_false]
    refine and_congr_left fun _ => ?_
    exact ⟨fun h q hq => Bool.eq_false_iff.mpr fun z => h q hq z, fun h q hq z => by have := h q hq; rw [show crossB p q = true from z] at this; cases this⟩
end
end Gx

namespace Lw
open PySem PySem.Spec PyProof.Rows L2 GxR Gx
def topS (i : Nat) : Stmt := PySem.Challenge.pw_heardapart_k40_places_of_trees.main.body.getD i (.Pass ⟨0, 0, 0, 0⟩)
abbrev st_is_name : Stmt := topS 31
abbrev N_is_name : List Str := ["thing", "letter"]
theorem sc_is_name : FnScope N_is_name ["thing"] (defScope st_is_name) := ⟨rfl, rfl, rfl, by decide +kernel, rfl, by decide +kernel, by decide +kernel⟩
abbrev st_are_unlike_names : Stmt := topS 32
abbrev N_are_unlike_names : List Str := ["thing", "name"]
theorem sc_are_unlike_names : FnScope N_are_unlike_names ["thing"] (defScope st_are_unlike_names) := ⟨rfl, rfl, rfl, by decide +kernel, rfl, by decide +kernel, by decide +kernel⟩
abbrev st_is_book : Stmt := topS 34
abbrev N_is_book : List Str := ["thing"]
theorem sc_is_book : FnScope N_is_book ["thing"] (defScope st_is_book) := ⟨rfl, rfl, rfl, by decide +kernel, rfl, by decide +kernel, by decide +kernel⟩
abbrev st_places_of : Stmt := topS 35
abbrev N_places_of : List Str := ["book", "place", "word"]
theorem sc_places_of : FnScope N_places_of ["book"] (defScope st_places_of) := ⟨rfl, rfl, rfl, by decide +kernel, rfl, by decide +kernel, by decide +kernel⟩
abbrev st_tree_places : Stmt := topS 39
abbrev N_tree_places : List Str := ["books", "partings", "place", "names"]
theorem sc_tree_places : FnScope N_tree_places ["books"] (defScope st_tree_places) := ⟨rfl, rfl, rfl, by decide +kernel, rfl, by decide +kernel, by decide +kernel⟩
abbrev st_are_given : Stmt := topS 40
abbrev N_are_given : List Str := ["thing", "name", "book", "words"]
theorem sc_are_given : FnScope N_are_given ["thing"] (defScope st_are_given) := ⟨rfl, rfl, rfl, by decide +kernel, rfl, by decide +kernel, by decide +kernel⟩
abbrev st_check_given : Stmt := topS 41
abbrev N_check_given : List Str := ["thing"]
theorem sc_check_given : FnScope N_check_given ["thing"] (defScope st_check_given) := ⟨rfl, rfl, rfl, by decide +kernel, rfl, by decide +kernel, by decide +kernel⟩
abbrev st_pairs_by_others : Stmt := topS 42
abbrev N_pairs_by_others : List Str := ["books", "names", "places", "name", "pairs", "a", "b", "others"]
theorem sc_pairs_by_others : FnScope N_pairs_by_others ["books"] (defScope st_pairs_by_others) := ⟨rfl, rfl, rfl, by decide +kernel, rfl, by decide +kernel, by decide +kernel⟩
abbrev st_partings_by : Stmt := topS 43
abbrev N_partings_by : List Str := ["books", "pairs", "names", "others", "name"]
theorem sc_partings_by : FnScope N_partings_by ["books", "pairs"] (defScope st_partings_by) := ⟨rfl, rfl, rfl, by decide +kernel, rfl, by decide +kernel, by decide +kernel⟩
abbrev st_share_name : Stmt := topS 44
abbrev N_share_name : List Str := ["names", "others", "name"]
theorem sc_share_name : FnScope N_share_name ["names", "others"] (defScope st_share_name) := ⟨rfl, rfl, rfl, by decide +kernel, rfl, by decide +kernel, by decide +kernel⟩
abbrev st_do_cross : Stmt := topS 45
abbrev N_do_cross : List Str := ["parting", "other", "names", "others"]
theorem sc_do_cross : FnScope N_do_cross ["parting", "other"] (defScope st_do_cross) := ⟨rfl, rfl, rfl, by decide +kernel, rfl, by decide +kernel, by decide +kernel⟩
abbrev st_some_cross : Stmt := topS 46
abbrev N_some_cross : List Str := ["partings", "parting", "other"]
theorem sc_some_cross : FnScope N_some_cross ["partings"] (defScope st_some_cross) := ⟨rfl, rfl, rfl, by decide +kernel, rfl, by decide +kernel, by decide +kernel⟩
abbrev st_places_by : Stmt := topS 47
abbrev N_places_by : List Str := ["partings", "places", "parting", "place", "names"]
theorem sc_places_by : FnScope N_places_by ["partings"] (defScope st_places_by) := ⟨rfl, rfl, rfl, by decide +kernel, rfl, by decide +kernel, by decide +kernel⟩
abbrev st_fits : Stmt := topS 48
abbrev N_fits : List Str := ["place", "names", "chosen"]
theorem sc_fits : FnScope N_fits ["place", "names"] (defScope st_fits) := ⟨rfl, rfl, rfl, by decide +kernel, rfl, by decide +kernel, by decide +kernel⟩
abbrev st_law_pot : Stmt := topS 50
abbrev N_law_pot : List Str := ["script", "k", "cell"]
theorem sc_law_pot : FnScope N_law_pot ["script", "k"] (defScope st_law_pot) := ⟨rfl, rfl, rfl, by decide +kernel, rfl, by decide +kernel, by decide +kernel⟩
abbrev st_law_take : Stmt := topS 51
abbrev N_law_take : List Str := ["pot", "many", "found", "mixed"]
theorem sc_law_take : FnScope N_law_take ["pot", "many"] (defScope st_law_take) := ⟨rfl, rfl, rfl, by decide +kernel, rfl, by decide +kernel, by decide +kernel⟩
abbrev st_law_some : Stmt := topS 52
abbrev N_law_some : List Str := ["pot", "things", "many", "left", "found"]
theorem sc_law_some : FnScope N_law_some ["pot", "things", "many"] (defScope st_law_some) := ⟨rfl, rfl, rfl, by decide +kernel, rfl, by decide +kernel, by decide +kernel⟩
abbrev st_law_names : Stmt := topS 53
abbrev N_law_names : List Str := ["pot", "many", "some"]
theorem sc_law_names : FnScope N_law_names ["pot", "many"] (defScope st_law_names) := ⟨rfl, rfl, rfl, by decide +kernel, rfl, by decide +kernel, by decide +kernel⟩
abbrev st_law_web : Stmt := topS 54
abbrev N_law_web : List Str := ["pot", "most", "hands", "way", "near", "hand", "at", "other"]
theorem sc_law_web : FnScope N_law_web ["pot", "most"] (defScope st_law_web) := ⟨rfl, rfl, rfl, by decide +kernel, rfl, by decide +kernel, by decide +kernel⟩
abbrev st_law_gone : Stmt := topS 55
abbrev N_law_gone : List Str := ["pot", "near", "mouths", "books", "hand", "lanes", "left", "slow", "turn", "lying", "lane", "word", "source", "other"]
theorem sc_law_gone : FnScope N_law_gone ["pot", "near", "mouths"] (defScope st_law_gone) := ⟨rfl, rfl, rfl, by decide +kernel, rfl, by decide +kernel, by decide +kernel⟩
abbrev st_law_heard : Stmt := topS 56
abbrev N_law_heard : List Str := ["pot", "most", "words", "near", "hands", "mouths", "word", "books", "some", "hand"]
theorem sc_law_heard : FnScope N_law_heard ["pot", "most", "words"] (defScope st_law_heard) := ⟨rfl, rfl, rfl, by decide +kernel, rfl, by decide +kernel, by decide +kernel⟩
abbrev st_law_given : Stmt := topS 57
abbrev N_law_given : List Str := ["pot", "books", "near", "way", "words", "names", "name", "turn", "at", "book"]
theorem sc_law_given : FnScope N_law_given ["pot"] (defScope st_law_given) := ⟨rfl, rfl, rfl, by decide +kernel, rfl, by decide +kernel, by decide +kernel⟩
abbrev st_law_ahead : Stmt := topS 58
abbrev N_law_ahead : List Str := ["book", "a", "b"]
theorem sc_law_ahead : FnScope N_law_ahead ["book", "a", "b"] (defScope st_law_ahead) := ⟨rfl, rfl, rfl, by decide +kernel, rfl, by decide +kernel, by decide +kernel⟩
abbrev st_law_pairs : Stmt := topS 59
abbrev N_law_pairs : List Str := ["books", "words", "found", "at", "a", "b", "name"]
theorem sc_law_pairs : FnScope N_law_pairs ["books"] (defScope st_law_pairs) := ⟨rfl, rfl, rfl, by decide +kernel, rfl, by decide +kernel, by decide +kernel⟩
abbrev st_law_partings : Stmt := topS 60
abbrev N_law_partings : List Str := ["books", "names", "found", "a", "b", "some", "rest", "name", "parting"]
theorem sc_law_partings : FnScope N_law_partings ["books"] (defScope st_law_partings) := ⟨rfl, rfl, rfl, by decide +kernel, rfl, by decide +kernel, by decide +kernel⟩
abbrev st_law_meet : Stmt := topS 61
abbrev N_law_meet : List Str := ["some", "more", "name"]
theorem sc_law_meet : FnScope N_law_meet ["some", "more"] (defScope st_law_meet) := ⟨rfl, rfl, rfl, by decide +kernel, rfl, by decide +kernel, by decide +kernel⟩
abbrev st_law_cross : Stmt := topS 62
abbrev N_law_cross : List Str := ["one", "other", "some"]
theorem sc_law_cross : FnScope N_law_cross ["one", "other"] (defScope st_law_cross) := ⟨rfl, rfl, rfl, by decide +kernel, rfl, by decide +kernel, by decide +kernel⟩
abbrev st_law_places : Stmt := topS 63
abbrev N_law_places : List Str := ["parted", "found", "parting", "longer", "some", "fits_v", "one", "more"]
theorem sc_law_places : FnScope N_law_places ["parted"] (defScope st_law_places) := ⟨rfl, rfl, rfl, by decide +kernel, rfl, by decide +kernel, by decide +kernel⟩
abbrev st_law_kind : Stmt := topS 64
abbrev N_law_kind : List Str := ["e", "some", "met", "word", "so"]
theorem sc_law_kind : FnScope N_law_kind ["e"] (defScope st_law_kind) := ⟨rfl, rfl, rfl, by decide +kernel, rfl, by decide +kernel, by decide +kernel⟩
abbrev st_law_told : Stmt := topS 65
abbrev N_law_told : List Str := ["books", "caught", "e"]
theorem sc_law_told : FnScope N_law_told ["books"] (defScope st_law_told) := ⟨rfl, rfl, rfl, by decide +kernel, rfl, by decide +kernel, by decide +kernel⟩
abbrev st_law_crosses : Stmt := topS 66
abbrev N_law_crosses : List Str := ["parted", "at", "one", "other"]
theorem sc_law_crosses : FnScope N_law_crosses ["parted"] (defScope st_law_crosses) := ⟨rfl, rfl, rfl, by decide +kernel, rfl, by decide +kernel, by decide +kernel⟩
abbrev st_law_tree_right : Stmt := topS 67
abbrev N_law_tree_right : List Str := ["books", "parted", "found", "name", "own", "one", "other", "many", "at", "place", "unlike", "some", "more"]
theorem sc_law_tree_right : FnScope N_law_tree_right ["books", "parted", "found"] (defScope st_law_tree_right) := ⟨rfl, rfl, rfl, by decide +kernel, rfl, by decide +kernel, by decide +kernel⟩
abbrev st_law : Stmt := topS 68
abbrev N_law : List Str := ["script", "k", "pot", "books", "parted", "crosses", "due", "kept", "again", "told", "rows", "place", "number", "some"]
theorem sc_law : FnScope N_law ["script"] (defScope st_law) := ⟨rfl, rfl, rfl, by decide +kernel, rfl, by decide +kernel, by decide +kernel⟩
/-- names that the top leaves to the built-ins -/
structure Nb (mg : Str → Option Value) : Prop where
  n_ValueError : mg "ValueError" = none
  n_all : mg "all" = none
  n_any : mg "any" = none
  n_dict : mg "dict" = none
  n_enumerate : mg "enumerate" = none
  n_int : mg "int" = none
  n_isinstance : mg "isinstance" = none
  n_len : mg "len" = none
  n_list : mg "list" = none
  n_max : mg "max" = none
  n_min : mg "min" = none
  n_range : mg "range" = none
  n_repr : mg "repr" = none
  n_set : mg "set" = none
  n_sorted : mg "sorted" = none
  n_str : mg "str" = none
  n_tuple : mg "tuple" = none
  n_type : mg "type" = none
  n_zip : mg "zip" = none
section
variable {P : Program} {w : World} {K : PySem.W.Frag} {mg : Str → Option Value} {base : Heap}
/-! ### is_name -/
def nameC (c : Nat) : Bool := decide (97 ≤ c) && decide (c ≤ 122)
def isNm (z : Str) : Bool := decide (1 ≤ z.length) && decide (z.length ≤ 8) && z.cps.toList.all nameC
def spIsName (K : PySem.W.Frag) (T : Addr) : Sp := fun vs H Q _ => ∃ x, vs = [x] ∧ TabG H T ∧
  ((∃ z : Str, x = .str z ∧ z.length ≤ sizeLine ∧ ∀ H', Grow [] H H' → Q (.bl (isNm z)) H') ∨ ∃ U, U ≠ "str" ∧ TyB K H x U ∧ Q (.bl false) H)
theorem lt1 (a b : Nat) : decide ([a] < [b]) = decide (a < b) := by
  have h : ([a] < [b]) ↔ a < b := by
    rw [List.cons_lt_cons_iff]
    simp
  exact decide_eq_decide.mpr h
theorem ge_a (c : Nat) : (!decide ([c] < [97])) = decide (97 ≤ c) := by
  rw [lt1]
  by_cases h : 97 ≤ c
  · rw [decide_eq_true h, decide_eq_false (by omega)]; rfl
  · rw [decide_eq_false h, decide_eq_true (by omega)]; rfl
theorem le_z (c : Nat) : (!decide ([122] < [c])) = decide (c ≤ 122) := by
  rw [lt1]
  by_cases h : c ≤ 122
  · rw [decide_eq_true h, decide_eq_false (by omega)]; rfl
  · rw [decide_eq_false h, decide_eq_true (by omega)]; rfl
theorem ok_is_name {f c T : Addr} {fd : FuncData} {tk : Tok} (B : Nb mg) (D : DefIs K "is_name" "is_name" st_is_name f fd (.ref c)) (x_is_name : TabB base mg c T) (k_MOST_LETTERS : mg "MOST_LETTERS" = some (.int 8 tk)) :
    FnG P w K mg base CX0 4 f fd ["thing"] (spIsName K T) := by
  refine D.ok0 (k := 3) sc_is_name (fun vs H Q E h => ?_) (fun A outer s H vs Q E g hr h => ?_)
  · obtain ⟨x, rfl, _⟩ := h
    rfl
  obtain ⟨x, rfl, tT, h⟩ := h
  refine ⟨_,
      (pss_cons (ps_if (PW.pt (pw_or (pt_cmpR (op_notTyB) (pe_callTy call_type1 rfl B.n_type (by decide +kernel) (pa_cons (pv 0) pa_nil)) (pe_bltn (v := .ty "str") rfl B.n_str (by decide +kernel) rfl) (nomark _)) (pw_or1 (pt_not (pt_chain (op_le) (op_le) pe_int (pe_callB call_len_str rfl B.n_len PySem.boot_len (pa_cons (pv 0) pa_nil)) (pe_glob (v := .int 8) rfl k_MOST_LETTERS ⟨_, rfl⟩)))))) (
        (pss_one (ps_ret pe_bl))) pss_nil)
      (pss_one (ps_ret (pe_allG (own := [("letter", 1)]) hr (gx_ok (N := N_is_name) (dsc := defScope st_is_name) x_is_name sc_is_name.nd (by decide +kernel) (by decide +kernel)) rfl B.n_all (by decide +kernel) (pi_str (pv 0)) (fun _ _ _ _ _ => (pg_name (i := 1) sc_is_name.nd rfl (.inl rfl))) (fun _ _ _ _ _ => pe_to (pe_chain (op_le_str) (op_le_str) pe_str (pv 1) pe_str)))))), ?_⟩
  rcases h with ⟨z, rfl, hz, q⟩ | ⟨U, hU, ty, q⟩
  · refine ⟨.str z, rfl, _, "str", rfl, .str z, "str", "str", rfl, rfl, _, rfl, iteNS rfl ⟨.str z, rfl, z, rfl, hz, 1, z.length, rfl, rfl, _, rfl, ?_⟩⟩
    have no : isNm z = false → Q (.bl false) H := fun e => by
      rw [← e]
      exact q H (Grow.refl _ _)
    by_cases h1 : (1 : Int) ≤ z.length
    · rw [if_pos (decide_eq_true h1)]
      refine ⟨z.length, 8, rfl, rfl, _, rfl, ?_⟩
      by_cases h8 : (z.length : Int) ≤ 8
      · rw [decide_eq_true h8]
        refine iteF ⟨.str z, rfl, z, rfl, tT, ?_⟩
        have hall : ∀ b : Bool, b = z.cps.toList.all nameC → ∀ H', Grow [] H H' → Q (.bl b) H' := fun b e H' gr => by
          have e2 : isNm z = b := by
            unfold isNm
            rw [decide_eq_true (by omega : 1 ≤ z.length), decide_eq_true (by omega : z.length ≤ 8), e]
            rfl
          rw [← e2]
          exact q H' gr
        refine truth_text (fun i H' => Grow [] H H' ∧ (z.cps.toList.take i).all nameC = true) (fun H2 t => ⟨grow_tab tT t, rfl⟩) (fun i cc H' hc hp => ?_) fun H' hp => ?_
        · have e1 : (!decide ((⟨#[cc]⟩ : Str).cps.toList < (Str.ofString "a").cps.toList)) = decide (97 ≤ cc) := ge_a cc
          have e2 : (!decide ((Str.ofString "z").cps.toList < (⟨#[cc]⟩ : Str).cps.toList)) = decide (cc ≤ 122) := le_z cc
          have out : nameC cc = false → Q (.bl false) H' := fun e => by
            refine hall false ?_ H' hp.1
            refine (List.all_eq_false.mpr ⟨cc, List.mem_of_getElem? hc, ?_⟩).symm
            rw [e]
            exact Bool.false_ne_true
          refine ⟨rfl, .str ⟨#[cc]⟩, rfl, _, _, rfl, rfl, _, rfl, ?_⟩
          rw [e1]
          by_cases ca : 97 ≤ cc
          · rw [if_pos (decide_eq_true ca)]
            refine ⟨_, _, rfl, rfl, _, rfl, ?_⟩
            rw [e2]
            by_cases cz : cc ≤ 122
            · rw [if_neg (by rw [decide_eq_true cz]; exact fun z => Bool.noConfusion z)]
              refine ⟨hp.1, ?_⟩
              rw [List.take_add_one, hc, List.all_append, hp.2]
              show (true && (nameC cc && true)) = true
              unfold nameC
              rw [decide_eq_true ca, decide_eq_true cz]
              rfl
            · rw [if_pos (decide_eq_false cz)]
              refine out ?_
              unfold nameC
              rw [decide_eq_false cz, Bool.and_false]
          · rw [if_neg (by rw [decide_eq_false ca]; exact Bool.false_ne_true)]
            refine ⟨false, rfl, ?_⟩
            rw [if_pos rfl]
            refine out ?_
            unfold nameC
            rw [decide_eq_false ca, Bool.false_and]
        · refine hall true ?_ H' hp.1
          have := hp.2
          rw [List.take_length] at this
          exact this.symm
      · rw [decide_eq_false h8]
        refine iteT (no ?_)
        unfold isNm
        rw [decide_eq_false (by omega : ¬ z.length ≤ 8), Bool.and_false, Bool.false_and]
    · rw [decide_eq_false h1]
      refine iteF ⟨_, rfl, iteT (no ?_)⟩
      unfold isNm
      rw [decide_eq_false (by omega : ¬ 1 ≤ z.length), Bool.false_and, Bool.false_and]
  · refine ⟨x, rfl, _, U, rfl, ty, U, "str", rfl, rfl, _, rfl, ?_⟩
    rw [decide_eq_false hU]
    exact iteT (iteT q)
end

section
variable {P : Program} {w : World} {K : PySem.W.Frag} {mg : Str → Option Value} {base : Heap}
/-! ### are_unlike_names, is_book -/
def nameV : V → Bool
  | .str z => isNm z
  | _ => false
def bookV (xs : List V) : Bool := xs.all nameV && decide xs.Nodup
theorem nameV_str (x : V) (h : nameV x = true) : ∃ z, x = .str z := by
  cases x with
  | str z => exact ⟨z, rfl⟩
  | _ => cases h
def spUnlike (K : PySem.W.Frag) (T1 T2 : Addr) : Sp := fun vs H Q _ => ∃ x, vs = [x] ∧ TabG H T1 ∧ TabG H T2 ∧
  ((∃ (l : Addr) (xs : List V), x = .ref l ∧ SqL K H l xs ∧ (∀ x ∈ xs, Known K H x) ∧ xs.length ≤ 4000 ∧ ∀ H', Grow [] H H' → Q (.bl (bookV xs)) H') ∨ ∃ U, U ≠ "list" ∧ TyB K H x U ∧ Q (.bl false) H)
theorem ok_are_unlike_names {f c T1 T : Addr} {fd : FuncData} (B : Nb mg) (D : DefIs K "are_unlike_names" "are_unlike_names" st_are_unlike_names f fd (.ref c)) (x_are_unlike_names : TabB base mg c T)
    (c_is_name : Callee P w K mg base CX0 4 "is_name" ["thing"] (spIsName K T1)) : FnG P w K mg base CX0 8 f fd ["thing"] (spUnlike K T1 T) := by
  refine D.ok0 (k := 7) sc_are_unlike_names (fun vs H Q E h => ?_) (fun A outer s H vs Q E g hr h => ?_)
  · obtain ⟨x, rfl, _⟩ := h
    rfl
  obtain ⟨x, rfl, t1, tT, h⟩ := h
  refine ⟨_,
      (pss_cons (ps_if (PW.pt (pw_or (pt_cmpR (op_notTyB) (pe_callTy call_type1 rfl B.n_type (by decide +kernel) (pa_cons (pv 0) pa_nil)) (pe_bltn (v := .ty "list") rfl B.n_list (by decide +kernel) rfl) (nomark _)) (pw_or1 (pt_not (pt_val (pe_allG (own := [("name", 1)]) hr (gx_ok (N := N_are_unlike_names) (dsc := defScope st_are_unlike_names) x_are_unlike_names sc_are_unlike_names.nd (by decide +kernel) (by decide +kernel)) rfl B.n_all (by decide +kernel) (pi_list (pv 0)) (fun _ _ _ _ _ => (pg_name (i := 1) sc_are_unlike_names.nd rfl (.inl rfl))) (fun _ _ _ _ _ => pe_to (pe_g c_is_name g ((room_gx hr).mono (by decide)) pass0 (pa_cons (pv 1) pa_nil))))))))) (
        (pss_one (ps_ret pe_bl))) pss_nil)
      (pss_one (ps_ret (pe_cmpR (op_eq) (pe_lenSetS rfl B.n_len rfl B.n_set hr.hd (pv 0)) (pe_callB call_len_seq rfl B.n_len PySem.boot_len (pa_cons (pv 0) pa_nil)) (nomark _))))), ?_⟩
  rcases h with ⟨l, xs, rfl, hl, hk, hz, q⟩ | ⟨U, hU, ty, q⟩
  · refine ⟨.ref l, rfl, _, "list", rfl, .lst hl, "list", "list", rfl, rfl, _, rfl, iteNS rfl ⟨.ref l, rfl, l, rfl, ⟨xs, hl⟩, tT, ?_⟩⟩
    refine truth_list (xs := xs) (fun i H' => Grow [] H H' ∧ (xs.take i).all nameV = true) (fun H2 t => ⟨grow_tab tT t, rfl⟩) (fun i H' hp => hp.1.seq0 hl) (fun i x H' hx hp => ?_) fun H' hp => ?_
    · refine ⟨rfl, x, rfl, x, rfl, hp.1.tabs _ t1, ?_⟩
      have key : ∀ b, b = nameV x → ∀ H2, Grow [] H' H2 → (b = false → Q (.bl false) H2) ∧ (b = true → Grow [] H H2 ∧ (xs.take (i + 1)).all nameV = true) := fun b e H2 gr => by
        refine ⟨fun hb => ?_, fun hb => ⟨hp.1.trans gr, ?_⟩⟩
        · have eb : bookV xs = false := by
            unfold bookV
            rw [(List.all_eq_false.mpr ⟨x, List.mem_of_getElem? hx, by rw [← e, hb]; exact Bool.false_ne_true⟩ : xs.all nameV = false), Bool.false_and]
          rw [← eb]
          exact q H2 (hp.1.trans gr)
        · rw [List.take_add_one, hx, List.all_append, hp.2]
          show (true && (nameV x && true)) = true
          rw [← e, hb]
          rfl
      rcases (hk x (List.mem_of_getElem? hx)).grow hp.1 with ⟨z, rfl, hz'⟩ | ⟨U, nU, tU⟩
      · refine .inl ⟨z, rfl, hz', fun H2 gr => ?_⟩
        obtain ⟨k1, k2⟩ := key (isNm z) rfl H2 gr
        refine ⟨isNm z, rfl, ?_⟩
        cases hb : isNm z with
        | false =>
          rw [if_pos rfl]
          exact ⟨false, rfl, iteT (k1 hb)⟩
        | true =>
          rw [if_neg (fun z => Bool.noConfusion z)]
          exact k2 hb
      · refine .inr ⟨U, nU, tU, ?_⟩
        have e : nameV x = false := by
          cases hb : nameV x with
          | false => rfl
          | true =>
            obtain ⟨z, rfl⟩ := nameV_str x hb
            cases tU
            exact absurd rfl nU
        refine ⟨false, rfl, ?_⟩
        rw [if_pos rfl]
        exact ⟨false, rfl, iteT ((key false e.symm H' (Grow.refl _ _)).1 rfl)⟩
    · have hall : xs.all nameV = true := by
        have := hp.2
        rwa [List.take_length] at this
      have ex := strs_of nameV_str hall
      refine ⟨true, rfl, iteF ?_⟩
      refine ⟨.ref l, rfl, l, xs.map theStr, rfl, by rw [← ex]; exact hp.1.seq0 hl, by rw [List.length_map]; exact hz, ?_⟩
      refine ⟨.ref l, rfl, l, xs, rfl, .inl (hp.1.seq0 hl), ?_⟩
      have e : decide (V.int ((uq [] (xs.map theStr)).length : Nat) = V.int (xs.length : Nat)) = bookV xs := by
        unfold bookV
        rw [hall, Bool.true_and]
        have e1 : decide (V.int ((uq [] (xs.map theStr)).length : Nat) = V.int (xs.length : Nat)) = decide (((uq [] (xs.map theStr)).length : Int) = ((xs.map theStr).length : Int)) :=
          decide_eq_decide.mpr ⟨fun h => by rw [List.length_map]; exact V.int.inj h, fun h => by rw [List.length_map] at h; rw [h]⟩
        rw [e1, uq_same]
        exact decide_eq_decide.mpr (Iff.trans nodup_str.symm (by rw [← ex]))
      show rEq _ _ _ _
      refine ⟨rfl, ?_⟩
      rw [e]
      exact q H' hp.1
  · refine ⟨x, rfl, _, U, rfl, ty, U, "list", rfl, rfl, _, rfl, ?_⟩
    rw [decide_eq_false hU]
    exact iteT (iteT q)
end

section
variable {K : PySem.W.Frag}
/-! ### books -/
/-- a book -/
structure Bk (zs : List Str) : Prop where
  nm : zs.all isNm = true
  nd : zs.Nodup
  len : zs.length ≤ 200
theorem Bk.perm {zs ws : List Str} (b : Bk zs) (p : zs.Perm ws) : Bk ws :=
  ⟨by rw [List.all_eq_true] at *; exact fun x h => List.all_eq_true.mp b.nm x (p.mem_iff.mpr h), p.nodup_iff.mp b.nd, by rw [← p.length_eq]; exact b.len⟩
theorem Bk.v {zs : List Str} (b : Bk zs) : bookV (zs.map V.str) = true := by
  unfold bookV
  rw [decide_eq_true (nodup_str.mpr b.nd), Bool.and_true, List.all_map]
  exact b.nm
theorem Bk.short {zs : List Str} (b : Bk zs) {z : Str} (h : z ∈ zs) : z.length ≤ 8 := by
  have := List.all_eq_true.mp b.nm z h
  unfold isNm at this
  rw [Bool.and_eq_true, Bool.and_eq_true, decide_eq_true_iff, decide_eq_true_iff] at this
  exact this.1.2
theorem Bk.known {zs : List Str} (b : Bk zs) {H : Hp} : ∀ x ∈ zs.map V.str, Known K H x := fun x h => by
  obtain ⟨z, hz, rfl⟩ := List.mem_map.mp h
  exact .inl ⟨z, rfl, Nat.le_trans (b.short hz) (by decide)⟩
theorem nm_lt {z : Str} (h : isNm z = true) : ∀ c ∈ z.cps.toList, c < 0x110000 := fun c hc => by
  unfold isNm at h
  rw [Bool.and_eq_true] at h
  have := List.all_eq_true.mp h.2 c hc
  unfold nameC at this
  rw [Bool.and_eq_true, decide_eq_true_iff, decide_eq_true_iff] at this
  omega
theorem Bk.fine {zs : List Str} (b : Bk zs) {z : Str} (h : z ∈ zs) : Fine (.str z) 0 8 := .str (nm_lt (List.all_eq_true.mp b.nm z h)) (b.short h)
theorem fine_name {z : Str} (h1 : isNm z = true) : Fine (.str z) 0 8 := by
  refine .str (nm_lt h1) ?_
  unfold isNm at h1
  rw [Bool.and_eq_true, Bool.and_eq_true, decide_eq_true_iff, decide_eq_true_iff] at h1
  exact h1.1.2
theorem fine_names {zs : List Str} (hn : zs.all isNm = true) (hz : zs.length ≤ 200) : Fine (.list (zs.map PyData.str)) 1 1800 := Fine.list (n := 0) (m := 8) (fun d hd => by
  obtain ⟨z, h, rfl⟩ := List.mem_map.mp hd
  have h1 := List.all_eq_true.mp hn z h
  refine .str (nm_lt h1) ?_
  unfold isNm at h1
  rw [Bool.and_eq_true, Bool.and_eq_true, decide_eq_true_iff, decide_eq_true_iff] at h1
  exact h1.1.2) (by rw [List.length_map]; omega)
theorem all_perm {zs ws : List Str} (h : zs.all isNm = true) (p : ws.Perm zs) : ws.all isNm = true := List.all_eq_true.mpr fun x hx => List.all_eq_true.mp h x (p.mem_iff.mp hx)
theorem seqIndex_nat {v : Int} {n : Nat} (h0 : 0 ≤ v) (h : v < n) : seqIndex? v n = some v.toNat := by
  have e : seqIndex? v n = if (decide (0 ≤ (if v < 0 then v + n else v)) && decide ((if v < 0 then v + n else v) < n)) = true then some (if v < 0 then v + n else v).toNat else none := rfl
  rw [e, if_neg (by omega : ¬ v < 0), decide_eq_true h0, decide_eq_true h]
  rfl
end

section
variable {P : Program} {w : World} {K : PySem.W.Frag} {mg : Str → Option Value} {base : Heap}
/-! ### is_book -/
theorem ok_is_book {f c T1 T : Addr} {fd : FuncData} (D : DefIs K "is_book" "is_book" st_is_book f fd (.ref c))
    (c_are_unlike_names : Callee P w K mg base CX0 8 "are_unlike_names" ["thing"] (spUnlike K T1 T)) : FnG P w K mg base CX0 9 f fd ["thing"] (spUnlike K T1 T) := by
  refine D.ok0 (k := 8) sc_is_book (fun vs H Q E h => ?_) (fun A outer s H vs Q E g hr h => ?_)
  · obtain ⟨x, rfl, _⟩ := h
    rfl
  obtain ⟨x, rfl, t1, tT, h⟩ := h
  refine ⟨_,
      (pss_one (ps_ret (pe_g c_are_unlike_names g (hr.mono (by decide)) pass0 (pa_cons (pv 0) pa_nil)))), ?_⟩
  exact ⟨x, rfl, x, rfl, t1, tT, h⟩
end

section
variable {P : Program} {w : World} {K : PySem.W.Frag} {mg : Str → Option Value} {base : Heap}
/-! ### places_of -/
def spPlaces (K : PySem.W.Frag) : Sp := fun vs H Q _ => ∃ (l : Addr) (zs : List Str), vs = [.ref l] ∧ SqL K H l (zs.map V.str) ∧ zs.Nodup ∧ zs.length ≤ 200 ∧
  ∀ D H' kvs, Fresh H D → Grow [] H H' → H' D = some (.dK kvs) → (∀ z ∈ zs, valV kvs (.inr z) = some (.int (zs.idxOf z : Nat))) → kvs.map Prod.fst = zs.map Sum.inr → Q (.ref D) H'
theorem ok_places_of {f c : Addr} {fd : FuncData} (B : Nb mg) (D : DefIs K "places_of" "places_of" st_places_of f fd (.ref c)) : FnG P w K mg base CX0 4 f fd ["book"] (spPlaces K) := by
  refine D.ok0 (k := 3) sc_places_of (fun vs H Q E h => ?_) (fun A outer s H vs Q E g hr h => ?_)
  · obtain ⟨l, zs, rfl, _⟩ := h
    rfl
  obtain ⟨l, zs, rfl, hl, nd, len, q⟩ := h
  refine ⟨_,
      (pss_one (ps_ret (pe_dc (own := [("place", 1), ("word", 2)]) (g := (gTup _ 2 (gCons (gName 1) (gCons (gName 2) gNil)))) (tt := tYes) rfl sc_places_of.nd (pi_enum rfl B.n_enumerate (pa_cons (pv 0) pa_nil)) (blkOk_by (N := N_places_of) (sc := defScope st_places_of) (by decide +kernel)) (fun _ _ _ _ _ => (pg_tup rfl (pgs_cons (pg_name (i := 1) sc_places_of.nd rfl (.inl rfl)) (pgs_cons (pg_name (i := 2) sc_places_of.nd rfl (.inl rfl)) pgs_nil)))) (fun _ _ _ _ _ => pts_nil) (fun _ _ _ _ _ => pe_to (pv 2)) (fun _ _ _ _ _ => pe_to (pv 1))))), ?_⟩
  refine ⟨.ref l, rfl, l, _, rfl, hl, fun D n => ?_⟩
  refine dc_it walk_enum (fun i H' => Grow [] H H' ∧ ∃ kvs, H' D = some (.dK kvs) ∧ kvs.length ≤ i ∧ kvs.map Prod.fst = (zs.take i).map Sum.inr ∧ ∀ (j : Nat) (z : Str), j < i → zs[j]? = some z → valV kvs (.inr z) = some (.int j)) ?_ (fun i H' _ h => h.1.seq0 hl) (fun i x H1 H2 hi hp hy => ?_) (fun H' hp => ?_)
  · exact ⟨grow_new n, [], upd_same, Nat.le_refl _, rfl, fun j z hj => absurd hj (Nat.not_lt_zero _)⟩
  · obtain ⟨gr, kvs, e, el, ek, hk⟩ := hp
    obtain ⟨T, x1, x2, rfl, nT, rfl, ei, ex⟩ := hy
    replace ex : (zs.map V.str)[i]? = some x2 := ex
    rw [List.getElem?_map] at ex
    cases ez : zs[i]? with
    | none => rw [ez] at ex; cases ex
    | some z =>
      rw [ez] at ex
      cases ex
      cases ei
      have gr2 : Grow [] H (upd H1 T (.tup [.int (i : Nat), .str z])) := gr.new nT
      have eD : upd H1 T (.tup [.int (i : Nat), .str z]) D = some (.dK kvs) := by rw [upd_ne (ne_of_none e nT)]; exact e
      refine ⟨T, _, rfl, .inl (.inl upd_same), rfl, _, _, rfl, _, _, rfl, rfl, rfl, ?_⟩
      refine ⟨.str z, rfl, .int i, rfl, kvs, .inr z, rfl, eD, by unfold sizeLine; rw [List.length_map] at hi; omega, gr2.put (fresh_none n) eD (fun ps z => by cases z), _, upd_same, ?_, ?_, fun j y hj hy => ?_⟩
      · have := put_len kvs (.inr z) (.int (i : Nat))
        omega
      · have nw : valV kvs (.inr z) = none := valV_none (by
          rw [ek]
          intro h
          obtain ⟨y, hy, e2⟩ := List.mem_map.mp h
          cases e2
          obtain ⟨j, hj⟩ := List.mem_iff_getElem?.mp hy
          rw [List.getElem?_take] at hj
          by_cases hji : j < i
          · rw [if_pos hji] at hj
            have := (List.getElem?_inj (List.getElem?_eq_some_iff.mp hj).1 nd).mp (hj.trans ez.symm)
            omega
          · rw [if_neg hji] at hj
            cases hj)
        rw [putK_new _ nw, List.map_append, ek, List.take_add_one, ez, List.map_append]
        rfl
      · rw [valV_put]
        by_cases hji : j = i
        · subst hji
          rw [ez] at hy
          cases hy
          rw [if_pos rfl]
        · have : y ≠ z := fun e2 => by
            subst e2
            exact hji ((List.getElem?_inj (List.getElem?_eq_some_iff.mp hy).1 nd).mp (hy.trans ez.symm))
          rw [if_neg (fun e2 => this (Sum.inr.inj e2))]
          exact hk j y (by omega) hy
  · obtain ⟨gr, kvs, e, el, ek, hk⟩ := hp
    refine q D H' kvs (fresh_none n) gr e (fun z hz => ?_) (by rw [ek, List.length_map, List.take_length])
    have h1 := List.idxOf_lt_length_of_mem hz
    exact hk _ z (by rw [List.length_map]; exact h1) (by rw [List.getElem?_eq_getElem h1, List.getElem_idxOf h1])
end

end Lw

namespace Lw
open PySem PySem.Spec PyProof.Rows L2 GxR Gx
/-! ### given books, their partings: without a heap -/
abbrev Parting := List Str × List Str
def encPt (p : Parting) : PyData := .tuple [.list (p.1.map PyData.str), .list (p.2.map PyData.str)]
theorem toks_strs : ∀ {as bs : List Str} {u v : List (Int ⊕ List Nat)}, PySem.W.keyToksAll (as.map PyData.str) ++ u = PySem.W.keyToksAll (bs.map PyData.str) ++ v → as = bs ∧ u = v
  | [], [], u, v, h => ⟨rfl, by simpa [PySem.W.keyToksAll] using h⟩
  | [], b :: bs, u, v, h => by simp [PySem.W.keyToksAll] at h
  | a :: as, [], u, v, h => by simp [PySem.W.keyToksAll] at h
  | a :: as, b :: bs, u, v, h => by
    rw [List.map_cons, List.map_cons, PySem.W.keyToksAll, PySem.W.keyToksAll, PySem.W.keyToks, PySem.W.keyToks] at h
    simp only [List.cons_append, List.nil_append, List.cons.injEq, true_and, Sum.inr.injEq] at h
    obtain ⟨h1, h2⟩ := toks_strs h.2
    exact ⟨by rw [str_cps h.1, h1], h2⟩
theorem toks_pt {a b : Parting} (h : PySem.W.keyToks (encPt a) = PySem.W.keyToks (encPt b)) : a = b := by
  unfold encPt at h
  simp only [PySem.W.keyToks, PySem.W.keyToksAll] at h
  simp only [List.cons.injEq, true_and] at h
  obtain ⟨h1, h2⟩ := toks_strs h
  simp only [List.cons.injEq, true_and] at h2
  exact Prod.ext h1 (toks_strs h2).1
theorem alike_strl : ∀ as bs : List Str, PySem.W.alikeAll (as.map PyData.str) (bs.map PyData.str) = true
  | [], _ => by simp [PySem.W.alikeAll]
  | _ :: _, [] => by simp [PySem.W.alikeAll]
  | _ :: as, _ :: bs => by
    rw [List.map_cons, List.map_cons, PySem.W.alikeAll, PySem.W.alike, alike_strl as bs]
    rfl
theorem alike_pt (a b : Parting) : PySem.W.alike (encPt a) (encPt b) = true := by
  simp [encPt, PySem.W.alike, PySem.W.alikeAll, alike_strl]
theorem alike_pts {β : Type} (f : β → Parting) (ps : List β) : PySem.W.AllAlike (ps.map fun b => encPt (f b)) := PySem.W.AllAlike.of fun b b' => alike_pt _ _
theorem sortable_pts {β : Type} (f : β → Parting) (ps : List β) : PySem.W.Sortable (ps.map fun b => encPt (f b)) := PySem.W.Sortable.tuples fun b => ⟨_, _, rfl⟩
theorem depth_strl (as : List Str) : PyData.depthAll (as.map PyData.str) = 0 := by
  induction as with
  | nil => rfl
  | cons a as ih => rw [List.map_cons, PyData.depthAll, ih]; rfl
theorem depth_pt (a : Parting) : (encPt a).depth = 2 := by
  simp [encPt, PyData.depth, PyData.depthAll, depth_strl]
def sortPt (ps : List Parting) : List Parting := ps.mergeSort (PySem.W.dataLe false encPt)
def sortS (l : List Str) : List Str := l.mergeSort (PySem.W.dataLe false PyData.str)
theorem sortS_perm (l : List Str) : (sortS l).Perm l := List.mergeSort_perm _ _
theorem sortPt_perm (l : List Parting) : (sortPt l).Perm l := List.mergeSort_perm _ _
def bkOf (gs : List (Str × List Str)) (n : Str) : List Str := ((gs.find? fun p => decide (p.1 = n)).map Prod.snd).getD []
theorem bkOf_mem : ∀ {gs : List (Str × List Str)} {n : Str} {b : List Str}, (gs.map Prod.fst).Nodup → (n, b) ∈ gs → bkOf gs n = b
  | p :: gs, n, b, nd, h => by
    unfold bkOf
    by_cases e : p.1 = n
    · rw [List.find?_cons_of_pos (by simpa using e)]
      rcases List.mem_cons.mp h with h | h
      · rw [← h]; rfl
      · exact absurd (List.mem_map.mpr ⟨_, h, rfl⟩) (by rw [← e]; exact (List.nodup_cons.mp nd).1)
    · rw [List.find?_cons_of_neg (by simpa using e)]
      rcases List.mem_cons.mp h with h | h
      · rw [← h] at e; exact absurd rfl e
      · exact bkOf_mem (List.nodup_cons.mp nd).2 h
def namesOf (gs : List (Str × List Str)) : List Str := sortS (gs.map Prod.fst)
def othersOf (B : Str → List Str) (ns : List Str) (p : Str × Str) : List Str := ns.filter fun n => decide ((B n).idxOf p.2 < (B n).idxOf p.1)
def addK (acc : List (List Str)) (o : List Str) : List (List Str) := if o = [] ∨ o ∈ acc then acc else acc ++ [o]
def okeys (os : List (List Str)) : List (List Str) := os.foldl addK []
theorem addK_fold : ∀ (os acc : List (List Str)), acc.Nodup → (os.foldl addK acc).Nodup ∧ ∀ o, o ∈ os.foldl addK acc ↔ o ∈ acc ∨ (o ∈ os ∧ o ≠ [])
  | [], acc, nd => ⟨nd, fun o => by simp⟩
  | p :: os, acc, nd => by
    rw [List.foldl_cons]
    have nd2 : (addK acc p).Nodup ∧ ∀ o, o ∈ addK acc p ↔ o ∈ acc ∨ (o = p ∧ o ≠ []) := by
      unfold addK
      by_cases c : p = [] ∨ p ∈ acc
      · rw [if_pos c]
        refine ⟨nd, fun o => ⟨.inl, fun h => h.elim id fun h => ?_⟩⟩
        rcases c with c | c
        · exact absurd (h.1.trans c) h.2
        · rw [h.1]; exact c
      · rw [if_neg c]
        refine ⟨List.nodup_append.mpr ⟨nd, by simp, fun a ha b hb e => c (.inr ?_)⟩, fun o => ?_⟩
        · rw [List.mem_singleton] at hb; rw [← hb, ← e]; exact ha
        · rw [List.mem_append, List.mem_singleton]
          exact ⟨fun h => h.imp id fun h => ⟨h, fun z => c (.inl (h.symm.trans z))⟩, fun h => h.imp id fun h => h.1⟩
    obtain ⟨h1, h2⟩ := addK_fold os (addK acc p) nd2.1
    refine ⟨h1, fun o => ?_⟩
    rw [h2, nd2.2, List.mem_cons]
    constructor
    · rintro ((h | ⟨h, k⟩) | ⟨h, k⟩)
      · exact .inl h
      · exact .inr ⟨.inl h, k⟩
      · exact .inr ⟨.inr h, k⟩
    · rintro (h | ⟨h | h, k⟩)
      · exact .inl (.inl h)
      · exact .inl (.inr ⟨h, k⟩)
      · exact .inr ⟨h, k⟩
theorem okeys_nd (os : List (List Str)) : (okeys os).Nodup := (addK_fold os [] List.nodup_nil).1
theorem mem_okeys {os : List (List Str)} {o : List Str} : o ∈ okeys os ↔ o ∈ os ∧ o ≠ [] := by
  have := (addK_fold os [] List.nodup_nil).2 o
  unfold okeys
  rw [this]
  simp
theorem okeys_take {os : List (List Str)} {i : Nat} {o : List Str} (h : os[i]? = some o) : okeys (os.take (i + 1)) = addK (okeys (os.take i)) o := by
  unfold okeys
  rw [List.take_add_one, h, List.foldl_append]
  rfl
def partOf (ns o : List Str) : Parting := (ns.filter fun n => decide (n ∉ o), o)
def partsBy (ns : List Str) (os : List (List Str)) : List Parting := sortPt (os.map (partOf ns))
def firstOf (gs : List (Str × List Str)) : List Str := bkOf gs ((namesOf gs).headD Str.empty)
def othersAll (gs : List (Str × List Str)) : List (List Str) := (combos (firstOf gs)).map (othersOf (bkOf gs) (namesOf gs))
def partsOf (gs : List (Str × List Str)) : List Parting := partsBy (namesOf gs) (okeys (othersAll gs))
/-- as the law reckons them -/
def aheadOf (B : Str → List Str) (ns : List Str) (p : Str × Str) : List Str := ns.filter fun n => decide ((B n).idxOf p.1 < (B n).idxOf p.2)
def lawPart (ns some : List Str) : Parting := if ns.headD Str.empty ∈ some then (some, ns.filter fun n => decide (n ∉ some)) else (ns.filter fun n => decide (n ∉ some), some)
def addP (acc : List Parting) (p : Parting) : List Parting := if p.2 ≠ [] ∧ p ∉ acc then acc ++ [p] else acc
theorem addP_fold : ∀ (os acc : List Parting), acc.Nodup → (os.foldl addP acc).Nodup ∧ ∀ o, o ∈ os.foldl addP acc ↔ o ∈ acc ∨ (o ∈ os ∧ o.2 ≠ [])
  | [], acc, nd => ⟨nd, fun o => by simp⟩
  | p :: os, acc, nd => by
    rw [List.foldl_cons]
    have nd2 : (addP acc p).Nodup ∧ ∀ o, o ∈ addP acc p ↔ o ∈ acc ∨ (o = p ∧ o.2 ≠ []) := by
      unfold addP
      by_cases c : p.2 ≠ [] ∧ p ∉ acc
      · rw [if_pos c]
        refine ⟨List.nodup_append.mpr ⟨nd, by simp, fun a ha b hb e => c.2 ?_⟩, fun o => ?_⟩
        · rw [List.mem_singleton] at hb; rw [← hb, ← e]; exact ha
        · rw [List.mem_append, List.mem_singleton]
          exact ⟨fun h => h.imp id fun h => ⟨h, by rw [h]; exact c.1⟩, fun h => h.imp id fun h => h.1⟩
      · rw [if_neg c]
        refine ⟨nd, fun o => ⟨.inl, fun h => h.elim id fun h => Classical.byContradiction fun z => c ⟨by rw [← h.1]; exact h.2, by rw [← h.1]; exact z⟩⟩⟩
    obtain ⟨h1, h2⟩ := addP_fold os (addP acc p) nd2.1
    refine ⟨h1, fun o => ?_⟩
    rw [h2, nd2.2, List.mem_cons]
    constructor
    · rintro ((h | ⟨h, k⟩) | ⟨h, k⟩)
      · exact .inl h
      · exact .inr ⟨.inl h, k⟩
      · exact .inr ⟨.inr h, k⟩
    · rintro (h | ⟨h | h, k⟩)
      · exact .inl (.inl h)
      · exact .inl (.inr ⟨h, k⟩)
      · exact .inr ⟨h, k⟩
def lawAll (gs : List (Str × List Str)) : List Parting := (combos (sortS (firstOf gs))).map fun p => lawPart (namesOf gs) (aheadOf (bkOf gs) (namesOf gs) p)
def lawParts (gs : List (Str × List Str)) : List Parting := sortPt ((lawAll gs).foldl addP [])
theorem idx_cons_ne {x a : Str} {l : List Str} (h : x ≠ a) : (x :: l).idxOf a = l.idxOf a + 1 := by
  rw [List.idxOf_cons, beq_eq_false_iff_ne.mpr h]
  rfl
theorem mem_combos : ∀ {l : List Str} {a b : Str}, l.Nodup → ((a, b) ∈ combos l ↔ a ∈ l ∧ b ∈ l ∧ l.idxOf a < l.idxOf b)
  | [], a, b, _ => by simp [combos]
  | x :: l, a, b, nd => by
    have nd2 := List.nodup_cons.mp nd
    rw [combos, List.mem_append, mem_combos nd2.2, List.mem_map]
    constructor
    · rintro (⟨y, hy, e⟩ | ⟨h1, h2, h3⟩)
      · cases e
        have : x ≠ b := fun z => nd2.1 (z ▸ hy)
        exact ⟨List.mem_cons_self, List.mem_cons_of_mem _ hy, by rw [List.idxOf_cons_self, idx_cons_ne this]; omega⟩
      · have e1 : x ≠ a := fun z => nd2.1 (z ▸ h1)
        have e2 : x ≠ b := fun z => nd2.1 (z ▸ h2)
        exact ⟨List.mem_cons_of_mem _ h1, List.mem_cons_of_mem _ h2, by rw [idx_cons_ne e1, idx_cons_ne e2]; omega⟩
    · rintro ⟨h1, h2, h3⟩
      by_cases e1 : x = a
      · subst e1
        rcases List.mem_cons.mp h2 with h | h
        · rw [h] at h3; omega
        · exact .inl ⟨b, h, rfl⟩
      · have e2 : x ≠ b := fun z => by
          rw [← z, List.idxOf_cons_self] at h3
          omega
        rw [idx_cons_ne e1, idx_cons_ne e2] at h3
        exact .inr ⟨(List.mem_cons.mp h1).resolve_left (Ne.symm e1), (List.mem_cons.mp h2).resolve_left (Ne.symm e2), by omega⟩
/-- given books: names, each with a book of the same words -/
structure GivD (gs : List (Str × List Str)) (ws : List Str) : Prop where
  nd : (gs.map Prod.fst).Nodup
  pos : 0 < gs.length
  pm : ∀ p ∈ gs, p.2.Perm ws
  wnd : ws.Nodup
theorem GivD.names_perm {gs : List (Str × List Str)} : (namesOf gs).Perm (gs.map Prod.fst) := sortS_perm _
theorem GivD.names_nd {gs : List (Str × List Str)} {ws : List Str} (g : GivD gs ws) : (namesOf gs).Nodup := GivD.names_perm.nodup_iff.mpr g.nd
theorem GivD.book {gs : List (Str × List Str)} {ws : List Str} (g : GivD gs ws) {n : Str} (h : n ∈ namesOf gs) : (n, bkOf gs n) ∈ gs ∧ (bkOf gs n).Perm ws := by
  obtain ⟨p, hp, rfl⟩ := List.mem_map.mp (GivD.names_perm.mem_iff.mp h)
  rw [bkOf_mem g.nd (show (p.1, p.2) ∈ gs from hp)]
  exact ⟨hp, g.pm p hp⟩
theorem GivD.head {gs : List (Str × List Str)} {ws : List Str} (g : GivD gs ws) : ∃ n r, namesOf gs = n :: r ∧ (namesOf gs).headD Str.empty = n ∧ n ∈ namesOf gs := by
  cases e : namesOf gs with
  | nil =>
    have := (GivD.names_perm (gs := gs)).length_eq
    rw [e, List.length_map] at this
    have := g.pos
    simp at *
    omega
  | cons n r => exact ⟨n, r, rfl, rfl, List.mem_cons_self⟩
theorem GivD.first {gs : List (Str × List Str)} {ws : List Str} (g : GivD gs ws) : (firstOf gs).Perm ws := by
  obtain ⟨n, r, _, e, h⟩ := g.head
  unfold firstOf
  rw [e]
  exact (g.book h).2
theorem idx_ne {l : List Str} {a b : Str} (ha : a ∈ l) (ne : a ≠ b) : l.idxOf a ≠ l.idxOf b := fun e => by
  have h1 := List.idxOf_lt_length_of_mem ha
  have h2 := List.getElem_idxOf h1
  by_cases hb : b ∈ l
  · have h3 := List.idxOf_lt_length_of_mem hb
    have h4 := List.getElem_idxOf h3
    have : l[l.idxOf a] = l[l.idxOf b] := by congr 1
    exact ne (h2.symm.trans (this.trans h4))
  · rw [List.idxOf_eq_length hb] at e
    omega
/-- the two ways to tell one parting -/
theorem GivD.turn {gs : List (Str × List Str)} {ws : List Str} (g : GivD gs ws) {a b : Str} (h : (a, b) ∈ combos (firstOf gs)) :
    lawPart (namesOf gs) (aheadOf (bkOf gs) (namesOf gs) (a, b)) = partOf (namesOf gs) (othersOf (bkOf gs) (namesOf gs) (a, b)) ∧
    lawPart (namesOf gs) (aheadOf (bkOf gs) (namesOf gs) (b, a)) = partOf (namesOf gs) (othersOf (bkOf gs) (namesOf gs) (a, b)) := by
  have fp := g.first
  obtain ⟨ha, hb, hlt⟩ := (mem_combos (fp.nodup_iff.mpr g.wnd)).mp h
  have ne : a ≠ b := fun z => by rw [z] at hlt; omega
  obtain ⟨n, r, en, eh, hn⟩ := g.head
  have hall : ∀ m ∈ namesOf gs, (bkOf gs m).idxOf a ≠ (bkOf gs m).idxOf b := fun m hm => idx_ne ((g.book hm).2.mem_iff.mpr (fp.mem_iff.mp ha)) ne
  have hlt2 : (bkOf gs n).idxOf a < (bkOf gs n).idxOf b := by
    unfold firstOf at hlt
    rwa [eh] at hlt
  have e1 : othersOf (bkOf gs) (namesOf gs) (a, b) = aheadOf (bkOf gs) (namesOf gs) (b, a) := rfl
  have e2 : (namesOf gs).filter (fun m => decide (m ∉ aheadOf (bkOf gs) (namesOf gs) (a, b))) = aheadOf (bkOf gs) (namesOf gs) (b, a) := by
    refine List.filter_congr fun m hm => ?_
    refine decide_eq_decide.mpr ?_
    unfold aheadOf
    rw [List.mem_filter, decide_eq_true_iff]
    have := hall m hm
    exact ⟨fun z => by have : ¬ (bkOf gs m).idxOf a < (bkOf gs m).idxOf b := fun q => z ⟨hm, q⟩; show (bkOf gs m).idxOf b < (bkOf gs m).idxOf a; omega, fun z q => by have z' : (bkOf gs m).idxOf b < (bkOf gs m).idxOf a := z; have := q.2; simp only at this; omega⟩
  have e3 : (namesOf gs).filter (fun m => decide (m ∉ aheadOf (bkOf gs) (namesOf gs) (b, a))) = aheadOf (bkOf gs) (namesOf gs) (a, b) := by
    refine List.filter_congr fun m hm => ?_
    refine decide_eq_decide.mpr ?_
    unfold aheadOf
    rw [List.mem_filter, decide_eq_true_iff]
    have := hall m hm
    exact ⟨fun z => by have : ¬ (bkOf gs m).idxOf b < (bkOf gs m).idxOf a := fun q => z ⟨hm, q⟩; show (bkOf gs m).idxOf a < (bkOf gs m).idxOf b; omega, fun z q => by have z' : (bkOf gs m).idxOf a < (bkOf gs m).idxOf b := z; have := q.2; simp only at this; omega⟩
  unfold lawPart partOf
  have q1 : n ∈ aheadOf (bkOf gs) (namesOf gs) (a, b) := List.mem_filter.mpr ⟨hn, decide_eq_true hlt2⟩
  have q2 : n ∉ aheadOf (bkOf gs) (namesOf gs) (b, a) := fun z => by
    have := of_decide_eq_true (List.mem_filter.mp z).2
    simp only at this
    omega
  rw [eh, e1, e2, e3, if_pos q1, if_neg q2]
  exact ⟨rfl, rfl⟩
theorem parts_same {gs : List (Str × List Str)} {ws : List Str} (g : GivD gs ws) : lawParts gs = partsOf gs := by
  have fp := g.first
  have fn := fp.nodup_iff.mpr g.wnd
  have sn : (sortS (firstOf gs)).Nodup := (sortS_perm _).nodup_iff.mpr fn
  unfold lawParts partsOf partsBy sortPt
  refine sort_same ?_ fun a b => toks_pt
  obtain ⟨n1, m1⟩ := addP_fold (lawAll gs) [] List.nodup_nil
  have n2 : ((okeys (othersAll gs)).map (partOf (namesOf gs))).Nodup := List.pairwise_map.mpr ((okeys_nd _).imp fun h e => h (congrArg Prod.snd e))
  refine (List.perm_ext_iff_of_nodup n1 n2).mpr fun p => ?_
  rw [m1, List.mem_map]
  unfold lawAll
  constructor
  · rintro (h | ⟨h, hp⟩)
    · cases h
    · obtain ⟨⟨a, b⟩, hab, rfl⟩ := List.mem_map.mp h
      obtain ⟨ha, hb, hlt⟩ := (mem_combos sn).mp hab
      have ha' := (sortS_perm _).mem_iff.mp ha
      have hb' := (sortS_perm _).mem_iff.mp hb
      have ne : a ≠ b := fun z => by rw [z] at hlt; omega
      rcases Nat.lt_or_gt_of_ne (idx_ne ha' ne) with c | c
      · have hm := (mem_combos fn).mpr ⟨ha', hb', c⟩
        have e := (g.turn hm).1
        rw [e] at hp ⊢
        exact ⟨_, mem_okeys.mpr ⟨List.mem_map.mpr ⟨_, hm, rfl⟩, hp⟩, rfl⟩
      · have hm := (mem_combos fn).mpr ⟨hb', ha', c⟩
        have e := (g.turn hm).2
        rw [e] at hp ⊢
        exact ⟨_, mem_okeys.mpr ⟨List.mem_map.mpr ⟨_, hm, rfl⟩, hp⟩, rfl⟩
  · rintro ⟨o, ho, rfl⟩
    obtain ⟨h1, h2⟩ := mem_okeys.mp ho
    obtain ⟨⟨a, b⟩, hab, rfl⟩ := List.mem_map.mp h1
    obtain ⟨ha, hb, hlt⟩ := (mem_combos fn).mp hab
    have ha' := (sortS_perm (firstOf gs)).mem_iff.mpr ha
    have hb' := (sortS_perm (firstOf gs)).mem_iff.mpr hb
    have ne : a ≠ b := fun z => by rw [z] at hlt; omega
    obtain ⟨t1, t2⟩ := g.turn hab
    refine .inr ⟨?_, h2⟩
    rcases Nat.lt_or_gt_of_ne (idx_ne ha' ne) with c | c
    · exact List.mem_map.mpr ⟨(a, b), (mem_combos sn).mpr ⟨ha', hb', c⟩, t1⟩
    · exact List.mem_map.mpr ⟨(b, a), (mem_combos sn).mpr ⟨hb', ha', c⟩, t2⟩

/-! ### a dict that is walked -/
theorem truth_keys {P : Addr} {H1 : Hp} {sb : Bool} {g : TG} {te : TE} {vs : List Nat} {σ : L2.St} {Q : VK} {d : Addr} {o : Obj} {kvs : List (Key × V)} (Pv : Nat → Hp → Prop) (h0 : ∀ H2, Tabbed P H1 H2 → Pv 0 H2) (hl : ∀ i H, Pv i H → H d = some (.frz o (.dK kvs)))
    (step : ∀ i x H, (kvs.map fun q => kV q.1)[i]? = some x → Pv i H → g x (wipe σ vs) H fun σ2 H2 => wipe σ2 vs = wipe σ vs ∧ te σ2 H2 fun y H4 => ∃ b, y = .bl b ∧ if b = sb then Q (.bl sb) H4 else Pv (i + 1) H4)
    (fin : ∀ H, Pv kvs.length H → Q (.bl (!sb)) H) : rTruth P sb g te vs σ Q (Itk d o kvs) H1 := by
  have el : (kvs.map fun q => kV q.1).length = kvs.length := List.length_map _
  refine truth_by (items := kvs.map fun q => kV q.1) Pv h0 (fun i H x H' hp hy => ?_) (fun i H hi hp => ?_) (fun H hp => ?_) step fun H hp => fin H (by rw [← el]; exact hp)
  · obtain ⟨e, k, v, hk, rfl⟩ := hy
    exact ⟨e, by rw [List.getElem?_map, hk]; rfl⟩
  · exact ⟨hl i H hp, by rw [← el]; exact hi⟩
  · exact ⟨hl _ H hp, by rw [el]; exact Nat.le_refl _⟩
theorem truth_vals {P : Addr} {H1 : Hp} {sb : Bool} {g : TG} {te : TE} {vs : List Nat} {σ : L2.St} {Q : VK} {d : Addr} {o : Obj} {kvs : List (Key × V)} (Pv : Nat → Hp → Prop) (h0 : ∀ H2, Tabbed P H1 H2 → Pv 0 H2) (hl : ∀ i H, Pv i H → H d = some (.frz o (.dK kvs)))
    (step : ∀ i x H, (kvs.map fun q => q.2)[i]? = some x → Pv i H → g x (wipe σ vs) H fun σ2 H2 => wipe σ2 vs = wipe σ vs ∧ te σ2 H2 fun y H4 => ∃ b, y = .bl b ∧ if b = sb then Q (.bl sb) H4 else Pv (i + 1) H4)
    (fin : ∀ H, Pv kvs.length H → Q (.bl (!sb)) H) : rTruth P sb g te vs σ Q (Itd d o kvs) H1 := by
  have el : (kvs.map fun q => q.2).length = kvs.length := List.length_map _
  refine truth_by (items := kvs.map fun q => q.2) Pv h0 (fun i H x H' hp hy => ?_) (fun i H hi hp => ?_) (fun H hp => ?_) step fun H hp => fin H (by rw [← el]; exact hp)
  · obtain ⟨e, k, hk⟩ := hy
    exact ⟨e, by rw [List.getElem?_map, hk]; rfl⟩
  · exact ⟨hl i H hp, by rw [← el]; exact hi⟩
  · exact ⟨hl _ H hp, by rw [el]; exact Nat.le_refl _⟩
theorem tab_lock {H : Hp} {p T : Addr} {u o : HO} (t : TabG H T) (e : H p = some u) (hu : ∀ ps, u ≠ .tbl ps) : TabG (upd H p o) T := (grow_at (ex := [p]) e hu (by simp)).tabs T t
theorem grow_unlock {H H' : Hp} {p : Addr} {u : HO} {od : Obj} (e : H p = some u) (hu : ∀ ps, u ≠ .tbl ps) (g : Grow [] (upd H p (.frz od u)) H') (h' : H' p = some (.frz od u)) : Grow [] H (upd H' p u) := by
  refine ⟨fun b o n eb t => ?_, fun b t => ?_⟩
  · by_cases hb : b = p
    · rw [hb, e] at eb
      rw [hb, upd_same]
      exact eb
    · rw [upd_ne hb]
      exact g.keep b o n (by rw [upd_ne hb]; exact eb) t
  · exact (grow_at (ex := [p]) h' (fun ps z => by cases z) (by simp)).tabs b (g.tabs b (tab_lock t e hu))

/-! ### given books in the heap -/
def kvB (bs : List (Addr × (Str × List Str))) : List (Key × V) := bs.map fun p => (Sum.inr p.2.1, V.ref p.1)
def LsAt (H : Hp) (bs : List (Addr × (Str × List Str))) : Prop := ∀ p ∈ bs, H p.1 = some (.lst (p.2.2.map V.str))
theorem LsAt.grow {ex : List Addr} {H H' : Hp} {bs : List (Addr × (Str × List Str))} (h : LsAt H bs) (g : Grow ex H H') (n : ∀ p ∈ bs, p.1 ∉ ex) : LsAt H' bs := fun p hp => g.lst (n p hp) (h p hp)
theorem LsAt.grow0 {H H' : Hp} {bs : List (Addr × (Str × List Str))} (h : LsAt H bs) (g : Grow [] H H') : LsAt H' bs := h.grow g fun _ _ => by simp
theorem Grow.dK {H H' : Hp} {ex : List Addr} (g : Grow ex H H') {p : Addr} {kvs : List (Key × V)} (n : p ∉ ex) (h : H p = some (.dK kvs)) : H' p = some (.dK kvs) := g.keep p _ n h fun ps z => by cases z
theorem kvB_len (bs : List (Addr × (Str × List Str))) : (kvB bs).length = bs.length := List.length_map _
theorem kvB_keys (bs : List (Addr × (Str × List Str))) : (kvB bs).map Prod.fst = (bs.map fun p => p.2.1).map Sum.inr := by
  unfold kvB
  rw [List.map_map, List.map_map]
  rfl
theorem kvB_val {bs : List (Addr × (Str × List Str))} (nd : (bs.map fun p => p.2.1).Nodup) {p : Addr × (Str × List Str)} (h : p ∈ bs) : valV (kvB bs) (.inr p.2.1) = some (.ref p.1) := by
  obtain ⟨j, hj⟩ := List.mem_iff_getElem?.mp h
  refine valV_some (j := j) ?_ (by unfold kvB; rw [List.getElem?_map, hj]; rfl)
  rw [kvB_keys]
  exact List.pairwise_map.mpr (nd.imp fun h e => h (Sum.inr.inj e))
structure Giv (bs : List (Addr × (Str × List Str))) (ws : List Str) : Prop where
  gd : GivD (bs.map Prod.snd) ws
  nm : ∀ p ∈ bs, isNm p.2.1 = true
  bk : Bk ws
  w20 : ws.length ≤ 20
  most : bs.length ≤ 12
def GivAt (H : Hp) (d : Addr) (bs : List (Addr × (Str × List Str))) : Prop := H d = some (.dK (kvB bs)) ∧ LsAt H bs
theorem GivAt.grow {ex : List Addr} {H H' : Hp} {d : Addr} {bs : List (Addr × (Str × List Str))} (h : GivAt H d bs) (g : Grow ex H H') (nd : d ∉ ex) (n : ∀ p ∈ bs, p.1 ∉ ex) : GivAt H' d bs := ⟨Grow.dK g nd h.1, h.2.grow g n⟩
theorem GivAt.grow0 {H H' : Hp} {d : Addr} {bs : List (Addr × (Str × List Str))} (h : GivAt H d bs) (g : Grow [] H H') : GivAt H' d bs := h.grow g (by simp) fun _ _ => by simp
theorem GivAt.lock {H : Hp} {d : Addr} {bs : List (Addr × (Str × List Str))} (h : GivAt H d bs) (o : HO) : LsAt (upd H d o) bs := fun p hp => by
  rw [upd_ne (fun e => by
    have := h.2 p hp
    rw [e, h.1] at this
    cases this)]
  exact h.2 p hp
theorem Giv.nd {bs : List (Addr × (Str × List Str))} {ws : List Str} (g : Giv bs ws) : (bs.map fun p => p.2.1).Nodup := by
  have := g.gd.nd
  rwa [List.map_map] at this
theorem Giv.pos {bs : List (Addr × (Str × List Str))} {ws : List Str} (g : Giv bs ws) : 0 < bs.length := by
  have := g.gd.pos
  rwa [List.length_map] at this
theorem Giv.pm {bs : List (Addr × (Str × List Str))} {ws : List Str} (g : Giv bs ws) {p : Addr × (Str × List Str)} (h : p ∈ bs) : p.2.2.Perm ws := g.gd.pm p.2 (List.mem_map.mpr ⟨p, h, rfl⟩)
theorem Giv.book {bs : List (Addr × (Str × List Str))} {ws : List Str} (g : Giv bs ws) {p : Addr × (Str × List Str)} (h : p ∈ bs) : Bk p.2.2 := g.bk.perm (g.pm h).symm
theorem Giv.bkOf {bs : List (Addr × (Str × List Str))} {ws : List Str} (g : Giv bs ws) {p : Addr × (Str × List Str)} (h : p ∈ bs) : Lw.bkOf (bs.map Prod.snd) p.2.1 = p.2.2 := bkOf_mem g.gd.nd (List.mem_map.mpr ⟨p, h, rfl⟩)
theorem sort_names {a b : List Str} (p : a.Perm b) : sortS a = sortS b := sort_same p fun _ _ => toks_str
/-- each name has its place -/
theorem Giv.at {bs : List (Addr × (Str × List Str))} {n : Str} (h : n ∈ namesOf (bs.map Prod.snd)) : ∃ p ∈ bs, p.2.1 = n := by
  obtain ⟨q, hq, rfl⟩ := List.mem_map.mp (GivD.names_perm.mem_iff.mp h)
  obtain ⟨p, hp, rfl⟩ := List.mem_map.mp hq
  exact ⟨p, hp, rfl⟩
theorem nm_short {z : Str} (h : isNm z = true) : z.length ≤ 8 := by
  unfold isNm at h
  rw [Bool.and_eq_true, Bool.and_eq_true, decide_eq_true_iff, decide_eq_true_iff] at h
  exact h.1.2
/-- sorted of a list of names -/
theorem sort_bk {K : PySem.W.Frag} {H : Hp} {l : Addr} {zs : List Str} {Q : VK} (e : SqL K H l (zs.map V.str)) (len : zs.length ≤ 1000000) (q : ∀ p, H p = none → Q (.ref p) (upd H p (.lst ((sortS zs).map V.str)))) : rSortG K V.str PyData.str [.ref l] H Q :=
  ⟨l, zs, rfl, e, fun b _ => ⟨.str b, by show 0 ≤ 60; decide⟩, alike_strs _, sortable_strs _, by unfold sizeLine; omega, q⟩

end Lw

namespace Lw
open PySem PySem.Spec PyProof.Rows L2 GxR Gx
section
variable {P : Program} {w : World} {K : PySem.W.Frag} {mg : Str → Option Value} {base : Heap}
/-! ### are_given -/
def spAreG (K : PySem.W.Frag) (T1 T2 T : Addr) : Sp := fun vs H Q _ => ∃ (d : Addr) (bs : List (Addr × (Str × List Str))) (ws : List Str), vs = [.ref d] ∧ TabG H T1 ∧ TabG H T2 ∧ TabG H T ∧ GivAt H d bs ∧ Giv bs ws ∧ ∀ H', Grow [] H H' → Q (.bl true) H'
theorem ok_are_given {f c T1 T2 T : Addr} {fd : FuncData} (B : Nb mg) (D : DefIs K "are_given" "are_given" st_are_given f fd (.ref c)) (x_are_given : TabB base mg c T) {tk1 tk2 : Tok} (k_MOST_NAMES : mg "MOST_NAMES" = some (.int 12 tk1)) (k_MOST_WORDS : mg "MOST_WORDS" = some (.int 20 tk2))
    (c_is_name : Callee P w K mg base CX0 4 "is_name" ["thing"] (spIsName K T1)) (c_is_book : Callee P w K mg base CX0 9 "is_book" ["thing"] (spUnlike K T1 T2)) : FnG P w K mg base CX0 13 f fd ["thing"] (spAreG K T1 T2 T) := by
  refine D.ok0 (k := 12) sc_are_given (fun vs H Q E h => ?_) (fun A outer s H vs Q E g hr h => ?_)
  · obtain ⟨d, bs, ws, rfl, _⟩ := h
    rfl
  obtain ⟨d, bs, ws, rfl, t1, t2, tT, at0, gv, q⟩ := h
  refine ⟨_,
      (pss_cons (ps_if (PW.pt (pw_or (pt_cmpR (op_notTyB) (pe_callTy call_type1 rfl B.n_type (by decide +kernel) (pa_cons (pv 0) pa_nil)) (pe_bltn (v := .ty "dict") rfl B.n_dict (by decide +kernel) rfl) (nomark _)) (pw_or1 (pt_not (pt_chain (op_le) (op_le) pe_int (pe_callB call_lenD rfl B.n_len PySem.boot_len (pa_cons (pv 0) pa_nil)) (pe_glob (v := .int 12) rfl k_MOST_NAMES ⟨_, rfl⟩)))))) (
        (pss_one (ps_ret pe_bl))) pss_nil)
      (pss_cons (ps_if (pt_not (pt_val (pe_lock (pe_allG (own := [("name", 1)]) hr (gx_ok (N := N_are_given) (dsc := defScope st_are_given) x_are_given sc_are_given.nd (by decide +kernel) (by decide +kernel)) rfl B.n_all (by decide +kernel) (pi_keys (pv 0)) (fun _ _ _ _ _ => (pg_name (i := 1) sc_are_given.nd rfl (.inl rfl))) (fun _ _ _ _ _ => pe_to (pe_g c_is_name g ((room_gx hr).mono (by decide)) pass0 (pa_cons (pv 1) pa_nil))))))) (
        (pss_one (ps_ret pe_bl))) pss_nil)
      (pss_cons (ps_if (pt_not (pt_val (pe_lock (pe_allG (own := [("book", 2)]) hr (gx_ok (N := N_are_given) (dsc := defScope st_are_given) x_are_given sc_are_given.nd (by decide +kernel) (by decide +kernel)) rfl B.n_all (by decide +kernel) (pi_values (pv 0)) (fun _ _ _ _ _ => (pg_name (i := 2) sc_are_given.nd rfl (.inl rfl))) (fun _ _ _ _ _ => pe_to (pe_and (pe_g c_is_book g ((room_gx hr).mono (by decide)) pass0 (pa_cons (pv 2) pa_nil)) (pe_one (pe_cmpR (op_le) (pe_callB call_len_seq rfl B.n_len PySem.boot_len (pa_cons (pv 2) pa_nil)) (pe_glob (v := .int 20) rfl k_MOST_WORDS ⟨_, rfl⟩) (nomark _))))))))) (
        (pss_one (ps_ret pe_bl))) pss_nil)
      (pss_cons (ps_set (i := 3) sc_are_given.nd rfl (.inr rfl) (pe_callB (cr_sortG (val := V.str) (enc := PyData.str) hr.units) rfl B.n_sorted (by decide +kernel) (pa_cons (pe_dget (hu_of hr) (pv 0) (pe_callB (cr_minD rfl) rfl B.n_min (by decide +kernel) (pa_cons (pv 0) pa_nil)) (fun _ _ => rfl)) pa_nil)))
      (pss_one (ps_ret (pe_lock (pe_allG (own := [("book", 2)]) hr (gx_ok (N := N_are_given) (dsc := defScope st_are_given) x_are_given sc_are_given.nd (by decide +kernel) (by decide +kernel)) rfl B.n_all (by decide +kernel) (pi_values (pv 0)) (fun _ _ _ _ _ => (pg_name (i := 2) sc_are_given.nd rfl (.inl rfl))) (fun _ _ _ _ _ => pe_to (pe_cmpR (op_eqD (room_gx hr).units) (pe_callB (cr_sortG (val := V.str) (enc := PyData.str) (room_gx hr).units) rfl B.n_sorted (by decide +kernel) (pa_cons (pv 2) pa_nil)) (pv 3) (nomark _))))))))))), ?_⟩
  have eD := at0.1
  have eV : ∀ p ∈ bs, valV (kvB bs) (.inr p.2.1) = some (.ref p.1) := fun p hp => kvB_val gv.nd hp
  have eK := kvB_keys bs
  have eL : (kvB bs).length = bs.length := kvB_len bs
  obtain ⟨kvs, hkv⟩ : ∃ kvs, kvB bs = kvs := ⟨_, rfl⟩
  rw [hkv] at eD eV eK eL
  have nt : ∀ ps, HO.dK kvs ≠ .tbl ps := fun ps z => by cases z
  have n1 := gv.pos
  have n2 := gv.most
  refine ⟨.ref d, rfl, _, "dict", rfl, .dK eD, "dict", "dict", rfl, rfl, _, rfl, iteNS rfl ⟨.ref d, rfl, d, kvs, rfl, eD, 1, kvs.length, rfl, rfl, _, rfl, ?_⟩⟩
  rw [if_pos (decide_eq_true (by omega : (1 : Int) ≤ (kvs.length : Nat)))]
  refine ⟨kvs.length, 12, rfl, rfl, _, rfl, ?_⟩
  rw [decide_eq_true (by omega : ((kvs.length : Nat) : Int) ≤ 12)]
  refine iteF ?_
  refine ⟨d, .dK kvs, eD, trivial, fun od => ⟨.ref d, rfl, d, od, rfl, .inl ⟨kvs, upd_same, tab_lock tT eD nt, ?_⟩⟩⟩
  refine truth_keys (kvs := kvs) (fun i H' => Grow [] (upd H d (.frz od (.dK kvs))) H') (fun H2 t => grow_tab (tab_lock tT eD nt) t) (fun i H' hp => hp.keep d _ (by simp) upd_same fun ps z => by cases z) (fun i x H' hx hp => ?_) fun H' hp => ?_
  · rw [← hkv] at hx
    unfold kvB at hx
    rw [List.map_map, List.getElem?_map] at hx
    cases ek : bs[i]? with
    | none => rw [ek] at hx; cases hx
    | some z =>
      rw [ek] at hx
      cases hx
      have nz := gv.nm z (List.mem_of_getElem? ek)
      have lz := nm_short nz
      refine ⟨rfl, .str z.2.1, rfl, _, rfl, hp.tabs _ (tab_lock t1 eD nt), .inl ⟨z.2.1, rfl, by unfold sizeLine; omega, fun H3 g3 => ⟨_, rfl, ?_⟩⟩⟩
      rw [nz, if_neg (fun z => Bool.noConfusion z)]
      exact hp.trans g3
  · have eM3 := hp.keep d _ (by simp) upd_same fun ps z => by cases z
    have g3 := grow_unlock eD nt hp eM3
    refine ⟨eM3, true, rfl, iteF ?_⟩
    have eM4 : upd H' d (.dK kvs) d = some (.dK kvs) := upd_same
    generalize upd H' d (.dK kvs) = H3 at g3 eM4 ⊢
    have ls3 := at0.2.grow0 g3
    have lock4 : ∀ {T0 : Addr} (od : Obj), TabG H T0 → TabG (upd H3 d (.frz od (.dK kvs))) T0 := fun od t => tab_lock (g3.tabs _ t) eM4 nt
    have zd : ∀ z ∈ bs, z.1 ≠ d := fun z hz e => by
      have := ls3 z hz
      rw [e, eM4] at this
      cases this
    refine ⟨d, .dK kvs, eM4, trivial, fun od => ⟨.ref d, rfl, d, od, kvs, rfl, upd_same, lock4 od tT, ?_⟩⟩
    refine truth_vals (kvs := kvs) (fun i H' => Grow [] (upd H3 d (.frz od (.dK kvs))) H') (fun H2 t => grow_tab (lock4 od tT) t) (fun i H' hp => hp.keep d _ (by simp) upd_same fun ps z => by cases z) (fun i x H4 hx hp => ?_) fun H4 hp => ?_
    · rw [← hkv] at hx
      unfold kvB at hx
      rw [List.map_map, List.getElem?_map] at hx
      cases ek : bs[i]? with
      | none => rw [ek] at hx; cases hx
      | some z =>
        rw [ek] at hx
        cases hx
        have mem := List.mem_of_getElem? ek
        have bz := gv.book mem
        have lz := (gv.pm mem).length_eq
        have l20 := gv.w20
        have ez0 : upd H3 d (.frz od (.dK kvs)) z.1 = some (.lst (z.2.2.map V.str)) := by rw [upd_ne (zd z mem)]; exact ls3 z mem
        refine ⟨rfl, .ref z.1, rfl, .ref z.1, rfl, hp.tabs _ (lock4 od t1), hp.tabs _ (lock4 od t2), .inl ⟨z.1, _, rfl, .inl (.inl (hp.lst (by simp) ez0)), bz.known, by rw [List.length_map]; have := bz.len; omega, fun H5 g5 => ?_⟩⟩
        rw [bz.v]
        refine ⟨true, rfl, ?_⟩
        rw [if_pos rfl]
        have hp5 := hp.trans g5
        refine ⟨.ref z.1, rfl, z.1, _, rfl, .inl (.inl (.inl (hp5.lst (by simp) ez0))), _, _, rfl, rfl, true, ?_, ?_⟩
        · show V.bl (decide _) = _
          rw [List.length_map, decide_eq_true (by omega : ((z.2.2.length : Nat) : Int) ≤ 20)]
        · rw [if_neg (fun z => Bool.noConfusion z)]
          exact hp5
    · have eB5 := hp.keep d _ (by simp) upd_same fun ps z => by cases z
      have g5 := g3.trans (grow_unlock eM4 nt hp eB5)
      refine ⟨eB5, true, rfl, iteF ?_⟩
      have eM6 : upd H4 d (.dK kvs) d = some (.dK kvs) := upd_same
      generalize upd H4 d (.dK kvs) = H6 at g5 eM6 ⊢
      have ls6 := at0.2.grow0 g5
      refine ⟨.ref d, rfl, .ref d, rfl, d, kvs, bs.map fun p => p.2.1, rfl, .inl eM6, eK, by rw [List.length_map]; exact n1, fun k hk => ?_⟩
      obtain ⟨z, hz, rfl⟩ := List.mem_map.mp hk
      refine ⟨d, .ref z.1, rfl, by rw [← eV z hz]; exact DGet.k (k := .inr z.2.1) eM6, ?_⟩
      have lz := (gv.pm hz).length_eq
      have l20 := gv.w20
      refine ⟨z.1, z.2.2, rfl, .inl (.inl (ls6 z hz)), fun b _ => ⟨.str b, by show 0 ≤ 60; decide⟩, alike_strs _, sortable_strs _, by unfold sizeLine; omega, fun W nW => ?_⟩
      have es : z.2.2.mergeSort (PySem.W.dataLe false PyData.str) = sortS ws := sort_names (gv.pm hz)
      rw [es]
      have gW := g5.new (o := .lst ((sortS ws).map V.str)) nW
      have eW : upd H6 W (.lst ((sortS ws).map V.str)) W = some (.lst ((sortS ws).map V.str)) := upd_same
      have eD7 : upd H6 W (.lst ((sortS ws).map V.str)) d = some (.dK kvs) := by rw [upd_ne (ne_of_none eM6 nW)]; exact eM6
      have dW : d ≠ W := ne_of_none eM6 nW
      generalize upd H6 W (.lst ((sortS ws).map V.str)) = H7 at gW eW eD7 ⊢
      have ls7 := at0.2.grow0 gW
      refine ⟨d, .dK kvs, eD7, trivial, fun od => ⟨.ref d, rfl, d, od, kvs, rfl, upd_same, tab_lock (gW.tabs _ tT) eD7 nt, ?_⟩⟩
      refine truth_vals (kvs := kvs) (fun i H' => Grow [] (upd H7 d (.frz od (.dK kvs))) H') (fun H2 t => grow_tab (tab_lock (gW.tabs _ tT) eD7 nt) t) (fun i H' hp => hp.keep d _ (by simp) upd_same fun ps z => by cases z) (fun i x H8 hx hp => ?_) fun H8 hp => ?_
      · rw [← hkv] at hx
        unfold kvB at hx
        rw [List.map_map, List.getElem?_map] at hx
        cases ek : bs[i]? with
        | none => rw [ek] at hx; cases hx
        | some y =>
          rw [ek] at hx
          cases hx
          have mem := List.mem_of_getElem? ek
          have ly := (gv.pm mem).length_eq
          have ey0 : upd H7 d (.frz od (.dK kvs)) y.1 = some (.lst (y.2.2.map V.str)) := by rw [upd_ne (zd y mem)]; exact ls7 y mem
          have eW0 : upd H7 d (.frz od (.dK kvs)) W = some (.lst ((sortS ws).map V.str)) := by rw [upd_ne (Ne.symm dW)]; exact eW
          refine ⟨rfl, .ref y.1, rfl, ?_⟩
          refine ⟨y.1, y.2.2, rfl, .inl (.inl (hp.lst (by simp) ey0)), fun b _ => ⟨.str b, by show 0 ≤ 60; decide⟩, alike_strs _, sortable_strs _, by unfold sizeLine; omega, fun Y nY => ?_⟩
          have ey : y.2.2.mergeSort (PySem.W.dataLe false PyData.str) = sortS ws := sort_names (gv.pm mem)
          rw [ey]
          have f := fine_names (all_perm gv.bk.nm (sortS_perm ws)) (by rw [(sortS_perm ws).length_eq]; omega)
          refine ⟨.ref W, rfl, .list ((sortS ws).map PyData.str), .list ((sortS ws).map PyData.str), dp_book (.inl (.inl upd_same)), dp_book (.inl (.inl (hp.new nY |>.lst (by simp) eW0))), f.shaped (by decide), f.shaped (by decide), true, by rw [f.eqv], ?_⟩
          rw [if_neg (fun z => Bool.noConfusion z)]
          exact hp.new nY
      · have eB8 := hp.keep d _ (by simp) upd_same fun ps z => by cases z
        exact ⟨eB8, q _ (gW.trans (grow_unlock eD7 nt hp eB8))⟩
end

section
variable {P : Program} {w : World} {K : PySem.W.Frag} {mg : Str → Option Value} {base : Heap}
/-! ### check_given -/
def spCheckG (K : PySem.W.Frag) (T1 T2 T : Addr) : Sp := fun vs H Q _ => ∃ (d : Addr) (bs : List (Addr × (Str × List Str))) (ws : List Str), vs = [.ref d] ∧ TabG H T1 ∧ TabG H T2 ∧ TabG H T ∧ GivAt H d bs ∧ Giv bs ws ∧ ∀ H', Grow [] H H' → Q .non H'
theorem ok_check_given {f c T1 T2 T : Addr} {fd : FuncData} (B : Nb mg) (D : DefIs K "check_given" "check_given" st_check_given f fd (.ref c))
    (c_are_given : Callee P w K mg base CX0 13 "are_given" ["thing"] (spAreG K T1 T2 T)) : FnG P w K mg base CX0 14 f fd ["thing"] (spCheckG K T1 T2 T) := by
  refine D.ok0 (k := 13) sc_check_given (fun vs H Q E h => ?_) (fun A outer s H vs Q E g hr h => ?_)
  · obtain ⟨d, bs, ws, rfl, _⟩ := h
    rfl
  obtain ⟨d, bs, ws, rfl, t1, t2, tT, at0, gv, q⟩ := h
  refine ⟨_,
      (pss_one (ps_if (pt_not (pt_val (pe_g c_are_given g (hr.mono (by decide)) pass0 (pa_cons (pv 0) pa_nil)))) (
        (pss_one ps_dead)) pss_nil)), ?_⟩
  exact ⟨.ref d, rfl, d, bs, ws, rfl, t1, t2, tT, at0, gv, fun H' g' => ⟨true, rfl, iteF (q H' g')⟩⟩
end

end Lw

namespace Lw
open PySem PySem.Spec PyProof.Rows L2 GxR Gx
section
variable {P : Program} {w : World} {K : PySem.W.Frag} {mg : Str → Option Value} {base : Heap}
/-! ### pairs_by_others -/
def PairsAt (F : Addr → Prop) (K : PySem.W.Frag) (H : Hp) (d : Addr) (O : Str × Str → List Str) (ps : List (Str × Str)) : Prop := ∃ kvs : List (List Key × V), H d = some (.dT kvs) ∧ kvs.map Prod.fst = (okeys (ps.map O)).map (fun o => o.map Sum.inr) ∧
  ∀ o ∈ okeys (ps.map O), ∃ a, valV kvs (o.map Sum.inr) = some (.ref a) ∧ LstT K H a ((ps.filter fun p => decide (O p = o)).map encP) ∧ F a
theorem PairsAt.grow {F : Addr → Prop} {K : PySem.W.Frag} {H H' : Hp} {d : Addr} {O : Str × Str → List Str} {ps : List (Str × Str)} (h : PairsAt F K H d O ps) (g : Grow [] H H') : PairsAt F K H' d O ps := by
  obtain ⟨kvs, e, k, h⟩ := h
  refine ⟨kvs, g.keep d _ (by simp) e (fun ps z => by cases z), k, fun o ho => ?_⟩
  obtain ⟨a, e1, e2, e3⟩ := h o ho
  exact ⟨a, e1, e2.grow g (lists_none _) (by simp), e3⟩
theorem putK_old {κ : Type} [DecidableEq κ] {kvs : List (κ × V)} {k : κ} {v x : V} (h : valV kvs k = some x) : (putK kvs k v).map Prod.fst = kvs.map Prod.fst := by
  unfold putK
  rw [valV_any, h]
  show (kvs.map fun kv => if kv.1 = k then (kv.1, v) else kv).map Prod.fst = _
  rw [List.map_map]
  refine List.map_congr_left fun q _ => ?_
  show (if q.1 = k then (q.1, v) else q).1 = q.1
  split <;> rfl
theorem inr_inj {as bs : List Str} (h : as.map (Sum.inr : Str → Key) = bs.map Sum.inr) : as = bs := by
  have := congrArg (List.map fun k : Key => match k with | .inr x => x | .inl _ => Str.empty) h
  simpa [List.map_map, Function.comp_def] using this
theorem okeys_snoc (os : List (List Str)) (o : List Str) : okeys (os ++ [o]) = addK (okeys os) o := by
  unfold okeys
  rw [List.foldl_append]
  rfl
theorem PairsAt.skip {F : Addr → Prop} {K : PySem.W.Frag} {H : Hp} {d : Addr} {O : Str × Str → List Str} {qs : List (Str × Str)} {p : Str × Str} (h : PairsAt F K H d O qs) (ne : O p = []) : PairsAt F K H d O (qs ++ [p]) := by
  obtain ⟨kvs, e, k, h⟩ := h
  have ek : okeys ((qs ++ [p]).map O) = okeys (qs.map O) := by
    rw [List.map_append, List.map_singleton, okeys_snoc, addK, if_pos (.inl ne)]
  refine ⟨kvs, e, by rw [ek]; exact k, fun o ho => ?_⟩
  rw [ek] at ho
  obtain ⟨a, e1, e2, e3⟩ := h o ho
  refine ⟨a, e1, ?_, e3⟩
  rw [List.filter_append, List.filter_cons_of_neg (by
    simp only [decide_eq_true_eq]
    intro z
    exact (mem_okeys.mp ho).2 (z.symm.trans ne)), List.filter_nil, List.append_nil]
  exact e2
theorem PairsAt.put {F : Addr → Prop} {K : PySem.W.Frag} {H H' : Hp} {d L : Addr} {O : Str × Str → List Str} {qs : List (Str × Str)} {p : Str × Str} {kvs : List (List Key × V)} (e : H d = some (.dT kvs)) (k : kvs.map Prod.fst = (okeys (qs.map O)).map (fun o => o.map Sum.inr))
    (h : ∀ o ∈ okeys (qs.map O), ∃ a, valV kvs (o.map Sum.inr) = some (.ref a) ∧ LstT K H a ((qs.filter fun q => decide (O q = o)).map encP) ∧ F a) (fL : F L) (g : Grow [] H H') (ne : O p ≠ []) (l : LstT K H' L (((qs.filter fun q => decide (O q = O p)) ++ [p]).map encP)) :
    PairsAt F K (upd H' d (.dT (putK kvs ((O p).map Sum.inr) (.ref L)))) d O (qs ++ [p]) := by
  have e' : H' d = some (.dT kvs) := g.keep d _ (by simp) e fun ps z => by cases z
  have noL : ∀ {a ds}, LstT K H' a ds → a ≠ d := fun l z => by
    obtain ⟨xs, q, _⟩ := l
    rw [z, e'] at q
    cases q
  have gd : Grow [d] H' (upd H' d (.dT (putK kvs ((O p).map Sum.inr) (.ref L)))) := grow_at e' (fun ps z => by cases z) (by simp)
  have ld : Lists [d] H' := fun b hb xs z => by
    rw [List.mem_singleton.mp hb, e'] at z
    cases z
  have up : ∀ {a ds}, LstT K H' a ds → LstT K (upd H' d (.dT (putK kvs ((O p).map Sum.inr) (.ref L)))) a ds := fun l => l.grow gd ld (by simp; exact noL l)
  have ek : okeys ((qs ++ [p]).map O) = addK (okeys (qs.map O)) (O p) := by rw [List.map_append, List.map_singleton, okeys_snoc]
  refine ⟨_, upd_same, ?_, fun o ho => ?_⟩
  · rw [ek]
    unfold addK
    by_cases c : O p ∈ okeys (qs.map O)
    · obtain ⟨a, e1, _⟩ := h _ c
      rw [if_pos (.inr c), putK_old e1]
      exact k
    · rw [if_neg (fun z => z.elim ne c), putK_new, List.map_append, k, List.map_append]
      · rfl
      · refine valV_none ?_
        rw [k]
        intro z
        obtain ⟨o, ho, e2⟩ := List.mem_map.mp z
        exact c (inr_inj e2 ▸ ho)
  · rw [valV_put]
    by_cases c : o = O p
    · rw [c, if_pos rfl]
      refine ⟨L, rfl, ?_, fL⟩
      rw [List.filter_append, List.filter_cons_of_pos (by simp), List.filter_nil]
      exact up l
    · rw [if_neg (fun z => c (inr_inj z))]
      rw [ek] at ho
      have ho2 : o ∈ okeys (qs.map O) := by
        unfold addK at ho
        split at ho
        · exact ho
        · exact (List.mem_append.mp ho).resolve_right fun z => c (List.mem_singleton.mp z)
      obtain ⟨a, e1, e2, e3⟩ := h o ho2
      refine ⟨a, e1, ?_, e3⟩
      rw [List.filter_append, List.filter_cons_of_neg (by simpa using fun z : O p = o => c z.symm), List.filter_nil, List.append_nil]
      exact up (e2.grow g (lists_none _) (by simp))
theorem kV_map (o : List Str) : (o.map (Sum.inr : Str → Key)).map kV = o.map V.str := by
  rw [List.map_map]
  rfl
def spPairsBy (K : PySem.W.Frag) : Sp := fun vs H Q _ => ∃ (d : Addr) (bs : List (Addr × (Str × List Str))) (ws : List Str), vs = [.ref d] ∧ GivAt H d bs ∧ Giv bs ws ∧
  ∀ D H', Fresh H D → Grow [] H H' → PairsAt (Fresh H) K H' D (othersOf (bkOf (bs.map Prod.snd)) (namesOf (bs.map Prod.snd))) (combos (firstOf (bs.map Prod.snd))) → Q (.ref D) H'
theorem combos_map {α β : Type} (f : α → β) : ∀ l : List α, combos (l.map f) = (combos l).map fun p => (f p.1, f p.2)
  | [] => rfl
  | x :: l => by
    rw [List.map_cons, combos, combos, List.map_append, combos_map f l, List.map_map, List.map_map]
    rfl
theorem combos_len {α : Type} : ∀ l : List α, (combos l).length ≤ l.length * l.length
  | [] => Nat.le_refl _
  | x :: l => by
    have ih := combos_len l
    rw [combos, List.length_append, List.length_map, List.length_cons, Nat.succ_mul, Nat.mul_succ]
    omega
/-- of each name where each word stands -/
def PlAt (H : Hp) (Pl : Addr) (B : Str → List Str) (ns : List Str) : Prop := ∃ kvs, H Pl = some (.dK kvs) ∧ kvs.length ≤ ns.length ∧ ∀ n ∈ ns, ∃ a kv2, valV kvs (.inr n) = some (.ref a) ∧ H a = some (.dK kv2) ∧ ∀ z ∈ B n, valV kv2 (.inr z) = some (.int ((B n).idxOf z : Nat))
theorem PlAt.grow {H H' : Hp} {Pl : Addr} {B : Str → List Str} {ns : List Str} (h : PlAt H Pl B ns) (g : Grow [] H H') : PlAt H' Pl B ns := by
  obtain ⟨kvs, e, l, h⟩ := h
  refine ⟨kvs, Grow.dK g (by simp) e, l, fun n hn => ?_⟩
  obtain ⟨a, kv2, e1, e2, e3⟩ := h n hn
  exact ⟨a, kv2, e1, Grow.dK g (by simp) e2, e3⟩
theorem ok_pairs_by_others {f c : Addr} {fd : FuncData} (B : Nb mg) (D : DefIs K "pairs_by_others" "pairs_by_others" st_pairs_by_others f fd (.ref c)) (m_combinations : mg "combinations" = some (.type "itertools.combinations"))
    (c_places_of : Callee P w K mg base CX0 4 "places_of" ["book"] (spPlaces K)) : FnG P w K mg base CX0 5 f fd ["books"] (spPairsBy K) := by
  refine D.ok0 (k := 4) sc_pairs_by_others (fun vs H Q E h => ?_) (fun A outer s H vs Q E g hr h => ?_)
  · obtain ⟨d, bs, ws, rfl, _⟩ := h
    rfl
  obtain ⟨d, bs, ws, rfl, at0, gv, q⟩ := h
  refine ⟨_,
      (pss_cons (ps_set (i := 1) sc_pairs_by_others.nd rfl (.inl rfl) (pe_callB (cr_sortD rfl hr.units) rfl B.n_sorted (by decide +kernel) (pa_cons (pv 0) pa_nil)))
      (pss_cons (ps_set (i := 2) sc_pairs_by_others.nd rfl (.inr rfl) (pe_dc (own := [("name", 3)]) (g := (gName 3)) (tt := tYes) rfl sc_pairs_by_others.nd (pi_list (pv 1)) (blkOk_by (N := N_pairs_by_others) (sc := defScope st_pairs_by_others) (by decide +kernel)) (fun _ _ _ _ _ => (pg_name (i := 3) sc_pairs_by_others.nd rfl (.inl rfl))) (fun _ _ _ _ _ => pts_nil) (fun _ _ _ _ _ => pe_to (pv 3)) (fun _ _ _ _ _ => pe_to (pe_g c_places_of g (hr.mono (by decide)) pass0 (pa_cons (pe_dget (hu_of hr) (pv 0) (pv 3) (fun _ _ => rfl)) pa_nil)))))
      (pss_cons (ps_set (i := 4) sc_pairs_by_others.nd rfl (.inl rfl) pe_dnewT)
      (pss_cons (ps_for PassesOwn.never rfl (pi_comb rfl m_combinations (pa_cons (pe_dget (hu_of hr) (pv 0) (pe_ix ix_list (pv 1) pe_int (fun _ _ => rfl)) (fun _ _ => rfl)) (pa_cons pe_int pa_nil))) (pg_tup rfl (pgs_cons (pg_name (i := 5) sc_pairs_by_others.nd rfl (.inr rfl)) (pgs_cons (pg_name (i := 6) sc_pairs_by_others.nd rfl (.inr rfl)) pgs_nil))) (
        (pss_cons (ps_set (i := 7) sc_pairs_by_others.nd rfl (.inl rfl) (pe_callTy call_tuple_of rfl B.n_tuple (by decide +kernel) (pa_cons (pe_lc (own := [("name", 3)]) (g := (gName 3)) rfl sc_pairs_by_others.nd (pi_list (pv 1)) (blkOk_by (N := N_pairs_by_others) (sc := defScope st_pairs_by_others) (by decide +kernel)) (fun _ _ _ _ _ => (pg_name (i := 3) sc_pairs_by_others.nd rfl (.inl rfl))) (fun _ _ _ _ _ => pts_to (pts_one (pt_cmpR (op_gt) (pe_dget (hu_of hr) (pe_dget (hu_of hr) (pv 2) (pv 3) (fun _ _ => rfl)) (pv 5) (fun _ _ => rfl)) (pe_dget (hu_of hr) (pe_dget (hu_of hr) (pv 2) (pv 3) (fun _ _ => rfl)) (pv 6) (fun _ _ => rfl)) (nomark _)))) (fun _ _ _ _ _ => pe_to (pv 3))) pa_nil)))
        (pss_one (ps_if (pt_truth (pv 7) (fun _ => rfl)) (
          (pss_one (ps_asg (pe_op op_cat (pe_dget2 (hu_of hr) (pv 4) (pv 7) (pe_lst pa_nil) ⟨rfl, rfl, rfl, rfl⟩) (pe_lst (pa_cons (pe_tup (pa_cons (pv 5) (pa_cons (pv 6) pa_nil))) pa_nil))) (pg_sub (pv 4) (pv 7) (set_dict (hu_of hr)))))) pss_nil)))))
      (pss_one (ps_ret (pv 4))))))), ?_⟩
  have gn : (bs.map Prod.snd).map Prod.fst = bs.map fun p => p.2.1 := by rw [List.map_map]; rfl
  have ns12 : (namesOf (bs.map Prod.snd)).length = bs.length := by rw [(GivD.names_perm (gs := bs.map Prod.snd)).length_eq, List.length_map, List.length_map]
  have n1 := gv.pos
  have n2 := gv.most
  have l20 := gv.w20
  refine ⟨.ref d, rfl, d, kvB bs, bs.map fun p => p.2.1, rfl, .inl at0.1, kvB_keys bs, by rw [List.length_map]; unfold sizeLine; omega, fun S nS => ?_⟩
  have es : (bs.map fun p => p.2.1).mergeSort (PySem.W.dataLe false PyData.str) = namesOf (bs.map Prod.snd) := by unfold namesOf; rw [gn]; rfl
  rw [es]
  obtain ⟨ns, ens⟩ : ∃ ns, namesOf (bs.map Prod.snd) = ns := ⟨_, rfl⟩
  obtain ⟨Bk', eBk⟩ : ∃ Bf, bkOf (bs.map Prod.snd) = Bf := ⟨_, rfl⟩
  have at_ : ∀ n ∈ ns, ∃ p ∈ bs, p.2.1 = n ∧ p.2.2 = Bk' n := fun n hn => by
    obtain ⟨p, hp, e⟩ := Giv.at (bs := bs) (by rw [ens]; exact hn)
    exact ⟨p, hp, e, by rw [← eBk, ← e]; exact (gv.bkOf hp).symm⟩
  rw [ens] at ns12 q ⊢
  rw [eBk] at q
  have gS : Grow [] H (upd H S (.lst (ns.map V.str))) := grow_new nS
  have eS : upd H S (.lst (ns.map V.str)) S = some (.lst (ns.map V.str)) := upd_same
  generalize upd H S (.lst (ns.map V.str)) = H1 at gS eS ⊢
  refine ⟨.ref S, rfl, S, rfl, ⟨_, .inl (.inl eS)⟩, fun Pl nP => ?_⟩
  refine dc_it (walk_list (xs := ns.map V.str)) (fun i H' => Grow [] H1 H' ∧ ∃ kvs, H' Pl = some (.dK kvs) ∧ kvs.length ≤ i ∧ ∀ n ∈ ns.take i, ∃ a kv2, valV kvs (.inr n) = some (.ref a) ∧ H' a = some (.dK kv2) ∧ a ≠ Pl ∧ ∀ z ∈ Bk' n, valV kv2 (.inr z) = some (.int ((Bk' n).idxOf z : Nat))) ?_ (fun i H' _ h => .inl (.inl (h.1.lst (by simp) eS))) (fun i x H2 H3 hi hp hy => ?_) (fun H2 hp => ?_)
  · exact ⟨grow_new nP, [], upd_same, Nat.le_refl _, fun n hn => by cases hn⟩
  · obtain ⟨gr, kvs, e, el, hk⟩ := hp
    obtain ⟨rfl, ex⟩ := hy
    rw [List.getElem?_map] at ex
    cases en : ns[i]? with
    | none => rw [en] at ex; cases ex
    | some n =>
      rw [en] at ex
      cases ex
      obtain ⟨p, hp, e1, e2⟩ := at_ n (List.mem_of_getElem? en)
      have bz := gv.book hp
      have g2 := gS.trans gr
      rw [List.length_map] at hi
      have ev : valV (kvB bs) (.inr n) = some (.ref p.1) := by rw [← e1]; exact kvB_val gv.nd hp
      refine ⟨rfl, yes_if ⟨.str n, rfl, .ref d, rfl, .str n, rfl, d, .ref p.1, rfl, by rw [← ev]; exact DGet.k (k := .inr n) (Grow.dK g2 (by simp) at0.1), p.1, p.2.2, rfl, .inl (.inl (g2.lst (by simp) (at0.2 p hp))), bz.nd, bz.len, fun Dp H4 kv2 fr g4 e4 hv _ => ?_⟩⟩
      have e' : H4 Pl = some (.dK kvs) := Grow.dK g4 (by simp) e
      have ne : Pl ≠ Dp := fr.ne e fun ps z => by cases z
      refine ⟨kvs, .inr n, rfl, e', by unfold sizeLine; omega, (gr.trans g4).put (fresh_none nP) e' (fun ps z => by cases z), _, upd_same, ?_, fun m hm => ?_⟩
      · have := put_len kvs (.inr n) (.ref Dp)
        omega
      · rw [valV_put]
        by_cases c : m = n
        · subst c
          rw [if_pos rfl]
          exact ⟨Dp, kv2, rfl, by rw [upd_ne ne.symm]; exact e4, ne.symm, fun z hz => by rw [← e2] at hz ⊢; exact hv z hz⟩
        · rw [if_neg (fun z => c (Sum.inr.inj z))]
          rw [List.take_add_one, en] at hm
          rcases List.mem_append.mp hm with hm | hm
          · obtain ⟨a, kv3, q1, q2, q3, q4⟩ := hk m hm
            exact ⟨a, kv3, q1, by rw [upd_ne q3]; exact Grow.dK g4 (by simp) q2, q3, q4⟩
          · exact absurd (List.mem_singleton.mp hm) c
  · obtain ⟨gr, kvs, e, el, hk⟩ := hp
    rw [List.length_map] at el hk
    rw [List.take_length] at hk
    have pl2 : PlAt H2 Pl Bk' ns := ⟨kvs, e, el, fun n hn => by
      obtain ⟨a, kv2, q1, q2, _, q4⟩ := hk n hn
      exact ⟨a, kv2, q1, q2, q4⟩⟩
    have g2 := gS.trans gr
    have eS2 := gr.lst (by simp) eS
    clear hk e el
    obtain ⟨n0, r0, h0, hd0, m0⟩ := gv.gd.head
    rw [ens] at h0 m0
    obtain ⟨p0, hp0, e01, e02⟩ := at_ n0 m0
    have f0 : firstOf (bs.map Prod.snd) = p0.2.2 := by unfold firstOf; rw [hd0, eBk, e02]
    rw [f0] at q
    have b0 := gv.book hp0
    have len0 : p0.2.2.length ≤ 20 := by rw [(gv.pm hp0).length_eq]; exact l20
    refine fun D0 nD => ?_
    have ev0 : valV (kvB bs) (.inr n0) = some (.ref p0.1) := by rw [← e01]; exact kvB_val gv.nd hp0
    have g3 : Grow [] H2 (upd H2 D0 (.dT [])) := grow_new nD
    have eD3 : upd H2 D0 (.dT []) D0 = some (.dT []) := upd_same
    generalize upd H2 D0 (.dT []) = H3 at g3 eD3 ⊢
    refine ⟨.ref d, rfl, .ref S, rfl, S, _, 0, .str n0, rfl, rfl, .inl (.inl (g3.lst (by simp) eS2)), atI_nat (j := 0) (by rw [h0]; rfl), d, .ref p0.1, rfl, by rw [← ev0]; exact DGet.k (k := .inr n0) (Grow.dK (g2.trans g3) (by simp) at0.1), p0.1, _, rfl, .inl (.inl ((g2.trans g3).lst (by simp) (at0.2 p0 hp0))), ?_⟩
    rw [combos_map]
    obtain ⟨ps, eps⟩ : ∃ ps, combos p0.2.2 = ps := ⟨_, rfl⟩
    rw [eps] at q ⊢
    obtain ⟨O, eO⟩ : ∃ O, othersOf Bk' ns = O := ⟨_, rfl⟩
    rw [eO] at q
    have psl : ∀ {i : Nat} {p : Str × Str}, ps[i]? = some p → p.1 ∈ p0.2.2 ∧ p.2 ∈ p0.2.2 := fun {i p} h => by
      have := List.mem_of_getElem? h
      rw [← eps] at this
      have h2 := (mem_combos b0.nd).mp (show (p.1, p.2) ∈ combos p0.2.2 from this)
      exact ⟨h2.1, h2.2.1⟩
    have pl3 := pl2.grow g3
    have eS3 := g3.lst (by simp) eS2
    have lps : ps.length ≤ 400 := by
      have h1 := combos_len p0.2.2
      have h2 := Nat.mul_le_mul len0 len0
      rw [eps] at h1
      omega
    refine for_it walk_comb (fun i σ H' => ∃ a b c : Option V, σ = [some (.ref d), some (.ref S), some (.ref Pl), none, some (.ref D0), a, b, c] ∧ Grow [] H2 H' ∧ PairsAt (Fresh H) K H' D0 O (ps.take i)) ⟨none, none, none, rfl, g3, [], eD3, rfl, fun o ho => by cases ho⟩ (fun _ _ _ _ _ => trivial) (fun i x σ H4 H5 hi hp hy => ?_) (fun σ H4 hp => ?_)
    · obtain ⟨a0, b0', c0, rfl, g4, hD⟩ := hp
      obtain ⟨T, x1, x2, rfl, nT, rfl, ei, ex⟩ := hy
      dsimp only at ei ex
      rw [List.getElem?_map] at ei ex
      cases ez : ps[i]? with
      | none => rw [ez] at ei; cases ei
      | some p =>
        rw [ez] at ei ex
        cases ei
        cases ex
        have gT := g4.new (o := .tup [V.str p.1, V.str p.2]) nT
        have eT : upd H4 T (.tup [V.str p.1, V.str p.2]) T = some (.tup [V.str p.1, V.str p.2]) := upd_same
        have hD5 : PairsAt (Fresh H) K (upd H4 T (.tup [V.str p.1, V.str p.2])) D0 O (ps.take i) := hD.grow (grow_new nT)
        refine ⟨T, _, rfl, .inl (.inl upd_same), rfl, _, _, rfl, _, _, rfl, rfl, ?_⟩
        generalize upd H4 T (.tup [V.str p.1, V.str p.2]) = H5 at gT eT hD5 ⊢
        clear g4 hD nT
        have eS5 := gT.lst (by simp) eS2
        have pl5 := pl2.grow gT
        obtain ⟨w1, w2⟩ := psl ez
        have wB : ∀ n ∈ ns, p.1 ∈ Bk' n ∧ p.2 ∈ Bk' n := fun n hn => by
          obtain ⟨z, hz, _, e2⟩ := at_ n hn
          have pm := (gv.pm hp0).trans (gv.pm hz).symm
          rw [← e2]
          exact ⟨pm.mem_iff.mp w1, pm.mem_iff.mp w2⟩
        refine ⟨.ref S, rfl, S, rfl, ⟨_, .inl (.inl eS5)⟩, fun L nL => ?_⟩
        refine lc_it (walk_list (xs := ns.map V.str)) (fun j H' => Grow [] H5 H' ∧ H' L = some (.lst (((ns.take j).filter fun n => decide ((Bk' n).idxOf p.2 < (Bk' n).idxOf p.1)).map V.str))) ⟨grow_new nL, upd_same⟩ (fun j H' _ h => .inl (.inl (h.1.lst (by simp) eS5))) (fun j x Ha Hb hj hq hy => ?_) (fun H6 hq => ?_)
        · obtain ⟨ga, ea⟩ := hq
          obtain ⟨rfl, ex⟩ := hy
          rw [List.getElem?_map] at ex
          cases en : ns[j]? with
          | none => rw [en] at ex; cases ex
          | some n =>
            rw [en] at ex
            cases ex
            obtain ⟨kv, q1, q2, q3⟩ := pl5.grow ga
            obtain ⟨an, kv2, q4, q5, q6⟩ := q3 n (List.mem_of_getElem? en)
            obtain ⟨m1, m2⟩ := wB n (List.mem_of_getElem? en)
            have d1 : DGet Hb Pl (.str n) (some (.ref an)) := by rw [← q4]; exact DGet.k (k := .inr n) q1
            have d2 : DGet Hb an (.str p.1) (some (.int ((Bk' n).idxOf p.1 : Nat))) := by rw [← q6 _ m1]; exact DGet.k (k := .inr p.1) q5
            have d3 : DGet Hb an (.str p.2) (some (.int ((Bk' n).idxOf p.2 : Nat))) := by rw [← q6 _ m2]; exact DGet.k (k := .inr p.2) q5
            refine ⟨rfl, .ref Pl, rfl, .str n, rfl, Pl, .ref an, rfl, d1, .str p.1, rfl, an, _, rfl, d2, .ref Pl, rfl, .str n, rfl, Pl, .ref an, rfl, d1, .str p.2, rfl, an, _, rfl, d3, _, _, rfl, rfl, _, rfl, ?_⟩
            have keep : ∀ b : Bool, decide ((Bk' n).idxOf p.2 < (Bk' n).idxOf p.1) = b → (ns.take (j + 1)).filter (fun n => decide ((Bk' n).idxOf p.2 < (Bk' n).idxOf p.1)) = (ns.take j).filter (fun n => decide ((Bk' n).idxOf p.2 < (Bk' n).idxOf p.1)) ++ (if b = true then [n] else []) := fun b hb => by
              rw [List.take_add_one, en, List.filter_append]
              congr 1
              show List.filter _ [n] = _
              rw [List.filter_cons, hb]
              rfl
            by_cases c : (Bk' n).idxOf p.2 < (Bk' n).idxOf p.1
            · rw [decide_eq_true (by omega : (((Bk' n).idxOf p.2 : Nat) : Int) < ((Bk' n).idxOf p.1 : Nat))]
              show if true = true then _ else _
              rw [if_pos rfl]
              refine ⟨.str n, rfl, _, ea, ?_, ga.put (fresh_none nL) ea (fun ps z => by cases z), ?_⟩
              · have := List.length_filter_le (fun n => decide ((Bk' n).idxOf p.2 < (Bk' n).idxOf p.1)) (ns.take j)
                have h2 := List.length_take_le' j ns
                rw [List.length_map]
                unfold sizeLine
                omega
              · rw [upd_same, keep true (decide_eq_true c), if_pos rfl, List.map_append]
                rfl
            · rw [decide_eq_false (by omega : ¬ (((Bk' n).idxOf p.2 : Nat) : Int) < ((Bk' n).idxOf p.1 : Nat))]
              show if false = true then _ else _
              rw [if_neg (fun z => Bool.noConfusion z)]
              refine ⟨ga, ?_⟩
              rw [keep false (decide_eq_false c), if_neg (fun z => Bool.noConfusion z), List.append_nil]
              exact ea
        · obtain ⟨g6, eL⟩ := hq
          rw [List.length_map, List.take_length] at eL
          replace eL : H6 L = some (.lst ((O p).map V.str)) := by rw [← eO]; exact eL
          have hD6 := hD5.grow g6
          have g26 := gT.trans g6
          clear hD5 gT g6 eT
          refine ⟨L, _, rfl, .inl ⟨.inl (.inl eL), fun Tu nTu => ?_⟩⟩
          have gu := g26.new (o := .tup ((O p).map V.str)) nTu
          have eTu : upd H6 Tu (.tup ((O p).map V.str)) Tu = some (.tup ((O p).map V.str)) := upd_same
          have hD7 := hD6.grow (grow_new (o := .tup ((O p).map V.str)) nTu)
          generalize upd H6 Tu (.tup ((O p).map V.str)) = H7 at gu eTu hD7 ⊢
          refine ⟨.ref Tu, rfl, !((O p).map V.str).isEmpty, .inr (.inl ⟨_, .inl (.inl eTu), rfl⟩), ?_⟩
          have et : ps.take (i + 1) = ps.take i ++ [p] := by rw [List.take_add_one, ez]; rfl
          by_cases c : O p = []
          · have : (!((O p).map V.str).isEmpty) = false := by rw [c]; rfl
            rw [this]
            refine iteF ⟨_, _, _, rfl, gu, ?_⟩
            rw [et]
            exact hD7.skip c
          · have : (!((O p).map V.str).isEmpty) = true := by
              cases hO : O p with
              | nil => exact absurd hO c
              | cons x r => rfl
            rw [this]
            refine iteT ?_
            obtain ⟨kvs7, eD7, kK, hK⟩ := hD7
            have lk : kvs7.length ≤ 400 := by
              have h1 := congrArg List.length kK
              rw [List.length_map, List.length_map] at h1
              have h2 := (okeys_nd ((ps.take i).map O)).length_le_of_subset (fun o ho => (mem_okeys.mp ho).1)
              rw [List.length_map] at h2
              have h3 := List.length_take_le' i ps
              omega
            refine ⟨.ref D0, rfl, D0, rfl, .inr ⟨kvs7, .inl eD7⟩, .ref Tu, rfl, by show 0 ≤ sizeLine; decide, fun E0 nE => ?_⟩
            have g78 : Grow [] H7 (upd H7 E0 (.lst [])) := grow_new nE
            have eE : upd H7 E0 (.lst []) E0 = some (.lst []) := upd_same
            generalize upd H7 E0 (.lst []) = H8 at g78 eE ⊢
            have eD8 : H8 D0 = some (.dT kvs7) := g78.keep D0 _ (by simp) eD7 fun ps z => by cases z
            have eTu8 : H8 Tu = some (.tup (((O p).map (Sum.inr : Str → Key)).map kV)) := by rw [kV_map]; exact g78.tup (by simp) eTu
            refine ⟨_, DGet.t eD8 eTu8, ?_⟩
            have hs : ∃ (src : Addr) (xs : List V), (valV kvs7 ((O p).map (Sum.inr : Str → Key))).getD (.ref E0) = .ref src ∧ H8 src = some (.lst xs) ∧ DpTs K H8 xs (((ps.take i).filter fun q => decide (O q = O p)).map encP) := by
              by_cases c2 : O p ∈ okeys ((ps.take i).map O)
              · obtain ⟨a, e1, e2, _⟩ := hK _ c2
                obtain ⟨xs, e3, e4⟩ := e2.grow g78 (lists_none _) (by simp)
                exact ⟨a, xs, by rw [e1]; rfl, e3, e4⟩
              · have v0 : valV kvs7 ((O p).map (Sum.inr : Str → Key)) = none := valV_none (by
                  rw [kK]
                  intro z
                  obtain ⟨o, ho, e2⟩ := List.mem_map.mp z
                  exact c2 (inr_inj e2 ▸ ho))
                refine ⟨E0, [], by rw [v0]; rfl, eE, ?_⟩
                have : (ps.take i).filter (fun q => decide (O q = O p)) = [] := List.filter_eq_nil_iff.mpr fun q hq z => c2 (mem_okeys.mpr ⟨List.mem_map.mpr ⟨q, hq, of_decide_eq_true z⟩, c⟩)
                rw [this]
                exact .nil
            obtain ⟨src, xs, es1, es2, es3⟩ := hs
            rw [es1]
            have lx : xs.length ≤ 400 := by
              have h1 := es3.length
              rw [List.length_map] at h1
              have h2 := List.length_filter_le (fun q => decide (O q = O p)) (ps.take i)
              have h3 := List.length_take_le' i ps
              omega
            refine ⟨.str p.1, rfl, .str p.2, rfl, by show 2 ≤ sizeLine; decide, fun T2 nT2 => ⟨by show 1 ≤ sizeLine; decide, fun L2 nL2 => ?_⟩⟩
            have g9 := (grow_new (ex := []) (o := .tup [V.str p.1, V.str p.2]) nT2).new (o := .lst [V.ref T2]) nL2
            have eT2 : upd (upd H8 T2 (.tup [V.str p.1, V.str p.2])) L2 (.lst [V.ref T2]) T2 = some (.tup [V.str p.1, V.str p.2]) := by rw [upd_ne (ne_of_none upd_same nL2)]; exact upd_same
            have eL2 : upd (upd H8 T2 (.tup [V.str p.1, V.str p.2])) L2 (.lst [V.ref T2]) L2 = some (.lst [V.ref T2]) := upd_same
            generalize upd (upd H8 T2 (.tup [V.str p.1, V.str p.2])) L2 (.lst [V.ref T2]) = H9 at g9 eT2 eL2 ⊢
            refine ⟨src, L2, xs, [V.ref T2], rfl, rfl, g9.lst (by simp) es2, eL2, by show xs.length + 1 ≤ sizeLine; unfold sizeLine; omega, fun L3 nL3 => ?_⟩
            have fL3 : Fresh H L3 := (((g2.trans gu).trans g78).trans g9).fresh0 nL3
            have g10 := g78.trans (g9.new (o := .lst (xs ++ [V.ref T2])) nL3)
            have eL3 : upd H9 L3 (.lst (xs ++ [V.ref T2])) L3 = some (.lst (xs ++ [V.ref T2])) := upd_same
            have l3 : LstT K (upd H9 L3 (.lst (xs ++ [V.ref T2]))) L3 ((((ps.take i).filter fun q => decide (O q = O p)) ++ [p]).map encP) := by
              refine ⟨_, eL3, ?_⟩
              rw [List.map_append]
              have gg := g9.new (o := .lst (xs ++ [V.ref T2])) nL3
              refine DpTs.app (es3.grow gg (lists_none _)) (.cons (.tup ?_ (.cons (.str _) (.cons (.str _) .nil))) .nil)
              rw [upd_ne (ne_of_none eT2 nL3)]
              exact eT2
            generalize upd H9 L3 (.lst (xs ++ [V.ref T2])) = H10 at g10 eL3 l3 ⊢
            have eD10 : H10 D0 = some (.dT kvs7) := g10.keep D0 _ (by simp) eD7 fun ps z => by cases z
            have eTu10 : H10 Tu = some (.tup (((O p).map (Sum.inr : Str → Key)).map kV)) := by rw [kV_map]; exact g10.tup (by simp) eTu
            refine ⟨.ref D0, rfl, .ref Tu, rfl, D0, _, rfl, DPut.t eD10 eTu10 (by unfold sizeLine; omega), _, _, _, rfl, (gu.trans g10).put (fresh_none nD) eD10 (fun ps z => by cases z), ?_⟩
            rw [et]
            exact PairsAt.put eD7 kK hK fL3 g10 c l3
    · obtain ⟨a, b, c, rfl, g4, hD⟩ := hp
      rw [List.length_map, List.take_length] at hD
      refine ⟨.ref D0, rfl, q D0 H4 ?_ (g2.trans g4) hD⟩
      exact g2.fresh0 nD
end

end Lw

namespace Lw
open PySem PySem.Spec PyProof.Rows L2 GxR Gx
section
variable {P : Program} {w : World} {K : PySem.W.Frag} {mg : Str → Option Value} {base : Heap}
/-! ### partings_by -/
abbrev PT := Addr × ((Addr × Addr) × Parting)
def PtAt (H : Hp) (t : PT) : Prop := H t.1 = some (.tup [.ref t.2.1.1, .ref t.2.1.2]) ∧ H t.2.1.1 = some (.lst (t.2.2.1.map V.str)) ∧ H t.2.1.2 = some (.lst (t.2.2.2.map V.str))
def ptLists (ts : List PT) : List Addr := ts.flatMap fun t => [t.2.1.1, t.2.1.2]
theorem PtAt.grow {ex : List Addr} {H H' : Hp} {t : PT} (h : PtAt H t) (g : Grow ex H H') (n1 : t.1 ∉ ex) (n2 : t.2.1.1 ∉ ex) (n3 : t.2.1.2 ∉ ex) : PtAt H' t := ⟨g.tup n1 h.1, g.lst n2 h.2.1, g.lst n3 h.2.2⟩
theorem PtAt.grow0 {H H' : Hp} {t : PT} (h : PtAt H t) (g : Grow [] H H') : PtAt H' t := h.grow g (by simp) (by simp) (by simp)
theorem PtAt.dp {K : PySem.W.Frag} {H : Hp} {t : PT} (h : PtAt H t) : Dp K H (.ref t.1) (encPt t.2.2) :=
  .tup (.inl (.inl h.1)) (.cons (dp_book (.inl (.inl h.2.1))) (.cons (dp_book (.inl (.inl h.2.2))) .nil))
structure PtsAt (H : Hp) (D : Addr) (ts : List PT) : Prop where
  lst : H D = some (.lst (ts.map fun t => V.ref t.1))
  each : ∀ t ∈ ts, PtAt H t
  nd : (ptLists ts).Nodup
  ne : D ∉ ptLists ts
theorem PtsAt.grow {H H' : Hp} {D : Addr} {ts : List PT} (h : PtsAt H D ts) (g : Grow [] H H') : PtsAt H' D ts := ⟨g.lst (by simp) h.lst, fun t ht => (h.each t ht).grow0 g, h.nd, h.ne⟩
theorem pt_some {H : Hp} {ts : List PT} (h : ∀ t ∈ ts, PtAt H t) {a : Addr} (ha : a ∈ ptLists ts) : ∃ zs : List Str, H a = some (.lst (zs.map V.str)) := by
  obtain ⟨t, ht, hm⟩ := List.mem_flatMap.mp ha
  rcases List.mem_cons.mp hm with e | hm
  · rw [e]; exact ⟨_, (h t ht).2.1⟩
  · rw [List.mem_singleton.mp hm]; exact ⟨_, (h t ht).2.2⟩
theorem in_strs (x : Str) (zs : List Str) : inV (.str x) (zs.map V.str) = decide (x ∈ zs) := by
  induction zs with
  | nil => rfl
  | cons y zs ih =>
    unfold inV at ih ⊢
    rw [List.map_cons, List.any_cons, ih]
    show (decide (y = x) || decide (x ∈ zs)) = _
    by_cases c : y = x
    · simp [c]
    · simp [c, Ne.symm c]
theorem flat_strs (zs : List Str) : (zs.map V.str).all flatV = true := by
  rw [List.all_map]
  exact List.all_eq_true.mpr fun _ _ => rfl
def spPartBy (K : PySem.W.Frag) : Sp := fun vs H Q _ => ∃ (d D : Addr) (bs : List (Addr × (Str × List Str))) (ws : List Str) (O : Str × Str → List Str) (ps : List (Str × Str)) (F : Addr → Prop), vs = [.ref d, .ref D] ∧ GivAt H d bs ∧ Giv bs ws ∧ PairsAt F K H D O ps ∧ ps.length ≤ 1000 ∧
  (∀ p ∈ ps, ∀ n ∈ O p, isNm n = true) ∧
  ∀ R H' ts, Fresh H R → Grow [] H H' → PtsAt H' R ts → (∀ a ∈ ptLists ts, Fresh H a) → ts.map (fun t => t.2.2) = partsBy (namesOf (bs.map Prod.snd)) (okeys (ps.map O)) → Q (.ref R) H'
theorem ok_partings_by {f c : Addr} {fd : FuncData} (B : Nb mg) (D : DefIs K "partings_by" "partings_by" st_partings_by f fd (.ref c)) : FnG P w K mg base CX0 4 f fd ["books", "pairs"] (spPartBy K) := by
  refine D.ok0 (k := 3) sc_partings_by (fun vs H Q E h => ?_) (fun A outer s H vs Q E g hr h => ?_)
  · obtain ⟨d, D, bs, ws, O, ps, F, rfl, _⟩ := h
    rfl
  obtain ⟨d, D0, bs, ws, O, ps, F, rfl, at0, gv, hP, lps, hO, q⟩ := h
  refine ⟨_,
      (pss_cons (ps_set (i := 2) sc_partings_by.nd rfl (.inr rfl) (pe_callB (cr_sortD rfl hr.units) rfl B.n_sorted (by decide +kernel) (pa_cons (pv 0) pa_nil)))
      (pss_one (ps_ret (pe_callB (cr_sortG (val := fun b : PT => V.ref b.1) (enc := fun b : PT => encPt b.2.2) hr.units) rfl B.n_sorted (by decide +kernel) (pa_cons (pe_lock (pe_lc (own := [("others", 3)]) (tt := tYes) (g := (gName 3)) rfl sc_partings_by.nd (pi_keys (pv 1)) (blkOk_by (N := N_partings_by) (sc := defScope st_partings_by) (by decide +kernel)) (fun _ _ _ _ _ => (pg_name (i := 3) sc_partings_by.nd rfl (.inr rfl))) (fun _ _ _ _ _ => pts_nil) (fun _ _ _ _ _ => pe_to (pe_tup (pa_cons (pe_lc (own := [("name", 4)]) (g := (gName 4)) rfl sc_partings_by.nd (pi_list (pv 2)) (blkOk_by (N := N_partings_by) (sc := { kind := ScopeKind.function, names := [(".0", NameKind.local), ("others", NameKind.cell), ("list", NameKind.globalImplicit), ("names", NameKind.cell)], isGenerator := false, isCoroutine := false }) (by decide +kernel)) (fun _ _ _ _ _ => (pg_name (i := 4) sc_partings_by.nd rfl (.inl rfl))) (fun _ _ _ _ _ => pts_to (pts_one (pt_cmpR (op_notIn_seq) (pv 4) (pv 3) rfl))) (fun _ _ _ _ _ => pe_to (pv 4))) (pa_cons (pe_callTy call_list_of rfl B.n_list (by decide +kernel) (pa_cons (pv 3) pa_nil)) pa_nil)))))) pa_nil))))), ?_⟩
  have gn : (bs.map Prod.snd).map Prod.fst = bs.map fun p => p.2.1 := by rw [List.map_map]; rfl
  have ns12 : (namesOf (bs.map Prod.snd)).length = bs.length := by rw [(GivD.names_perm (gs := bs.map Prod.snd)).length_eq, List.length_map, List.length_map]
  have n2 := gv.most
  refine ⟨.ref d, rfl, d, kvB bs, bs.map fun p => p.2.1, rfl, .inl at0.1, kvB_keys bs, by rw [List.length_map]; unfold sizeLine; omega, fun S nS => ?_⟩
  have es : (bs.map fun p => p.2.1).mergeSort (PySem.W.dataLe false PyData.str) = namesOf (bs.map Prod.snd) := by unfold namesOf; rw [gn]; rfl
  rw [es]
  obtain ⟨ns, ens⟩ : ∃ ns, namesOf (bs.map Prod.snd) = ns := ⟨_, rfl⟩
  rw [ens] at ns12 q ⊢
  have gS : Grow [] H (upd H S (.lst (ns.map V.str))) := grow_new nS
  have eS : upd H S (.lst (ns.map V.str)) S = some (.lst (ns.map V.str)) := upd_same
  generalize upd H S (.lst (ns.map V.str)) = H1 at gS eS ⊢
  obtain ⟨kvs, eD, kK, _⟩ := hP.grow gS
  have nt : ∀ ps, HO.dT kvs ≠ .tbl ps := fun ps z => by cases z
  have lk : kvs.length ≤ 1000 := by
    have h1 := congrArg List.length kK
    rw [List.length_map, List.length_map] at h1
    have h2 := (okeys_nd (ps.map O)).length_le_of_subset (fun o ho => (mem_okeys.mp ho).1)
    rw [List.length_map] at h2
    omega
  obtain ⟨ks, eks⟩ : ∃ ks, okeys (ps.map O) = ks := ⟨_, rfl⟩
  have hks : ∀ o ∈ ks, ∀ n ∈ o, isNm n = true := fun o ho => by
    rw [← eks] at ho
    obtain ⟨p, hp, rfl⟩ := List.mem_map.mp (mem_okeys.mp ho).1
    exact hO p hp
  have lks : ks.length = kvs.length := by
    have h1 := congrArg List.length kK
    rw [List.length_map, List.length_map, eks] at h1
    exact h1.symm
  rw [eks] at kK q
  refine ⟨D0, .dT kvs, eD, trivial, fun od => ⟨.ref D0, rfl, D0, od, rfl, .inr ⟨kvs, upd_same, fun L nL => ?_⟩⟩⟩
  have D0S : D0 ≠ S := fun z => by rw [z, eS] at eD; cases eD
  have eS2 : upd H1 D0 (.frz od (.dT kvs)) S = some (.lst (ns.map V.str)) := by rw [upd_ne D0S.symm]; exact eS
  have eD2 : upd H1 D0 (.frz od (.dT kvs)) D0 = some (.frz od (.dT kvs)) := upd_same
  have un : ∀ H', Grow [] (upd H1 D0 (.frz od (.dT kvs))) H' → Grow [] H1 (upd H' D0 (.dT kvs)) := fun H' g' => grow_unlock eD nt g' (g'.keep D0 _ (by simp) upd_same fun ps z => by cases z)
  have fr1 : ∀ {a : Addr}, Fresh (upd H1 D0 (.frz od (.dT kvs))) a → Fresh H1 a := fun {a} fa o ho => by
    by_cases c : a = D0
    · obtain ⟨ps, z⟩ := fa _ (by rw [c]; exact upd_same)
      cases z
    · exact fa o (by rw [upd_ne c]; exact ho)
  generalize upd H1 D0 (.frz od (.dT kvs)) = H2 at nL eS2 eD2 un fr1 ⊢
  refine lc_it walk_keysT (fun i H' => Grow [] H2 H' ∧ ∃ ts : List PT, H' L = some (.lst (ts.map fun t => V.ref t.1)) ∧ ts.length ≤ i ∧ (∀ t ∈ ts, PtAt H' t) ∧ (ptLists ts).Nodup ∧ (∀ a ∈ ptLists ts, Fresh H2 a ∧ a ≠ L) ∧ (∀ t ∈ ts, t.1 ≠ L) ∧ ts.map (fun t => t.2.2) = (ks.take i).map (partOf ns)) ⟨grow_new nL, [], upd_same, Nat.le_refl _, (fun t ht => nomatch ht), List.nodup_nil, (fun a ha => nomatch ha), (fun t ht => nomatch ht), rfl⟩ (fun i H' _ h => h.1.keep D0 _ (by simp) eD2 fun ps z => by cases z) (fun i x Ha Hb hi hp hy => ?_) (fun H3 hp => ?_)
  · obtain ⟨ga, ts, eL, lt, ht, nd, fr, nT', em⟩ := hp
    obtain ⟨rfl, kk, v, Tq, ek, rfl, eq⟩ := hy
    have ek2 : (kvs.map Prod.fst)[i]? = some kk := by rw [List.getElem?_map, ek]; rfl
    rw [kK, List.getElem?_map] at ek2
    cases eo : ks[i]? with
    | none => rw [eo] at ek2; cases ek2
    | some o =>
      rw [eo] at ek2
      cases ek2
      rw [kV_map] at eq
      refine ⟨rfl, yes_if ?_⟩
      have eSa : Hb S = some (.lst (ns.map V.str)) := ga.lst (by simp) eS2
      refine ⟨.ref S, rfl, S, rfl, ⟨_, .inl (.inl eSa)⟩, fun A nA => ?_⟩
      refine lc_it (walk_list (xs := ns.map V.str)) (fun j H' => Grow [] Hb H' ∧ H' A = some (.lst (((ns.take j).filter fun n => decide (n ∉ o)).map V.str))) ⟨grow_new nA, upd_same⟩ (fun j H' _ h => .inl (.inl (h.1.lst (by simp) eSa))) (fun j x Hc Hd hj hq hy => ?_) (fun H4 hq => ?_)
      · obtain ⟨gb, eb⟩ := hq
        obtain ⟨rfl, ex⟩ := hy
        rw [List.getElem?_map] at ex
        cases en : ns[j]? with
        | none => rw [en] at ex; cases ex
        | some n =>
          rw [en] at ex
          cases ex
          refine ⟨rfl, .str n, rfl, .ref Tq, rfl, Tq, o.map V.str, rfl, .inr (.inl (.inl (gb.tup (by simp) eq))), rfl, flat_strs o, _, rfl, ?_⟩
          have keep : ∀ b : Bool, decide (n ∉ o) = b → (ns.take (j + 1)).filter (fun n => decide (n ∉ o)) = (ns.take j).filter (fun n => decide (n ∉ o)) ++ (if b = true then [n] else []) := fun b hb => by
            rw [List.take_add_one, en, List.filter_append]
            congr 1
            show List.filter _ [n] = _
            rw [List.filter_cons, hb]
            rfl
          have ein : (!inV (.str n) (o.map V.str)) = decide (n ∉ o) := by
            rw [in_strs]
            by_cases c : n ∈ o <;> simp [c]
          show (if (if true = true then !inV (V.str n) (o.map V.str) else inV (V.str n) (o.map V.str)) = true then _ else _)
          rw [if_pos rfl, ein]
          by_cases c : n ∉ o
          · rw [decide_eq_true c, if_pos rfl]
            refine ⟨.str n, rfl, _, eb, ?_, gb.put (fresh_none nA) eb (fun ps z => by cases z), ?_⟩
            · have := List.length_filter_le (fun n => decide (n ∉ o)) (ns.take j)
              have h2 := List.length_take_le' j ns
              rw [List.length_map]
              unfold sizeLine
              omega
            · rw [upd_same, keep true (decide_eq_true c), if_pos rfl, List.map_append]
              rfl
          · rw [decide_eq_false c, if_neg (fun z => Bool.noConfusion z)]
            refine ⟨gb, ?_⟩
            rw [keep false (decide_eq_false c), if_neg (fun z => Bool.noConfusion z), List.append_nil]
            exact eb
      · obtain ⟨gb, eA⟩ := hq
        rw [List.length_map, List.take_length] at eA
        refine ⟨.ref Tq, rfl, Tq, o.map V.str, rfl, .inr (.inl (.inl (gb.tup (by simp) eq))), fun Bl nB => ?_⟩
        refine ⟨by show 2 ≤ sizeLine; decide, fun Tt nT => ?_⟩
        have g6 : Grow [] Hb (upd (upd H4 Bl (.lst (o.map V.str))) Tt (.tup [.ref A, .ref Bl])) := (gb.new nB).new nT
        have AB : A ≠ Bl := ne_of_none eA nB
        have eA5 : upd H4 Bl (.lst (o.map V.str)) A = some (.lst ((partOf ns o).1.map V.str)) := by rw [upd_ne AB]; exact eA
        have eB5 : upd H4 Bl (.lst (o.map V.str)) Bl = some (.lst ((partOf ns o).2.map V.str)) := upd_same
        have pt : PtAt (upd (upd H4 Bl (.lst (o.map V.str))) Tt (.tup [.ref A, .ref Bl])) (Tt, ((A, Bl), partOf ns o)) :=
          ⟨upd_same, by rw [upd_ne (ne_of_none eA5 nT)]; exact eA5, by rw [upd_ne (ne_of_none eB5 nT)]; exact eB5⟩
        have TL : Tt ≠ L := fun z => by rw [z, (gb.new (o := .lst (o.map V.str)) nB).lst (by simp) eL] at nT; cases nT
        generalize upd (upd H4 Bl (.lst (o.map V.str))) Tt (.tup [.ref A, .ref Bl]) = H6 at g6 pt ⊢
        have eL6 : H6 L = some (.lst (ts.map fun t => V.ref t.1)) := g6.lst (by simp) eL
        have AL : A ≠ L := fun z => by rw [z, eL] at nA; cases nA
        have BL : Bl ≠ L := fun z => by rw [z, gb.lst (by simp) eL] at nB; cases nB
        have gl : Grow [L] H6 (upd H6 L (.lst ((ts.map fun t => V.ref t.1) ++ [.ref Tt]))) := grow_at eL6 (fun ps z => by cases z) (by simp)
        refine ⟨_, eL6, by rw [List.length_map]; unfold sizeLine; omega, (ga.trans g6).put (fresh_none nL) eL6 (fun ps z => by cases z), ts ++ [(Tt, ((A, Bl), partOf ns o))], by rw [upd_same, List.map_append]; rfl, by rw [List.length_append]; show ts.length + 1 ≤ _; omega, fun t hm => ?_, ?_, fun a hm => ?_, fun t hm => ?_, ?_⟩
        · rcases List.mem_append.mp hm with hm | hm
          · have h1 := ht t hm
            have m1 : t.2.1.1 ∈ ptLists ts := List.mem_flatMap.mpr ⟨t, hm, List.mem_cons_self⟩
            have m2 : t.2.1.2 ∈ ptLists ts := List.mem_flatMap.mpr ⟨t, hm, List.mem_cons_of_mem _ List.mem_cons_self⟩
            exact (h1.grow0 g6).grow gl (by simpa using nT' t hm) (by simpa using (fr _ m1).2) (by simpa using (fr _ m2).2)
          · rw [List.mem_singleton.mp hm]
            exact pt.grow gl (by simpa using TL) (by simpa using AL) (by simpa using BL)
        · have e1 : ptLists (ts ++ [(Tt, ((A, Bl), partOf ns o))]) = ptLists ts ++ [A, Bl] := by unfold ptLists; rw [List.flatMap_append]; rfl
          rw [e1]
          refine List.nodup_append.mpr ⟨nd, List.nodup_cons.mpr ⟨by simpa using AB, by simp⟩, fun a ha b hb e => ?_⟩
          obtain ⟨zs, ez⟩ := pt_some ht ha
          rcases List.mem_cons.mp hb with hb | hb
          · rw [e, hb, nA] at ez; cases ez
          · rw [e, List.mem_singleton.mp hb] at ez
            have := gb.lst (by simp) ez
            rw [nB] at this; cases this
        · have e1 : ptLists (ts ++ [(Tt, ((A, Bl), partOf ns o))]) = ptLists ts ++ [A, Bl] := by unfold ptLists; rw [List.flatMap_append]; rfl
          rw [e1] at hm
          rcases List.mem_append.mp hm with hm | hm
          · exact fr a hm
          · rcases List.mem_cons.mp hm with hm | hm
            · rw [hm]; exact ⟨ga.fresh0 nA, AL⟩
            · rw [List.mem_singleton.mp hm]; exact ⟨(ga.trans gb).fresh0 nB, BL⟩
        · rcases List.mem_append.mp hm with hm | hm
          · exact nT' t hm
          · rw [List.mem_singleton.mp hm]; exact TL
        · rw [List.map_append, em, List.take_add_one, eo, List.map_append]
          rfl
  · obtain ⟨ga, ts, eL, lt, ht, nd, fr, nT, em⟩ := hp
    rw [← lks, List.take_length] at em
    have eD3 : H3 D0 = some (.frz od (.dT kvs)) := ga.keep D0 _ (by simp) eD2 fun ps z => by cases z
    have LD : L ≠ D0 := fun z => by rw [z, eD2] at nL; cases nL
    have g3 := gS.trans (un H3 ga)
    refine ⟨eD3, ?_⟩
    have ht3 : ∀ t ∈ ts, PtAt (upd H3 D0 (.dT kvs)) t := fun t hm => by
      obtain ⟨h1, h2, h3⟩ := ht t hm
      exact ⟨by rw [upd_ne (fun z => by rw [z, eD3] at h1; cases h1)]; exact h1, by rw [upd_ne (fun z => by rw [z, eD3] at h2; cases h2)]; exact h2, by rw [upd_ne (fun z => by rw [z, eD3] at h3; cases h3)]; exact h3⟩
    have eL3 : upd H3 D0 (.dT kvs) L = some (.lst (ts.map fun t => V.ref t.1)) := by rw [upd_ne LD]; exact eL
    generalize upd H3 D0 (.dT kvs) = H5 at g3 ht3 eL3 ⊢
    refine ⟨L, ts, rfl, .inl (.inl eL3), fun t hm => ⟨(ht3 t hm).dp, by rw [depth_pt]; decide⟩, alike_pts (fun t : PT => t.2.2) ts, sortable_pts (fun t : PT => t.2.2) ts, by unfold sizeLine; omega, fun R nR => ?_⟩
    have pm : (ts.mergeSort (PySem.W.dataLe false fun b : PT => encPt b.2.2)).Perm ts := List.mergeSort_perm _ _
    have pl : (ptLists (ts.mergeSort (PySem.W.dataLe false fun b : PT => encPt b.2.2))).Perm (ptLists ts) := pm.flatMap_right _
    refine q R _ (ts.mergeSort (PySem.W.dataLe false fun b : PT => encPt b.2.2)) (g3.fresh0 nR) (g3.new nR) ⟨upd_same, fun t hm => (ht3 t (pm.mem_iff.mp hm)).grow0 (grow_new nR), pl.nodup_iff.mpr nd, fun hm => ?_⟩ (fun a hm => ?_) ?_
    · obtain ⟨zs, ez⟩ := pt_some ht3 (pl.mem_iff.mp hm)
      rw [nR] at ez
      cases ez
    · exact gS.fresh (by simp) (fr1 (fr a (pl.mem_iff.mp hm)).1)
    · unfold partsBy sortPt
      rw [← em]
      exact List.map_mergeSort (f := fun t : PT => t.2.2) (r := PySem.W.dataLe false fun b : PT => encPt b.2.2) (s := PySem.W.dataLe false encPt) fun a _ b _ => rfl
end

theorem Giv.ps400 {bs : List (Addr × (Str × List Str))} {ws : List Str} (g : Giv bs ws) : (combos (firstOf (bs.map Prod.snd))).length ≤ 400 := by
  have h1 := combos_len (firstOf (bs.map Prod.snd))
  have h2 := g.gd.first.length_eq
  have h3 := g.w20
  have h4 := Nat.mul_le_mul (show (firstOf (bs.map Prod.snd)).length ≤ 20 by omega) (show (firstOf (bs.map Prod.snd)).length ≤ 20 by omega)
  omega
theorem giv_others_nm {bs : List (Addr × (Str × List Str))} {ws : List Str} (g : Giv bs ws) {p : Str × Str} {n : Str} (h : n ∈ othersOf (bkOf (bs.map Prod.snd)) (namesOf (bs.map Prod.snd)) p) : isNm n = true := by
  obtain ⟨q, hq, rfl⟩ := Giv.at (List.mem_filter.mp h).1
  exact g.nm q hq

end Lw

namespace Lw
open PySem PySem.Spec PyProof.Rows L2 GxR Gx
section
variable {P : Program} {w : World} {K : PySem.W.Frag} {mg : Str → Option Value} {base : Heap}
/-! ### the drawing: _law_pot, _law_take -/
/-- what is drawn from: a number used up first, then a mixed one; no more than c turns of it -/
def Pot (H : Hp) (p : Addr) (c : Int) : Prop := ∃ a b k : Int, H p = some (.lst [.int a, .int b, .int k]) ∧ 0 ≤ b ∧ b < 2 ^ 90 ∧ 0 ≤ k ∧ k ≤ c
theorem Pot.mono {H : Hp} {p : Addr} {c c' : Int} (h : Pot H p c) (l : c ≤ c') : Pot H p c' := by
  obtain ⟨a, b, k, e, b1, b2, b3, b4⟩ := h
  exact ⟨a, b, k, e, b1, b2, b3, by omega⟩
theorem Pot.new {H : Hp} {p q : Addr} {o : HO} {c : Int} (h : Pot H p c) (n : H q = none) : Pot (upd H q o) p c := by
  obtain ⟨a, b, k, e, r⟩ := h
  exact ⟨a, b, k, by rw [upd_ne (ne_of_none e n)]; exact e, r⟩
theorem Pot.at {H : Hp} {p q : Addr} {o : HO} {c : Int} (h : Pot H p c) (n : p ≠ q) : Pot (upd H q o) p c := by
  obtain ⟨a, b, k, e, r⟩ := h
  exact ⟨a, b, k, by rw [upd_ne n]; exact e, r⟩
theorem Fresh.back {H H2 : Hp} {D p : Addr} {c : Int} (fr : Fresh H2 D) (g : Grow [p] H H2) (h : Pot H2 p c) : Fresh H D := by
  obtain ⟨a, b, k, e, _⟩ := h
  have n := fr.ne e (fun ps z => by cases z)
  exact g.fresh (by simpa using n.symm) fr
def spPot (K : PySem.W.Frag) : Sp := fun vs H Q _ => ∃ (s : Addr) (ns : List Int) (k : Nat), vs = [.ref s, .int k] ∧ SqL K H s (ns.map V.int) ∧ k ≤ 8 ∧ ∀ p H', Fresh H p → Grow [] H H' → Pot H' p 0 → Q (.ref p) H'
theorem ok_law_pot {f c : Addr} {fd : FuncData} (B : Nb mg) (D : DefIs K "_law_pot" "_law_pot" st_law_pot f fd (.ref c)) : FnG P w K mg base CX0 3 f fd ["script", "k"] (spPot K) := by
  refine D.ok0 (k := 2) sc_law_pot (fun vs H Q E h => ?_) (fun A outer s H vs Q E g hr h => ?_)
  · obtain ⟨s, ns, k, rfl, _⟩ := h
    rfl
  obtain ⟨l, ns, k, rfl, hl, hk, q⟩ := h
  refine ⟨_,
      (pss_cons (ps_set (i := 2) sc_law_pot.nd rfl (.inl rfl) pe_int)
      (pss_cons (ps_if (pt_cmpR (op_lt) (pv 1) (pe_callB call_len_seq rfl B.n_len PySem.boot_len (pa_cons (pv 0) pa_nil)) (nomark _)) (
        (pss_one (ps_set (i := 2) sc_law_pot.nd rfl (.inl rfl) (pe_ix ix_list (pv 0) (pv 1) (fun _ _ => rfl))))) pss_nil)
      (pss_one (ps_ret (pe_lst (pa_cons (pe_callB (call_max2 rfl) rfl B.n_max (by decide +kernel) (pa_cons pe_int (pa_cons (pe_op op_sub (pv 2) (pe_op op_powX pe_int pe_int)) pa_nil))) (pa_cons (pe_op op_add (pe_op op_mod (pv 2) pe_int) (pe_op op_mulX pe_int (pv 1))) (pa_cons pe_int pa_nil)))))))), ?_⟩
  have fq : ∀ (cell : Int) p, H p = none → Q (.ref p) (upd H p (.lst [.int (if cell - 10 ^ (18 : Int).toNat > 0 then cell - 10 ^ (18 : Int).toNat else 0), .int (cell % 618970019642690137449562111 + 7368787 * (k : Int)), .int 0])) := fun cell p np =>
    q p _ (fresh_none np) (grow_new np) ⟨_, _, _, upd_same, by
      have := Int.emod_nonneg cell (b := 618970019642690137449562111) (by decide)
      omega, by
      have := Int.emod_lt_of_pos cell (b := 618970019642690137449562111) (by decide)
      omega, Int.le_refl _, Int.le_refl _⟩
  have cp : CPowX 10 18 := ⟨by decide, by decide⟩
  have cm : CMulX 7368787 (k : Int) := by
    have h1 : Builtin.Int.intBits (k : Int) ≤ 4 := bits_le (by decide) (by omega)
    have h2 : Builtin.Int.intBits 7368787 ≤ 23 := bits_le (by decide) (by decide)
    unfold CMulX
    omega
  refine ⟨.int k, rfl, .ref l, rfl, l, _, rfl, .inl hl, _, _, rfl, rfl, _, rfl, ?_⟩
  by_cases hlt : (k : Int) < ((ns.map V.int).length : Nat)
  · rw [decide_eq_true hlt]
    have hi : k < ns.length := by rw [List.length_map] at hlt; omega
    refine iteT ⟨.ref l, rfl, .int k, rfl, l, _, _, .int (ns[k]), rfl, rfl, hl, ?_, ?_⟩
    · exact atI_nat (by rw [List.getElem?_map, List.getElem?_eq_getElem hi]; rfl)
    · exact ⟨.int (ns[k]), rfl, 10, 18, rfl, rfl, cp, _, _, rfl, rfl, _, _, rfl, .int (ns[k]), rfl, _, _, rfl, rfl, (by decide : (0 : Int) < 618970019642690137449562111), .int k, rfl, _, _, rfl, rfl, cm, _, _, rfl, rfl, by show 3 ≤ sizeLine; decide, fq _⟩
  · rw [decide_eq_false hlt]
    exact iteF ⟨.int 0, rfl, 10, 18, rfl, rfl, cp, _, _, rfl, rfl, _, _, rfl, .int 0, rfl, _, _, rfl, rfl, (by decide : (0 : Int) < 618970019642690137449562111), .int k, rfl, _, _, rfl, rfl, cm, _, _, rfl, rfl, by show 3 ≤ sizeLine; decide, fq _⟩
def spTake (K : PySem.W.Frag) : Sp := fun vs H Q _ => ∃ (p : Addr) (m c : Int), vs = [.ref p, .int m] ∧ 1 ≤ m ∧ m < 2 ^ 30 ∧ c ≤ 2 ^ 30 ∧ Pot H p c ∧ ∀ v H', 0 ≤ v → v < m → Grow [p] H H' → Pot H' p (c + 1) → Q (.int v) H'
theorem ok_law_take {f c : Addr} {fd : FuncData} (B : Nb mg) (D : DefIs K "_law_take" "_law_take" st_law_take f fd (.ref c)) : FnG P w K mg base CX0 3 f fd ["pot", "many"] (spTake K) := by
  refine D.ok0 (k := 2) sc_law_take (fun vs H Q E h => ?_) (fun A outer s H vs Q E g hr h => ?_)
  · obtain ⟨p, m, c, rfl, _⟩ := h
    rfl
  obtain ⟨p, m, c, rfl, m1, m2, c1, ⟨a, b, k, e, b1, b2, k1, k2⟩, q⟩ := h
  refine ⟨_,
      (pss_cons (ps_if (pt_cmpR (op_gt) (pe_ix ix_list (pv 0) pe_int (fun _ _ => rfl)) pe_int (nomark _)) (
        (pss_cons (ps_set (i := 2) sc_law_take.nd rfl (.inl rfl) (pe_op op_mod (pe_ix ix_list (pv 0) pe_int (fun _ _ => rfl)) (pv 1)))
        (pss_cons (ps_asg (pe_op op_fdiv (pe_ix ix_list (pv 0) pe_int (fun _ _ => rfl)) (pv 1)) (pg_sub (pv 0) pe_int set_list))
        (pss_one (ps_ret (pv 2)))))) pss_nil)
      (pss_cons (ps_asg (pe_op op_add (pe_ix ix_list (pv 0) pe_int (fun _ _ => rfl)) pe_int) (pg_sub (pv 0) pe_int set_list))
      (pss_cons (ps_set (i := 3) sc_law_take.nd rfl (.inl rfl) (pe_op op_mod (pe_op op_powX (pe_op op_add (pe_ix ix_list (pv 0) pe_int (fun _ _ => rfl)) (pe_op op_mulX pe_int (pe_ix ix_list (pv 0) pe_int (fun _ _ => rfl)))) pe_int) pe_int))
      (pss_cons (ps_set (i := 3) sc_law_take.nd rfl (.inl rfl) (pe_op op_mod (pe_op op_powX (pe_op op_add (pv 3) (pe_op op_mulX pe_int (pe_ix ix_list (pv 0) pe_int (fun _ _ => rfl)))) pe_int) pe_int))
      (pss_one (ps_ret (pe_op op_mod (pe_op op_fdiv (pv 3) pe_int) (pv 1)))))))), ?_⟩
  have sq : ∀ {H' : Hp} {x y z : Int}, H' p = some (.lst [.int x, .int y, .int z]) → SqL K H' p [.int x, .int y, .int z] := fun h => .inl (.inl h)
  refine ⟨.ref p, rfl, p, _, 0, .int a, rfl, rfl, sq e, rfl, _, _, rfl, rfl, _, rfl, ?_⟩
  by_cases ha : 0 < a
  · rw [decide_eq_true ha]
    refine iteT ⟨.ref p, rfl, p, _, 0, .int a, rfl, rfl, sq e, rfl, .int m, rfl, _, _, rfl, rfl, m1, .ref p, rfl, p, _, 0, .int a, rfl, rfl, sq e, rfl, .int m, rfl, _, _, rfl, rfl, ⟨m1, m2⟩, .ref p, rfl, p, _, 0, 0, rfl, rfl, e, rfl, .int (a % m), rfl, ?_⟩
    exact q _ _ (Int.emod_nonneg _ (by omega)) (Int.emod_lt_of_pos _ m1) (grow_at e (fun ps z => by cases z) (by simp)) ⟨_, _, _, upd_same, b1, b2, k1, by omega⟩
  · rw [decide_eq_false ha]
    refine iteF ⟨.ref p, rfl, p, _, 2, .int k, rfl, rfl, sq e, rfl, _, _, rfl, rfl, .ref p, rfl, p, _, 2, 2, rfl, rfl, e, rfl, ?_⟩
    have e2 : upd H p (.lst [.int a, .int b, .int (k + 1)]) p = some (.lst [.int a, .int b, .int (k + 1)]) := upd_same
    have fin : ∀ x : Int, Q (.int (x / 1048576 % m)) (upd H p (.lst [.int a, .int b, .int (k + 1)])) := fun x =>
      q _ _ (Int.emod_nonneg _ (by omega)) (Int.emod_lt_of_pos _ m1) (grow_at e (fun ps z => by cases z) (by simp)) ⟨_, _, _, e2, b1, b2, by omega, by omega⟩
    have bk : Builtin.Int.intBits (k + 1) ≤ 31 := bits_le (by decide) (by omega)
    have cm1 : CMulX 15485863 (k + 1) := by
      have : Builtin.Int.intBits 15485863 ≤ 24 := bits_le (by decide) (by decide)
      unfold CMulX
      omega
    have cm2 : CMulX 32452843 (k + 1) := by
      have : Builtin.Int.intBits 32452843 ≤ 25 := bits_le (by decide) (by decide)
      unfold CMulX
      omega
    have cp1 : CPowX (b + 15485863 * (k + 1)) 3 := by
      have : Builtin.Int.intBits (b + 15485863 * (k + 1)) ≤ 91 := bits_le (by decide) (by omega)
      exact ⟨by decide, by omega⟩
    have cp2 : ∀ y : Int, CPowX (y % 162259276829213363391578010288127 + 32452843 * (k + 1)) 5 := fun y => by
      have h1 := Int.emod_nonneg y (b := 162259276829213363391578010288127) (by decide)
      have h2 := Int.emod_lt_of_pos y (b := 162259276829213363391578010288127) (by decide)
      have : Builtin.Int.intBits (y % 162259276829213363391578010288127 + 32452843 * (k + 1)) ≤ 108 := bits_le (by decide) (by omega)
      exact ⟨by decide, by omega⟩
    refine ⟨.ref p, rfl, p, _, 1, .int b, rfl, rfl, sq e2, rfl, .ref p, rfl, p, _, 2, .int (k + 1), rfl, rfl, sq e2, rfl, _, _, rfl, rfl, cm1, _, _, rfl, rfl, _, _, rfl, rfl, cp1, _, _, rfl, rfl, (by decide : (0 : Int) < 162259276829213363391578010288127), ?_⟩
    exact ⟨.int _, rfl, .ref p, rfl, p, _, 2, .int (k + 1), rfl, rfl, sq e2, rfl, _, _, rfl, rfl, cm2, _, _, rfl, rfl, _, _, rfl, rfl, cp2 _, _, _, rfl, rfl, (by decide : (0 : Int) < 170141183460469231731687303715884105727), .int _, rfl, _, _, rfl, rfl, (⟨by decide, by decide⟩ : CDiv _ 1048576), .int m, rfl, _, _, rfl, rfl, m1, fin _⟩
end

section
variable {P : Program} {w : World} {K : PySem.W.Frag} {mg : Str → Option Value} {base : Heap}
/-! ### _law_some -/
def spSome (K : PySem.W.Frag) : Sp := fun vs H Q _ => ∃ (p t : Addr) (m : Nat) (c : Int) (zs : List Str), vs = [.ref p, .ref t, .int m] ∧ Pot H p c ∧ c ≤ 2 ^ 20 ∧ SqL K H t (zs.map V.str) ∧ zs.all isNm = true ∧ zs.length ≤ 200 ∧
  ∀ (D : Addr) (H' : Hp) (ys rest : List Str), Fresh H D → Grow [p] H H' → H' D = some (.lst (ys.map V.str)) → (ys ++ rest).Perm zs → ys.length = min m zs.length → Pot H' p (c + 200) → Q (.ref D) H'
theorem ok_law_some {f c : Addr} {fd : FuncData} (B : Nb mg) (D : DefIs K "_law_some" "_law_some" st_law_some f fd (.ref c))
    (c_law_take : Callee P w K mg base CX0 3 "_law_take" ["pot", "many"] (spTake K)) : FnG P w K mg base CX0 4 f fd ["pot", "things", "many"] (spSome K) := by
  refine D.ok0 (k := 3) sc_law_some (fun vs H Q E h => ?_) (fun A outer s H vs Q E g hr h => ?_)
  · obtain ⟨p, t, m, c, zs, rfl, _⟩ := h
    rfl
  obtain ⟨p, t, m, c, zs, rfl, hp, hc, ht, hn, hz, q⟩ := h
  refine ⟨_,
      (pss_cons (ps_set (i := 3) sc_law_some.nd rfl (.inl rfl) (pe_callTy call_list_of rfl B.n_list (by decide +kernel) (pa_cons (pv 1) pa_nil)))
      (pss_cons (ps_set (i := 4) sc_law_some.nd rfl (.inl rfl) (pe_lst pa_nil))
      (pss_cons (ps_while PassesOwn.never (PW.pt (pw_and (pt_cmpR (op_neD hr.units) (pv 3) (pe_lst pa_nil) (nomark _)) (pw_and1 (pt_cmpR (op_lt) (pe_callB call_len_seq rfl B.n_len PySem.boot_len (pa_cons (pv 4) pa_nil)) (pv 2) (nomark _))))) (
        (pss_one (ps_expr (pe_bm PySem.F.plainAttrs_list PySem.F.slot_list_append PySem.F.type_list_append mt_append (pv 4) (pa_cons (pe_bm PySem.F.plainAttrs_list PySem.F.slot_list_pop PySem.F.type_list_pop mt_popAt (pv 3) (pa_cons (pe_g c_law_take g (hr.mono (by decide)) pass0 (pa_cons (pv 0) (pa_cons (pe_callB call_len_seq rfl B.n_len PySem.boot_len (pa_cons (pv 3) pa_nil)) pa_nil))) pa_nil)) pa_nil))))))
      (pss_one (ps_ret (pv 4)))))), ?_⟩
  have np : ∀ {b : Addr} {o : HO} {H' : Hp}, H' b = none → H' p = some o → b ≠ p := fun h1 h2 z => by
    rw [z, h2] at h1
    cases h1
  obtain ⟨pa, pb, pk, ep, _⟩ := id hp
  refine ⟨.ref t, rfl, t, _, rfl, .inl ht, fun L nL => ?_⟩
  refine ⟨by show 0 ≤ sizeLine; decide, fun F nF => ?_⟩
  have eL : upd (upd H L (.lst (zs.map V.str))) F (.lst []) L = some (.lst (zs.map V.str)) := by
    rw [upd_ne (ne_of_none upd_same nF)]
    exact upd_same
  have LF : L ≠ F := ne_of_none (H := upd H L (.lst (zs.map V.str))) upd_same nF
  have Lp : L ≠ p := np nL ep
  have Fp : F ≠ p := fun z => by
    rw [z, upd_ne Lp.symm, ep] at nF
    cases nF
  have fF : Fresh H F := fresh_none (by rwa [upd_ne LF.symm] at nF)
  have g0 : Grow [p] H (upd (upd H L (.lst (zs.map V.str))) F (.lst [])) := ((grow_new nL).trans (grow_new nF)).any
  refine ⟨fun n σ H' => ∃ ls fs : List Str, n = ls.length ∧ σ = [some (.ref p), some (.ref t), some (.int m), some (.ref L), some (.ref F)] ∧ H' L = some (.lst (ls.map V.str)) ∧ H' F = some (.lst (fs.map V.str)) ∧ (fs ++ ls).Perm zs ∧ fs.length ≤ m ∧ Pot H' p (c + fs.length) ∧ Grow [p] H H',
    ⟨_, zs, [], rfl, rfl, eL, upd_same, .refl _, Nat.zero_le _, ?_, g0⟩, fun n σ H' hw => ?_⟩
  · obtain ⟨a, b, k, e, r⟩ := hp
    exact ⟨a, b, k, by rw [upd_ne Fp.symm, upd_ne Lp.symm]; exact e, r.1, r.2.1, r.2.2.1, by have := r.2.2.2; simp; omega⟩
  · obtain ⟨ls, fs, rfl, rfl, eL, eF, pm, hm, pot, gr⟩ := hw
    refine ⟨.ref L, rfl, by show 0 ≤ sizeLine; decide, fun W nW => ?_⟩
    have eL1 : upd H' W (.lst []) L = some (.lst (ls.map V.str)) := by rw [upd_ne (ne_of_none eL nW)]; exact eL
    have eF1 : upd H' W (.lst []) F = some (.lst (fs.map V.str)) := by rw [upd_ne (ne_of_none eF nW)]; exact eF
    have gr1 : Grow [p] H (upd H' W (.lst [])) := gr.new nW
    have pot1 : Pot (upd H' W (.lst [])) p (c + fs.length) := by
      obtain ⟨a, b, k, e, r⟩ := pot
      exact ⟨a, b, k, by rw [upd_ne (ne_of_none e nW)]; exact e, r⟩
    have hls : ls.length + fs.length = zs.length := by have := pm.length_eq; rw [List.length_append] at this; omega
    have f1 := fine_names (zs := ls) (List.all_eq_true.mpr fun x hx => List.all_eq_true.mp hn x (pm.mem_iff.mp (List.mem_append_right _ hx))) (by omega)
    have done_ : fs.length = min m zs.length → Q (.ref F) (upd H' W (.lst [])) := fun e => by
      obtain ⟨a, b, k, ep, b1, b2, b3, b4⟩ := pot1
      exact q F _ fs ls fF gr1 eF1 pm e ⟨a, b, k, ep, b1, b2, b3, by omega⟩
    refine ⟨_, _, dp_book (.inl (.inl eL1)), dp_book (xs := []) (.inl (.inl upd_same)), f1.shaped (by decide), (fine_names (zs := []) rfl (Nat.zero_le _)).shaped (by decide), ?_⟩
    cases ls with
    | nil =>
      refine ⟨false, rfl, ?_⟩
      exact iteF (iteF ⟨.ref F, rfl, done_ (by rw [List.length_nil] at hls; omega)⟩)
    | cons x r =>
      refine ⟨true, rfl, iteT ⟨.ref F, rfl, F, _, rfl, .inl (.inl (.inl eF1)), .int m, rfl, _, _, rfl, rfl, _, rfl, ?_⟩⟩
      rw [List.length_map]
      by_cases hlt : ((fs.length : Nat) : Int) < (m : Int)
      · rw [decide_eq_true hlt]
        refine iteT ⟨fun σ' H2 => ∃ ls' fs' : List Str, ls'.length < (x :: r).length ∧ σ' = [some (.ref p), some (.ref t), some (.int m), some (.ref L), some (.ref F)] ∧ H2 L = some (.lst (ls'.map V.str)) ∧ H2 F = some (.lst (fs'.map V.str)) ∧ (fs' ++ ls').Perm zs ∧ fs'.length ≤ m ∧ Pot H2 p (c + fs'.length) ∧ Grow [p] H H2,
          fun σ' H2 h2 => ?_, ?_⟩
        · obtain ⟨ls', fs', l1, r2⟩ := h2
          exact ⟨_, l1, ls', fs', rfl, r2⟩
        · have hrl : (x :: r).length = r.length + 1 := rfl
          refine ⟨.ref F, rfl, tyl eF1, .ref L, rfl, tyl eL1, .ref p, rfl, .ref L, rfl, L, _, rfl, .inl (.inl (.inl eL1)), p, _, _, rfl, ?_, ?_, ?_, pot1, fun v H2 v0 v1 g2 pot2 => ?_⟩
          · rw [List.length_map]; omega
          · rw [List.length_map]; omega
          · omega
          rw [List.length_map] at v1
          have eL2 : H2 L = some (.lst ((x :: r).map V.str)) := g2.lst (by simpa using Lp) eL1
          have eF2 : H2 F = some (.lst (fs.map V.str)) := g2.lst (by simpa using Fp) eF1
          have hv : v.toNat < (x :: r).length := by omega
          refine ⟨L, _, v, v.toNat, .str (x :: r)[v.toNat], rfl, rfl, eL2, by omega, by omega, seqIndex_nat v0 (by rw [List.length_map]; exact v1), ?_, ?_⟩
          · rw [List.getElem?_map, List.getElem?_eq_getElem hv]
            rfl
          · have g3 : Grow [p] H (upd H2 L (.lst (((x :: r).map V.str).eraseIdx v.toNat))) := (gr1.trans g2).put (fresh_none nL) eL2 (fun ps z => by cases z)
            have eF3 : upd H2 L (.lst (((x :: r).map V.str).eraseIdx v.toNat)) F = some (.lst (fs.map V.str)) := by rw [upd_ne LF.symm]; exact eF2
            have fl : fs.length + 1 ≤ 200 := by omega
            refine ⟨F, _, _, rfl, rfl, eF3, by rw [List.length_map]; unfold sizeLine; omega, (x :: r).eraseIdx v.toNat, fs ++ [(x :: r)[v.toNat]], ?_, rfl, ?_, ?_, ?_, ?_, ?_, g3.put fF eF3 (fun ps z => by cases z)⟩
            · rw [List.length_eraseIdx_of_lt hv]
              omega
            · rw [upd_ne LF, upd_same, erase_map]
            · rw [upd_same, List.map_append]
              rfl
            · refine List.Perm.trans ?_ pm
              rw [List.append_assoc]
              exact List.Perm.append_left fs (erase_perm (x :: r) v.toNat hv)
            · rw [List.length_append]
              show fs.length + 1 ≤ m
              omega
            · obtain ⟨a, b, k, e, b1, b2, b3, b4⟩ := pot2
              refine ⟨a, b, k, ?_, b1, b2, b3, ?_⟩
              · rw [upd_ne Fp.symm, upd_ne Lp.symm]
                exact e
              · rw [List.length_append]
                simp only [List.length_cons, List.length_nil]
                omega
      · rw [decide_eq_false hlt]
        exact iteF ⟨.ref F, rfl, done_ (by omega)⟩
end

section
variable {P : Program} {w : World} {K : PySem.W.Frag} {mg : Str → Option Value} {base : Heap}
/-! ### _law_names, _law_many -/
theorem bk_of {zs ys rest : List Str} (h : zs.all isNm = true) (nd : zs.Nodup) (hz : zs.length ≤ 200) (p : (ys ++ rest).Perm zs) : Bk ys :=
  ⟨List.all_eq_true.mpr fun x hx => List.all_eq_true.mp h x (p.mem_iff.mp (List.mem_append_left _ hx)), (List.nodup_append.mp (p.nodup_iff.mpr nd)).1, by
    have := p.length_eq
    rw [List.length_append] at this
    omega⟩
theorem len100 {zs ys rest : List Str} (hz : zs.length ≤ 100) (p : (ys ++ rest).Perm zs) : ys.length ≤ 100 := by
  have := p.length_eq
  rw [List.length_append] at this
  omega
def spDraw (K : PySem.W.Frag) : Sp := fun vs H Q _ => ∃ (p : Addr) (m : Nat) (c : Int), vs = [.ref p, .int m] ∧ Pot H p c ∧ c ≤ 2 ^ 20 ∧
  ∀ (D : Addr) (H' : Hp) (ys : List Str), Fresh H D → Grow [p] H H' → H' D = some (.lst (ys.map V.str)) → Bk ys → ys.length ≤ 100 ∧ ys.length ≤ m ∧ min m 26 ≤ ys.length → Pot H' p (c + 200) → Q (.ref D) H'
def names1 : List Str := ["an", "ana", "a", "bo", "cy", "di", "em", "fo", "gu", "ha", "net", "book", "hear", "open", "shout"]
def names2 : List Str := ["ok", "word", "hand", "join", "step", "rest", "lane", "way", "abcdefgh", "abcdefgi", "zzzzzzzz"]
theorem names_nm : (names1 ++ names2).all isNm = true := by decide +kernel
theorem names_nd : (names1 ++ names2).Nodup := by decide +kernel
theorem ok_law_names {f c : Addr} {fd : FuncData} (B : Nb mg) (D : DefIs K "_law_names" "_law_names" st_law_names f fd (.ref c))
    (c_law_some : Callee P w K mg base CX0 4 "_law_some" ["pot", "things", "many"] (spSome K)) : FnG P w K mg base CX0 5 f fd ["pot", "many"] (spDraw K) := by
  refine D.ok0 (k := 4) sc_law_names (fun vs H Q E h => ?_) (fun A outer s H vs Q E g hr h => ?_)
  · obtain ⟨p, m, c, rfl, _⟩ := h
    rfl
  obtain ⟨p, m, c, rfl, hp, hc, q⟩ := h
  refine ⟨_,
      (pss_cons (ps_set (i := 2) sc_law_names.nd rfl (.inl rfl) (pe_lst (pa_cons pe_str (pa_cons pe_str (pa_cons pe_str (pa_cons pe_str (pa_cons pe_str (pa_cons pe_str (pa_cons pe_str (pa_cons pe_str (pa_cons pe_str (pa_cons pe_str (pa_cons pe_str (pa_cons pe_str (pa_cons pe_str (pa_cons pe_str (pa_cons pe_str pa_nil)))))))))))))))))
      (pss_cons (ps_set (i := 2) sc_law_names.nd rfl (.inl rfl) (pe_op op_cat (pv 2) (pe_lst (pa_cons pe_str (pa_cons pe_str (pa_cons pe_str (pa_cons pe_str (pa_cons pe_str (pa_cons pe_str (pa_cons pe_str (pa_cons pe_str (pa_cons pe_str (pa_cons pe_str (pa_cons pe_str pa_nil))))))))))))))
      (pss_one (ps_ret (pe_g c_law_some g (hr.mono (by decide)) pass0 (pa_cons (pv 0) (pa_cons (pv 2) (pa_cons (pv 1) pa_nil)))))))), ?_⟩
  have go : ∀ (C : Addr) (H1 : Hp), Grow [] H H1 → H1 C = some (.lst ((names1 ++ names2).map V.str)) → spSome K [.ref p, .ref C, .int m] H1 Q E0 := fun C H1 g1 e1 => by
    obtain ⟨a, b, k, e, r⟩ := hp
    refine ⟨p, C, m, c, names1 ++ names2, rfl, ⟨a, b, k, g1.lst (by simp) e, r⟩, hc, .inl (.inl e1), names_nm, by decide, fun D H2 ys rest fr g2 e2 pm lm pot => ?_⟩
    exact q D H2 ys (g1.fresh (by simp) fr) (g1.any.trans g2) e2 (bk_of names_nm names_nd (by decide) pm) ⟨len100 (by decide) pm, by rw [lm]; exact Nat.min_le_left _ _, by rw [lm, show (names1 ++ names2).length = 26 from rfl]; omega⟩ pot
  refine ⟨by show 15 ≤ sizeLine; decide, fun A1 n1 => ⟨.ref A1, rfl, by show 11 ≤ sizeLine; decide, fun A2 n2 => ?_⟩⟩
  have e1 : upd (upd H A1 (.lst (names1.map V.str))) A2 (.lst (names2.map V.str)) A1 = some (.lst (names1.map V.str)) := by
    rw [upd_ne (ne_of_none upd_same n2)]
    exact upd_same
  refine ⟨A1, A2, _, _, rfl, rfl, e1, upd_same, by decide, fun C nC => ?_⟩
  exact ⟨.ref p, rfl, .ref C, rfl, .int m, rfl, go C _ (((grow_new n1).new n2).new nC) upd_same⟩
end

/-! ### a word that spreads over a tree: hands by number, each but the first beside an earlier one -/
structure Up (n : Nat) (par : Nat → Nat) : Prop where
  lt : ∀ i, 0 < i → i < n → par i < i
def Beside (n : Nat) (par : Nat → Nat) (u v : Nat) : Prop := u < n ∧ v < n ∧ ((0 < v ∧ u = par v) ∨ (0 < u ∧ v = par u))
theorem Beside.symm {n : Nat} {par : Nat → Nat} {u v : Nat} (h : Beside n par u v) : Beside n par v u := ⟨h.2.1, h.1, h.2.2.symm⟩
theorem Beside.ne {n : Nat} {par : Nat → Nat} (U : Up n par) {u v : Nat} (h : Beside n par u v) : u ≠ v := fun e => by
  obtain ⟨h1, h2, h3⟩ := h
  rcases h3 with ⟨h0, e2⟩ | ⟨h0, e2⟩
  · have := U.lt v h0 h2
    omega
  · have := U.lt u h0 h1
    omega
/-- those who heard it: one at the top, each other beside one who heard it earlier up -/
def Heard (n : Nat) (par : Nat → Nat) (S : Nat → Prop) : Prop := ∃ t, S t ∧ (∀ s, S s → s < n) ∧ ∀ s, S s → s = t ∨ (0 < s ∧ S (par s))
theorem Heard.one {n : Nat} {par : Nat → Nat} {m : Nat} (h : m < n) : Heard n par (fun x => x = m) := ⟨m, rfl, fun s e => by rw [e]; exact h, fun s e => .inl e⟩
theorem Heard.top {n : Nat} {par : Nat → Nat} {S : Nat → Prop} (U : Up n par) {t : Nat} (hn : ∀ s, S s → s < n) (h : ∀ s, S s → s = t ∨ (0 < s ∧ S (par s))) : ∀ s, S s → t ≤ s := by
  intro s
  induction s using Nat.strongRecOn with
  | _ s ih =>
    intro hs
    rcases h s hs with e | ⟨h0, hp⟩
    · omega
    · have := U.lt s h0 (hn s hs)
      have := ih _ this hp
      omega
/-- of those beside one who has not heard it, one at most has -/
theorem Heard.one_way {n : Nat} {par : Nat → Nat} {S : Nat → Prop} (U : Up n par) (H : Heard n par S) {u u2 v : Nat} (hv : ¬ S v) (hu : S u) (hu2 : S u2) (b : Beside n par u v) (b2 : Beside n par u2 v) : u = u2 := by
  obtain ⟨t, ht, hn, h⟩ := H
  have top := Heard.top U hn h
  have child : ∀ {x : Nat}, S x → 0 < x → v = par x → x = t := fun {x} hx h0 e => by
    rcases h x hx with e2 | ⟨_, hp⟩
    · exact e2
    · rw [← e] at hp
      exact absurd hp hv
  obtain ⟨b1, bv, b3⟩ := b
  obtain ⟨c1, _, c3⟩ := b2
  rcases b3 with ⟨v0, e1⟩ | ⟨u0, e1⟩
  · rcases c3 with ⟨_, e2⟩ | ⟨w0, e2⟩
    · rw [e1, e2]
    · have e3 := child hu2 w0 e2
      have h1 := U.lt v v0 bv
      have h2 := U.lt u2 w0 c1
      have h3 := top u hu
      omega
  · have e3 := child hu u0 e1
    rcases c3 with ⟨v0, e2⟩ | ⟨w0, e2⟩
    · have h1 := U.lt v v0 bv
      have h2 := U.lt u u0 b1
      have h3 := top u2 hu2
      omega
    · rw [e3, child hu2 w0 e2]
/-- one more hears it -/
theorem Heard.more {n : Nat} {par : Nat → Nat} {S : Nat → Prop} (H : Heard n par S) {u v : Nat} (hu : S u) (hv : ¬ S v) (b : Beside n par u v) : Heard n par (fun x => S x ∨ x = v) := by
  obtain ⟨t, ht, hn, h⟩ := H
  obtain ⟨b1, bv, b3⟩ := b
  have hn2 : ∀ s, S s ∨ s = v → s < n := fun s hs => hs.elim (hn s) fun e => by rw [e]; exact bv
  rcases b3 with ⟨v0, e1⟩ | ⟨u0, e1⟩
  · refine ⟨t, .inl ht, hn2, fun s hs => ?_⟩
    rcases hs with hs | rfl
    · rcases h s hs with e | ⟨h0, hp⟩
      · exact .inl e
      · exact .inr ⟨h0, .inl hp⟩
    · exact .inr ⟨v0, .inl (by rw [← e1]; exact hu)⟩
  · have eu : u = t := by
      rcases h u hu with e2 | ⟨_, hp⟩
      · exact e2
      · rw [← e1] at hp
        exact absurd hp hv
    refine ⟨v, .inr rfl, hn2, fun s hs => ?_⟩
    rcases hs with hs | rfl
    · rcases h s hs with e | ⟨h0, hp⟩
      · rw [e, ← eu]
        exact .inr ⟨u0, .inr e1.symm⟩
      · exact .inr ⟨h0, .inl hp⟩
    · exact .inl rfl
/-- as long as not all have heard it, somebody beside one who has is left -/
theorem Heard.left {n : Nat} {par : Nat → Nat} {S : Nat → Prop} (U : Up n par) (H : Heard n par S) {x : Nat} (hx : x < n) (hs : ¬ S x) : ∃ u v, S u ∧ ¬ S v ∧ Beside n par u v := by
  obtain ⟨t, ht, hn, h⟩ := H
  have top := Heard.top U hn h
  by_cases t0 : t = 0
  · have : ∀ y, y < n → ¬ S y → ∃ u v, S u ∧ ¬ S v ∧ Beside n par u v := by
      intro y
      induction y using Nat.strongRecOn with
      | _ y ih =>
        intro hy sy
        have y0 : 0 < y := Nat.pos_of_ne_zero fun e => sy (by rw [e, ← t0]; exact ht)
        have lt := U.lt y y0 hy
        by_cases sp : S (par y)
        · exact ⟨par y, y, sp, sy, by omega, hy, .inl ⟨y0, rfl⟩⟩
        · exact ih _ lt (by omega) sp
    exact this x hx hs
  · have t1 : 0 < t := by omega
    have tn := hn t ht
    have lt := U.lt t t1 tn
    refine ⟨t, par t, ht, fun z => ?_, tn, by omega, .inr ⟨t1, rfl⟩⟩
    have := top _ z
    omega

/-! ### many words, shouted and carried over a tree -/
structure Gone (n : Nat) (par : Nat → Nat) (words left : List Str) (bk : Nat → List Str) (ln : Nat → Nat → List Str) : Prop where
  nd : words.Nodup
  lsub : ∀ x ∈ left, x ∈ words
  lnd : left.Nodup
  new : ∀ x ∈ left, ∀ h, x ∉ bk h
  heard : ∀ x ∈ words, x ∉ left → Heard n par (fun h => x ∈ bk h)
  bsub : ∀ h, ∀ x ∈ bk h, x ∈ words ∧ h < n
  bnd : ∀ h, (bk h).Nodup
  lane : ∀ u v x, x ∈ ln u v ↔ Beside n par u v ∧ x ∈ bk u ∧ x ∉ bk v
  lanend : ∀ u v, (ln u v).Nodup
theorem Gone.zero {n : Nat} {par : Nat → Nat} {words left : List Str} (nd : words.Nodup) (p : left.Perm words) : Gone n par words left (fun _ => []) (fun _ _ => []) :=
  ⟨nd, fun x hx => p.mem_iff.mp hx, p.nodup_iff.mpr nd, fun x _ h hx => (by cases hx), fun x hx hl => absurd (p.mem_iff.mpr hx) hl, fun h x hx => (by cases hx), fun _ => List.Pairwise.nil, fun u v x => ⟨fun hx => (by cases hx), fun hx => (by cases hx.2.1)⟩, fun _ _ => List.Pairwise.nil⟩
def putBk (bk : Nat → List Str) (v : Nat) (x : Str) : Nat → List Str := fun h => if h = v then bk h ++ [x] else bk h
open Classical in
/-- from v on all lanes, but that to `but`; what lay first on the lane (but, v) is gone -/
noncomputable def putLn (n : Nat) (par : Nat → Nat) (ln : Nat → Nat → List Str) (v : Nat) (x : Str) (but : Option Nat) : Nat → Nat → List Str := fun a b =>
  if a = v ∧ Beside n par a b ∧ some b ≠ but then ln a b ++ [x] else if some a = but ∧ b = v then (ln a b).tail else ln a b
theorem mem_putBk {bk : Nat → List Str} {v h : Nat} {x y : Str} : y ∈ putBk bk v x h ↔ y ∈ bk h ∨ (h = v ∧ y = x) := by
  unfold putBk
  by_cases e : h = v
  · rw [if_pos e, List.mem_append, List.mem_singleton]
    exact ⟨fun z => z.imp id fun z => ⟨e, z⟩, fun z => z.imp id fun z => z.2⟩
  · rw [if_neg e]
    exact ⟨.inl, fun z => z.elim id fun z => absurd z.1 e⟩
open Classical in
theorem Gone.shout {n : Nat} {par : Nat → Nat} {words left : List Str} {bk : Nat → List Str} {ln : Nat → Nat → List Str} (U : Up n par) (G : Gone n par words left bk ln) {x : Str} {rest : List Str} {v : Nat} (p : (x :: rest).Perm left) (hv : v < n) :
    Gone n par words rest (putBk bk v x) (putLn n par ln v x none) := by
  have xl : x ∈ left := p.mem_iff.mp List.mem_cons_self
  have rn := List.nodup_cons.mp (p.nodup_iff.mpr G.lnd)
  have rsub : ∀ y ∈ rest, y ∈ left := fun y hy => p.mem_iff.mp (List.mem_cons_of_mem _ hy)
  have fresh := G.new x xl
  refine ⟨G.nd, fun y hy => G.lsub y (rsub y hy), rn.2, fun y hy h z => ?_, fun y hy hn => ?_, fun h y hy => ?_, fun h => ?_, fun a b y => ?_, fun a b => ?_⟩
  · rcases mem_putBk.mp z with z | ⟨_, e⟩
    · exact G.new y (rsub y hy) h z
    · rw [e] at hy
      exact rn.1 hy
  · by_cases e : y = x
    · subst e
      have : (fun h => y ∈ putBk bk v y h) = fun h => h = v := funext fun h => propext ⟨fun z => (mem_putBk.mp z).elim (fun z => absurd z (fresh h)) And.left, fun z => mem_putBk.mpr (.inr ⟨z, rfl⟩)⟩
      rw [this]
      exact Heard.one hv
    · have := G.heard y hy fun z => (List.mem_cons.mp (p.mem_iff.mpr z)).elim e hn
      have e2 : (fun h => y ∈ putBk bk v x h) = fun h => y ∈ bk h := funext fun h => propext ⟨fun z => (mem_putBk.mp z).elim id fun z => absurd z.2 e, fun z => mem_putBk.mpr (.inl z)⟩
      rw [e2]
      exact this
  · rcases mem_putBk.mp hy with z | ⟨e1, e2⟩
    · exact G.bsub h y z
    · rw [e1, e2]
      exact ⟨G.lsub x xl, hv⟩
  · unfold putBk
    split
    · exact List.nodup_append.mpr ⟨G.bnd h, List.nodup_cons.mpr ⟨(by simp), List.Pairwise.nil⟩, fun a ha b hb z => fresh h (by rw [← List.mem_singleton.mp hb, ← z]; exact ha)⟩
    · exact G.bnd h
  · have nx : ∀ a b, x ∉ ln a b := fun a b z => fresh a ((G.lane a b x).mp z).2.1
    rw [mem_putBk, mem_putBk]
    unfold putLn
    by_cases c : a = v ∧ Beside n par a b ∧ some b ≠ none
    · rw [if_pos c, List.mem_append, List.mem_singleton, G.lane]
      have ab := c.2.1.ne U
      constructor
      · rintro (⟨h1, h2, h3⟩ | rfl)
        · exact ⟨h1, .inl h2, fun z => z.elim h3 fun z => fresh a (by rw [← z.2]; exact h2)⟩
        · exact ⟨c.2.1, .inr ⟨c.1, rfl⟩, fun z => z.elim (fresh b) fun z => ab (by rw [c.1, z.1])⟩
      · rintro ⟨h1, h2, h3⟩
        rcases h2 with h2 | ⟨_, e⟩
        · exact .inl ⟨h1, h2, fun z => h3 (.inl z)⟩
        · exact .inr e
    · rw [if_neg c, if_neg (by rintro ⟨e, _⟩; cases e), G.lane]
      constructor
      · rintro ⟨h1, h2, h3⟩
        exact ⟨h1, .inl h2, fun z => z.elim h3 fun z => fresh a (by rw [← z.2]; exact h2)⟩
      · rintro ⟨h1, h2, h3⟩
        rcases h2 with h2 | ⟨e, _⟩
        · exact ⟨h1, h2, fun z => h3 (.inl z)⟩
        · exact absurd ⟨e, h1, by simp⟩ c
  · unfold putLn
    split
    · refine List.nodup_append.mpr ⟨G.lanend a b, List.nodup_cons.mpr ⟨(by simp), List.Pairwise.nil⟩, fun y hy z hz e => ?_⟩
      rw [e, List.mem_singleton.mp hz] at hy
      exact fresh a ((G.lane a b x).mp hy).2.1
    · rw [if_neg (by rintro ⟨e, _⟩; cases e)]
      exact G.lanend a b
open Classical in
theorem Gone.hear {n : Nat} {par : Nat → Nat} {words left : List Str} {bk : Nat → List Str} {ln : Nat → Nat → List Str} (U : Up n par) (G : Gone n par words left bk ln) {x : Str} {r : List Str} {u v : Nat} (e : ln u v = x :: r) :
    Gone n par words left (putBk bk v x) (putLn n par ln v x (some u)) := by
  obtain ⟨b, hu, hv⟩ := (G.lane u v x).mp (by rw [e]; exact List.mem_cons_self)
  have xw := (G.bsub u x hu).1
  have xl : x ∉ left := fun z => G.new x z u hu
  have uv := b.ne U
  have H := G.heard x xw xl
  have way : ∀ {o : Nat}, x ∈ bk o → Beside n par o v → o = u := fun ho bo => (H.one_way U hv hu ho b bo).symm
  have rn : x ∉ r := by
    have := G.lanend u v
    rw [e] at this
    exact (List.nodup_cons.mp this).1
  refine ⟨G.nd, G.lsub, G.lnd, fun y hy h z => ?_, fun y hy hn => ?_, fun h y hy => ?_, fun h => ?_, fun a c y => ?_, fun a c => ?_⟩
  · rcases mem_putBk.mp z with z | ⟨_, e2⟩
    · exact G.new y hy h z
    · rw [e2] at hy
      exact xl hy
  · have h0 := G.heard y hy hn
    by_cases e2 : y = x
    · subst e2
      have : (fun h => y ∈ putBk bk v y h) = fun h => y ∈ bk h ∨ h = v := funext fun h => propext ⟨fun z => (mem_putBk.mp z).imp id And.left, fun z => mem_putBk.mpr (z.imp id fun z => ⟨z, rfl⟩)⟩
      rw [this]
      exact h0.more hu hv b
    · have : (fun h => y ∈ putBk bk v x h) = fun h => y ∈ bk h := funext fun h => propext ⟨fun z => (mem_putBk.mp z).elim id fun z => absurd z.2 e2, fun z => mem_putBk.mpr (.inl z)⟩
      rw [this]
      exact h0
  · rcases mem_putBk.mp hy with z | ⟨e1, e2⟩
    · exact G.bsub h y z
    · rw [e1, e2]
      exact ⟨xw, b.2.1⟩
  · unfold putBk
    by_cases c : h = v
    · rw [if_pos c]
      exact List.nodup_append.mpr ⟨G.bnd h, List.nodup_cons.mpr ⟨(by simp), List.Pairwise.nil⟩, fun a ha y hy z => hv (by rw [← c, ← List.mem_singleton.mp hy, ← z]; exact ha)⟩
    · rw [if_neg c]
      exact G.bnd h
  · rw [mem_putBk, mem_putBk]
    unfold putLn
    by_cases c1 : a = v ∧ Beside n par a c ∧ some c ≠ some u
    · obtain ⟨rfl, bc, cu⟩ := c1
      rw [if_pos ⟨rfl, bc, cu⟩, List.mem_append, List.mem_singleton, G.lane]
      have ac := bc.ne U
      constructor
      · rintro (⟨h1, h2, h3⟩ | rfl)
        · exact ⟨h1, .inl h2, fun z => z.elim h3 fun z => ac z.1.symm⟩
        · refine ⟨bc, .inr ⟨rfl, rfl⟩, fun z => z.elim (fun z => ?_) fun z => ac z.1.symm⟩
          exact cu (congrArg some (way z bc.symm))
      · rintro ⟨h1, h2, h3⟩
        rcases h2 with h2 | ⟨_, e2⟩
        · exact .inl ⟨h1, h2, fun z => h3 (.inl z)⟩
        · exact .inr e2
    · rw [if_neg c1]
      by_cases c2 : some a = some u ∧ c = v
      · obtain ⟨ea, rfl⟩ := c2
        cases ea
        rw [if_pos ⟨rfl, rfl⟩, e, List.tail_cons]
        have lane := G.lane u c y
        rw [e, List.mem_cons] at lane
        constructor
        · intro hy
          obtain ⟨h1, h2, h3⟩ := lane.mp (.inr hy)
          exact ⟨h1, .inl h2, fun z => z.elim h3 fun z => rn (by rw [← z.2]; exact hy)⟩
        · rintro ⟨h1, h2, h3⟩
          have h2' : y ∈ bk u := h2.elim id fun z => absurd z.1 uv
          rcases lane.mpr ⟨h1, h2', fun z => h3 (.inl z)⟩ with e2 | hy
          · exact absurd (.inr ⟨rfl, e2⟩) h3
          · exact hy
      · rw [if_neg c2, G.lane]
        constructor
        · rintro ⟨h1, h2, h3⟩
          refine ⟨h1, .inl h2, fun z => z.elim h3 fun z => ?_⟩
          obtain ⟨rfl, rfl⟩ := z
          exact c2 ⟨congrArg some (way h2 h1), rfl⟩
        · rintro ⟨h1, h2, h3⟩
          rcases h2 with h2 | ⟨rfl, rfl⟩
          · exact ⟨h1, h2, fun z => h3 (.inl z)⟩
          · exfalso
            by_cases cu : c = u
            · rw [cu] at h3
              exact h3 (.inl hu)
            · exact c1 ⟨rfl, h1, fun z => cu (Option.some.inj z)⟩
  · unfold putLn
    split
    · rename_i c1
      refine List.nodup_append.mpr ⟨G.lanend a c, List.nodup_cons.mpr ⟨(by simp), List.Pairwise.nil⟩, fun y hy z hz e2 => ?_⟩
      rw [e2, List.mem_singleton.mp hz] at hy
      have := ((G.lane a c x).mp hy).2.1
      rw [c1.1] at this
      exact hv this
    · split
      · exact (G.lanend a c).sublist (List.tail_sublist _)
      · exact G.lanend a c
/-- as long as some book lacks a word, one can be shouted or heard -/
theorem Gone.goes {n : Nat} {par : Nat → Nat} {words left : List Str} {bk : Nat → List Str} {ln : Nat → Nat → List Str} (U : Up n par) (G : Gone n par words left bk ln) {x : Str} {h : Nat} (hx : x ∈ words) (hn : h < n) (nx : x ∉ bk h) : left ≠ [] ∨ ∃ u v, Beside n par u v ∧ ln u v ≠ [] := by
  by_cases c : x ∈ left
  · exact .inl fun z => by rw [z] at c; cases c
  · obtain ⟨u, v, hu, hv, b⟩ := (G.heard x hx c).left U hn nx
    refine .inr ⟨u, v, b, fun z => ?_⟩
    have := (G.lane u v x).mpr ⟨b, hu, hv⟩
    rw [z] at this
    cases this
/-- how much is heard -/
def heardN (n : Nat) (bk : Nat → List Str) : Nat := ((List.range n).map fun h => (bk h).length).sum
theorem heardN_put {n : Nat} {bk : Nat → List Str} {v : Nat} (x : Str) (hv : v < n) : heardN n (putBk bk v x) = heardN n bk + 1 := by
  unfold heardN
  induction n with
  | zero => omega
  | succ n ih =>
    rw [List.range_succ, List.map_append, List.map_append, List.sum_append, List.sum_append]
    show _ + ((putBk bk v x n).length + 0) = _ + ((bk n).length + 0) + 1
    by_cases c : v = n
    · subst c
      have e1 : (List.range v).map (fun h => (putBk bk v x h).length) = (List.range v).map fun h => (bk h).length := List.map_congr_left fun h hh => by
        have := List.mem_range.mp hh
        unfold putBk
        rw [if_neg (by omega)]
      have e2 : (putBk bk v x v).length = (bk v).length + 1 := by
        unfold putBk
        rw [if_pos rfl, List.length_append]
        rfl
      rw [e1, e2]
      omega
    · have := ih (by omega)
      have e2 : (putBk bk v x n).length = (bk n).length := by
        unfold putBk
        rw [if_neg (fun z => c z.symm)]
      rw [this, e2]
      omega
theorem Gone.len {n : Nat} {par : Nat → Nat} {words left : List Str} {bk : Nat → List Str} {ln : Nat → Nat → List Str} (G : Gone n par words left bk ln) (h : Nat) : (bk h).length ≤ words.length := (G.bnd h).length_le_of_subset fun x hx => (G.bsub h x hx).1
theorem sum_snoc (f : Nat → Nat) (n : Nat) : ((List.range (n + 1)).map f).sum = ((List.range n).map f).sum + f n := by
  rw [List.range_succ, List.map_append, List.sum_append]
  rfl
theorem sum_up {f : Nat → Nat} {m : Nat} (le : ∀ h, f h ≤ m) : ∀ n : Nat, ((List.range n).map f).sum ≤ n * m
  | 0 => Nat.zero_le _
  | n + 1 => by
    rw [sum_snoc, Nat.succ_mul]
    have := sum_up le n
    have := le n
    omega
theorem sum_full {f : Nat → Nat} {m : Nat} (le : ∀ h, f h ≤ m) : ∀ {n : Nat}, ((List.range n).map f).sum = n * m → ∀ h, h < n → f h = m
  | 0, _, h, hh => by omega
  | n + 1, e, h, hh => by
    rw [sum_snoc, Nat.succ_mul] at e
    have up := sum_up le n
    have l1 := le n
    by_cases c : h = n
    · rw [c]
      omega
    · exact sum_full le (n := n) (by omega) h (by omega)
/-- after so many turns as there are hands times words, each book holds all words -/
theorem Gone.full {n : Nat} {par : Nat → Nat} {words left : List Str} {bk : Nat → List Str} {ln : Nat → Nat → List Str} (G : Gone n par words left bk ln) (e : heardN n bk = n * words.length) {h : Nat} (hh : h < n) : (bk h).Perm words := by
  have l : (bk h).length = words.length := sum_full (f := fun h => (bk h).length) (fun h => G.len h) e h hh
  refine (List.perm_ext_iff_of_nodup (G.bnd h) G.nd).mpr fun x => ⟨fun hx => (G.bsub h x hx).1, fun hx => ?_⟩
  exact Classical.byContradiction fun z => by
    have : (x :: bk h).length ≤ words.length := (List.nodup_cons.mpr ⟨z, G.bnd h⟩).length_le_of_subset fun y hy => by
      rcases List.mem_cons.mp hy with rfl | hy
      · exact hx
      · exact (G.bsub h y hy).1
    rw [List.length_cons] at this
    omega
/-- less is heard than that: some book lacks a word -/
theorem Gone.lacks {n : Nat} {par : Nat → Nat} {words left : List Str} {bk : Nat → List Str} {ln : Nat → Nat → List Str} (G : Gone n par words left bk ln) (e : heardN n bk < n * words.length) : ∃ x ∈ words, ∃ h, h < n ∧ x ∉ bk h := by
  refine Classical.byContradiction fun z => ?_
  have all : ∀ h, h < n → words.length ≤ (bk h).length := fun h hh => G.nd.length_le_of_subset fun x hx => Classical.byContradiction fun c => z ⟨x, hx, h, hh, c⟩
  have : ∀ k, k ≤ n → k * words.length ≤ ((List.range k).map fun h => (bk h).length).sum := by
    intro k
    induction k with
    | zero => intro _; rw [Nat.zero_mul]; exact Nat.zero_le _
    | succ k ih =>
      intro hk
      have h1 := ih (by omega)
      have h2 := all k (by omega)
      rw [List.range_succ, List.map_append, List.sum_append, Nat.succ_mul]
      show _ ≤ _ + ((bk k).length + 0)
      omega
  have := this n (Nat.le_refl _)
  unfold heardN at e
  omega

end Lw

namespace Lw
open PySem PySem.Spec PyProof.Rows L2 GxR Gx
/-! ### dicts by places -/
def kvR (n : Nat) (nm : Nat → Str) (f : Nat → V) : List (Key × V) := (List.range n).map fun i => (Sum.inr (nm i), f i)
theorem kvR_len (n : Nat) (nm : Nat → Str) (f : Nat → V) : (kvR n nm f).length = n := by unfold kvR; rw [List.length_map, List.length_range]
theorem kvR_keys (n : Nat) (nm : Nat → Str) (f : Nat → V) : (kvR n nm f).map Prod.fst = ((List.range n).map nm).map Sum.inr := by
  unfold kvR
  rw [List.map_map, List.map_map]
  rfl
def nmOf (hands : List Str) (i : Nat) : Str := hands.getD i Str.empty
theorem nmOf_at {hands : List Str} {i : Nat} {x : Str} (h : hands[i]? = some x) : nmOf hands i = x := by
  unfold nmOf
  rw [List.getD, h]
  rfl
theorem nmOf_get {hands : List Str} {i : Nat} (h : i < hands.length) : hands[i]? = some (nmOf hands i) := by
  rw [List.getElem?_eq_getElem h, nmOf_at (List.getElem?_eq_getElem h)]
theorem nmOf_map (hands : List Str) : (List.range hands.length).map (nmOf hands) = hands := by
  refine List.ext_getElem? fun i => ?_
  rw [List.getElem?_map]
  by_cases h : i < hands.length
  · rw [List.getElem?_range h, nmOf_get h]; rfl
  · rw [List.getElem?_eq_none (by simp; omega), List.getElem?_eq_none (by omega)]; rfl
theorem nmOf_mem {hands : List Str} {i : Nat} (h : i < hands.length) : nmOf hands i ∈ hands := List.mem_of_getElem? (nmOf_get h)
theorem nmOf_inj {hands : List Str} (nd : hands.Nodup) {i j : Nat} (hi : i < hands.length) (hj : j < hands.length) (e : nmOf hands i = nmOf hands j) : i = j :=
  (List.getElem?_inj hi nd).mp (by rw [nmOf_get hi, nmOf_get hj, e])
theorem inr_nodup {l : List Str} (nd : l.Nodup) : (l.map (Sum.inr : Str → Key)).Nodup := List.pairwise_map.mpr (nd.imp fun q e => q (Sum.inr.inj e))
theorem kvR_nd {hands : List Str} (nd : hands.Nodup) (f : Nat → V) : ((kvR hands.length (nmOf hands) f).map Prod.fst).Nodup := by
  rw [kvR_keys, nmOf_map]
  exact inr_nodup nd
theorem kvR_val {hands : List Str} (nd : hands.Nodup) (f : Nat → V) {i : Nat} (hi : i < hands.length) : valV (kvR hands.length (nmOf hands) f) (.inr (nmOf hands i)) = some (f i) :=
  valV_some (j := i) (kvR_nd nd f) (by unfold kvR; rw [List.getElem?_map, List.getElem?_range hi]; rfl)
theorem kvR_take (n : Nat) (nm : Nat → Str) (f : Nat → V) : kvR (n + 1) nm f = kvR n nm f ++ [(Sum.inr (nm n), f n)] := by
  unfold kvR
  rw [List.range_succ, List.map_append]
  rfl
def setAt {α : Type} (f : Nat → α) (j : Nat) (x : α) : Nat → α := fun i => if i = j then x else f i
theorem setAt_eq {α : Type} {f : Nat → α} {j : Nat} {x : α} : setAt f j x j = x := if_pos rfl
theorem setAt_ne {α : Type} {f : Nat → α} {i j : Nat} {x : α} (h : i ≠ j) : setAt f j x i = f i := if_neg h
theorem kvR_set (nm : Nat → Str) (ad : Nat → Addr) (j : Nat) (E : Addr) : (kvR (j + 1) nm fun i => V.ref (setAt ad j E i)) = (kvR j nm fun i => V.ref (ad i)) ++ [(Sum.inr (nm j), V.ref E)] := by
  rw [kvR_take, setAt_eq]
  congr 1
  unfold kvR
  refine List.map_congr_left fun i hi => ?_
  show (Sum.inr (nm i), V.ref (setAt ad j E i)) = _
  rw [setAt_ne (by have := List.mem_range.mp hi; omega)]
theorem merge_all : ∀ (kvs acc : List (Key × V)), ((acc ++ kvs).map Prod.fst).Nodup → mergeK acc kvs = acc ++ kvs
  | [], acc, _ => (List.append_nil acc).symm
  | kv :: kvs, acc, nd => by
    have e : putK acc kv.1 kv.2 = acc ++ [kv] := by
      rw [putK_new _ (valV_none fun z => ?_)]
      rw [List.map_append, List.map_cons] at nd
      exact (List.nodup_append.mp nd).2.2 _ z _ List.mem_cons_self rfl
    show mergeK (putK acc kv.1 kv.2) kvs = _
    rw [e, merge_all kvs (acc ++ [kv]) (by rw [List.append_assoc]; exact nd), List.append_assoc]
    rfl
theorem merge_nd {kvs : List (Key × V)} (nd : (kvs.map Prod.fst).Nodup) : mergeK [] kvs = kvs := merge_all kvs [] nd
/-- a list of pairs, each a tuple -/
def TupsAt (H : Hp) (ps : List Addr) (kvs : List (Key × V)) : Prop := Paired (fun a kv => H a = some (.tup [kV kv.1, kv.2])) ps kvs
theorem paired_map {α β : Type} {F G : α → β → Prop} (h : ∀ a b, F a b → G a b) : ∀ {xs : List α} {ys : List β}, Paired F xs ys → Paired G xs ys
  | _, _, .nil => .nil
  | _, _, .cons r t => .cons (h _ _ r) (paired_map h t)
theorem paired_snoc {α β : Type} {F : α → β → Prop} {a : α} {b : β} (h : F a b) : ∀ {xs : List α} {ys : List β}, Paired F xs ys → Paired F (xs ++ [a]) (ys ++ [b])
  | _, _, .nil => .cons h .nil
  | _, _, .cons r t => .cons r (paired_snoc h t)
theorem TupsAt.grow {ex : List Addr} {H H' : Hp} {ps : List Addr} {kvs : List (Key × V)} (h : TupsAt H ps kvs) (g : Grow ex H H') (l : Lists ex H) : TupsAt H' ps kvs := paired_map (fun a kv e => g.tup (fun z => l a z _ e) e) h
theorem TupsAt.snoc {H : Hp} {ps : List Addr} {kvs : List (Key × V)} {T : Addr} {k : Key} {v : V} (h : TupsAt H ps kvs) (e : H T = some (.tup [kV k, v])) : TupsAt H (ps ++ [T]) (kvs ++ [(k, v)]) :=
  @paired_snoc Addr (Key × V) (fun a kv => H a = some (HO.tup [kV kv.1, kv.2])) T (k, v) e ps kvs h
theorem TupsAt.len {H : Hp} {ps : List Addr} {kvs : List (Key × V)} (h : TupsAt H ps kvs) : ps.length = kvs.length := Paired.length h
theorem Pot.other {H : Hp} {p D : Addr} {c : Int} (h : Pot H p c) (f : Fresh H D) : D ≠ p := by
  obtain ⟨a, b, k, e, _⟩ := h
  exact (f.ne e fun ps z => by cases z).symm
theorem Pot.lists {H : Hp} {p : Addr} {c : Int} (h : Pot H p c) : Lists [p] H := by
  obtain ⟨a, b, k, e, _⟩ := h
  exact lists_one e
theorem pot_grow {H H' : Hp} {p : Addr} {c : Int} (h : Pot H p c) (g : Grow [] H H') : Pot H' p c := by
  obtain ⟨a, b, k, e, r⟩ := h
  exact ⟨a, b, k, g.lst (by simp) e, r⟩
/-- a web, by the neighbours of each hand -/
structure Near (hands : List Str) (nbs : Nat → List Nat) (par : Nat → Nat) : Prop where
  bk : Bk hands
  pos : 0 < hands.length
  most : hands.length ≤ 14
  up : Up hands.length par
  nb : ∀ i, i < hands.length → (nbs i).Nodup ∧ ∀ j, j ∈ nbs i ↔ Beside hands.length par i j
def NearAt (H : Hp) (D : Addr) (hands : List Str) (ad : Nat → Addr) (nbs : Nat → List Nat) : Prop := H D = some (.dK (kvR hands.length (nmOf hands) fun i => .ref (ad i))) ∧ ∀ i, i < hands.length → H (ad i) = some (.lst ((nbs i).map fun j => V.str (nmOf hands j)))
theorem NearAt.grow {ex : List Addr} {H H' : Hp} {D : Addr} {hands : List Str} {ad : Nat → Addr} {nbs : Nat → List Nat} (h : NearAt H D hands ad nbs) (g : Grow ex H H') (n1 : D ∉ ex) (n2 : ∀ i, i < hands.length → ad i ∉ ex) : NearAt H' D hands ad nbs :=
  ⟨Grow.dK g n1 h.1, fun i hi => g.lst (n2 i hi) (h.2 i hi)⟩
/-- what is no tuple of the pot's kind stays while the pot changes -/
theorem pot_ne {H : Hp} {p a : Addr} {c : Int} (h : Pot H p c) {zs : List Str} (e : H a = some (.lst (zs.map V.str))) : a ≠ p := fun z => by
  obtain ⟨x, y, k, ep, _⟩ := h
  rw [z, ep] at e
  cases zs with
  | nil => cases e
  | cons z r => cases e
theorem up_next {t o : Nat} {par : Nat → Nat} (U : Up (t + 1) par) (ho : o < t + 1) : Up (t + 1 + 1) (setAt par (t + 1) o) := ⟨fun i h0 h1 => by
  by_cases c : i = t + 1
  · rw [c, setAt_eq]; omega
  · rw [setAt_ne c]; exact U.lt i h0 (by omega)⟩
theorem beside_next {t o i j : Nat} {par : Nat → Nat} (U : Up (t + 1) par) (ho : o < t + 1) : Beside (t + 1 + 1) (setAt par (t + 1) o) i j ↔ Beside (t + 1) par i j ∨ (i = t + 1 ∧ j = o) ∨ (i = o ∧ j = t + 1) := by
  unfold Beside
  constructor
  · rintro ⟨h1, h2, h3⟩
    rcases h3 with ⟨h3, h4⟩ | ⟨h3, h4⟩
    · by_cases c : j = t + 1
      · rw [c, setAt_eq] at h4
        exact .inr (.inr ⟨h4, c⟩)
      · rw [setAt_ne c] at h4
        have := U.lt j h3 (by omega)
        exact .inl ⟨by omega, by omega, .inl ⟨h3, h4⟩⟩
    · by_cases c : i = t + 1
      · rw [c, setAt_eq] at h4
        exact .inr (.inl ⟨c, h4⟩)
      · rw [setAt_ne c] at h4
        have := U.lt i h3 (by omega)
        exact .inl ⟨by omega, by omega, .inr ⟨h3, h4⟩⟩
  · rintro (⟨h1, h2, h3⟩ | ⟨h1, h2⟩ | ⟨h1, h2⟩)
    · refine ⟨by omega, by omega, ?_⟩
      rw [setAt_ne (by omega : j ≠ t + 1), setAt_ne (by omega : i ≠ t + 1)]
      exact h3
    · subst h1 h2
      exact ⟨by omega, by omega, .inr ⟨by omega, by rw [setAt_eq]⟩⟩
    · subst h1 h2
      exact ⟨by omega, by omega, .inl ⟨by omega, by rw [setAt_eq]⟩⟩
/-- the neighbours when a hand more has come -/
def nbNext (nbs : Nat → List Nat) (k o : Nat) : Nat → List Nat := setAt (setAt nbs k (nbs k ++ [o])) o (nbs o ++ [k])
theorem nbNext_ok {t o n : Nat} {par : Nat → Nat} {nbs : Nat → List Nat} (U : Up (t + 1) par) (ho : o < t + 1) (ht : t + 1 < n) (hb : ∀ i, i < n → (nbs i).Nodup ∧ ∀ j, j ∈ nbs i ↔ Beside (t + 1) par i j) :
    ∀ i, i < n → (nbNext nbs (t + 1) o i).Nodup ∧ ∀ j, j ∈ nbNext nbs (t + 1) o i ↔ Beside (t + 1 + 1) (setAt par (t + 1) o) i j := fun i hi => by
  have lt : ∀ i j, i < n → j ∈ nbs i → i < t + 1 ∧ j < t + 1 := fun i j hi h => by
    have := ((hb i hi).2 j).mp h
    exact ⟨this.1, this.2.1⟩
  unfold nbNext
  by_cases c : i = o
  · rw [c, setAt_eq]
    refine ⟨List.nodup_append.mpr ⟨(hb o (by omega)).1, by simp, fun a ha b hb' e => ?_⟩, fun j => ?_⟩
    · rw [List.mem_singleton] at hb'
      have := lt o a (by omega) ha
      omega
    · rw [beside_next U ho, List.mem_append, List.mem_singleton, (hb o (by omega)).2]
      constructor
      · rintro (h | h)
        · exact .inl h
        · exact .inr (.inr ⟨rfl, h⟩)
      · rintro (h | ⟨h, _⟩ | ⟨_, h⟩)
        · exact .inl h
        · omega
        · exact .inr h
  · rw [setAt_ne c]
    by_cases c2 : i = t + 1
    · rw [c2, setAt_eq]
      refine ⟨List.nodup_append.mpr ⟨(hb _ ht).1, by simp, fun a ha b hb' e => ?_⟩, fun j => ?_⟩
      · have := lt _ a ht ha
        omega
      · rw [beside_next U ho, List.mem_append, List.mem_singleton, (hb _ ht).2]
        constructor
        · rintro (h | h)
          · exact .inl h
          · exact .inr (.inl ⟨rfl, h⟩)
        · rintro (h | ⟨_, h⟩ | ⟨h, _⟩)
          · exact .inl h
          · exact .inr h
          · omega
    · rw [setAt_ne c2]
      refine ⟨(hb i hi).1, fun j => ?_⟩
      rw [beside_next U ho, (hb i hi).2]
      constructor
      · exact .inl
      · rintro (h | ⟨h, _⟩ | ⟨h, _⟩)
        · exact h
        · omega
        · omega

end Lw

namespace Lw
open PySem PySem.Spec PyProof.Rows L2 GxR Gx
section
variable {P : Program} {w : World} {K : PySem.W.Frag} {mg : Str → Option Value} {base : Heap}
/-! ### _law_web -/
def spWeb (K : PySem.W.Frag) : Sp := fun vs H Q _ => ∃ (p : Addr) (most : Nat) (c : Int), vs = [.ref p, .int most] ∧ 1 ≤ most ∧ most ≤ 14 ∧ Pot H p c ∧ c ≤ 2 ^ 19 ∧
  ∀ D H' hands ad nbs par, Fresh H D → Grow [p] H H' → NearAt H' D hands ad nbs → Near hands nbs par → Pot H' p (c + 1000) → Q (.ref D) H'
theorem ok_law_web {f c : Addr} {fd : FuncData} (B : Nb mg) (D : DefIs K "_law_web" "_law_web" st_law_web f fd (.ref c))
    (c_law_take : Callee P w K mg base CX0 3 "_law_take" ["pot", "many"] (spTake K)) (c_law_names : Callee P w K mg base CX0 5 "_law_names" ["pot", "many"] (spDraw K)) : FnG P w K mg base CX0 6 f fd ["pot", "most"] (spWeb K) := by
  refine D.ok0 (k := 5) sc_law_web (fun vs H Q E h => ?_) (fun A outer s H vs Q E g hr h => ?_)
  · obtain ⟨p, most, c, rfl, _⟩ := h
    rfl
  obtain ⟨p, most, c, rfl, h1, h14, pt, hc, q⟩ := h
  refine ⟨_,
      (pss_cons (ps_set (i := 2) sc_law_web.nd rfl (.inl rfl) (pe_g c_law_names g (hr.mono (by decide)) pass0 (pa_cons (pv 0) (pa_cons (pe_op op_add pe_int (pe_g c_law_take g (hr.mono (by decide)) pass0 (pa_cons (pv 0) (pa_cons (pv 1) pa_nil)))) pa_nil))))
      (pss_cons (ps_set (i := 3) sc_law_web.nd rfl (.inl rfl) (pe_g c_law_take g (hr.mono (by decide)) pass0 (pa_cons (pv 0) (pa_cons pe_int pa_nil))))
      (pss_cons (ps_set (i := 4) sc_law_web.nd rfl (.inl rfl) (pe_callTy (call_dictP rfl) rfl B.n_dict (by decide +kernel) (pa_cons (pe_lc (own := [("hand", 5)]) (tt := tYes) (g := (gName 5)) rfl sc_law_web.nd (pi_list (pv 2)) (blkOk_by (N := N_law_web) (sc := defScope st_law_web) (by decide +kernel)) (fun _ _ _ _ _ => (pg_name (i := 5) sc_law_web.nd rfl (.inl rfl))) (fun _ _ _ _ _ => pts_nil) (fun _ _ _ _ _ => pe_to (pe_tup (pa_cons (pv 5) (pa_cons (pe_lst pa_nil) pa_nil))))) pa_nil)))
      (pss_cons (ps_for PassesOwn.never rfl (pi_range2 rfl B.n_range (pa_cons pe_int (pa_cons (pe_callB call_len_seq rfl B.n_len PySem.boot_len (pa_cons (pv 2) pa_nil)) pa_nil))) (pg_name (i := 6) sc_law_web.nd rfl (.inl rfl)) (
        (pss_cons (ps_set (i := 7) sc_law_web.nd rfl (.inl rfl) (pe_ix ix_list (pv 2) (pe_ix ix_list (pe_lst (pa_cons (pe_op op_sub (pv 6) pe_int) (pa_cons pe_int (pa_cons (pe_g c_law_take g (hr.mono (by decide)) pass0 (pa_cons (pv 0) (pa_cons (pv 6) pa_nil))) pa_nil)))) (pv 3) (fun _ _ => rfl)) (fun _ _ => rfl)))
        (pss_cons (ps_expr (pe_bm PySem.F.plainAttrs_list PySem.F.slot_list_append PySem.F.type_list_append mt_append (pe_dget (hu_of hr) (pv 4) (pe_ix ix_list (pv 2) (pv 6) (fun _ _ => rfl)) (fun _ _ => rfl)) (pa_cons (pv 7) pa_nil)))
        (pss_one (ps_expr (pe_bm PySem.F.plainAttrs_list PySem.F.slot_list_append PySem.F.type_list_append mt_append (pe_dget (hu_of hr) (pv 4) (pv 7) (fun _ _ => rfl)) (pa_cons (pe_ix ix_list (pv 2) (pv 6) (fun _ _ => rfl)) pa_nil))))))))
      (pss_one (ps_ret (pv 4))))))), ?_⟩
  refine ⟨.ref p, rfl, .ref p, rfl, .int most, rfl, p, most, c, rfl, by omega, by omega, by omega, pt, fun v H1 a0 a1 g1 pt1 => ?_⟩
  obtain ⟨k, rfl⟩ : ∃ k : Nat, v = (k : Int) := ⟨v.toNat, (Int.toNat_of_nonneg a0).symm⟩
  refine ⟨_, _, rfl, rfl, p, 1 + k, c + 1, by simp, pt1, by omega, fun Hd H2 hands fH g2 eH bk hl pt2 => ?_⟩
  obtain ⟨l100, lm, lmin⟩ := hl
  have n1 : 0 < hands.length := by omega
  have n14 : hands.length ≤ 14 := by omega
  have g12 := g1.trans g2
  have Hp_ : Hd ≠ p := pt1.other fH
  refine ⟨.ref p, rfl, p, 3, c + 1 + 200, rfl, by decide, by decide, by omega, pt2, fun v2 H3 b0 b1 g3 pt3 => ?_⟩
  have g13 := g12.trans g3
  have eH3 : H3 Hd = some (.lst (hands.map V.str)) := g3.lst (by simpa using Hp_) eH
  clear eH
  refine ⟨.ref Hd, rfl, Hd, rfl, ⟨_, .inl (.inl eH3)⟩, fun D1 n1' => ?_⟩
  refine lc_it (walk_list (xs := hands.map V.str)) (fun j H' => ∃ (ps : List Addr) (ad : Nat → Addr), Grow [] H3 H' ∧ H' D1 = some (.lst (ps.map V.ref)) ∧ TupsAt H' ps (kvR j (nmOf hands) fun i => .ref (ad i)) ∧ (∀ i, i < j → H' (ad i) = some (.lst []) ∧ Fresh H3 (ad i) ∧ ad i ≠ D1) ∧ ∀ i i', i < j → i' < j → ad i = ad i' → i = i')
    ⟨[], fun _ => 0, grow_new n1', upd_same, .nil, fun i hi => absurd hi (Nat.not_lt_zero _), fun i i' hi => absurd hi (Nat.not_lt_zero _)⟩ (fun j H' _ h => by obtain ⟨_, _, g, _⟩ := h; exact .inl (.inl (g.lst (by simp) eH3))) (fun j x Ha Hb hj hp hy => ?_) (fun H4 hp => ?_)
  · obtain ⟨ps, ad, ga, eD, tp, hl, inj⟩ := hp
    obtain ⟨rfl, ex⟩ := hy
    rw [List.length_map] at hj
    rw [List.getElem?_map, nmOf_get hj] at ex
    cases ex
    refine ⟨rfl, yes_if ⟨.str (nmOf hands j), rfl, by show 0 ≤ sizeLine; decide, fun E0 nE => ⟨by show 2 ≤ sizeLine; decide, fun T nT => ?_⟩⟩⟩
    have gE : Grow [] Hb (upd Hb E0 (.lst [])) := grow_new nE
    have eE : upd Hb E0 (.lst []) E0 = some (.lst []) := upd_same
    generalize upd Hb E0 (.lst []) = Hc at gE eE nT ⊢
    have gT := gE.new (o := .tup [V.str (nmOf hands j), .ref E0]) nT
    have eT : upd Hc T (.tup [V.str (nmOf hands j), .ref E0]) T = some (.tup [kV (Sum.inr (nmOf hands j) : Key), .ref E0]) := upd_same
    have eE2 : upd Hc T (.tup [V.str (nmOf hands j), .ref E0]) E0 = some (.lst []) := by rw [upd_ne (ne_of_none eE nT)]; exact eE
    generalize upd Hc T (.tup [V.str (nmOf hands j), .ref E0]) = Hd' at gT eT eE2 ⊢
    have eD6 := gT.lst (by simp) eD
    have ED : E0 ≠ D1 := fun z => by rw [z, eD] at nE; cases nE
    have gP := grow_at (ex := [D1]) (o := .lst (ps.map V.ref ++ [.ref T])) eD6 (fun ps z => by cases z) (by simp)
    have lps : ps.length = j := by rw [tp.len, kvR_len]
    have Ead : ∀ i, i < j → ad i ≠ E0 := fun i hi z => by
      have := (hl i hi).1
      rw [z, nE] at this
      cases this
    refine ⟨_, eD6, by rw [List.length_map]; unfold sizeLine; omega, ps ++ [T], setAt ad j E0, (ga.trans gT).put (fresh_none n1') eD6 (fun ps z => by cases z), by rw [List.map_append]; exact upd_same, ?_, fun i hi => ?_, fun i i' hi hi' e => ?_⟩
    · rw [kvR_set]
      exact ((tp.grow gT (lists_none _)).snoc eT).grow gP (lists_one eD6)
    · by_cases c1 : i = j
      · rw [c1, setAt_eq]
        exact ⟨gP.lst (by simpa using ED) eE2, (ga.fresh0 nE), ED⟩
      · rw [setAt_ne c1]
        obtain ⟨q1, q2, q3⟩ := hl i (by omega)
        exact ⟨gP.lst (by simpa using q3) (gT.lst (by simp) q1), q2, q3⟩
    · by_cases c1 : i = j <;> by_cases c2 : i' = j
      · omega
      · rw [c1, setAt_eq, setAt_ne c2] at e
        exact absurd e.symm (Ead i' (by omega))
      · rw [c2, setAt_eq, setAt_ne c1] at e
        exact absurd e (Ead i (by omega))
      · rw [setAt_ne c1, setAt_ne c2] at e
        exact inj i i' (by omega) (by omega) e
  · obtain ⟨ps, ad, ga, eD, tp, hl, inj⟩ := hp
    rw [List.length_map] at tp hl inj
    refine ⟨D1, ps, _, rfl, .inl (.inl eD), paired_map (fun a kv e => .inl (.inl e)) tp, fun Nr nN => ?_⟩
    rw [merge_nd (kvR_nd bk.nd _)]
    have g4 : Grow [p] H (upd H4 Nr (.dK (kvR hands.length (nmOf hands) fun i => V.ref (ad i)))) := (g13.trans ga.any).new nN
    have g34 : Grow [] H3 (upd H4 Nr (.dK (kvR hands.length (nmOf hands) fun i => V.ref (ad i)))) := ga.new nN
    have eN : upd H4 Nr (.dK (kvR hands.length (nmOf hands) fun i => V.ref (ad i))) Nr = some (.dK (kvR hands.length (nmOf hands) fun i => V.ref (ad i))) := upd_same
    have hl4 : ∀ i, i < hands.length → upd H4 Nr (.dK (kvR hands.length (nmOf hands) fun i => V.ref (ad i))) (ad i) = some (.lst []) := fun i hi => by
      rw [upd_ne (ne_of_none (hl i hi).1 nN)]
      exact (hl i hi).1
    have fN : Fresh H3 Nr := ga.fresh0 nN
    have pt4 := pot_grow pt3 g34
    generalize upd H4 Nr (.dK (kvR hands.length (nmOf hands) fun i => V.ref (ad i))) = H5 at g4 g34 eN hl4 pt4 ⊢
    have Np : Nr ≠ p := pt3.other fN
    have eH5 : H5 Hd = some (.lst (hands.map V.str)) := g34.lst (by simp) eH3
    refine ⟨.ref Hd, rfl, Hd, _, rfl, .inl (.inl (.inl eH5)), 1, (hands.length : Nat), by rw [List.length_map], ⟨by decide, by decide, by omega, by omega⟩, ?_⟩
    have en : ((hands.length : Nat) - 1 : Int).toNat = hands.length - 1 := by omega
    rw [en]
    have adD : ∀ i, i < hands.length → ad i ≠ p ∧ ad i ≠ Nr := fun i hi => ⟨pt3.other (hl i hi).2.1, fun z => by
      have := hl4 i hi
      rw [z, eN] at this
      cases this⟩
    refine for_it walk_range (fun t σ H' => ∃ o6 o7 : Option V, σ = [some (.ref p), some (.int most), some (.ref Hd), some (.int v2), some (.ref Nr), none, o6, o7] ∧ Grow [p] H3 H' ∧ Pot H' p (c + 300 + t) ∧ H' Nr = some (.dK (kvR hands.length (nmOf hands) fun i => V.ref (ad i))) ∧
      ∃ (nbs : Nat → List Nat) (par : Nat → Nat), (∀ i, i < hands.length → H' (ad i) = some (.lst ((nbs i).map fun j => V.str (nmOf hands j)))) ∧ Up (t + 1) par ∧ ∀ i, i < hands.length → (nbs i).Nodup ∧ ∀ j, j ∈ nbs i ↔ Beside (t + 1) par i j) ?_ (fun _ _ _ _ _ => trivial) (fun t x σ H6 H7 ht hp hy => ?_) (fun σ H6 hp => ?_)
    · refine ⟨none, none, rfl, g34.any, pt4.mono (by omega), eN, fun _ => [], fun _ => 0, hl4, ⟨fun i h0 h1 => by omega⟩, fun i hi => ⟨List.nodup_nil, fun j => ⟨(fun h => nomatch h), fun h => ?_⟩⟩⟩
      obtain ⟨q1, q2, q3⟩ := h
      rcases q3 with ⟨q3, _⟩ | ⟨q3, _⟩ <;> omega
    · obtain ⟨o6, o7, rfl, g6, pt6, eN6, nbs, par, hL, up, hb⟩ := hp
      obtain ⟨rfl, rfl⟩ := hy
      have eH6 : H7 Hd = some (.lst (hands.map V.str)) := g6.lst (by simpa using Hp_) eH3
      refine ⟨.ref Hd, rfl, .int (1 + t), rfl, _, _, rfl, rfl, .ref p, rfl, .int (1 + t), rfl, p, 1 + t, _, rfl, by omega, by omega, ?_, pt6, fun v8 H8 d0 d1 g8 pt8 => ?_⟩
      · omega
      refine ⟨by show 3 ≤ sizeLine; decide, fun L nL => ?_⟩
      have gL : Grow [] H8 (upd H8 L (.lst [.int (1 + t - 1), .int 0, .int v8])) := grow_new nL
      have eL : upd H8 L (.lst [.int (1 + t - 1), .int 0, .int v8]) L = some (.lst [.int (1 + t - 1), .int 0, .int v8]) := upd_same
      generalize upd H8 L (.lst [.int (1 + t - 1), .int 0, .int v8]) = H9 at gL eL ⊢
      obtain ⟨o, ot, ho⟩ : ∃ o : Nat, o < t + 1 ∧ atI [V.int (1 + t - 1), V.int 0, V.int v8] v2 = some (.int o) := by
        rcases (by omega : v2 = 0 ∨ v2 = 1 ∨ v2 = 2) with e | e | e
        · exact ⟨t, by omega, by rw [e, show (1 + (t : Int) - 1) = (t : Nat) by omega]; rfl⟩
        · exact ⟨0, by omega, by rw [e]; rfl⟩
        · exact ⟨v8.toNat, by omega, by rw [e, show ((v8.toNat : Nat) : Int) = v8 by omega]; rfl⟩
      have t1 : t + 1 < hands.length := by omega
      have o1 : o < hands.length := by omega
      have g9 := g6.trans (g8.trans gL.any)
      have eH9 : H9 Hd = some (.lst (hands.map V.str)) := g9.lst (by simpa using Hp_) eH3
      have at_ : ∀ i, i < hands.length → atI (hands.map V.str) (i : Nat) = some (.str (nmOf hands i)) := fun i hi => atI_nat (by rw [List.getElem?_map, nmOf_get hi]; rfl)
      have at1 : atI (hands.map V.str) (1 + (t : Int)) = some (.str (nmOf hands (t + 1))) := by rw [show (1 + (t : Int)) = ((t + 1 : Nat) : Int) by omega]; exact at_ _ t1
      have g79 : Grow [p] H7 H9 := g8.trans gL.any
      have eN9 : H9 Nr = some (.dK (kvR hands.length (nmOf hands) fun i => V.ref (ad i))) := Grow.dK g79 (by simpa using Np) eN6
      have hL9 : ∀ i, i < hands.length → H9 (ad i) = some (.lst ((nbs i).map fun j => V.str (nmOf hands j))) := fun i hi => g79.lst (by simpa using (adD i hi).1) (hL i hi)
      have pt9 := pot_grow pt8 gL
      have dg : ∀ {H' : Hp} (i : Nat), i < hands.length → H' Nr = some (.dK (kvR hands.length (nmOf hands) fun i => V.ref (ad i))) → DGet H' Nr (.str (nmOf hands i)) (some (.ref (ad i))) := fun i hi e => by
        rw [← kvR_val bk.nd (fun i => V.ref (ad i)) hi]
        exact DGet.k (k := .inr (nmOf hands i)) e
      have ln : ∀ i, i < hands.length → (nbs i).length ≤ 14 := fun i hi => by
        have := (hb i hi).1.length_le_of_subset (l₂ := List.range (t + 1)) (fun j hj => List.mem_range.mpr (((hb i hi).2 j).mp hj).2.1)
        rw [List.length_range] at this
        omega
      refine ⟨.int v2, rfl, L, _, _, .int o, rfl, rfl, .inl (.inl eL), ho, Hd, _, _, .str (nmOf hands o), rfl, rfl, .inl (.inl eH9), at_ o o1, ?_⟩
      refine ⟨.ref Nr, rfl, .ref Hd, rfl, .int (1 + t), rfl, Hd, _, _, .str (nmOf hands (t + 1)), rfl, rfl, .inl (.inl eH9), at1, Nr, .ref (ad (t + 1)), rfl, dg _ t1 eN9, tyl (hL9 _ t1), .str (nmOf hands o), rfl, ?_⟩
      have no : o ≠ t + 1 := by omega
      have l1 := ln _ t1
      have l2 := ln _ o1
      refine ⟨ad (t + 1), _, _, rfl, rfl, hL9 _ t1, by rw [List.length_map]; unfold sizeLine; omega, ?_⟩
      have hLa : ∀ i, i < hands.length → upd H9 (ad (t + 1)) (.lst ((nbs (t + 1)).map (fun j => V.str (nmOf hands j)) ++ [.str (nmOf hands o)])) (ad i) = some (.lst ((setAt nbs (t + 1) (nbs (t + 1) ++ [o]) i).map fun j => V.str (nmOf hands j))) := fun i hi => by
        by_cases c1 : i = t + 1
        · rw [c1, upd_same, setAt_eq, List.map_append]
          rfl
        · rw [upd_ne (fun z => c1 (inj _ _ hi t1 z)), setAt_ne c1]
          exact hL9 i hi
      have gA := g9.put (o := .lst ((nbs (t + 1)).map (fun j => V.str (nmOf hands j)) ++ [.str (nmOf hands o)])) (hl _ t1).2.1 (hL9 _ t1) fun ps z => by cases z
      have eNa : upd H9 (ad (t + 1)) (.lst ((nbs (t + 1)).map (fun j => V.str (nmOf hands j)) ++ [.str (nmOf hands o)])) Nr = some (.dK (kvR hands.length (nmOf hands) fun i => V.ref (ad i))) := by rw [upd_ne (adD _ t1).2.symm]; exact eN9
      have pta := pt9.at (o := .lst ((nbs (t + 1)).map (fun j => V.str (nmOf hands j)) ++ [.str (nmOf hands o)])) (adD _ t1).1.symm
      generalize upd H9 (ad (t + 1)) (.lst ((nbs (t + 1)).map (fun j => V.str (nmOf hands j)) ++ [.str (nmOf hands o)])) = H10 at hLa gA eNa pta ⊢
      have eHa : H10 Hd = some (.lst (hands.map V.str)) := gA.lst (by simpa using Hp_) eH3
      have eO := hLa o o1
      rw [setAt_ne no] at eO
      refine ⟨.ref Nr, rfl, .str (nmOf hands o), rfl, Nr, .ref (ad o), rfl, dg _ o1 eNa, tyl eO, .ref Hd, rfl, .int (1 + t), rfl, Hd, _, _, .str (nmOf hands (t + 1)), rfl, rfl, .inl (.inl eHa), at1, ad o, _, _, rfl, rfl, eO, by rw [List.length_map]; unfold sizeLine; omega, ?_⟩
      refine ⟨_, _, rfl, gA.put (hl _ o1).2.1 eO (fun ps z => by cases z), (pta.at (adD _ o1).1.symm).mono (by omega), by rw [upd_ne (adD _ o1).2.symm]; exact eNa, nbNext nbs (t + 1) o, setAt par (t + 1) o, fun i hi => ?_, up_next up ot, nbNext_ok up ot t1 hb⟩
      unfold nbNext
      by_cases c1 : i = o
      · rw [c1, upd_same, setAt_eq, List.map_append]
        rfl
      · rw [upd_ne (fun z => c1 (inj _ _ hi o1 z)), setAt_ne c1]
        exact hLa i hi
    · obtain ⟨o6, o7, rfl, g6, pt6, eN6, nbs, par, hL, up, hb⟩ := hp
      have e1 : hands.length - 1 + 1 = hands.length := by omega
      rw [e1] at up hb
      refine ⟨.ref Nr, rfl, q Nr H6 hands ad nbs par (Fresh.back fN g13 pt3) (g13.trans g6) ⟨eN6, hL⟩ ⟨bk, n1, n14, up, hb⟩ (pt6.mono (by omega))⟩
end

/-! ### lanes in the heap -/
def lk (hands : List Str) (u v : Nat) : List Key := [.inr (nmOf hands u), .inr (nmOf hands v)]
theorem lk_inj {hands : List Str} (nd : hands.Nodup) {u v u' v' : Nat} (h1 : u < hands.length) (h2 : v < hands.length) (h3 : u' < hands.length) (h4 : v' < hands.length) (e : lk hands u v = lk hands u' v') : u = u' ∧ v = v' := by
  unfold lk at e
  simp only [List.cons.injEq, Sum.inr.injEq, and_true] at e
  exact ⟨nmOf_inj nd h1 h3 e.1, nmOf_inj nd h2 h4 e.2⟩
theorem lk_kV (hands : List Str) (u v : Nat) : (lk hands u v).map kV = [V.str (nmOf hands u), V.str (nmOf hands v)] := rfl
structure LanesK (H0 H : Hp) (La : Addr) (hands : List Str) (kvl : List (List Key × V)) (ln : Nat → Nat → List Str) : Prop where
  dict : H La = some (.dT kvl)
  nd : (kvl.map Prod.fst).Nodup
  keys : ∀ k ∈ kvl.map Prod.fst, ∃ u v, u < hands.length ∧ v < hands.length ∧ k = lk hands u v
  vals : ∀ u v, u < hands.length → v < hands.length → (valV kvl (lk hands u v) = none ∧ ln u v = []) ∨ ∃ a, valV kvl (lk hands u v) = some (.ref a) ∧ H a = some (.lst ((ln u v).map V.str)) ∧ Fresh H0 a
theorem LanesK.len {H0 H : Hp} {La : Addr} {hands : List Str} {kvl : List (List Key × V)} {ln : Nat → Nat → List Str} (h : LanesK H0 H La hands kvl ln) : kvl.length ≤ hands.length * hands.length := by
  have h1 := h.nd.length_le_of_subset (l₂ := (List.range hands.length).flatMap fun u => (List.range hands.length).map fun v => lk hands u v) fun k hk => by
    obtain ⟨u, v, hu, hv, rfl⟩ := h.keys k hk
    exact List.mem_flatMap.mpr ⟨u, List.mem_range.mpr hu, List.mem_map.mpr ⟨v, List.mem_range.mpr hv, rfl⟩⟩
  rw [List.length_map] at h1
  refine Nat.le_trans h1 ?_
  rw [List.length_flatMap]
  have : ∀ l : List Nat, (l.map fun u => ((List.range hands.length).map fun v => lk hands u v).length).sum = l.length * hands.length := fun l => by
    induction l with
    | nil => simp
    | cons x l ih => rw [List.map_cons, List.sum_cons, ih, List.length_map, List.length_range, List.length_cons, Nat.succ_mul]; omega
  rw [this, List.length_range]
  exact Nat.le_refl _
theorem LanesK.grow {H0 H H' : Hp} {La : Addr} {hands : List Str} {kvl : List (List Key × V)} {ln : Nat → Nat → List Str} {ex : List Addr} (h : LanesK H0 H La hands kvl ln) (g : Grow ex H H') (n1 : La ∉ ex) (n2 : ∀ a ∈ ex, ¬ Fresh H0 a) : LanesK H0 H' La hands kvl ln :=
  ⟨g.keep La _ n1 h.dict (fun ps z => by cases z), h.nd, h.keys, fun u v hu hv => (h.vals u v hu hv).imp id fun ⟨a, e1, e2, e3⟩ => ⟨a, e1, g.lst (fun z => n2 a z e3) e2, e3⟩⟩
theorem LanesK.grow0 {H0 H H' : Hp} {La : Addr} {hands : List Str} {kvl : List (List Key × V)} {ln : Nat → Nat → List Str} (h : LanesK H0 H La hands kvl ln) (g : Grow [] H H') : LanesK H0 H' La hands kvl ln := h.grow g (by simp) fun a z => by cases z
/-- one lane is laid anew -/
theorem LanesK.put {H0 H : Hp} {La L : Addr} {hands : List Str} {kvl : List (List Key × V)} {ln ln' : Nat → Nat → List Str} {zs : List Str} (h : LanesK H0 H La hands kvl ln) (nd : hands.Nodup) {u v : Nat} (hu : u < hands.length) (hv : v < hands.length) (eL : H L = some (.lst (zs.map V.str))) (fL : Fresh H0 L)
    (e1 : ln' u v = zs) (e2 : ∀ a b, a < hands.length → b < hands.length → ¬ (a = u ∧ b = v) → ln' a b = ln a b) : LanesK H0 (upd H La (.dT (putK kvl (lk hands u v) (.ref L)))) La hands (putK kvl (lk hands u v) (.ref L)) ln' := by
  have up : ∀ {a : Addr} {xs : List V}, H a = some (.lst xs) → upd H La (.dT (putK kvl (lk hands u v) (.ref L))) a = some (.lst xs) := fun {a xs} e => by
    rw [upd_ne (fun z => by rw [z, h.dict] at e; cases e)]
    exact e
  have hk : (putK kvl (lk hands u v) (.ref L)).map Prod.fst = kvl.map Prod.fst ∨ (lk hands u v ∉ kvl.map Prod.fst ∧ (putK kvl (lk hands u v) (.ref L)).map Prod.fst = kvl.map Prod.fst ++ [lk hands u v]) := by
    rcases h.vals u v hu hv with ⟨q, _⟩ | ⟨a, q, _⟩
    · refine .inr ⟨valV_not q, ?_⟩
      rw [putK_new _ q, List.map_append]
      rfl
    · exact .inl (putK_old q)
  refine ⟨upd_same, ?_, fun k hm => ?_, fun a b ha hb => ?_⟩
  · rcases hk with q | ⟨q1, q⟩
    · rw [q]; exact h.nd
    · rw [q]
      exact List.nodup_append.mpr ⟨h.nd, by simp, fun a ha b hb e => q1 (by rw [← List.mem_singleton.mp hb, ← e]; exact ha)⟩
  · rcases hk with q | ⟨q1, q⟩
    · rw [q] at hm; exact h.keys k hm
    · rw [q] at hm
      rcases List.mem_append.mp hm with hm | hm
      · exact h.keys k hm
      · exact ⟨u, v, hu, hv, List.mem_singleton.mp hm⟩
  · rw [valV_put]
    by_cases c : a = u ∧ b = v
    · rw [c.1, c.2, if_pos rfl]
      exact .inr ⟨L, rfl, by rw [e1]; exact up eL, fL⟩
    · rw [if_neg (fun z => c (lk_inj nd ha hb hu hv z)), e2 a b ha hb c]
      exact (h.vals a b ha hb).imp id fun ⟨x, q1, q2, q3⟩ => ⟨x, q1, up q2, q3⟩
/-- the books in the making -/
structure BksAt (H : Hp) (Bo : Addr) (hands : List Str) (ab : Nat → Addr) (bk : Nat → List Str) : Prop where
  dict : H Bo = some (.dK (kvR hands.length (nmOf hands) fun i => .ref (ab i)))
  lst : ∀ i, i < hands.length → H (ab i) = some (.lst ((bk i).map V.str))
theorem BksAt.grow {H H' : Hp} {Bo : Addr} {hands : List Str} {ab : Nat → Addr} {bk : Nat → List Str} {ex : List Addr} (h : BksAt H Bo hands ab bk) (g : Grow ex H H') (n1 : Bo ∉ ex) (n2 : ∀ i, i < hands.length → ab i ∉ ex) : BksAt H' Bo hands ab bk :=
  ⟨Grow.dK g n1 h.dict, fun i hi => g.lst (n2 i hi) (h.lst i hi)⟩
theorem BksAt.grow0 {H H' : Hp} {Bo : Addr} {hands : List Str} {ab : Nat → Addr} {bk : Nat → List Str} (h : BksAt H Bo hands ab bk) (g : Grow [] H H') : BksAt H' Bo hands ab bk := h.grow g (by simp) fun i _ => by simp
/-- who shouted each word -/
def kvMo (hands ws : List Str) (mo : Str → Nat) : List (Key × V) := ws.map fun x => (Sum.inr x, V.str (nmOf hands (mo x)))
theorem kvMo_keys (hands ws : List Str) (mo : Str → Nat) : (kvMo hands ws mo).map Prod.fst = ws.map Sum.inr := by
  unfold kvMo
  rw [List.map_map]
  rfl
theorem kvMo_val {hands ws : List Str} {mo : Str → Nat} (nd : ws.Nodup) {x : Str} (h : x ∈ ws) : valV (kvMo hands ws mo) (.inr x) = some (.str (nmOf hands (mo x))) := by
  obtain ⟨j, hj⟩ := List.mem_iff_getElem?.mp h
  refine valV_some (j := j) ?_ (by unfold kvMo; rw [List.getElem?_map, hj]; rfl)
  rw [kvMo_keys]
  exact inr_nodup nd
/-- what follows two branches is shown once -/
theorem seq_cut {S T : TS} {D : Ends} {σ : L2.St} {H : Hp} (J : L2.St → Hp → Prop) (k : ∀ σ' H', J σ' H' → T D σ' H') (h : ∀ R : L2.St → Hp → Prop, (∀ σ' H', J σ' H' → R σ' H') → S { D with nx := R } σ H) : tSeq S T D σ H := h _ k
/-- what is fixed while a web goes -/
structure GFix (H H0 : Hp) (p Bo La Le : Addr) (hands : List Str) (ab : Nat → Addr) : Prop where
  fBo : Fresh H Bo
  fLa : Fresh H La
  fLe : Fresh H Le
  fab : ∀ i, i < hands.length → Fresh H (ab i)
  inj : ∀ i j, i < hands.length → j < hands.length → ab i = ab j → i = j
  g0 : Grow [p] H H0
  eP : ∃ xs, H0 p = some (.lst xs)
  eLe : ∃ xs, H0 Le = some (.lst xs)
  eab : ∀ i, i < hands.length → ∃ xs, H0 (ab i) = some (.lst xs)
  eLa : ∃ kvs, H0 La = some (.dT kvs)
  ne : ∀ i, i < hands.length → Le ≠ ab i
def gEx (p La Le : Addr) (hands : List Str) (ab : Nat → Addr) : List Addr := p :: La :: Le :: (List.range hands.length).map ab
theorem GFix.out {H H0 : Hp} {p Bo La Le : Addr} {hands : List Str} {ab : Nat → Addr} (F : GFix H H0 p Bo La Le hands ab) : ∀ a ∈ gEx p La Le hands ab, ¬ Fresh H0 a := fun a ha f => by
  have no : ∀ {xs : List V}, H0 a = some (.lst xs) → False := fun e => f.ne e (fun ps z => by cases z) rfl
  rcases List.mem_cons.mp ha with e | ha
  · obtain ⟨xs, q⟩ := F.eP; exact no (e ▸ q)
  rcases List.mem_cons.mp ha with e | ha
  · obtain ⟨xs, q⟩ := F.eLa; exact f.ne (e ▸ q) (fun ps z => by cases z) rfl
  rcases List.mem_cons.mp ha with e | ha
  · obtain ⟨xs, q⟩ := F.eLe; exact no (e ▸ q)
  obtain ⟨i, hi, rfl⟩ := List.mem_map.mp ha
  obtain ⟨xs, q⟩ := F.eab i (List.mem_range.mp hi)
  exact no q
theorem gEx_p {p La Le : Addr} {hands : List Str} {ab : Nat → Addr} : p ∈ gEx p La Le hands ab := List.mem_cons_self
theorem gEx_La {p La Le : Addr} {hands : List Str} {ab : Nat → Addr} : La ∈ gEx p La Le hands ab := List.mem_cons_of_mem _ List.mem_cons_self
theorem gEx_Le {p La Le : Addr} {hands : List Str} {ab : Nat → Addr} : Le ∈ gEx p La Le hands ab := List.mem_cons_of_mem _ (List.mem_cons_of_mem _ List.mem_cons_self)
theorem gEx_ab {p La Le : Addr} {hands : List Str} {ab : Nat → Addr} {i : Nat} (h : i < hands.length) : ab i ∈ gEx p La Le hands ab := List.mem_cons_of_mem _ (List.mem_cons_of_mem _ (List.mem_cons_of_mem _ (List.mem_map.mpr ⟨i, List.mem_range.mpr h, rfl⟩)))
/-- how it stands when t words have been written -/
structure GSt (H H0 : Hp) (p Bo La Le : Addr) (hands ws : List Str) (ab : Nat → Addr) (par : Nat → Nat) (c : Int) (t : Nat) (H' : Hp) (left : List Str) (bk : Nat → List Str) (ln : Nat → Nat → List Str) (kvl : List (List Key × V)) : Prop where
  g : Grow [p] H H'
  g0 : Grow (gEx p La Le hands ab) H0 H'
  pot : Pot H' p (c + 10 + 3 * t)
  lef : H' Le = some (.lst (left.map V.str))
  bks : BksAt H' Bo hands ab bk
  lanes : LanesK H0 H' La hands kvl ln
  gone : Gone hands.length par ws left bk ln
  count : heardN hands.length bk = t
theorem GSt.grow {H H0 : Hp} {p Bo La Le : Addr} {hands ws : List Str} {ab : Nat → Addr} {par : Nat → Nat} {c : Int} {t : Nat} {H' H2 : Hp} {left : List Str} {bk : Nat → List Str} {ln : Nat → Nat → List Str} {kvl : List (List Key × V)} (h : GSt H H0 p Bo La Le hands ws ab par c t H' left bk ln kvl) (g : Grow [] H' H2) : GSt H H0 p Bo La Le hands ws ab par c t H2 left bk ln kvl :=
  ⟨h.g.trans g.any, h.g0.trans g.any, pot_grow h.pot g, g.lst (by simp) h.lef, h.bks.grow0 g, h.lanes.grow0 g, h.gone, h.count⟩
theorem ln_short {n : Nat} {par : Nat → Nat} {ws left : List Str} {bk : Nat → List Str} {ln : Nat → Nat → List Str} (G : Gone n par ws left bk ln) (b : Bk ws) (l : ws.length ≤ 20) (u v : Nat) : (ln u v).length ≤ 20 ∧ (ln u v).all isNm = true := by
  have sub : ∀ x ∈ ln u v, x ∈ ws := fun x hx => (G.bsub u x ((G.lane u v x).mp hx).2.1).1
  exact ⟨Nat.le_trans ((G.lanend u v).length_le_of_subset sub) l, List.all_eq_true.mpr fun x hx => List.all_eq_true.mp b.nm x (sub x hx)⟩
theorem eqv_nil (zs : List Str) : PyData.eqv (.list (zs.map PyData.str)) (.list (([] : List Str).map PyData.str)) = decide (zs = []) := by
  cases zs with
  | nil => rfl
  | cons x r => simp [PyData.eqv, PyData.eqvAll]
/-- a word is about to be written by a hand -/
structure GMid (H H0 : Hp) (p Bo La Le : Addr) (hands ws : List Str) (ab : Nat → Addr) (par : Nat → Nat) (c : Int) (t : Nat) (H' : Hp) (x src : Str) (v : Nat) (but : Option Nat) (left : List Str) (bk : Nat → List Str) (ln ln1 : Nat → Nat → List Str) (kvl : List (List Key × V)) : Prop where
  g : Grow [p] H H'
  g0 : Grow (gEx p La Le hands ab) H0 H'
  pot : Pot H' p (c + 10 + 3 * t + 2)
  lef : H' Le = some (.lst (left.map V.str))
  bks : BksAt H' Bo hands ab bk
  lanes : LanesK H0 H' La hands kvl ln1
  gone : Gone hands.length par ws left (putBk bk v x) (putLn hands.length par ln v x but)
  count : heardN hands.length bk = t
  hv : v < hands.length
  len : (bk v).length ≤ 20
  hsrc : ∀ o, o < hands.length → (nmOf hands o = src ↔ some o = but)
  hln : ∀ a b, ln1 a b = if some a = but ∧ b = v then (ln a b).tail else ln a b
  nb : but ≠ some v
theorem LanesK.congr {H0 H : Hp} {La : Addr} {hands : List Str} {kvl : List (List Key × V)} {ln ln' : Nat → Nat → List Str} (h : LanesK H0 H La hands kvl ln) (e : ∀ u v, u < hands.length → v < hands.length → ln u v = ln' u v) : LanesK H0 H La hands kvl ln' :=
  ⟨h.dict, h.nd, h.keys, fun u v hu hv => by rw [← e u v hu hv]; exact h.vals u v hu hv⟩
theorem alike_lanes (hands : List Str) (ps : List (Addr × (Nat × Nat))) : PySem.W.AllAlike (ps.map fun b => encP (nmOf hands b.2.1, nmOf hands b.2.2)) := PySem.W.AllAlike.of fun b b' => by simp [encP, PySem.W.alike, PySem.W.alikeAll]
theorem sortable_lanes (hands : List Str) (ps : List (Addr × (Nat × Nat))) : PySem.W.Sortable (ps.map fun b => encP (nmOf hands b.2.1, nmOf hands b.2.2)) := PySem.W.Sortable.tuples fun b => ⟨_, _, rfl⟩
/-- each of two branches is shown once -/
theorem if_cut {T : TT} {A B : TS} {D : Ends} {σ : L2.St} {H : Hp} (Pa Pb : Hp → Prop) (ha : ∀ H', Pa H' → A D σ H') (hb : ∀ H', Pb H' → B D σ H') (h : ∀ RA RB : Hp → Prop, (∀ H', Pa H' → RA H') → (∀ H', Pb H' → RB H') → T σ H fun b H1 => if b = true then RA H1 else RB H1) : tIfS T A B D σ H := h (A D σ) (B D σ) ha hb
theorem lanes_dp {K : PySem.W.Frag} {H : Hp} {hands : List Str} : ∀ {ps : List (Addr × (Nat × Nat))}, (∀ b ∈ ps, H b.1 = some (.tup ((lk hands b.2.1 b.2.2).map kV))) → DpAll K H (ps.map fun b => V.ref b.1) (ps.map fun b => encP (nmOf hands b.2.1, nmOf hands b.2.2))
  | [], _ => .nil
  | b :: ps, h => .cons (DpT.tup (h b List.mem_cons_self) (.cons (.str _) (.cons (.str _) .nil))).dp (lanes_dp fun x hx => h x (List.mem_cons_of_mem _ hx))
theorem fine_lanes {hands : List Str} (bk : Bk hands) {ps : List (Addr × (Nat × Nat))} (h : ∀ b ∈ ps, b.2.1 < hands.length ∧ b.2.2 < hands.length) (l : ps.length ≤ 200) : Fine (.list (ps.map fun b => encP (nmOf hands b.2.1, nmOf hands b.2.2))) 2 4400 := Fine.list (n := 1) (m := 20) (fun d hd => by
  obtain ⟨b, hb, rfl⟩ := List.mem_map.mp hd
  obtain ⟨h1, h2⟩ := h b hb
  refine Fine.tuple (n := 0) (m := 8) (fun e he => ?_) (by show 2 * (8 + 1) ≤ 20; decide)
  rcases List.mem_cons.mp he with q | he
  · rw [q]; exact bk.fine (nmOf_mem h1)
  · rw [List.mem_singleton.mp he]; exact bk.fine (nmOf_mem h2)) (by rw [List.length_map]; omega)
theorem eqv_lanes (hands : List Str) (ps : List (Addr × (Nat × Nat))) : PyData.eqv (.list (ps.map fun b => encP (nmOf hands b.2.1, nmOf hands b.2.2))) (.list (([] : List Str).map PyData.str)) = decide (ps = []) := by
  cases ps with
  | nil => rfl
  | cons x r => simp [PyData.eqv, PyData.eqvAll]
theorem erase_perm {α : Type} : ∀ {l : List α} {k : Nat} {x : α}, l[k]? = some x → (x :: l.eraseIdx k).Perm l
  | y :: l, 0, x, h => by cases h; exact .refl _
  | y :: l, k + 1, x, h => (List.Perm.swap y x _).trans ((erase_perm (l := l) (k := k) (by simpa using h)).cons y)
theorem new_ex {H' : Hp} {p La Le L : Addr} {hands : List Str} {ab : Nat → Addr} (hp : H' p ≠ none) (hLa : H' La ≠ none) (hLe : H' Le ≠ none) (hab : ∀ i, i < hands.length → H' (ab i) ≠ none) (n : H' L = none) : L ∉ gEx p La Le hands ab := fun h => by
  rcases List.mem_cons.mp h with e | h
  · exact hp (e ▸ n)
  rcases List.mem_cons.mp h with e | h
  · exact hLa (e ▸ n)
  rcases List.mem_cons.mp h with e | h
  · exact hLe (e ▸ n)
  obtain ⟨i, hi, rfl⟩ := List.mem_map.mp h
  exact hab i (List.mem_range.mp hi) n
theorem some_ne {α : Type} {x : Option α} {y : α} (e : x = some y) : x ≠ none := fun z => by rw [z] at e; cases e
theorem pot_some {H : Hp} {p : Addr} {c : Int} (h : Pot H p c) : H p ≠ none := by
  obtain ⟨_, _, _, e, _⟩ := h
  exact some_ne e
theorem putLn_eq {n : Nat} {par : Nat → Nat} {ln ln1 : Nat → Nat → List Str} {v : Nat} {x : Str} {but : Option Nat} {nb : List Nat} (hln : ∀ a b, ln1 a b = if some a = but ∧ b = v then (ln a b).tail else ln a b) (hnb : but ≠ some v) (hm : ∀ j, j ∈ nb ↔ Beside n par v j) (a b : Nat) :
    (if a = v ∧ b ∈ nb ∧ some b ≠ but then ln1 a b ++ [x] else ln1 a b) = putLn n par ln v x but a b := by
  unfold putLn
  by_cases c : a = v ∧ b ∈ nb ∧ some b ≠ but
  · rw [if_pos c, if_pos ⟨c.1, by rw [c.1]; exact (hm b).mp c.2.1, c.2.2⟩, hln, if_neg (fun z => hnb (by rw [← z.1, c.1]))]
  · rw [if_neg c, if_neg (fun z => c ⟨z.1, (hm b).mpr (by rw [← z.1]; exact z.2.1), z.2.2⟩), hln]

end Lw

namespace Lw
open PySem PySem.Spec PyProof.Rows L2 GxR Gx
section
variable {P : Program} {w : World} {K : PySem.W.Frag} {mg : Str → Option Value} {base : Heap}
/-! ### _law_gone -/
def spGone (K : PySem.W.Frag) : Sp := fun vs H Q _ => ∃ (p N M : Addr) (c : Int) (hands ws : List Str) (ad : Nat → Addr) (nbs : Nat → List Nat) (par : Nat → Nat) (mo : Str → Nat), vs = [.ref p, .ref N, .ref M] ∧ Pot H p c ∧ c ≤ 2 ^ 19 ∧ NearAt H N hands ad nbs ∧ Near hands nbs par ∧ (∀ i, i < hands.length → ad i ≠ p) ∧
  H M = some (.dK (kvMo hands ws mo)) ∧ Bk ws ∧ ws.length ≤ 20 ∧ (∀ x ∈ ws, mo x < hands.length) ∧
  ∀ D H' ab bk, Fresh H D → Grow [p] H H' → BksAt H' D hands ab bk → (∀ i, i < hands.length → Fresh H (ab i)) → (∀ i, i < hands.length → (bk i).Perm ws) → Pot H' p (c + 2000) → Q (.ref D) H'
theorem ok_law_gone {f c : Addr} {fd : FuncData} (B : Nb mg) (D : DefIs K "_law_gone" "_law_gone" st_law_gone f fd (.ref c))
    (c_law_take : Callee P w K mg base CX0 3 "_law_take" ["pot", "many"] (spTake K)) : FnG P w K mg base CX0 4 f fd ["pot", "near", "mouths"] (spGone K) := by
  refine D.ok0 (k := 3) sc_law_gone (fun vs H Q E h => ?_) (fun A outer s H vs Q E g hr h => ?_)
  · obtain ⟨p, N, M, c, hands, ws, ad, nbs, par, mo, rfl, _⟩ := h
    rfl
  obtain ⟨p, N, M, c, hands, ws, ad, nbs, par, mo, rfl, pt, hc, hN, nr, adp, eM, bw, w20, hmo, q⟩ := h
  refine ⟨_,
      (pss_cons (ps_set (i := 3) sc_law_gone.nd rfl (.inl rfl) (pe_callTy (call_dictP rfl) rfl B.n_dict (by decide +kernel) (pa_cons (pe_lock (pe_lc (own := [("hand", 4)]) (tt := tYes) (g := (gName 4)) rfl sc_law_gone.nd (pi_keys (pv 1)) (blkOk_by (N := N_law_gone) (sc := defScope st_law_gone) (by decide +kernel)) (fun _ _ _ _ _ => (pg_name (i := 4) sc_law_gone.nd rfl (.inl rfl))) (fun _ _ _ _ _ => pts_nil) (fun _ _ _ _ _ => pe_to (pe_tup (pa_cons (pv 4) (pa_cons (pe_lst pa_nil) pa_nil)))))) pa_nil)))
      (pss_cons (ps_set (i := 5) sc_law_gone.nd rfl (.inr rfl) pe_dnewT)
      (pss_cons (ps_set (i := 6) sc_law_gone.nd rfl (.inl rfl) (pe_callB (cr_sortD rfl hr.units) rfl B.n_sorted (by decide +kernel) (pa_cons (pv 2) pa_nil)))
      (pss_cons (ps_set (i := 7) sc_law_gone.nd rfl (.inl rfl) (pe_op op_add pe_int (pe_g c_law_take g (hr.mono (by decide)) pass0 (pa_cons (pv 0) (pa_cons pe_int pa_nil)))))
      (pss_cons (ps_for PassesOwn.never rfl (pi_range1 rfl B.n_range (pa_cons (pe_op op_mulX (pe_callB call_lenD rfl B.n_len PySem.boot_len (pa_cons (pv 1) pa_nil)) (pe_callB call_lenD rfl B.n_len PySem.boot_len (pa_cons (pv 2) pa_nil))) pa_nil)) (pg_name (i := 8) sc_law_gone.nd rfl (.inl rfl)) (
        (pss_cons (ps_set (i := 9) sc_law_gone.nd rfl (.inl rfl) (pe_callB (cr_sortG (val := fun b : Addr × (Nat × Nat) => V.ref b.1) (enc := fun b : Addr × (Nat × Nat) => encP (nmOf hands b.2.1, nmOf hands b.2.2)) hr.units) rfl B.n_sorted (by decide +kernel) (pa_cons (pe_lock (pe_lc (own := [("lane", 10)]) (g := (gName 10)) rfl sc_law_gone.nd (pi_keys (pv 5)) (blkOk_by (N := N_law_gone) (sc := defScope st_law_gone) (by decide +kernel)) (fun _ _ _ _ _ => (pg_name (i := 10) sc_law_gone.nd rfl (.inl rfl))) (fun _ _ _ _ _ => pts_to (pts_one (pt_cmpR (op_neD hr.units) (pe_dget (hu_of hr) (pv 5) (pv 10) (fun _ _ => rfl)) (pe_lst pa_nil) (nomark _)))) (fun _ _ _ _ _ => pe_to (pv 10)))) pa_nil)))
        (pss_cons (ps_if (PW.pt (pw_and (pt_cmpR (op_neD hr.units) (pv 6) (pe_lst pa_nil) (nomark _)) (pw_and1 (PW.pt (pw_or (pt_cmpR (op_eqD hr.units) (pv 9) (pe_lst pa_nil) (nomark _)) (pw_or1 (pt_cmpR (op_lt) (pe_g c_law_take g (hr.mono (by decide)) pass0 (pa_cons (pv 0) (pa_cons pe_int pa_nil))) (pv 7) (nomark _)))))))) (
          (pss_cons (ps_set (i := 11) sc_law_gone.nd rfl (.inl rfl) (pe_bm PySem.F.plainAttrs_list PySem.F.slot_list_pop PySem.F.type_list_pop mt_popAt (pv 6) (pa_cons (pe_g c_law_take g (hr.mono (by decide)) pass0 (pa_cons (pv 0) (pa_cons (pe_callB call_len_seq rfl B.n_len PySem.boot_len (pa_cons (pv 6) pa_nil)) pa_nil))) pa_nil)))
          (pss_one (ps_par (i := 12) (j := 4) rfl sc_law_gone.nd rfl rfl (by decide) rfl rfl (pa_cons pe_str (pa_cons (pe_dget (hu_of hr) (pv 2) (pv 11) (fun _ _ => rfl)) pa_nil)) rfl)))) (
          (pss_cons (ps_asg (pe_ix ix_list (pv 9) (pe_g c_law_take g (hr.mono (by decide)) pass0 (pa_cons (pv 0) (pa_cons (pe_callB call_len_seq rfl B.n_len PySem.boot_len (pa_cons (pv 9) pa_nil)) pa_nil))) (fun _ _ => rfl)) (pg_tup rfl (pgs_cons (pg_name (i := 12) sc_law_gone.nd rfl (.inl rfl)) (pgs_cons (pg_name (i := 4) sc_law_gone.nd rfl (.inl rfl)) pgs_nil))))
          (pss_cons (ps_set (i := 11) sc_law_gone.nd rfl (.inl rfl) (pe_ix ix_list (pe_dget (hu_of hr) (pv 5) (pe_tup (pa_cons (pv 12) (pa_cons (pv 4) pa_nil))) (fun _ _ => rfl)) pe_int (fun _ _ => rfl)))
          (pss_one (ps_asg (pe_slice sl_list (pe_dget (hu_of hr) (pv 5) (pe_tup (pa_cons (pv 12) (pa_cons (pv 4) pa_nil))) (fun _ _ => rfl)) (po_some pe_int) po_none) (pg_sub (pv 5) (pe_tup (pa_cons (pv 12) (pa_cons (pv 4) pa_nil))) (set_dict (hu_of hr)))))))))
        (pss_cons (ps_expr (pe_bm PySem.F.plainAttrs_list PySem.F.slot_list_append PySem.F.type_list_append mt_append (pe_dget (hu_of hr) (pv 3) (pv 4) (fun _ _ => rfl)) (pa_cons (pv 11) pa_nil)))
        (pss_one (ps_for PassesOwn.never rfl (pi_list (pe_dget (hu_of hr) (pv 1) (pv 4) (fun _ _ => rfl))) (pg_name (i := 13) sc_law_gone.nd rfl (.inl rfl)) (
          (pss_one (ps_if (pt_cmpR (op_ne) (pv 13) (pv 12) (nomark _)) (
            (pss_one (ps_asg (pe_op op_cat (pe_dget2 (hu_of hr) (pv 5) (pe_tup (pa_cons (pv 4) (pa_cons (pv 13) pa_nil))) (pe_lst pa_nil) ⟨rfl, rfl, rfl, rfl⟩) (pe_lst (pa_cons (pv 11) pa_nil))) (pg_sub (pv 5) (pe_tup (pa_cons (pv 4) (pa_cons (pv 13) pa_nil))) (set_dict (hu_of hr)))))) pss_nil))))))))))
      (pss_one (ps_ret (pv 3)))))))), ?_⟩
  have nd := nr.bk.nd
  have n14 := nr.most
  have n0 := nr.pos
  obtain ⟨n, hn⟩ : ∃ n, hands.length = n := ⟨_, rfl⟩
  obtain ⟨kvn, ekn⟩ : ∃ kvn, (kvR hands.length (nmOf hands) fun i => V.ref (ad i)) = kvn := ⟨_, rfl⟩
  have eN := hN.1
  rw [ekn] at eN
  have lkn : kvn.length = hands.length := by rw [← ekn, kvR_len]
  have Np : N ≠ p := fun z => by
    obtain ⟨_, _, _, e, _⟩ := pt
    rw [z, e] at eN
    cases eN
  have Mp : M ≠ p := fun z => by
    obtain ⟨_, _, _, e, _⟩ := pt
    rw [z, e] at eM
    cases eM
  have nt : ∀ ps, HO.dK kvn ≠ .tbl ps := fun ps z => by cases z
  refine ⟨N, .dK kvn, eN, trivial, fun od => ⟨.ref N, rfl, N, od, rfl, .inl ⟨kvn, upd_same, fun D1 nD1 => ?_⟩⟩⟩
  have eN2 : upd H N (.frz od (.dK kvn)) N = some (.frz od (.dK kvn)) := upd_same
  have un : ∀ H', Grow [] (upd H N (.frz od (.dK kvn))) H' → Grow [] H (upd H' N (.dK kvn)) := fun H' g' => grow_unlock eN nt g' (g'.keep N _ (by simp) upd_same fun ps z => by cases z)
  have fr1 : ∀ {a : Addr}, Fresh (upd H N (.frz od (.dK kvn))) a → Fresh H a ∧ a ≠ N := fun {a} fa => by
    have ne : a ≠ N := fun z => by
      obtain ⟨ps, z⟩ := fa _ (by rw [z]; exact upd_same)
      cases z
    exact ⟨fun o ho => fa o (by rw [upd_ne ne]; exact ho), ne⟩
  generalize upd H N (.frz od (.dK kvn)) = H2 at nD1 eN2 un fr1 ⊢
  refine lc_it walk_keys (fun j H' => ∃ (ps : List Addr) (ab : Nat → Addr), Grow [] H2 H' ∧ H' D1 = some (.lst (ps.map V.ref)) ∧ TupsAt H' ps (kvR j (nmOf hands) fun i => .ref (ab i)) ∧ (∀ i, i < j → H' (ab i) = some (.lst []) ∧ Fresh H2 (ab i) ∧ ab i ≠ D1) ∧ ∀ i i', i < j → i' < j → ab i = ab i' → i = i')
    ⟨[], fun _ => 0, grow_new nD1, upd_same, .nil, fun i hi => absurd hi (Nat.not_lt_zero _), fun i i' hi => absurd hi (Nat.not_lt_zero _)⟩ (fun j H' _ h => by obtain ⟨_, _, g, _⟩ := h; exact g.keep N _ (by simp) eN2 fun ps z => by cases z) (fun j x Ha Hb hj hp hy => ?_) (fun H4 hp => ?_)
  · obtain ⟨ps, ab, ga, eD, tp, hl, inj⟩ := hp
    obtain ⟨rfl, k, v, ek, rfl⟩ := hy
    rw [lkn] at hj
    rw [← ekn] at ek
    unfold kvR at ek
    rw [List.getElem?_map, List.getElem?_range hj] at ek
    cases ek
    refine ⟨rfl, yes_if ⟨.str (nmOf hands j), rfl, by show 0 ≤ sizeLine; decide, fun E0 nE => ⟨by show 2 ≤ sizeLine; decide, fun T nT => ?_⟩⟩⟩
    have gE : Grow [] Hb (upd Hb E0 (.lst [])) := grow_new nE
    have eE : upd Hb E0 (.lst []) E0 = some (.lst []) := upd_same
    generalize upd Hb E0 (.lst []) = Hc at gE eE nT ⊢
    have gT := gE.new (o := .tup [V.str (nmOf hands j), .ref E0]) nT
    have eT : upd Hc T (.tup [V.str (nmOf hands j), .ref E0]) T = some (.tup [kV (Sum.inr (nmOf hands j) : Key), .ref E0]) := upd_same
    have eE2 : upd Hc T (.tup [V.str (nmOf hands j), .ref E0]) E0 = some (.lst []) := by rw [upd_ne (ne_of_none eE nT)]; exact eE
    generalize upd Hc T (.tup [V.str (nmOf hands j), .ref E0]) = Hd' at gT eT eE2 ⊢
    have eD6 := gT.lst (by simp) eD
    have ED : E0 ≠ D1 := fun z => by rw [z, eD] at nE; cases nE
    have gP := grow_at (ex := [D1]) (o := .lst (ps.map V.ref ++ [.ref T])) eD6 (fun ps z => by cases z) (by simp)
    have lps : ps.length = j := by rw [tp.len, kvR_len]
    have Ead : ∀ i, i < j → ab i ≠ E0 := fun i hi z => by
      have := (hl i hi).1
      rw [z, nE] at this
      cases this
    refine ⟨_, eD6, by rw [List.length_map]; unfold sizeLine; omega, ps ++ [T], setAt ab j E0, (ga.trans gT).put (fresh_none nD1) eD6 (fun ps z => by cases z), by rw [List.map_append]; exact upd_same, ?_, fun i hi => ?_, fun i i' hi hi' e => ?_⟩
    · rw [kvR_set]
      exact ((tp.grow gT (lists_none _)).snoc eT).grow gP (lists_one eD6)
    · by_cases c1 : i = j
      · rw [c1, setAt_eq]
        exact ⟨gP.lst (by simpa using ED) eE2, (ga.fresh0 nE), ED⟩
      · rw [setAt_ne c1]
        obtain ⟨q1, q2, q3⟩ := hl i (by omega)
        exact ⟨gP.lst (by simpa using q3) (gT.lst (by simp) q1), q2, q3⟩
    · by_cases c1 : i = j <;> by_cases c2 : i' = j
      · omega
      · rw [c1, setAt_eq, setAt_ne c2] at e
        exact absurd e.symm (Ead i' (by omega))
      · rw [c2, setAt_eq, setAt_ne c1] at e
        exact absurd e (Ead i (by omega))
      · rw [setAt_ne c1, setAt_ne c2] at e
        exact inj i i' (by omega) (by omega) e
  · obtain ⟨ps, ab, ga, eD, tp, hl, inj⟩ := hp
    rw [lkn] at tp hl inj
    have eN4 : H4 N = some (.frz od (.dK kvn)) := ga.keep N _ (by simp) eN2 fun ps z => by cases z
    refine ⟨eN4, ?_⟩
    have g5 := un H4 ga
    have eN5 : upd H4 N (.dK kvn) N = some (.dK kvn) := upd_same
    have eD5 : upd H4 N (.dK kvn) D1 = some (.lst (ps.map V.ref)) := by rw [upd_ne (fun z => by rw [z, eN4] at eD; cases eD)]; exact eD
    have tp5 : TupsAt (upd H4 N (.dK kvn)) ps (kvR hands.length (nmOf hands) fun i => .ref (ab i)) := paired_map (fun a kv e => by rw [upd_ne (fun z => by rw [z, eN4] at e; cases e)]; exact e) tp
    have hl5 : ∀ i, i < hands.length → upd H4 N (.dK kvn) (ab i) = some (.lst []) ∧ Fresh H (ab i) := fun i hi => by
      obtain ⟨q1, q2, q3⟩ := hl i hi
      obtain ⟨q4, q5⟩ := fr1 q2
      exact ⟨by rw [upd_ne q5]; exact q1, q4⟩
    generalize upd H4 N (.dK kvn) = H5 at g5 eN5 eD5 tp5 hl5 ⊢
    clear hl tp eD ga un fr1 eN2 nD1 eN4
    refine ⟨D1, ps, _, rfl, .inl (.inl eD5), paired_map (fun a kv e => .inl (.inl e)) tp5, fun Bo nB => ?_⟩
    rw [merge_nd (kvR_nd nd _)]
    have g6 := g5.new (o := .dK (kvR hands.length (nmOf hands) fun i => V.ref (ab i))) nB
    have fBo := g5.fresh0 nB
    have eB6 : upd H5 Bo (.dK (kvR hands.length (nmOf hands) fun i => V.ref (ab i))) Bo = some (.dK (kvR hands.length (nmOf hands) fun i => V.ref (ab i))) := upd_same
    have g56 : Grow [] H5 (upd H5 Bo (.dK (kvR hands.length (nmOf hands) fun i => V.ref (ab i)))) := grow_new nB
    have hl6 : ∀ i, i < hands.length → upd H5 Bo (.dK (kvR hands.length (nmOf hands) fun i => V.ref (ab i))) (ab i) = some (.lst []) := fun i hi => g56.lst (by simp) (hl5 i hi).1
    generalize upd H5 Bo (.dK (kvR hands.length (nmOf hands) fun i => V.ref (ab i))) = H6 at g6 eB6 hl6 ⊢
    refine fun La nLa => ?_
    have fLa := g6.fresh0 nLa
    have g67 : Grow [] H6 (upd H6 La (.dT [])) := grow_new nLa
    have g7 := g6.trans g67
    have eLa7 : upd H6 La (.dT []) La = some (.dT []) := upd_same
    generalize upd H6 La (.dT []) = H7 at g67 g7 eLa7 ⊢
    refine ⟨.ref M, rfl, M, kvMo hands ws mo, ws, rfl, .inl (Grow.dK g7 (by simp) eM), kvMo_keys hands ws mo, by unfold sizeLine; omega, fun Le nLe => ?_⟩
    have fLe := g7.fresh0 nLe
    have esw : ws.mergeSort (PySem.W.dataLe false PyData.str) = sortS ws := rfl
    rw [esw]
    have g78 : Grow [] H7 (upd H7 Le (.lst ((sortS ws).map V.str))) := grow_new nLe
    have g8 := g7.trans g78
    have eLe8 : upd H7 Le (.lst ((sortS ws).map V.str)) Le = some (.lst ((sortS ws).map V.str)) := upd_same
    have neLe : ∀ i, i < hands.length → Le ≠ ab i := fun i hi z => by
      have := g67.lst (by simp) (hl6 i hi)
      rw [← z, nLe] at this
      cases this
    generalize upd H7 Le (.lst ((sortS ws).map V.str)) = H8 at g78 g8 eLe8 ⊢
    have pt8 := pot_grow pt g8
    refine ⟨.ref p, rfl, p, 4, c, rfl, by decide, by decide, by omega, pt8, fun sl H9 a0 a1 g9 pt9 => ?_⟩
    have gp9 : Grow [p] H H9 := g8.any.trans g9
    have Lep : Le ≠ p := pt.other fLe
    have Lap : La ≠ p := pt.other fLa
    have Bop : Bo ≠ p := pt.other fBo
    have abp : ∀ i, i < hands.length → ab i ≠ p := fun i hi => pt.other (hl5 i hi).2
    have eLe9 := g9.lst (by simpa using Lep) eLe8
    have eLa9 : H9 La = some (.dT []) := g9.keep La _ (by simpa using Lap) (g78.keep La _ (by simp) eLa7 fun ps z => by cases z) fun ps z => by cases z
    have bks9 : BksAt H9 Bo hands ab (fun _ => []) := ⟨Grow.dK g9 (by simpa using Bop) (Grow.dK (g67.trans g78) (by simp) eB6), fun i hi => g9.lst (by simpa using abp i hi) ((g67.trans g78).lst (by simp) (hl6 i hi))⟩
    have F : GFix H H9 p Bo La Le hands ab := ⟨fBo, fLa, fLe, fun i hi => (hl5 i hi).2, inj, gp9, by obtain ⟨_, _, _, e, _⟩ := pt9; exact ⟨_, e⟩, ⟨_, eLe9⟩, fun i hi => ⟨_, bks9.lst i hi⟩, ⟨_, eLa9⟩, neLe⟩
    have BoLe : Bo ≠ Le := fun z => by
      have := bks9.dict
      rw [z, eLe9] at this
      cases this
    have LaLe : La ≠ Le := fun z => by rw [z, eLe9] at eLa9; cases eLa9
    clear hl5 hl6 eLe8 eLa7 eB6 g6 g67 g7 g78 g8 pt8 tp5 eD5 g5 eN5 nB nLa nLe g56 neLe fBo fLa fLe inj
    refine ⟨_, _, rfl, rfl, ?_⟩
    have eN9 : H9 N = some (.dK kvn) := Grow.dK gp9 (by simpa using Np) eN
    have eM9 : H9 M = some (.dK (kvMo hands ws mo)) := Grow.dK gp9 (by simpa using Mp) eM
    refine ⟨.ref N, rfl, N, kvn, rfl, eN9, .ref M, rfl, M, _, rfl, eM9, _, _, rfl, rfl, ?_⟩
    have lkm : (kvMo hands ws mo).length = ws.length := by unfold kvMo; rw [List.length_map]
    have lt20 : hands.length * ws.length ≤ 280 := Nat.le_trans (Nat.mul_le_mul n14 w20) (by decide)
    have em : ((kvn.length : Nat) : Int) * ((kvMo hands ws mo).length : Nat) = ((hands.length * ws.length : Nat) : Int) := by rw [lkn, lkm, Int.natCast_mul]
    have cm : CMulX ((kvn.length : Nat) : Int) ((kvMo hands ws mo).length : Nat) := by
      have b1 : Builtin.Int.intBits ((kvn.length : Nat) : Int) ≤ 4 := bits_le (by decide) (by show (_ : Nat) < 16; omega)
      have b2 : Builtin.Int.intBits (((kvMo hands ws mo).length : Nat) : Int) ≤ 5 := bits_le (by decide) (by show (_ : Nat) < 32; omega)
      unfold CMulX
      omega
    refine ⟨cm, _, rfl, by rw [em]; omega, by rw [em]; omega, ?_⟩
    rw [em, Int.toNat_natCast]
    refine for_it walk_range (fun t σ H' => ∃ (o4 o8 o9 o11 o12 o13 : Option V) (left : List Str) (bk : Nat → List Str) (ln : Nat → Nat → List Str) (kvl : List (List Key × V)), σ = [some (.ref p), some (.ref N), some (.ref M), some (.ref Bo), o4, some (.ref La), some (.ref Le), some (.int (1 + sl)), o8, o9, none, o11, o12, o13] ∧ GSt H H9 p Bo La Le hands ws ab par c t H' left bk ln kvl) ?_ (fun _ _ _ _ _ => trivial) (fun t x σ H6 H7 ht hp hy => ?_) (fun σ H6 hp => ?_)
    · refine ⟨none, none, none, none, none, none, sortS ws, fun _ => [], fun _ _ => [], [], rfl, gp9, Grow.refl _ _, pt9.mono (by omega), eLe9, bks9, ⟨eLa9, List.nodup_nil, (fun k hk => nomatch hk), fun u v _ _ => .inl ⟨rfl, rfl⟩⟩, Gone.zero bw.nd (sortS_perm ws), ?_⟩
      unfold heardN
      induction List.range hands.length with
      | nil => rfl
      | cons x r ih => rw [List.map_cons, List.sum_cons, ih]; rfl
    · obtain ⟨o4, o8, o9, o11, o12, o13, left, bk, ln, kvl, rfl, S⟩ := hp
      obtain ⟨rfl, rfl⟩ := hy
      have ll := S.lanes.len
      have ll2 : kvl.length ≤ 196 := Nat.le_trans ll (Nat.mul_le_mul n14 n14)
      have ntl : ∀ ps, HO.dT kvl ≠ .tbl ps := fun ps z => by cases z
      refine ⟨La, .dT kvl, S.lanes.dict, trivial, fun od => ⟨.ref La, rfl, La, od, rfl, .inr ⟨kvl, upd_same, fun L1 nL1 => ?_⟩⟩⟩
      have eLa2 : upd H7 La (.frz od (.dT kvl)) La = some (.frz od (.dT kvl)) := upd_same
      have un : ∀ H', Grow [] (upd H7 La (.frz od (.dT kvl))) H' → Grow [] H7 (upd H' La (.dT kvl)) := fun H' g' => grow_unlock S.lanes.dict ntl g' (g'.keep La _ (by simp) upd_same fun ps z => by cases z)
      have lst2 : ∀ {a : Addr} {xs : List V}, H7 a = some (.lst xs) → upd H7 La (.frz od (.dT kvl)) a = some (.lst xs) := fun {a xs} e => by
        rw [upd_ne (fun z => by rw [z, S.lanes.dict] at e; cases e)]
        exact e
      generalize upd H7 La (.frz od (.dT kvl)) = H8 at nL1 eLa2 un lst2 ⊢
      refine lc_it walk_keysT (fun j H' => Grow [] H8 H' ∧ ∃ ps : List (Addr × (Nat × Nat)), H' L1 = some (.lst (ps.map fun b => V.ref b.1)) ∧ ps.length ≤ j ∧ (∀ b ∈ ps, H' b.1 = some (.tup ((lk hands b.2.1 b.2.2).map kV)) ∧ b.2.1 < hands.length ∧ b.2.2 < hands.length ∧ ln b.2.1 b.2.2 ≠ []) ∧
          ∀ u v, u < hands.length → v < hands.length → lk hands u v ∈ (kvl.map Prod.fst).take j → ln u v ≠ [] → ∃ q, (q, (u, v)) ∈ ps)
        ⟨grow_new nL1, [], upd_same, Nat.le_refl _, (fun b hb => nomatch hb), (fun u v _ _ h => nomatch h)⟩ (fun j H' _ h => h.1.keep La _ (by simp) eLa2 fun ps z => by cases z) (fun j x Ha Hb hj hp hy => ?_) (fun Hc hp => ?_)
      · obtain ⟨ga, ps, eL1, lps, hps, hall⟩ := hp
        obtain ⟨rfl, kk, v, Tq, ek, rfl, eq⟩ := hy
        have ekk : (kvl.map Prod.fst)[j]? = some kk := by rw [List.getElem?_map, ek]; rfl
        obtain ⟨u1, v1, hu1, hv1, rfl⟩ := S.lanes.keys kk (List.mem_of_getElem? ekk)
        have hval := valV_some S.lanes.nd ek
        have eLb : Hb La = some (.frz od (.dT kvl)) := ga.keep La _ (by simp) eLa2 fun ps z => by cases z
        obtain ⟨a1', q1, q2, _⟩ : ∃ a, valV kvl (lk hands u1 v1) = some (.ref a) ∧ H7 a = some (.lst ((ln u1 v1).map V.str)) ∧ Fresh H9 a := (S.lanes.vals u1 v1 hu1 hv1).resolve_left fun z => by rw [hval] at z; exact nomatch z.1
        rw [hval] at q1
        cases q1
        have ea : Hb a1' = some (.lst ((ln u1 v1).map V.str)) := ga.lst (by simp) (lst2 q2)
        obtain ⟨s1, s2⟩ := ln_short S.gone bw w20 u1 v1
        have f1 := fine_names s2 (by omega)
        refine ⟨rfl, .ref La, rfl, .ref Tq, rfl, La, .ref a1', rfl, .inr ⟨kvl, lk hands u1 v1, Tq, .inr ⟨od, eLb⟩, rfl, eq, hval.symm⟩, by show 0 ≤ sizeLine; decide, fun E0 nE => ?_⟩
        have gE : Grow [] Hb (upd Hb E0 (.lst [])) := grow_new nE
        refine ⟨_, _, dp_book (.inl (.inl (gE.lst (by simp) ea))), dp_book (xs := []) (.inl (.inl upd_same)), f1.shaped (by decide), (fine_names (zs := []) rfl (Nat.zero_le _)).shaped (by decide), ?_⟩
        rw [eqv_nil]
        generalize upd Hb E0 (.lst []) = Hd at gE ⊢
        have gd := ga.trans gE
        have eL1d := gE.lst (by simp) eL1
        have hps' : ∀ b ∈ ps, Hd b.1 = some (.tup ((lk hands b.2.1 b.2.2).map kV)) ∧ b.2.1 < hands.length ∧ b.2.2 < hands.length ∧ ln b.2.1 b.2.2 ≠ [] := fun b hb => by
          obtain ⟨r1, r2⟩ := hps b hb
          exact ⟨gE.tup (by simp) r1, r2⟩
        have eqd := gE.tup (by simp) eq
        refine ⟨_, rfl, ?_⟩
        by_cases c1 : ln u1 v1 = []
        · rw [decide_eq_true c1]
          show if (!true) = true then _ else _
          rw [if_neg (show ¬ (!true) = true from Bool.false_ne_true)]
          refine ⟨gd, ps, eL1d, by omega, hps', fun u v hu hv hm hl => ?_⟩
          rw [List.take_add_one, ekk] at hm
          rcases List.mem_append.mp hm with hm | hm
          · exact hall u v hu hv hm hl
          · obtain ⟨e1, e2⟩ := lk_inj nd hu hv hu1 hv1 (List.mem_singleton.mp hm)
            rw [e1, e2] at hl
            exact absurd c1 hl
        · rw [decide_eq_false c1]
          show if (!false) = true then _ else _
          rw [if_pos (show (!false) = true from rfl)]
          have ne1 : ∀ {a : Addr} {xs : List V}, Hd a = some (.tup xs) → a ≠ L1 := fun e z => by rw [z, eL1d] at e; cases e
          refine ⟨.ref Tq, rfl, _, eL1d, by rw [List.length_map]; unfold sizeLine; omega, gd.put (fresh_none nL1) eL1d (fun ps z => by cases z), ps ++ [(Tq, (u1, v1))], by rw [upd_same, List.map_append]; rfl, by rw [List.length_append]; show ps.length + 1 ≤ _; omega, fun b hb => ?_, fun u v hu hv hm hl => ?_⟩
          · rcases List.mem_append.mp hb with hb | hb
            · obtain ⟨r1, r2⟩ := hps' b hb
              exact ⟨by rw [upd_ne (ne1 r1)]; exact r1, r2⟩
            · rw [List.mem_singleton.mp hb]
              exact ⟨by rw [upd_ne (ne1 eqd)]; exact eqd, hu1, hv1, c1⟩
          · rw [List.take_add_one, ekk] at hm
            rcases List.mem_append.mp hm with hm | hm
            · obtain ⟨q', hq'⟩ := hall u v hu hv hm hl
              exact ⟨q', List.mem_append_left _ hq'⟩
            · obtain ⟨e1, e2⟩ := lk_inj nd hu hv hu1 hv1 (List.mem_singleton.mp hm)
              rw [e1, e2]
              exact ⟨Tq, List.mem_append_right _ List.mem_cons_self⟩
      · obtain ⟨ga, ps, eL1, lps, hps, hall⟩ := hp
        have eLc : Hc La = some (.frz od (.dT kvl)) := ga.keep La _ (by simp) eLa2 fun ps z => by cases z
        refine ⟨eLc, ?_⟩
        have ge := un Hc ga
        have eL1e : upd Hc La (.dT kvl) L1 = some (.lst (ps.map fun b => V.ref b.1)) := by rw [upd_ne (fun z => by rw [z, eLc] at eL1; cases eL1)]; exact eL1
        have hpe : ∀ b ∈ ps, upd Hc La (.dT kvl) b.1 = some (.tup ((lk hands b.2.1 b.2.2).map kV)) ∧ b.2.1 < hands.length ∧ b.2.2 < hands.length ∧ ln b.2.1 b.2.2 ≠ [] := fun b hb => by
          obtain ⟨r1, r2⟩ := hps b hb
          exact ⟨by rw [upd_ne (fun z => by rw [z, eLc] at r1; cases r1)]; exact r1, r2⟩
        have halle : ∀ u v, u < hands.length → v < hands.length → ln u v ≠ [] → ∃ q, (q, (u, v)) ∈ ps := fun u v hu hv hl => by
          refine hall u v hu hv ?_ hl
          rw [List.take_of_length_le (by rw [List.length_map]; exact Nat.le_refl _)]
          rcases S.lanes.vals u v hu hv with ⟨_, z⟩ | ⟨a, z, _⟩
          · exact absurd z hl
          · exact valV_in z
        have S2 := S.grow ge
        generalize upd Hc La (.dT kvl) = He at ge eL1e hpe S2 ⊢
        clear hall hps eL1 ga eLc nL1 eLa2 un lst2 S
        refine ⟨L1, ps, rfl, .inl (.inl eL1e), fun b hb => ⟨(DpT.tup (hpe b hb).1 (.cons (.str _) (.cons (.str _) .nil))).dp, by simp [encP, PyData.depth, PyData.depthAll]⟩, alike_lanes hands ps, sortable_lanes hands ps, by unfold sizeLine; omega, fun Ly nLy => ?_⟩
        obtain ⟨ps', eps⟩ : ∃ ps', ps.mergeSort (PySem.W.dataLe false fun b : Addr × (Nat × Nat) => encP (nmOf hands b.2.1, nmOf hands b.2.2)) = ps' := ⟨_, rfl⟩
        have pm : ps'.Perm ps := by rw [← eps]; exact List.mergeSort_perm _ _
        rw [eps]
        have gf : Grow [] He (upd He Ly (.lst (ps'.map fun b => V.ref b.1))) := grow_new nLy
        have eLy : upd He Ly (.lst (ps'.map fun b => V.ref b.1)) Ly = some (.lst (ps'.map fun b => V.ref b.1)) := upd_same
        have S3 := S2.grow gf
        have hpf : ∀ b ∈ ps', upd He Ly (.lst (ps'.map fun b => V.ref b.1)) b.1 = some (.tup ((lk hands b.2.1 b.2.2).map kV)) ∧ b.2.1 < hands.length ∧ b.2.2 < hands.length ∧ ln b.2.1 b.2.2 ≠ [] := fun b hb => by
          obtain ⟨r1, r2⟩ := hpe b (pm.mem_iff.mp hb)
          exact ⟨gf.tup (by simp) r1, r2⟩
        have hallf : ∀ u v, u < hands.length → v < hands.length → ln u v ≠ [] → ps' ≠ [] := fun u v hu hv hl z => by
          obtain ⟨q', hq'⟩ := halle u v hu hv hl
          have := pm.mem_iff.mpr hq'
          rw [z] at this
          cases this
        have lps' : ps'.length ≤ 196 := by rw [pm.length_eq]; omega
        generalize upd He Ly (.lst (ps'.map fun b => V.ref b.1)) = Hf at gf eLy S3 hpf ⊢
        clear hpe halle S2 eL1e ge gf nLy eps pm
        dsimp only [gName]
        refine seq_cut (S := tIfS _ _ _) (fun σ' H' => ∃ (o9 o13 : Option V) (x src : Str) (v : Nat) (but : Option Nat) (left' : List Str) (bk' : Nat → List Str) (ln' ln1 : Nat → Nat → List Str) (kvl' : List (List Key × V)), σ' = [some (.ref p), some (.ref N), some (.ref M), some (.ref Bo), some (.str (nmOf hands v)), some (.ref La), some (.ref Le), some (.int (1 + sl)), some (.int (0 + t)), o9, none, some (.str x), some (.str src), o13] ∧
          GMid H H9 p Bo La Le hands ws ab par c t H' x src v but left' bk' ln' ln1 kvl') (fun σ' H' hJ => ?_) fun R hR => ?_
        · clear hallf hpf S3 eLy lps'
          obtain ⟨o9, o13, x, src, v, but, left', bk', ln', ln1, kvl', rfl, Md⟩ := hJ
          have hv := Md.hv
          have eB := Md.bks.lst v hv
          have lv := Md.len
          have dgB : DGet H' Bo (.str (nmOf hands v)) (some (.ref (ab v))) := by
            rw [← kvR_val nd (fun i => V.ref (ab i)) hv]
            exact DGet.k (k := .inr (nmOf hands v)) Md.bks.dict
          refine ⟨.ref Bo, rfl, .str (nmOf hands v), rfl, Bo, .ref (ab v), rfl, dgB, tyl eB, .str x, rfl, ab v, _, _, rfl, rfl, eB, by rw [List.length_map]; unfold sizeLine; omega, ?_⟩
          have vp := abp v hv
          have fv := F.fab v hv
          have gv2 : Grow [ab v] H' (upd H' (ab v) (.lst ((bk' v).map V.str ++ [.str x]))) := grow_at eB (fun ps z => by cases z) (by simp)
          have gH2 := Md.g.put (o := .lst ((bk' v).map V.str ++ [.str x])) fv eB fun ps z => by cases z
          have g02 := Md.g0.trans (gv2.mono fun b hb => by rw [List.mem_singleton.mp hb]; exact gEx_ab hv)
          have pt2 := Md.pot.at (o := .lst ((bk' v).map V.str ++ [.str x])) vp.symm
          have eLe2 := gv2.lst (by simpa using F.ne v hv) Md.lef
          have bks2 : BksAt (upd H' (ab v) (.lst ((bk' v).map V.str ++ [.str x]))) Bo hands ab (putBk bk' v x) := ⟨Grow.dK gv2 (by
              rw [List.mem_singleton]
              intro z
              have e1 := Md.bks.dict
              rw [z, eB] at e1
              cases e1) Md.bks.dict, fun i hi => by
            unfold putBk
            by_cases c1 : i = v
            · rw [c1, upd_same, if_pos rfl, List.map_append]
              rfl
            · rw [upd_ne (fun z => c1 (F.inj i v hi hv z)), if_neg c1]
              exact Md.bks.lst i hi⟩
          have lanes2 := Md.lanes.grow gv2 (by
              rw [List.mem_singleton]
              intro z
              have e1 := Md.lanes.dict
              rw [z, eB] at e1
              cases e1) fun a ha => by rw [List.mem_singleton.mp ha]; exact F.out _ (gEx_ab hv)
          generalize upd H' (ab v) (.lst ((bk' v).map V.str ++ [.str x])) = H2 at gH2 g02 pt2 eLe2 bks2 lanes2 ⊢
          have dgN : DGet H2 N (.str (nmOf hands v)) (some (.ref (ad v))) := by
            rw [← kvR_val nd (fun i => V.ref (ad i)) hv]
            exact DGet.k (k := .inr (nmOf hands v)) (Grow.dK gH2 (by simpa using Np) hN.1)
          have eA : ∀ {H3 : Hp}, Grow [p] H H3 → H3 (ad v) = some (.lst (((nbs v).map (nmOf hands)).map V.str)) := fun g3 => by
            rw [List.map_map]
            exact g3.lst (by simpa using adp v hv) (hN.2 v hv)
          obtain ⟨nbnd, nbi⟩ := nr.nb v hv
          refine ⟨.ref N, rfl, .str (nmOf hands v), rfl, N, .ref (ad v), rfl, dgN, ad v, rfl, ⟨_, .inl (.inl (eA gH2))⟩, ?_⟩
          refine for_it (walk_list (xs := ((nbs v).map (nmOf hands)).map V.str)) (fun j σ' H3 => ∃ (o13 : Option V) (kvl3 : List (List Key × V)), σ' = [some (.ref p), some (.ref N), some (.ref M), some (.ref Bo), some (.str (nmOf hands v)), some (.ref La), some (.ref Le), some (.int (1 + sl)), some (.int (0 + t)), o9, none, some (.str x), some (.str src), o13] ∧
            Grow [p] H H3 ∧ Grow (gEx p La Le hands ab) H9 H3 ∧ Pot H3 p (c + 10 + 3 * t + 2) ∧ H3 Le = some (.lst (left'.map V.str)) ∧ BksAt H3 Bo hands ab (putBk bk' v x) ∧ LanesK H9 H3 La hands kvl3 (fun a b => if a = v ∧ b ∈ (nbs v).take j ∧ some b ≠ but then ln1 a b ++ [x] else ln1 a b))
            ⟨o13, kvl', rfl, gH2, g02, pt2, eLe2, bks2, lanes2.congr fun a b _ _ => by rw [if_neg (by rintro ⟨_, z, _⟩; cases z)]⟩ (fun j σ' H3 _ h => by obtain ⟨_, _, _, g3, _⟩ := h; exact .inl (.inl (eA g3))) (fun j y σ' H3 H4 hj hq hy => ?_) (fun σ' H3 hq => ?_)
          · obtain ⟨o13', kvl3, rfl, g3, g03, pt3, eLe3, bks3, l3⟩ := hq
            obtain ⟨rfl, ex⟩ := hy
            rw [List.length_map, List.length_map] at hj
            have eo : (nbs v)[j]? = some (nbs v)[j] := List.getElem?_eq_getElem hj
            obtain ⟨o, eo2⟩ : ∃ o, (nbs v)[j] = o := ⟨_, rfl⟩
            rw [eo2] at eo
            rw [List.getElem?_map, List.getElem?_map, eo] at ex
            cases ex
            have bso := (nbi o).mp (List.mem_of_getElem? eo)
            have hv := Md.hv
            have ho : o < hands.length := bso.2.1
            have tk : ∀ b, b ∈ (nbs v).take (j + 1) ↔ b ∈ (nbs v).take j ∨ b = o := fun b => by
              rw [List.take_add_one, eo, List.mem_append]
              exact or_congr Iff.rfl List.mem_singleton
            have otk : o ∉ (nbs v).take j := fun z => by
              obtain ⟨i, hi⟩ := List.mem_iff_getElem?.mp z
              rw [List.getElem?_take] at hi
              by_cases c1 : i < j
              · rw [if_pos c1] at hi
                have := (List.getElem?_inj (by omega) nbnd).mp (hi.trans eo.symm)
                omega
              · rw [if_neg c1] at hi
                cases hi
            refine ⟨.str (nmOf hands o), rfl, .str src, rfl, rfl, _, rfl, ?_⟩
            by_cases c1 : nmOf hands o = src
            · rw [show (!decide (V.str (nmOf hands o) = V.str src)) = false by rw [c1, decide_eq_true rfl]; rfl]
              refine iteF ⟨_, kvl3, rfl, g3, g03, pt3, eLe3, bks3, l3.congr fun a b ha hb => ?_⟩
              have ob := (Md.hsrc o ho).mp c1
              by_cases c2 : a = v ∧ b ∈ (nbs v).take j ∧ some b ≠ but
              · rw [if_pos c2, if_pos ⟨c2.1, (tk b).mpr (.inl c2.2.1), c2.2.2⟩]
              · rw [if_neg c2, if_neg (fun z => c2 ⟨z.1, ((tk b).mp z.2.1).resolve_right fun y => z.2.2 (by rw [y]; exact ob), z.2.2⟩)]
            · rw [show (!decide (V.str (nmOf hands o) = V.str src)) = true by rw [decide_eq_false (fun z => c1 (V.str.inj z))]; rfl]
              have ob : some o ≠ but := fun z => c1 ((Md.hsrc o ho).mpr z)
              have short : (ln1 v o).length ≤ 20 := by
                have h1 := (ln_short Md.gone bw w20 v o).1
                rw [← putLn_eq Md.hln Md.nb nbi v o, if_pos ⟨rfl, List.mem_of_getElem? eo, ob⟩, List.length_append] at h1
                simp at h1
                omega
              refine iteT ⟨.ref La, rfl, La, rfl, .inr ⟨kvl3, .inl l3.dict⟩, .str (nmOf hands v), rfl, .str (nmOf hands o), rfl, by show 2 ≤ sizeLine; decide, fun T2 nT2 => ?_⟩
              have gT2 : Grow [] H4 (upd H4 T2 (.tup [V.str (nmOf hands v), V.str (nmOf hands o)])) := grow_new nT2
              have eT2 : upd H4 T2 (.tup [V.str (nmOf hands v), V.str (nmOf hands o)]) T2 = some (.tup ((lk hands v o).map kV)) := upd_same
              generalize upd H4 T2 (.tup [V.str (nmOf hands v), V.str (nmOf hands o)]) = H5' at gT2 eT2 ⊢
              refine ⟨by show 0 ≤ sizeLine; decide, fun E0 nE => ?_⟩
              have gE : Grow [] H5' (upd H5' E0 (.lst [])) := grow_new nE
              have eE : upd H5' E0 (.lst []) E0 = some (.lst ([] : List V)) := upd_same
              generalize upd H5' E0 (.lst []) = H6' at gE eE ⊢
              have g46 := gT2.trans gE
              have l6 := l3.grow0 g46
              have eT6 := gE.tup (by simp) eT2
              refine ⟨_, DGet.t l6.dict eT6, ?_⟩
              have hs : ∃ s : Addr, (valV kvl3 (lk hands v o)).getD (.ref E0) = .ref s ∧ H6' s = some (.lst ((ln1 v o).map V.str)) := by
                have e0 : (if v = v ∧ o ∈ (nbs v).take j ∧ some o ≠ but then ln1 v o ++ [x] else ln1 v o) = ln1 v o := if_neg fun z => otk z.2.1
                rcases l6.vals v o hv ho with ⟨q1, q2⟩ | ⟨a, q1, q2, _⟩
                · refine ⟨E0, by rw [q1]; rfl, ?_⟩
                  have q3 : ln1 v o = [] := e0.symm.trans q2
                  rw [q3]
                  exact eE
                · exact ⟨a, by rw [q1]; rfl, by rw [← e0]; exact q2⟩
              obtain ⟨s', es1, es2⟩ := hs
              rw [es1]
              refine ⟨.str x, rfl, by show 1 ≤ sizeLine; decide, fun L2 nL2 => ?_⟩
              have gL2 : Grow [] H6' (upd H6' L2 (.lst [V.str x])) := grow_new nL2
              have eL2 : upd H6' L2 (.lst [V.str x]) L2 = some (.lst [V.str x]) := upd_same
              generalize upd H6' L2 (.lst [V.str x]) = H7' at gL2 eL2 ⊢
              refine ⟨s', L2, _, [V.str x], rfl, rfl, gL2.lst (by simp) es2, eL2, by rw [List.length_map]; show (ln1 v o).length + 1 ≤ sizeLine; unfold sizeLine; omega, fun L3 nL3 => ?_⟩
              have g47 := g46.trans gL2
              have l7 := l3.grow0 g47
              have pt7 := pot_grow pt3 g47
              have bks7 := bks3.grow0 g47
              have eLe7 := g47.lst (by simp) eLe3
              have fL3 : Fresh H9 L3 := (g03.trans g47.any).fresh (new_ex (pot_some pt7) (some_ne l7.dict) (some_ne eLe7) (fun i hi => some_ne (bks7.lst i hi)) nL3) (fresh_none nL3)
              have eapp : (ln1 v o).map V.str ++ [V.str x] = (ln1 v o ++ [x]).map V.str := by rw [List.map_append]; rfl
              rw [eapp]
              have gL3 : Grow [] H7' (upd H7' L3 (.lst ((ln1 v o ++ [x]).map V.str))) := grow_new nL3
              have eL3 : upd H7' L3 (.lst ((ln1 v o ++ [x]).map V.str)) L3 = some (.lst ((ln1 v o ++ [x]).map V.str)) := upd_same
              generalize upd H7' L3 (.lst ((ln1 v o ++ [x]).map V.str)) = H8' at gL3 eL3 ⊢
              refine ⟨.ref La, rfl, .str (nmOf hands v), rfl, .str (nmOf hands o), rfl, by show 2 ≤ sizeLine; decide, fun T5 nT5 => ?_⟩
              have gT5 : Grow [] H8' (upd H8' T5 (.tup [V.str (nmOf hands v), V.str (nmOf hands o)])) := grow_new nT5
              have eT5 : upd H8' T5 (.tup [V.str (nmOf hands v), V.str (nmOf hands o)]) T5 = some (.tup ((lk hands v o).map kV)) := upd_same
              generalize upd H8' T5 (.tup [V.str (nmOf hands v), V.str (nmOf hands o)]) = H9' at gT5 eT5 ⊢
              have g49 := (g47.trans gL3).trans gT5
              have l9 := l3.grow0 g49
              have l10 := l9.put (ln' := fun a b => if a = v ∧ b ∈ (nbs v).take (j + 1) ∧ some b ≠ but then ln1 a b ++ [x] else ln1 a b) nd hv ho (gT5.lst (by simp) eL3) fL3 (if_pos ⟨rfl, (tk o).mpr (.inr rfl), ob⟩) (fun a b _ _ z => by
                show (if a = v ∧ b ∈ (nbs v).take (j + 1) ∧ some b ≠ but then _ else _) = if a = v ∧ b ∈ (nbs v).take j ∧ some b ≠ but then _ else _
                by_cases c2 : a = v ∧ b ∈ (nbs v).take j ∧ some b ≠ but
                · rw [if_pos c2, if_pos ⟨c2.1, (tk b).mpr (.inl c2.2.1), c2.2.2⟩]
                · rw [if_neg c2, if_neg (fun y => c2 ⟨y.1, ((tk b).mp y.2.1).resolve_right fun w => z ⟨y.1, w⟩, y.2.2⟩)])
              have gla : Grow [La] H9' (upd H9' La (.dT (putK kvl3 (lk hands v o) (.ref L3)))) := grow_at l9.dict (fun ps z => by cases z) (by simp)
              have bks9' := bks3.grow0 g49
              have l3l := l9.len
              refine ⟨La, _, rfl, DPut.t l9.dict eT5 (by have := Nat.mul_le_mul n14 n14; unfold sizeLine; omega), _, _, rfl, (g3.trans g49.any).put F.fLa l9.dict (fun ps z => by cases z), (g03.trans g49.any).trans (gla.mono fun b hb => by rw [List.mem_singleton.mp hb]; exact gEx_La), (pot_grow pt3 g49).at Lap.symm, gla.lst (by simpa using LaLe.symm) (g49.lst (by simp) eLe3),
                bks9'.grow gla (by
                  rw [List.mem_singleton]
                  intro z
                  have e1 := bks9'.dict
                  rw [z, l9.dict] at e1
                  cases e1) (fun i hi => by
                  rw [List.mem_singleton]
                  intro z
                  have e1 := bks9'.lst i hi
                  rw [z, l9.dict] at e1
                  cases e1), l10⟩
          · obtain ⟨o13', kvl3, rfl, g3, g03, pt3, eLe3, bks3, l3⟩ := hq
            rw [List.length_map, List.length_map, List.take_length] at l3
            refine ⟨_, _, _, _, _, _, left', _, _, kvl3, rfl, g3, g03, pt3.mono (by omega), eLe3, bks3, l3.congr fun a b _ _ => putLn_eq Md.hln Md.nb nbi a b, Md.gone, ?_⟩
            rw [heardN_put x Md.hv, Md.count]
        · have Lys : Ly ≠ p := fun z => by
            obtain ⟨_, _, _, e, _⟩ := S3.pot
            rw [z, e] at eLy
            cases ps' with
            | nil => cases eLy
            | cons b r => cases eLy
          have left20 : left.length ≤ 20 := Nat.le_trans (S3.gone.lnd.length_le_of_subset S3.gone.lsub) w20
          have fleft := fine_names (zs := left) (List.all_eq_true.mpr fun x hx => List.all_eq_true.mp bw.nm x (S3.gone.lsub x hx)) (by omega)
          have bk20 : ∀ i, (bk i).length ≤ 20 := fun i => Nat.le_trans (S3.gone.len i) w20
          refine if_cut (fun H' => Grow [p] Hf H' ∧ Pot H' p (c + 10 + 3 * t + 1) ∧ left ≠ []) (fun H' => Grow [p] Hf H' ∧ Pot H' p (c + 10 + 3 * t + 1) ∧ ps' ≠ []) (fun H' h' => ?_) (fun H' h' => ?_) fun RA RB hA hB => ?_
          · obtain ⟨gq, pq, lne⟩ := h'
            have eLe' : H' Le = some (.lst (left.map V.str)) := gq.lst (by simpa using Lep) S3.lef
            have lp : 0 < left.length := List.length_pos_iff.mpr lne
            refine ⟨.ref Le, rfl, tyl eLe', .ref p, rfl, .ref Le, rfl, Le, _, rfl, .inl (.inl (.inl eLe')), p, left.length, _, by rw [List.length_map]; rfl, by omega, by omega, by omega, pq, fun v1 H2 b0 b1 g2 pt2 => ?_⟩
            have eLe2 : H2 Le = some (.lst (left.map V.str)) := g2.lst (by simpa using Lep) eLe'
            have hv1 : v1.toNat < left.length := by omega
            obtain ⟨x, ex⟩ : ∃ x, left[v1.toNat]? = some x := ⟨_, List.getElem?_eq_getElem hv1⟩
            have xl := List.mem_of_getElem? ex
            have xw := S3.gone.lsub x xl
            refine ⟨Le, _, v1, v1.toNat, .str x, rfl, rfl, eLe2, by omega, by omega, by rw [List.length_map]; exact seqIndex_nat b0 b1, by rw [List.getElem?_map, ex]; rfl, ?_⟩
            rw [erase_map]
            have gq2 := gq.trans g2
            have gH : Grow [p] H (upd H2 Le (.lst ((left.eraseIdx v1.toNat).map V.str))) := (S3.g.trans gq2).put F.fLe eLe2 fun ps z => by cases z
            have gl : Grow [Le] H2 (upd H2 Le (.lst ((left.eraseIdx v1.toNat).map V.str))) := grow_at eLe2 (fun ps z => by cases z) (by simp)
            have g0' : Grow (gEx p La Le hands ab) H9 (upd H2 Le (.lst ((left.eraseIdx v1.toNat).map V.str))) := (S3.g0.trans (gq2.mono fun b hb => by rw [List.mem_singleton.mp hb]; exact gEx_p)).trans (gl.mono fun b hb => by rw [List.mem_singleton.mp hb]; exact gEx_Le)
            have bks2 := (S3.bks.grow gq2 (by simpa using Bop) fun i hi => by simpa using abp i hi).grow gl (by simpa using BoLe) fun i hi => by simpa using (F.ne i hi).symm
            have lanes2 := (S3.lanes.grow gq2 (by simpa using Lap) (fun a ha => by rw [List.mem_singleton.mp ha]; exact F.out _ gEx_p)).grow gl (by simpa using LaLe) fun a ha => by rw [List.mem_singleton.mp ha]; exact F.out _ gEx_Le
            have pt3 := pt2.at (o := .lst ((left.eraseIdx v1.toNat).map V.str)) Lep.symm
            have eM2 : upd H2 Le (.lst ((left.eraseIdx v1.toNat).map V.str)) M = some (.dK (kvMo hands ws mo)) := Grow.dK gH (by simpa using Mp) eM
            have eLe3 : upd H2 Le (.lst ((left.eraseIdx v1.toNat).map V.str)) Le = some (.lst ((left.eraseIdx v1.toNat).map V.str)) := upd_same
            generalize upd H2 Le (.lst ((left.eraseIdx v1.toNat).map V.str)) = H3 at gH g0' bks2 lanes2 pt3 eM2 eLe3 ⊢
            refine ⟨.ref M, rfl, .str x, rfl, M, .str (nmOf hands (mo x)), rfl, by rw [← kvMo_val bw.nd xw]; exact DGet.k (k := .inr x) eM2, _, _, rfl, hR _ _ ⟨_, _, x, "", mo x, none, left.eraseIdx v1.toNat, bk, ln, ln, kvl, rfl, ?_⟩⟩
            exact ⟨gH, g0', pt3.mono (by omega), eLe3, bks2, lanes2, S3.gone.shout nr.up (erase_perm ex) (hmo x xw), S3.count, hmo x xw, bk20 _, fun o ho => ⟨fun z => absurd (z ▸ List.all_eq_true.mp nr.bk.nm _ (nmOf_mem ho)) (by decide), fun z => by cases z⟩, fun a b => by rw [if_neg (by rintro ⟨z, _⟩; cases z)], (fun z => by cases z)⟩
          · obtain ⟨gq, pq, pne⟩ := h'
            have eLy' : H' Ly = some (.lst (ps'.map fun b => V.ref b.1)) := gq.lst (by simpa using Lys) eLy
            have lp : 0 < ps'.length := List.length_pos_iff.mpr pne
            refine ⟨.ref Ly, rfl, .ref p, rfl, .ref Ly, rfl, Ly, _, rfl, .inl (.inl (.inl eLy')), p, ps'.length, _, by rw [List.length_map]; rfl, by omega, by omega, by omega, pq, fun v1 H2 b0 b1 g2 pt2 => ?_⟩
            have eLy2 : H2 Ly = some (.lst (ps'.map fun b => V.ref b.1)) := g2.lst (by simpa using Lys) eLy'
            have hv1 : v1.toNat < ps'.length := by omega
            obtain ⟨⟨Tq, u, v⟩, ex⟩ : ∃ x, ps'[v1.toNat]? = some x := ⟨_, List.getElem?_eq_getElem hv1⟩
            obtain ⟨eTq, hu, hv, hne⟩ := hpf _ (List.mem_of_getElem? ex)
            have gq2 := gq.trans g2
            have eTq2 : H2 Tq = some (.tup [V.str (nmOf hands u), V.str (nmOf hands v)]) := gq2.tup (by
              rw [List.mem_singleton]
              intro z
              obtain ⟨_, _, _, e, _⟩ := S3.pot
              rw [z, e] at eTq
              cases eTq) eTq
            refine ⟨Ly, _, v1, .ref Tq, rfl, rfl, .inl (.inl eLy2), by rw [show v1 = ((v1.toNat : Nat) : Int) by omega]; exact atI_nat (by rw [List.getElem?_map, ex]; rfl), ?_⟩
            refine ⟨Tq, _, rfl, .inl (.inl eTq2), rfl, _, _, rfl, _, _, rfl, rfl, ?_⟩
            obtain ⟨x, r, exr⟩ : ∃ x r, ln u v = x :: r := by
              cases h0 : ln u v with
              | nil => exact absurd h0 hne
              | cons x r => exact ⟨x, r, rfl⟩
            obtain ⟨a, va, ea, fa⟩ := (S3.lanes.vals u v hu hv).resolve_left fun z => hne z.2
            have lanes2 := S3.lanes.grow gq2 (by simpa using Lap) fun a ha => by rw [List.mem_singleton.mp ha]; exact F.out _ gEx_p
            have ap : a ≠ p := fun z => F.out p gEx_p (z ▸ fa)
            have ea2 : H2 a = some (.lst ((x :: r).map V.str)) := by rw [← exr]; exact gq2.lst (by simpa using ap) ea
            have bs := ((S3.gone.lane u v x).mp (by rw [exr]; exact List.mem_cons_self)).1
            have uv := bs.ne nr.up
            refine ⟨.ref La, rfl, .str (nmOf hands u), rfl, .str (nmOf hands v), rfl, by show 2 ≤ sizeLine; decide, fun T2 nT2 => ?_⟩
            have gT2 : Grow [] H2 (upd H2 T2 (.tup [V.str (nmOf hands u), V.str (nmOf hands v)])) := grow_new nT2
            have eT2 : upd H2 T2 (.tup [V.str (nmOf hands u), V.str (nmOf hands v)]) T2 = some (.tup ((lk hands u v).map kV)) := upd_same
            generalize upd H2 T2 (.tup [V.str (nmOf hands u), V.str (nmOf hands v)]) = H3 at gT2 eT2 ⊢
            have l3 := lanes2.grow0 gT2
            refine ⟨La, .ref a, rfl, by rw [← va]; exact DGet.t l3.dict eT2, a, _, 0, .str x, rfl, rfl, .inl (.inl (gT2.lst (by simp) ea2)), atI_nat (j := 0) rfl, ?_⟩
            refine ⟨.ref La, rfl, .str (nmOf hands u), rfl, .str (nmOf hands v), rfl, by show 2 ≤ sizeLine; decide, fun T3 nT3 => ?_⟩
            have gT3 : Grow [] H3 (upd H3 T3 (.tup [V.str (nmOf hands u), V.str (nmOf hands v)])) := grow_new nT3
            have eT3 : upd H3 T3 (.tup [V.str (nmOf hands u), V.str (nmOf hands v)]) T3 = some (.tup ((lk hands u v).map kV)) := upd_same
            generalize upd H3 T3 (.tup [V.str (nmOf hands u), V.str (nmOf hands v)]) = H4' at gT3 eT3 ⊢
            have l4 := l3.grow0 gT3
            refine ⟨La, .ref a, rfl, by rw [← va]; exact DGet.t l4.dict eT3, _, rfl, a, _, rfl, .inl (.inl ((gT2.trans gT3).lst (by simp) ea2)), fun L nL => ?_⟩
            have ecut : cutV ((x :: r).map V.str) (some 1) none = r.map V.str := by simpa using cut_from ((x :: r).map V.str) 0
            rw [ecut]
            have gL : Grow [] H4' (upd H4' L (.lst (r.map V.str))) := grow_new nL
            have eL : upd H4' L (.lst (r.map V.str)) L = some (.lst (r.map V.str)) := upd_same
            have g24 := gT2.trans gT3
            have pt4 := pot_grow pt2 g24
            have bks4 := (S3.bks.grow gq2 (by simpa using Bop) fun i hi => by simpa using abp i hi).grow0 g24
            have eLe4 : H4' Le = some (.lst (left.map V.str)) := g24.lst (by simp) (gq2.lst (by simpa using Lep) S3.lef)
            have fL : Fresh H9 L := ((S3.g0.trans (gq2.mono fun b hb => by rw [List.mem_singleton.mp hb]; exact gEx_p)).trans g24.any).fresh (new_ex (pot_some pt4) (some_ne l4.dict) (some_ne eLe4) (fun i hi => some_ne (bks4.lst i hi)) nL) (fresh_none nL)
            have pt5 := pot_grow pt4 gL
            have bks5 := bks4.grow0 gL
            have eLe5 := gL.lst (by simp) eLe4
            have l5 := l4.grow0 gL
            have g25 := g24.trans gL
            generalize upd H4' L (.lst (r.map V.str)) = H5' at gL eL pt5 bks5 eLe5 l5 g25 ⊢
            refine ⟨.ref La, rfl, .str (nmOf hands u), rfl, .str (nmOf hands v), rfl, by show 2 ≤ sizeLine; decide, fun T4 nT4 => ?_⟩
            have gT4 : Grow [] H5' (upd H5' T4 (.tup [V.str (nmOf hands u), V.str (nmOf hands v)])) := grow_new nT4
            have eT4 : upd H5' T4 (.tup [V.str (nmOf hands u), V.str (nmOf hands v)]) T4 = some (.tup ((lk hands u v).map kV)) := upd_same
            generalize upd H5' T4 (.tup [V.str (nmOf hands u), V.str (nmOf hands v)]) = H6' at gT4 eT4 ⊢
            have l6 := l5.grow0 gT4
            have g26 := g25.trans gT4
            have gp6 := (S3.g.trans gq2).trans g26.any
            have l7 := l6.put (ln' := fun a b => if some a = some u ∧ b = v then (ln a b).tail else ln a b) nd hu hv (gT4.lst (by simp) eL) fL (by show (if some u = some u ∧ v = v then _ else _) = _; rw [if_pos ⟨rfl, rfl⟩, exr]; rfl) (fun a b _ _ z => by show (if some a = some u ∧ b = v then _ else _) = _; rw [if_neg (fun y => z ⟨Option.some.inj y.1, y.2⟩)])
            have gla : Grow [La] H6' (upd H6' La (.dT (putK kvl (lk hands u v) (.ref L)))) := grow_at l6.dict (fun ps z => by cases z) (by simp)
            have LaB : Bo ≠ La := fun z => by
              have e1 := bks5.dict
              rw [z, l5.dict] at e1
              cases e1
            refine ⟨La, _, rfl, DPut.t l6.dict eT4 (by unfold sizeLine; omega), hR _ _ ⟨_, _, x, nmOf hands u, v, some u, left, bk, ln, fun a b => if some a = some u ∧ b = v then (ln a b).tail else ln a b, putK kvl (lk hands u v) (.ref L), rfl, ?_⟩⟩
            refine ⟨gp6.put F.fLa l6.dict (fun ps z => by cases z), ((S3.g0.trans (gq2.mono fun b hb => by rw [List.mem_singleton.mp hb]; exact gEx_p)).trans g26.any).trans (gla.mono fun b hb => by rw [List.mem_singleton.mp hb]; exact gEx_La), ((pot_grow pt5 gT4).at Lap.symm).mono (by omega), gla.lst (by simpa using LaLe.symm) (gT4.lst (by simp) eLe5),
              (bks5.grow0 gT4).grow gla (by simpa using LaB) (fun i hi => by
                rw [List.mem_singleton]
                intro z
                have e1 := bks5.lst i hi
                rw [z, l5.dict] at e1
                cases e1), l7, S3.gone.hear nr.up exr, S3.count, hv, bk20 v, fun o ho => ⟨fun z => congrArg some (nmOf_inj nd ho hu z), fun z => by rw [Option.some.inj z]⟩, fun a b => rfl, fun z => uv (Option.some.inj z)⟩
          · refine ⟨.ref Le, rfl, by show 0 ≤ sizeLine; decide, fun E0 nE => ?_⟩
            have gE : Grow [] Hf (upd Hf E0 (.lst [])) := grow_new nE
            have eE : upd Hf E0 (.lst []) E0 = some (.lst ([] : List V)) := upd_same
            generalize upd Hf E0 (.lst []) = Hg at gE eE ⊢
            refine ⟨_, _, dp_book (.inl (.inl (gE.lst (by simp) S3.lef))), dp_book (xs := []) (.inl (.inl eE)), fleft.shaped (by decide), (fine_names (zs := []) rfl (Nat.zero_le _)).shaped (by decide), _, rfl, ?_⟩
            have pg := pot_grow S3.pot gE
            rw [eqv_nil]
            by_cases c1 : left = []
            · rw [decide_eq_true c1]
              refine iteF (hB Hg ⟨gE.any, pg.mono (by omega), ?_⟩)
              have lt' : heardN hands.length bk < hands.length * ws.length := by rw [S3.count]; exact ht
              obtain ⟨x, xw, h, hh, hx⟩ := S3.gone.lacks lt'
              rcases S3.gone.goes nr.up xw hh hx with z | ⟨u, v, bs, z⟩
              · exact absurd c1 z
              · exact hallf u v bs.1 bs.2.1 z
            · rw [decide_eq_false c1]
              refine iteT ⟨.ref Ly, rfl, by show 0 ≤ sizeLine; decide, fun E1 nE1 => ?_⟩
              have gE1 := gE.new (o := .lst []) nE1
              have eE1 : upd Hg E1 (.lst []) E1 = some (.lst ([] : List V)) := upd_same
              have pg1 := pot_grow pg (grow_new (o := .lst []) nE1)
              generalize upd Hg E1 (.lst []) = Hh at gE1 eE1 pg1 ⊢
              have fl := fine_lanes nr.bk (fun b hb => ⟨(hpf b hb).2.1, (hpf b hb).2.2.1⟩) (by omega : ps'.length ≤ 200)
              refine ⟨_, _, .lst (.inl (.inl (gE1.lst (by simp) eLy))) (lanes_dp fun b hb => gE1.tup (by simp) (hpf b hb).1), dp_book (xs := []) (.inl (.inl eE1)), fl.shaped (by decide), (fine_names (zs := []) rfl (Nat.zero_le _)).shaped (by decide), _, rfl, ?_⟩
              rw [eqv_lanes]
              by_cases c2 : ps' = []
              · rw [decide_eq_true c2]
                exact iteT (iteT (hA Hh ⟨gE1.any, pg1.mono (by omega), c1⟩))
              · rw [decide_eq_false c2]
                refine iteF ⟨.ref p, rfl, p, 4, _, rfl, by decide, by decide, by omega, pg1, fun v1 H2 b0 b1 g2 pt2 => ⟨.int (1 + sl), rfl, _, _, rfl, rfl, _, rfl, ?_⟩⟩
                have gz := gE1.any.trans g2
                by_cases c3 : v1 < 1 + sl
                · rw [decide_eq_true c3]
                  exact iteT (hA H2 ⟨gz, pt2.mono (by omega), c1⟩)
                · rw [decide_eq_false c3]
                  exact iteF (hB H2 ⟨gz, pt2.mono (by omega), c2⟩)
    · obtain ⟨o4, o8, o9, o11, o12, o13, left, bk, ln, kvl, rfl, S⟩ := hp
      exact ⟨.ref Bo, rfl, q Bo H6 ab bk F.fBo S.g S.bks F.fab (fun i hi => S.gone.full S.count hi) (S.pot.mono (by omega))⟩
end

end Lw

namespace Lw
open PySem PySem.Spec PyProof.Rows L2 GxR Gx
section
variable {P : Program} {w : World} {K : PySem.W.Frag} {mg : Str → Option Value} {base : Heap}
/-! ### _law_heard -/
theorem kvMo_next {hands ws : List Str} {mo : Str → Nat} (nd : ws.Nodup) {j i : Nat} {x : Str} (h : ws[j]? = some x) : putK (kvMo hands (ws.take j) mo) (.inr x) (.str (nmOf hands i)) = kvMo hands (ws.take (j + 1)) (fun y => if y = x then i else mo y) := by
  have nx : x ∉ ws.take j := fun z => by
    obtain ⟨i, hi⟩ := List.mem_iff_getElem?.mp z
    rw [List.getElem?_take] at hi
    by_cases c1 : i < j
    · rw [if_pos c1] at hi
      have := (List.getElem?_inj (List.getElem?_eq_some_iff.mp hi).1 nd).mp (hi.trans h.symm)
      omega
    · rw [if_neg c1] at hi
      cases hi
  rw [putK_new _ (valV_none (by
    rw [kvMo_keys]
    intro z
    obtain ⟨y, hy, e⟩ := List.mem_map.mp z
    exact nx (Sum.inr.inj e ▸ hy)))]
  unfold kvMo
  rw [List.take_add_one, h, List.map_append]
  congr 1
  · refine List.map_congr_left fun y hy => ?_
    show _ = ((Sum.inr y : Key), V.str (nmOf hands (if y = x then i else mo y)))
    rw [if_neg (fun z => nx (by rw [← z]; exact hy))]
  · show _ = [((Sum.inr x : Key), V.str (nmOf hands (if x = x then i else mo x)))]
    rw [if_pos rfl]
def spHeardG (K : PySem.W.Frag) : Sp := fun vs H Q _ => ∃ (p : Addr) (most words : Nat) (c : Int), vs = [.ref p, .int most, .int words] ∧ 1 ≤ most ∧ most ≤ 14 ∧ words ≤ 20 ∧ Pot H p c ∧ c ≤ 2 ^ 18 ∧
  ∀ R H' d N bs ws, Fresh H R → Grow [p] H H' → H' R = some (.lst [.ref d, .ref N]) → GivAt H' d bs → Giv bs ws → Fresh H d → (∀ q ∈ bs, Fresh H q.1) → Pot H' p (c + 5000) → Q (.ref R) H'
theorem ok_law_heard {f c : Addr} {fd : FuncData} (B : Nb mg) (D : DefIs K "_law_heard" "_law_heard" st_law_heard f fd (.ref c))
    (c_law_web : Callee P w K mg base CX0 6 "_law_web" ["pot", "most"] (spWeb K)) (c_law_names : Callee P w K mg base CX0 5 "_law_names" ["pot", "many"] (spDraw K)) (c_law_take : Callee P w K mg base CX0 3 "_law_take" ["pot", "many"] (spTake K))
    (c_law_gone : Callee P w K mg base CX0 4 "_law_gone" ["pot", "near", "mouths"] (spGone K)) (c_law_some : Callee P w K mg base CX0 4 "_law_some" ["pot", "things", "many"] (spSome K)) : FnG P w K mg base CX0 7 f fd ["pot", "most", "words"] (spHeardG K) := by
  refine D.ok0 (k := 6) sc_law_heard (fun vs H Q E h => ?_) (fun A outer s H vs Q E g hr h => ?_)
  · obtain ⟨p, most, words, c, rfl, _⟩ := h
    rfl
  obtain ⟨p, most, words, c, rfl, h1, h14, h20, pt, hc, q⟩ := h
  refine ⟨_,
      (pss_cons (ps_set (i := 3) sc_law_heard.nd rfl (.inl rfl) (pe_g c_law_web g (hr.mono (by decide)) pass0 (pa_cons (pv 0) (pa_cons (pv 1) pa_nil))))
      (pss_cons (ps_set (i := 4) sc_law_heard.nd rfl (.inl rfl) (pe_callB (cr_sortD rfl hr.units) rfl B.n_sorted (by decide +kernel) (pa_cons (pv 3) pa_nil)))
      (pss_cons (ps_set (i := 5) sc_law_heard.nd rfl (.inl rfl) pe_dnewK)
      (pss_cons (ps_for PassesOwn.never rfl (pi_list (pe_g c_law_names g (hr.mono (by decide)) pass0 (pa_cons (pv 0) (pa_cons (pe_g c_law_take g (hr.mono (by decide)) pass0 (pa_cons (pv 0) (pa_cons (pe_op op_add (pv 2) pe_int) pa_nil))) pa_nil)))) (pg_name (i := 6) sc_law_heard.nd rfl (.inl rfl)) (
        (pss_one (ps_asg (pe_ix ix_list (pv 4) (pe_g c_law_take g (hr.mono (by decide)) pass0 (pa_cons (pv 0) (pa_cons (pe_callB call_len_seq rfl B.n_len PySem.boot_len (pa_cons (pv 4) pa_nil)) pa_nil))) (fun _ _ => rfl)) (pg_sub (pv 5) (pv 6) (set_dict (hu_of hr)))))))
      (pss_cons (ps_set (i := 7) sc_law_heard.nd rfl (.inr rfl) (pe_g c_law_gone g (hr.mono (by decide)) pass0 (pa_cons (pv 0) (pa_cons (pv 3) (pa_cons (pv 5) pa_nil)))))
      (pss_cons (ps_set (i := 8) sc_law_heard.nd rfl (.inl rfl) (pe_g c_law_some g (hr.mono (by decide)) pass0 (pa_cons (pv 0) (pa_cons (pv 4) (pa_cons (pe_op op_add pe_int (pe_g c_law_take g (hr.mono (by decide)) pass0 (pa_cons (pv 0) (pa_cons (pe_callB call_len_seq rfl B.n_len PySem.boot_len (pa_cons (pv 4) pa_nil)) pa_nil)))) pa_nil)))))
      (pss_one (ps_ret (pe_lst (pa_cons (pe_callTy (call_dictP rfl) rfl B.n_dict (by decide +kernel) (pa_cons (pe_lc (own := [("hand", 9)]) (tt := tYes) (g := (gName 9)) rfl sc_law_heard.nd (pi_list (pe_slice sl_list (pv 8) po_none (po_some pe_int))) (blkOk_by (N := N_law_heard) (sc := defScope st_law_heard) (by decide +kernel)) (fun _ _ _ _ _ => (pg_name (i := 9) sc_law_heard.nd rfl (.inl rfl))) (fun _ _ _ _ _ => pts_nil) (fun _ _ _ _ _ => pe_to (pe_tup (pa_cons (pv 9) (pa_cons (pe_dget (hu_of hr) (pv 7) (pv 9) (fun _ _ => rfl)) pa_nil))))) pa_nil)) (pa_cons (pv 3) pa_nil))))))))))), ?_⟩
  refine ⟨.ref p, rfl, .int most, rfl, p, most, c, rfl, h1, h14, pt, by omega, fun N H1 hands ad nbs par fN g1 hN nr pt1 => ?_⟩
  have nd := nr.bk.nd
  have n14 := nr.most
  have n0 := nr.pos
  have Np := pt.other fN
  obtain ⟨kvn, ekn⟩ : ∃ kvn, (kvR hands.length (nmOf hands) fun i => V.ref (ad i)) = kvn := ⟨_, rfl⟩
  have eN := hN.1
  have adp : ∀ i, i < hands.length → ad i ≠ p := fun i hi => pot_ne pt1 (zs := (nbs i).map (nmOf hands)) (by rw [List.map_map]; exact hN.2 i hi)
  have keysN : (kvR hands.length (nmOf hands) fun i => V.ref (ad i)).map Prod.fst = hands.map Sum.inr := by rw [kvR_keys, nmOf_map]
  refine ⟨.ref N, rfl, N, _, hands, rfl, .inl eN, keysN, by unfold sizeLine; omega, fun Hs nHs => ?_⟩
  have esw : hands.mergeSort (PySem.W.dataLe false PyData.str) = sortS hands := rfl
  rw [esw]
  have fHs := fresh_none nHs
  have g12 : Grow [] H1 (upd H1 Hs (.lst ((sortS hands).map V.str))) := grow_new nHs
  have eHs : upd H1 Hs (.lst ((sortS hands).map V.str)) Hs = some (.lst ((sortS hands).map V.str)) := upd_same
  generalize upd H1 Hs (.lst ((sortS hands).map V.str)) = H2 at g12 eHs ⊢
  have pt2 := pot_grow pt1 g12
  have Hsp : Hs ≠ p := pt1.other fHs
  refine fun M nM => ?_
  have fM := fresh_none nM
  have g23 : Grow [] H2 (upd H2 M (.dK [])) := grow_new nM
  have eM : upd H2 M (.dK []) M = some (.dK []) := upd_same
  generalize upd H2 M (.dK []) = H3 at g23 eM ⊢
  have pt3 := pot_grow pt2 g23
  have Mp : M ≠ p := pt2.other fM
  have g03 := (g1.trans g12.any).trans g23.any
  refine ⟨.ref p, rfl, .ref p, rfl, .int words, rfl, _, _, rfl, rfl, p, words + 1, _, rfl, by omega, by omega, by omega, pt3, fun v H4 a0 a1 g4 pt4 => ?_⟩
  obtain ⟨k, rfl⟩ : ∃ k : Nat, v = (k : Int) := ⟨v.toNat, (Int.toNat_of_nonneg a0).symm⟩
  refine ⟨p, k, _, rfl, pt4, by omega, fun Wl H5 ws fW g5 eW bw hl pt5 => ?_⟩
  have w20 : ws.length ≤ 20 := by omega
  have g35 : Grow [p] H3 H5 := g4.trans g5
  have eW5 : ∀ {H' : Hp}, Grow [p] H5 H' → H' Wl = some (.lst (ws.map V.str)) := fun g => g.lst (by simpa using pt4.other fW) eW
  have eH5 : ∀ {H' : Hp}, Grow [p] H5 H' → H' Hs = some (.lst ((sortS hands).map V.str)) := fun g => (g35.trans g).lst (by simpa using Hsp) (g23.lst (by simp) eHs)
  have lsh : (sortS hands).length = hands.length := (sortS_perm hands).length_eq
  have fM3 : Fresh H2 M := fM
  refine ⟨Wl, rfl, ⟨_, .inl (.inl (eW5 (Grow.refl _ _)))⟩, ?_⟩
  refine for_it (walk_list (xs := ws.map V.str)) (fun j σ H' => ∃ (o6 : Option V) (mo : Str → Nat), σ = [some (.ref p), some (.int most), some (.int words), some (.ref N), some (.ref Hs), some (.ref M), o6, none, none, none] ∧ Grow [p] H2 H' ∧ (∀ b xs, b ≠ p → H5 b = some (.lst xs) → H' b = some (.lst xs)) ∧ Pot H' p (c + 1300 + j) ∧ H' M = some (.dK (kvMo hands (ws.take j) mo)) ∧ ∀ x ∈ ws.take j, mo x < hands.length)
    ⟨none, fun _ => 0, rfl, g23.any.trans g35, (fun b xs _ h => h), pt5.mono (by omega), Grow.dK g35 (by simpa using Mp) eM, (fun x hx => nomatch hx)⟩ (fun j σ H' _ h => by obtain ⟨_, _, _, _, g, _⟩ := h; exact .inl (.inl (g Wl _ (pt4.other fW) (eW5 (Grow.refl _ _))))) (fun j x σ H6 H7 hj hp hy => ?_) (fun σ H6 hp => ?_)
  · obtain ⟨o6, mo, rfl, g6, k6, pt6, eM6, hmo⟩ := hp
    obtain ⟨rfl, ex⟩ := hy
    rw [List.length_map] at hj
    rw [List.getElem?_map] at ex
    cases ez : ws[j]? with
    | none => rw [ez] at ex; cases ex
    | some z =>
      rw [ez] at ex
      cases ex
      have eHs7 := k6 Hs _ Hsp (eH5 (Grow.refl _ _))
      refine ⟨.ref Hs, rfl, .ref p, rfl, .ref Hs, rfl, Hs, _, rfl, .inl (.inl (.inl eHs7)), p, hands.length, _, by rw [List.length_map, lsh]; rfl, by omega, by omega, by omega, pt6, fun v H8 b0 b1 g8 pt8 => ?_⟩
      have hv : v.toNat < (sortS hands).length := by omega
      obtain ⟨y, ey⟩ : ∃ y, (sortS hands)[v.toNat]? = some y := ⟨_, List.getElem?_eq_getElem hv⟩
      have ym := (sortS_perm hands).mem_iff.mp (List.mem_of_getElem? ey)
      have yl := List.idxOf_lt_length_of_mem ym
      have yn : nmOf hands (hands.idxOf y) = y := nmOf_at (by rw [List.getElem?_eq_getElem yl, List.getElem_idxOf])
      have eM8 : H8 M = some (.dK (kvMo hands (ws.take j) mo)) := Grow.dK g8 (by simpa using Mp) eM6
      have lM : (kvMo hands (ws.take j) mo).length ≤ 20 := by unfold kvMo; rw [List.length_map]; have := List.length_take_le' j ws; omega
      refine ⟨Hs, _, v, .str y, rfl, rfl, .inl (.inl (g8.lst (by simpa using Hsp) eHs7)), by rw [show v = ((v.toNat : Nat) : Int) by omega]; exact atI_nat (by rw [List.getElem?_map, ey]; rfl), .ref M, rfl, .str z, rfl, M, _, rfl, DPut.k (k := .inr z) eM8 (by unfold sizeLine; omega), ?_⟩
      have gM := grow_at (ex := [M]) (o := .dK (putK (kvMo hands (ws.take j) mo) (.inr z) (.str y))) eM8 (fun ps z => by cases z) (by simp)
      refine ⟨_, fun x => if x = z then hands.idxOf y else mo x, rfl, (g6.trans g8).put fM3 eM8 (fun ps z => by cases z), fun b xs hb e => ?_, (pt8.at Mp.symm).mono (by omega), ?_, fun x hx => ?_⟩
      · have e8 := g8.lst (by simpa using hb) (k6 b xs hb e)
        rw [upd_ne (fun y => by rw [y, eM8] at e8; cases e8)]
        exact e8
      · rw [upd_same]
        conv => lhs; rw [← yn]
        rw [kvMo_next bw.nd ez]
      · dsimp only
        rw [List.take_add_one, ez] at hx
        by_cases c1 : x = z
        · rw [if_pos c1]; exact yl
        · rw [if_neg c1]
          exact hmo x ((List.mem_append.mp hx).resolve_right fun y => c1 (List.mem_singleton.mp y))
  · obtain ⟨o6, mo, rfl, g6, k6, pt6, eM6, hmo⟩ := hp
    rw [List.length_map, List.take_length] at eM6 hmo
    rw [List.length_map] at pt6
    have g16 : Grow [p] H1 H6 := g12.any.trans g6
    have hN6 := hN.grow g16 (by simpa using Np) fun i hi => by simpa using adp i hi
    have eHs6 := k6 Hs _ Hsp (eH5 (Grow.refl _ _))
    have l16 : ws.length ≤ 20 := w20
    refine ⟨.ref p, rfl, .ref N, rfl, .ref M, rfl, p, N, M, _, hands, ws, ad, nbs, par, mo, rfl, pt6, by omega, hN6, nr, adp, eM6, bw, w20, hmo, fun Bo H7 ab bk fB g7 bks fab pm pt7 => ?_⟩
    have eHs7 := g7.lst (by simpa using Hsp) eHs6
    refine ⟨.ref p, rfl, .ref Hs, rfl, .ref p, rfl, .ref Hs, rfl, Hs, _, rfl, .inl (.inl (.inl eHs7)), p, hands.length, _, by rw [List.length_map, lsh]; rfl, by omega, by omega, by omega, pt7, fun v8 H8 b0 b1 g8 pt8 => ?_⟩
    obtain ⟨k8, rfl⟩ : ∃ k8 : Nat, v8 = (k8 : Int) := ⟨v8.toNat, (Int.toNat_of_nonneg b0).symm⟩
    refine ⟨_, _, rfl, rfl, p, Hs, 1 + k8, _, sortS hands, by simp, pt8, by omega, .inl (.inl (g8.lst (by simpa using Hsp) eHs7)), all_perm nr.bk.nm (sortS_perm hands), by omega, fun Sm H9 sm rest fS g9 eSm pmS lsm pt9 => ?_⟩
    rw [lsh] at lsm
    have smn : sm.Nodup := (List.nodup_append.mp (pmS.nodup_iff.mpr ((sortS_perm hands).nodup_iff.mpr nd))).1
    have smh : ∀ x ∈ sm, x ∈ hands := fun x hx => (sortS_perm hands).mem_iff.mp (pmS.mem_iff.mp (List.mem_append_left _ hx))
    have g79 : Grow [p] H7 H9 := g8.trans g9
    have g69 : Grow [p] H6 H9 := g7.trans g79
    have Bop := pt6.other fB
    have abp : ∀ i, i < hands.length → ab i ≠ p := fun i hi => pt6.other (fab i hi)
    have bks9 := bks.grow g79 (by simpa using Bop) fun i hi => by simpa using abp i hi
    have g09 : Grow [p] H H9 := (g1.trans g16).trans g69
    obtain ⟨bs, ebs⟩ : ∃ bs : List (Addr × (Str × List Str)), ((sm.take 12).map fun x => (ab (hands.idxOf x), (x, bk (hands.idxOf x)))) = bs := ⟨_, rfl⟩
    have bnames : bs.map (fun q => q.2.1) = sm.take 12 := by
      rw [← ebs, List.map_map]
      conv => rhs; rw [← List.map_id (sm.take 12)]
      rfl
    have bsl : bs.length = (sm.take 12).length := by rw [← ebs, List.length_map]
    have s12 : (sm.take 12).length ≤ 12 := by rw [List.length_take]; omega
    have sp : 0 < (sm.take 12).length := by rw [List.length_take]; omega
    have bmem : ∀ q ∈ bs, ∃ i, i < hands.length ∧ nmOf hands i = q.2.1 ∧ q.1 = ab i ∧ q.2.2 = bk i := fun q hq => by
      rw [← ebs] at hq
      obtain ⟨x, hx, rfl⟩ := List.mem_map.mp hq
      have xm := smh x (List.mem_of_mem_take hx)
      have xl := List.idxOf_lt_length_of_mem xm
      exact ⟨_, xl, nmOf_at (by rw [List.getElem?_eq_getElem xl, List.getElem_idxOf]), rfl, rfl⟩
    have gv : Giv bs ws := by
      refine ⟨⟨?_, by rw [List.length_map]; omega, fun q hq => ?_, bw.nd⟩, fun q hq => ?_, bw, w20, by omega⟩
      · have : (bs.map Prod.snd).map Prod.fst = bs.map fun q => q.2.1 := by rw [List.map_map]; rfl
        rw [this, bnames]
        exact smn.sublist (List.take_sublist _ _)
      · obtain ⟨z, hz, rfl⟩ := List.mem_map.mp hq
        obtain ⟨i, hi, _, _, e⟩ := bmem z hz
        rw [e]
        exact pm i hi
      · obtain ⟨i, hi, e, _, _⟩ := bmem q hq
        rw [← e]
        exact List.all_eq_true.mp nr.bk.nm _ (nmOf_mem hi)
    have ec : cutV (sm.map V.str) none (some 12) = (sm.take 12).map V.str := by rw [List.map_take]; exact cut_hi _ 12
    refine ⟨.ref Sm, rfl, _, rfl, Sm, _, rfl, .inl (.inl eSm), fun S12 nS => ⟨S12, rfl, ⟨_, .inl (.inl upd_same)⟩, fun D1 nD1 => ?_⟩⟩
    rw [ec] at nD1 ⊢
    have gS : Grow [] H9 (upd H9 S12 (.lst ((sm.take 12).map V.str))) := grow_new nS
    have eS : upd H9 S12 (.lst ((sm.take 12).map V.str)) S12 = some (.lst ((sm.take 12).map V.str)) := upd_same
    generalize upd H9 S12 (.lst ((sm.take 12).map V.str)) = Ha at gS eS nD1 ⊢
    have bksa := bks9.grow0 gS
    refine lc_it (walk_list (xs := (sm.take 12).map V.str)) (fun j H' => ∃ ps : List Addr, Grow [] Ha H' ∧ H' D1 = some (.lst (ps.map V.ref)) ∧ TupsAt H' ps (kvB (bs.take j))) ⟨[], grow_new nD1, upd_same, .nil⟩ (fun j H' _ h => by obtain ⟨_, g, _⟩ := h; exact .inl (.inl (g.lst (by simp) eS))) (fun j x Hb Hc hj hp hy => ?_) (fun Hb hp => ?_)
    · obtain ⟨ps, gb, eD, tp⟩ := hp
      obtain ⟨rfl, ex⟩ := hy
      rw [List.length_map] at hj
      obtain ⟨x, hx⟩ : ∃ x, (sm.take 12)[j]? = some x := ⟨_, List.getElem?_eq_getElem hj⟩
      rw [List.getElem?_map, hx] at ex
      cases ex
      have ebj : bs[j]? = some (ab (hands.idxOf x), (x, bk (hands.idxOf x))) := by rw [← ebs, List.getElem?_map, hx]; rfl
      have xm := smh x (List.mem_of_mem_take (List.mem_of_getElem? hx))
      have xl := List.idxOf_lt_length_of_mem xm
      have xn : nmOf hands (hands.idxOf x) = x := nmOf_at (by rw [List.getElem?_eq_getElem xl, List.getElem_idxOf])
      have dg : DGet Hc Bo (.str x) (some (.ref (ab (hands.idxOf x)))) := by
        rw [← kvR_val nd (fun i => V.ref (ab i)) xl, xn]
        exact DGet.k (k := .inr x) (bksa.grow0 gb).dict
      refine ⟨rfl, yes_if ⟨.str x, rfl, .ref Bo, rfl, .str x, rfl, Bo, .ref (ab (hands.idxOf x)), rfl, dg, by show 2 ≤ sizeLine; decide, fun T nT => ?_⟩⟩
      have gT : Grow [] Hc (upd Hc T (.tup [V.str x, .ref (ab (hands.idxOf x))])) := grow_new nT
      have eT : upd Hc T (.tup [V.str x, .ref (ab (hands.idxOf x))]) T = some (.tup [kV (Sum.inr x : Key), .ref (ab (hands.idxOf x))]) := upd_same
      have eD2 := gT.lst (by simp) eD
      generalize upd Hc T (.tup [V.str x, .ref (ab (hands.idxOf x))]) = Hd at gT eT eD2 ⊢
      have gP := grow_at (ex := [D1]) (o := .lst (ps.map V.ref ++ [.ref T])) eD2 (fun ps z => by cases z) (by simp)
      have lps : ps.length ≤ 12 := by
        have := tp.len
        unfold kvB at this
        rw [List.length_map] at this
        have h2 := List.length_take_le' j bs
        omega
      refine ⟨_, eD2, by rw [List.length_map]; unfold sizeLine; omega, ps ++ [T], (gb.trans gT).put (fresh_none nD1) eD2 (fun ps z => by cases z), by rw [List.map_append]; exact upd_same, ?_⟩
      have : kvB (bs.take (j + 1)) = kvB (bs.take j) ++ [((Sum.inr x : Key), V.ref (ab (hands.idxOf x)))] := by
        unfold kvB
        rw [List.take_add_one, ebj, List.map_append]
        rfl
      rw [this]
      exact ((tp.grow gT (lists_none _)).snoc eT).grow gP (lists_one eD2)
    · obtain ⟨ps, gb, eD, tp⟩ := hp
      rw [List.length_map, ← bsl, List.take_length] at tp
      refine ⟨D1, ps, _, rfl, .inl (.inl eD), paired_map (fun a kv e => .inl (.inl e)) tp, fun d nd' => ?_⟩
      have knd : ((kvB bs).map Prod.fst).Nodup := by rw [kvB_keys]; exact inr_nodup gv.nd
      rw [merge_nd knd]
      have gd : Grow [] Hb (upd Hb d (.dK (kvB bs))) := grow_new nd'
      have ed : upd Hb d (.dK (kvB bs)) d = some (.dK (kvB bs)) := upd_same
      have fd : Fresh H d := Fresh.back (gS.fresh (by simp) ((gb.fresh0 nd'))) g09 pt9
      generalize upd Hb d (.dK (kvB bs)) = Hc at gd ed ⊢
      have g9c := (gS.trans gb).trans gd
      refine ⟨.ref N, rfl, by show 2 ≤ sizeLine; decide, fun R nR => ?_⟩
      have gR : Grow [] Hc (upd Hc R (.lst [.ref d, .ref N])) := grow_new nR
      have g9r := g9c.trans gR
      have fR : Fresh H R := Fresh.back (g9c.fresh0 nR) g09 pt9
      refine q R _ d N bs ws fR (g09.trans g9r.any) upd_same ⟨Grow.dK gR (by simp) ed, fun z hz => ?_⟩ gv fd (fun z hz => ?_) ((pot_grow pt9 g9r).mono (by omega))
      · obtain ⟨i, hi, _, e1, e2⟩ := bmem z hz
        rw [e1, e2]
        exact g9r.lst (by simp) (bks9.lst i hi)
      · obtain ⟨i, hi, _, e1, _⟩ := bmem z hz
        rw [e1]
        exact Fresh.back (fab i hi) (g1.trans g16) pt6
end

end Lw

namespace Lw
open PySem PySem.Spec PyProof.Rows L2 GxR Gx
section
variable {P : Program} {w : World} {K : PySem.W.Frag} {mg : Str → Option Value} {base : Heap}
/-! ### _law_given -/
theorem cut_two (xs : List V) (a : Nat) : cutV xs (some (a : Int)) (some ((a : Int) + 2)) = (xs.drop a).take 2 := by
  unfold cutV
  rw [show ((a : Int) + 2) = ((a + 2 : Nat) : Int) by omega, HT.sIx_nat, HT.sIx_nat]
  by_cases h : a ≤ xs.length
  · rw [Nat.min_eq_left h]
    by_cases h2 : a + 2 ≤ xs.length
    · rw [Nat.min_eq_left h2, show a + 2 - a = 2 by omega]
    · rw [Nat.min_eq_right (by omega), List.take_of_length_le (by rw [List.length_drop]; omega), List.take_of_length_le (by rw [List.length_drop]; omega)]
  · rw [Nat.min_eq_right (by omega), Nat.min_eq_right (by omega), List.drop_of_length_le (by omega), List.drop_of_length_le (by omega)]
    simp
theorem turned_perm {α : Type} (xs : List α) (a : Nat) : (xs.take a ++ ((xs.drop a).take 2).reverse ++ xs.drop (a + 2)).Perm xs := by
  have e : xs = xs.take a ++ (xs.drop a).take 2 ++ xs.drop (a + 2) := by
    rw [List.append_assoc, ← List.drop_drop, List.take_append_drop, List.take_append_drop]
  conv => rhs; rw [e]
  exact List.Perm.append_right _ (List.Perm.append_left _ (List.reverse_perm _))
/-- one name has another book -/
def bsPut (bs : List (Addr × (Str × List Str))) (n : Str) (L : Addr) (b : List Str) : List (Addr × (Str × List Str)) := bs.map fun q => if q.2.1 = n then (L, (q.2.1, b)) else q
theorem kvB_put {bs : List (Addr × (Str × List Str))} {n : Str} {L : Addr} {b : List Str} {x : V} (h : valV (kvB bs) (.inr n) = some x) : putK (kvB bs) (.inr n) (.ref L) = kvB (bsPut bs n L b) := by
  unfold putK
  rw [valV_any, h]
  show (kvB bs).map _ = _
  unfold kvB bsPut
  rw [List.map_map, List.map_map]
  refine List.map_congr_left fun q _ => ?_
  show (if (Sum.inr q.2.1 : Key) = Sum.inr n then _ else _) = _
  by_cases c : q.2.1 = n
  · rw [if_pos (congrArg Sum.inr c)]
    show _ = ((Sum.inr (if q.2.1 = n then (L, (q.2.1, b)) else q).2.1 : Key), V.ref (if q.2.1 = n then (L, (q.2.1, b)) else q).1)
    rw [if_pos c]
  · rw [if_neg (fun z => c (Sum.inr.inj z))]
    show _ = ((Sum.inr (if q.2.1 = n then (L, (q.2.1, b)) else q).2.1 : Key), V.ref (if q.2.1 = n then (L, (q.2.1, b)) else q).1)
    rw [if_neg c]
theorem bsPut_mem {bs : List (Addr × (Str × List Str))} {n : Str} {L : Addr} {b : List Str} {q : Addr × (Str × List Str)} (h : q ∈ bsPut bs n L b) : (∃ p ∈ bs, p.2.1 = n ∧ q = (L, (n, b))) ∨ q ∈ bs := by
  obtain ⟨p, hp, e⟩ := List.mem_map.mp h
  by_cases c : p.2.1 = n
  · rw [if_pos c] at e
    exact .inl ⟨p, hp, c, by rw [← e, c]⟩
  · rw [if_neg c] at e
    exact .inr (e ▸ hp)
theorem bsPut_names (bs : List (Addr × (Str × List Str))) (n : Str) (L : Addr) (b : List Str) : (bsPut bs n L b).map (fun q => q.2.1) = bs.map fun q => q.2.1 := by
  unfold bsPut
  rw [List.map_map]
  refine List.map_congr_left fun q _ => ?_
  show (if q.2.1 = n then (L, (q.2.1, b)) else q).2.1 = q.2.1
  split <;> rfl
theorem giv_of {bs : List (Addr × (Str × List Str))} {ws : List Str} (nd : (bs.map fun q => q.2.1).Nodup) (p0 : 0 < bs.length) (p12 : bs.length ≤ 12) (nm : ∀ q ∈ bs, isNm q.2.1 = true) (pm : ∀ q ∈ bs, q.2.2.Perm ws) (bw : Bk ws) (w20 : ws.length ≤ 20) : Giv bs ws :=
  ⟨⟨by rw [List.map_map]; exact nd, by rw [List.length_map]; exact p0, fun q hq => by obtain ⟨z, hz, rfl⟩ := List.mem_map.mp hq; exact pm z hz, bw.nd⟩, nm, bw, w20, p12⟩
theorem giv_put {bs : List (Addr × (Str × List Str))} {ws : List Str} (g : Giv bs ws) (n : Str) (L : Addr) {b : List Str} (pb : b.Perm ws) : Giv (bsPut bs n L b) ws := by
  have l : (bsPut bs n L b).length = bs.length := List.length_map _
  refine giv_of (by rw [bsPut_names]; exact g.nd) (by rw [l]; exact g.pos) (by rw [l]; exact g.most) (fun q hq => ?_) (fun q hq => ?_) g.bk g.w20
  · rcases bsPut_mem hq with ⟨p, hp, e, rfl⟩ | hq
    · rw [← e]; exact g.nm p hp
    · exact g.nm q hq
  · rcases bsPut_mem hq with ⟨p, hp, e, rfl⟩ | hq
    · exact pb
    · exact g.pm hq
def spGiven (K : PySem.W.Frag) : Sp := fun vs H Q _ => ∃ (p : Addr) (c : Int), vs = [.ref p] ∧ Pot H p c ∧ c ≤ 2 ^ 17 ∧
  ∀ d H' bs ws, Fresh H d → Grow [p] H H' → GivAt H' d bs → Giv bs ws → (∀ q ∈ bs, Fresh H q.1) → Pot H' p (c + 9000) → Q (.ref d) H'
theorem ok_law_given {f c : Addr} {fd : FuncData} (B : Nb mg) (D : DefIs K "_law_given" "_law_given" st_law_given f fd (.ref c))
    (c_law_heard : Callee P w K mg base CX0 7 "_law_heard" ["pot", "most", "words"] (spHeardG K)) (c_law_take : Callee P w K mg base CX0 3 "_law_take" ["pot", "many"] (spTake K)) (c_law_names : Callee P w K mg base CX0 5 "_law_names" ["pot", "many"] (spDraw K))
    (c_law_some : Callee P w K mg base CX0 4 "_law_some" ["pot", "things", "many"] (spSome K)) : FnG P w K mg base CX0 8 f fd ["pot"] (spGiven K) := by
  refine D.ok0 (k := 7) sc_law_given (fun vs H Q E h => ?_) (fun A outer s H vs Q E g hr h => ?_)
  · obtain ⟨p, c, rfl, _⟩ := h
    rfl
  obtain ⟨p, c, rfl, pt, hc, q⟩ := h
  refine ⟨_,
      (pss_cons (ps_asg (pe_g c_law_heard g (hr.mono (by decide)) pass0 (pa_cons (pv 0) (pa_cons (pe_ix ix_list (pe_lst (pa_cons pe_int (pa_cons pe_int pa_nil))) (pe_g c_law_take g (hr.mono (by decide)) pass0 (pa_cons (pv 0) (pa_cons pe_int pa_nil))) (fun _ _ => rfl)) (pa_cons (pe_ix ix_list (pe_lst (pa_cons pe_int (pa_cons pe_int pa_nil))) (pe_g c_law_take g (hr.mono (by decide)) pass0 (pa_cons (pv 0) (pa_cons pe_int pa_nil))) (fun _ _ => rfl)) pa_nil)))) (pg_unl rfl (pgs_cons (pg_name (i := 1) sc_law_given.nd rfl (.inl rfl)) (pgs_cons (pg_name (i := 2) sc_law_given.nd rfl (.inl rfl)) pgs_nil))))
      (pss_cons (ps_set (i := 3) sc_law_given.nd rfl (.inl rfl) (pe_g c_law_take g (hr.mono (by decide)) pass0 (pa_cons (pv 0) (pa_cons pe_int pa_nil))))
      (pss_cons (ps_if (pt_cmpR (op_eq) (pv 3) pe_int (nomark _)) (
        (pss_cons (ps_set (i := 4) sc_law_given.nd rfl (.inr rfl) (pe_g c_law_names g (hr.mono (by decide)) pass0 (pa_cons (pv 0) (pa_cons (pe_g c_law_take g (hr.mono (by decide)) pass0 (pa_cons (pv 0) (pa_cons pe_int pa_nil))) pa_nil))))
        (pss_cons (ps_set (i := 5) sc_law_given.nd rfl (.inl rfl) (pe_g c_law_names g (hr.mono (by decide)) pass0 (pa_cons (pv 0) (pa_cons (pe_op op_add pe_int (pe_g c_law_take g (hr.mono (by decide)) pass0 (pa_cons (pv 0) (pa_cons pe_int pa_nil)))) pa_nil))))
        (pss_one (ps_ret (pe_callTy (call_dictP rfl) rfl B.n_dict (by decide +kernel) (pa_cons (pe_lc (own := [("name", 6)]) (tt := tYes) (g := (gName 6)) rfl sc_law_given.nd (pi_list (pv 5)) (blkOk_by (N := N_law_given) (sc := defScope st_law_given) (by decide +kernel)) (fun _ _ _ _ _ => (pg_name (i := 6) sc_law_given.nd rfl (.inl rfl))) (fun _ _ _ _ _ => pts_nil) (fun _ _ _ _ _ => pe_to (pe_tup (pa_cons (pv 6) (pa_cons (pe_g c_law_some g (hr.mono (by decide)) pass0 (pa_cons (pv 0) (pa_cons (pv 4) (pa_cons pe_int pa_nil)))) pa_nil))))) pa_nil))))))) pss_nil)
      (pss_cons (ps_for PassesOwn.never rfl (pi_range1 rfl B.n_range (pa_cons (pe_op op_mulX (pe_callTy call_int1 rfl B.n_int (by decide +kernel) (pa_cons (pe_cmpR (op_eq) (pv 3) pe_int (nomark _)) pa_nil)) (pe_op op_add pe_int (pe_g c_law_take g (hr.mono (by decide)) pass0 (pa_cons (pv 0) (pa_cons pe_int pa_nil))))) pa_nil)) (pg_name (i := 7) sc_law_given.nd rfl (.inl rfl)) (
        (pss_cons (ps_set (i := 6) sc_law_given.nd rfl (.inl rfl) (pe_ix ix_list (pe_callB (cr_sortD rfl hr.units) rfl B.n_sorted (by decide +kernel) (pa_cons (pv 1) pa_nil)) (pe_g c_law_take g (hr.mono (by decide)) pass0 (pa_cons (pv 0) (pa_cons (pe_callB call_lenD rfl B.n_len PySem.boot_len (pa_cons (pv 1) pa_nil)) pa_nil))) (fun _ _ => rfl)))
        (pss_cons (ps_set (i := 8) sc_law_given.nd rfl (.inl rfl) (pe_g c_law_take g (hr.mono (by decide)) pass0 (pa_cons (pv 0) (pa_cons (pe_callB (call_max2 rfl) rfl B.n_max (by decide +kernel) (pa_cons pe_int (pa_cons (pe_op op_sub (pe_callB call_len_seq rfl B.n_len PySem.boot_len (pa_cons (pe_dget (hu_of hr) (pv 1) (pv 6) (fun _ _ => rfl)) pa_nil)) pe_int) pa_nil))) pa_nil))))
        (pss_cons (ps_set (i := 9) sc_law_given.nd rfl (.inl rfl) (pe_dget (hu_of hr) (pv 1) (pv 6) (fun _ _ => rfl)))
        (pss_one (ps_asg (pe_op op_cat (pe_op op_cat (pe_slice sl_list (pv 9) po_none (po_some (pv 8))) (pe_revL (pe_slice sl_list (pv 9) (po_some (pv 8)) (po_some (pe_op op_add (pv 8) pe_int))))) (pe_slice sl_list (pv 9) (po_some (pe_op op_add (pv 8) pe_int)) po_none)) (pg_sub (pv 1) (pv 6) (set_dict (hu_of hr))))))))))
      (pss_one (ps_ret (pv 1))))))), ?_⟩
  refine ⟨.ref p, rfl, by show 2 ≤ sizeLine; decide, fun A1 nA1 => ?_⟩
  have gA : Grow [] H (upd H A1 (.lst [.int 4, .int 9])) := grow_new nA1
  have eA : upd H A1 (.lst [.int 4, .int 9]) A1 = some (.lst [.int 4, .int 9]) := upd_same
  generalize upd H A1 (.lst [.int 4, .int 9]) = H1 at gA eA ⊢
  have pt1 := pot_grow pt gA
  have A1p : A1 ≠ p := pt.other (fresh_none nA1)
  refine ⟨.ref p, rfl, p, 2, c, rfl, by decide, by decide, by omega, pt1, fun v2 H2 a0 a1 g2 pt2 => ?_⟩
  obtain ⟨m1, hm1, m1a, m1b⟩ : ∃ m : Nat, atI [V.int 4, V.int 9] v2 = some (.int m) ∧ 1 ≤ m ∧ m ≤ 14 := by
    rcases (by omega : v2 = 0 ∨ v2 = 1) with e | e
    · exact ⟨4, by rw [e]; rfl, by decide, by decide⟩
    · exact ⟨9, by rw [e]; rfl, by decide, by decide⟩
  refine ⟨A1, _, v2, .int m1, rfl, rfl, .inl (.inl (g2.lst (by simpa using A1p) eA)), hm1, by show 2 ≤ sizeLine; decide, fun A2 nA2 => ?_⟩
  have gA2 : Grow [] H2 (upd H2 A2 (.lst [.int 4, .int 7])) := grow_new nA2
  have eA2 : upd H2 A2 (.lst [.int 4, .int 7]) A2 = some (.lst [.int 4, .int 7]) := upd_same
  generalize upd H2 A2 (.lst [.int 4, .int 7]) = H3 at gA2 eA2 ⊢
  have pt3 := pot_grow pt2 gA2
  have A2p : A2 ≠ p := pt2.other (fresh_none nA2)
  refine ⟨.ref p, rfl, p, 2, _, rfl, by decide, by decide, by omega, pt3, fun v4 H4 b0 b1 g4 pt4 => ?_⟩
  obtain ⟨m2, hm2, m2b⟩ : ∃ m : Nat, atI [V.int 4, V.int 7] v4 = some (.int m) ∧ m ≤ 20 := by
    rcases (by omega : v4 = 0 ∨ v4 = 1) with e | e
    · exact ⟨4, by rw [e]; rfl, by decide⟩
    · exact ⟨7, by rw [e]; rfl, by decide⟩
  refine ⟨A2, _, v4, .int m2, rfl, rfl, .inl (.inl (g4.lst (by simpa using A2p) eA2)), hm2, ?_⟩
  have g04 : Grow [p] H H4 := ((gA.any.trans g2).trans gA2.any).trans g4
  refine ⟨p, m1, m2, _, rfl, m1a, m1b, m2b, pt4, by omega, fun R H5 d N bs ws fR g5 eR hat gv fd fq pt5 => ?_⟩
  have g05 := g04.trans g5
  have fd0 : Fresh H d := Fresh.back fd g04 pt4
  have fq0 : ∀ q ∈ bs, Fresh H q.1 := fun q hq => Fresh.back (fq q hq) g04 pt4
  refine ⟨R, _, rfl, .inl (.inl eR), rfl, _, _, rfl, _, _, rfl, rfl, ?_⟩
  refine ⟨.ref p, rfl, p, 4, _, rfl, by decide, by decide, by omega, pt5, fun v6 H6 c0 c1 g6 pt6 => ?_⟩
  have dp := pt.other fd0
  have qp : ∀ q ∈ bs, q.1 ≠ p := fun q hq => pt.other (fq0 q hq)
  have hat6 := hat.grow g6 (by simpa using dp) fun q hq => by simpa using qp q hq
  have g06 := g05.trans g6
  refine ⟨.int v6, rfl, rfl, _, rfl, ?_⟩
  by_cases cw : v6 = 0
  · rw [cw, show decide (V.int 0 = V.int 0) = true from rfl]
    refine iteT ⟨.ref p, rfl, .ref p, rfl, p, 5, _, rfl, by decide, by decide, by omega, pt6, fun v7 H7 d0 d1 g7 pt7 => ?_⟩
    obtain ⟨k7, rfl⟩ : ∃ k : Nat, v7 = (k : Int) := ⟨v7.toNat, (Int.toNat_of_nonneg d0).symm⟩
    refine ⟨p, k7, _, rfl, pt7, by omega, fun Wl H8 ws2 fW g8 eW bw hl8 pt8 => ?_⟩
    refine ⟨.ref p, rfl, .ref p, rfl, p, 6, _, rfl, by decide, by decide, by omega, pt8, fun v9 H9 e0 e1 g9 pt9 => ?_⟩
    obtain ⟨k9, rfl⟩ : ∃ k : Nat, v9 = (k : Int) := ⟨v9.toNat, (Int.toNat_of_nonneg e0).symm⟩
    refine ⟨_, _, rfl, rfl, p, 1 + k9, _, by simp, pt9, by omega, fun Nl H10 nms fN g10 eN bn hl10 pt10 => ?_⟩
    have g0a : Grow [p] H H10 := (((g06.trans g7).trans g8).trans g9).trans g10
    have Wp : Wl ≠ p := pt7.other fW
    have Nlp : Nl ≠ p := pt9.other fN
    have eWa : H10 Wl = some (.lst (ws2.map V.str)) := (g9.trans g10).lst (by simpa using Wp) eW
    refine ⟨.ref Nl, rfl, Nl, rfl, ⟨_, .inl (.inl eN)⟩, fun D1 nD1 => ?_⟩
    have fD1 := fresh_none nD1
    have D1p := pt10.other fD1
    refine lc_it (walk_list (xs := nms.map V.str)) (fun j H' => ∃ (ps : List Addr) (bs : List (Addr × (Str × List Str))), Grow [p] H10 H' ∧ Pot H' p (c + 6000 + 200 * j) ∧ H' D1 = some (.lst (ps.map V.ref)) ∧ TupsAt H' ps (kvB bs) ∧ bs.map (fun q => q.2.1) = nms.take j ∧ ∀ q ∈ bs, H' q.1 = some (.lst (q.2.2.map V.str)) ∧ q.2.2.Perm ws2 ∧ Fresh H10 q.1 ∧ q.1 ≠ D1)
      ⟨[], [], (grow_new nD1).any, (pt10.new nD1).mono (by omega), upd_same, .nil, rfl, (fun q hq => nomatch hq)⟩ (fun j H' _ h => by obtain ⟨_, _, g, _⟩ := h; exact .inl (.inl (g.lst (by simpa using Nlp) eN))) (fun j x Ha Hb hj hp hy => ?_) (fun Ha hp => ?_)
    · obtain ⟨ps, bs2, ga, pa, eD, tp, em, hb⟩ := hp
      obtain ⟨rfl, ex⟩ := hy
      rw [List.length_map] at hj
      obtain ⟨x, hx⟩ : ∃ x, nms[j]? = some x := ⟨_, List.getElem?_eq_getElem hj⟩
      rw [List.getElem?_map, hx] at ex
      cases ex
      refine ⟨rfl, yes_if ⟨.str x, rfl, .ref p, rfl, .ref Wl, rfl, p, Wl, 99, _, ws2, rfl, pa, by omega, .inl (.inl (ga.lst (by simpa using Wp) eWa)), bw.nm, by omega, fun L Hc b rest fL gc eL pmb lb ptc => ?_⟩⟩
      refine ⟨by show 2 ≤ sizeLine; decide, fun T nT => ?_⟩
      have hrest : rest = [] := by
        have h1 := pmb.length_eq
        rw [List.length_append] at h1
        exact List.eq_nil_of_length_eq_zero (by omega)
      rw [hrest, List.append_nil] at pmb
      have Lp := pa.other fL
      have fL10 : Fresh H10 L := Fresh.back fL ga pa
      have LD : L ≠ D1 := (fL.ne eD fun ps z => by cases z).symm
      have gT : Grow [] Hc (upd Hc T (.tup [V.str x, .ref L])) := grow_new nT
      have eT : upd Hc T (.tup [V.str x, .ref L]) T = some (.tup [kV (Sum.inr x : Key), .ref L]) := upd_same
      have eD2 := gT.lst (by simp) (gc.lst (p := D1) (by simpa using D1p) eD)
      have eL2 := gT.lst (by simp) eL
      have pt2' := pot_grow ptc gT
      have hb2 : ∀ q ∈ bs2, upd Hc T (.tup [V.str x, .ref L]) q.1 = some (.lst (q.2.2.map V.str)) := fun q hq => gT.lst (by simp) (gc.lst (by simpa using pt10.other (hb q hq).2.2.1) (hb q hq).1)
      have tp2 := (tp.grow gc pa.lists).grow gT (lists_none _)
      have gpT := gc.trans gT.any
      generalize upd Hc T (.tup [V.str x, .ref L]) = Hd at gT eT eD2 eL2 pt2' hb2 tp2 gpT ⊢
      have gP := grow_at (ex := [D1]) (o := .lst (ps.map V.ref ++ [.ref T])) eD2 (fun ps z => by cases z) (by simp)
      have lps : ps.length = j := by
        have h1 := tp.len
        have h2 := congrArg List.length em
        unfold kvB at h1
        rw [List.length_map] at h1 h2
        rw [List.length_take] at h2
        omega
      refine ⟨_, eD2, by rw [List.length_map]; unfold sizeLine; omega, ps ++ [T], bs2 ++ [(L, (x, b))], (ga.trans gpT).put fD1 eD2 (fun ps z => by cases z), (pt2'.at (Ne.symm D1p)).mono (by omega), by rw [List.map_append]; exact upd_same, ?_, ?_, fun q hq => ?_⟩
      · have : kvB (bs2 ++ [(L, (x, b))]) = kvB bs2 ++ [((Sum.inr x : Key), V.ref L)] := by unfold kvB; rw [List.map_append]; rfl
        rw [this]
        exact (tp2.snoc eT).grow gP (lists_one eD2)
      · rw [List.map_append, em, List.take_add_one, hx]
        rfl
      · rcases List.mem_append.mp hq with hq | hq
        · exact ⟨gP.lst (by simpa using (hb q hq).2.2.2) (hb2 q hq), (hb q hq).2⟩
        · rw [List.mem_singleton.mp hq]
          exact ⟨gP.lst (by simpa using LD) eL2, pmb, fL10, LD⟩
    · obtain ⟨ps, bs2, ga, pa, eD, tp, em, hb⟩ := hp
      rw [List.length_map] at pa em
      rw [List.take_length] at em
      refine ⟨D1, ps, _, rfl, .inl (.inl eD), paired_map (fun a kv e => .inl (.inl e)) tp, fun d2 nd2 => ?_⟩
      have nd2' : (bs2.map fun q => q.2.1).Nodup := by rw [em]; exact bn.nd
      have lb : bs2.length = nms.length := by rw [← em, List.length_map]
      have knd : ((kvB bs2).map Prod.fst).Nodup := by rw [kvB_keys]; exact inr_nodup nd2'
      rw [merge_nd knd]
      have gd : Grow [] Ha (upd Ha d2 (.dK (kvB bs2))) := grow_new nd2
      refine q d2 _ bs2 ws2 (Fresh.back (Fresh.back (fresh_none nd2) ga pa) g0a pt10) ((g0a.trans ga).trans gd.any) ⟨upd_same, fun z hz => gd.lst (by simp) (hb z hz).1⟩ (giv_of nd2' (by omega) (by omega) (fun z hz => ?_) (fun z hz => (hb z hz).2.1) bw (by omega)) (fun z hz => Fresh.back (hb z hz).2.2.1 g0a pt10) ((pot_grow pa gd).mono (by omega))
      have : z.2.1 ∈ nms := by rw [← em]; exact List.mem_map.mpr ⟨z, hz, rfl⟩
      exact List.all_eq_true.mp bn.nm _ this
  · rw [show decide (V.int v6 = V.int 0) = false from decide_eq_false fun z => cw (V.int.inj z)]
    refine iteF ?_
    obtain ⟨e5, he5, e5a, e5b⟩ : ∃ e5 : Int, (if decide (V.int v6 = V.int 1) = true then (1 : Int) else 0) = e5 ∧ 0 ≤ e5 ∧ e5 ≤ 1 := ⟨_, rfl, by split <;> decide, by split <;> decide⟩
    refine ⟨.int v6, rfl, rfl, .inr ⟨_, rfl, .ref p, rfl, p, 2, _, rfl, by decide, by decide, by omega, pt6, fun v7 H7 d0 d1 g7 pt7 => ⟨_, _, rfl, rfl, _, _, rfl, rfl, ?_⟩⟩⟩
    rw [he5]
    have cm : CMulX e5 (1 + v7) := by
      have b1 : Builtin.Int.intBits e5 ≤ 2 := bits_le (by decide) (by show (_ : Nat) < 4; omega)
      have b2 : Builtin.Int.intBits (1 + v7) ≤ 3 := bits_le (by decide) (by show (_ : Nat) < 8; omega)
      unfold CMulX
      omega
    obtain ⟨M, hM, M0, M2⟩ : ∃ M : Int, e5 * (1 + v7) = M ∧ 0 ≤ M ∧ M ≤ 2 := by
      rcases (by omega : e5 = 0 ∨ e5 = 1) with e | e
      · exact ⟨0, by rw [e, Int.zero_mul], by decide, by decide⟩
      · exact ⟨1 + v7, by rw [e, Int.one_mul], by omega, by omega⟩
    refine ⟨cm, _, rfl, by rw [hM]; omega, by rw [hM]; omega, ?_⟩
    rw [hM]
    have hat7 := hat6.grow g7 (by simpa using dp) fun q hq => by simpa using qp q hq
    refine for_it walk_range (fun t σ H' => ∃ (o6 o7 o8 o9 : Option V) (bs' : List (Addr × (Str × List Str))), σ = [some (.ref p), some (.ref d), some (.ref N), some (.int v6), none, none, o6, o7, o8, o9] ∧ Grow [p] H H' ∧ Pot H' p (c + 6000 + 10 * t) ∧ GivAt H' d bs' ∧ Giv bs' ws ∧ ∀ q ∈ bs', Fresh H q.1)
      ⟨none, none, none, none, bs, rfl, g06.trans g7, pt7.mono (by omega), hat7, gv, fq0⟩ (fun _ _ _ _ _ => trivial) (fun t x σ Ha Hb ht hp hy => ?_) (fun σ Ha hp => ?_)
    · obtain ⟨o6, o7, o8, o9, bs', rfl, ga, pa, hat', gv', fq'⟩ := hp
      obtain ⟨rfl, rfl⟩ := hy
      have n1 := gv'.pos
      have n12 := gv'.most
      have eK := kvB_keys bs'
      refine ⟨.ref d, rfl, d, kvB bs', bs'.map fun p => p.2.1, rfl, .inl hat'.1, eK, by rw [List.length_map]; unfold sizeLine; omega, fun S nS => ?_⟩
      have es : (bs'.map fun p => p.2.1).mergeSort (PySem.W.dataLe false PyData.str) = sortS (bs'.map fun p => p.2.1) := rfl
      rw [es]
      have gS : Grow [] Hb (upd Hb S (.lst ((sortS (bs'.map fun p => p.2.1)).map V.str))) := grow_new nS
      have eS : upd Hb S (.lst ((sortS (bs'.map fun p => p.2.1)).map V.str)) S = some (.lst ((sortS (bs'.map fun p => p.2.1)).map V.str)) := upd_same
      generalize upd Hb S (.lst ((sortS (bs'.map fun p => p.2.1)).map V.str)) = Hc at gS eS ⊢
      have pc := pot_grow pa gS
      have Sp := pa.other (fresh_none nS)
      have hatc := hat'.grow0 gS
      have lS : (sortS (bs'.map fun p => p.2.1)).length = bs'.length := by rw [(sortS_perm _).length_eq, List.length_map]
      refine ⟨.ref p, rfl, .ref d, rfl, d, kvB bs', rfl, hatc.1, p, bs'.length, _, by rw [kvB_len]; rfl, by omega, by omega, by omega, pc, fun v Hd b0 b1 gd pd => ?_⟩
      have hv : v.toNat < (sortS (bs'.map fun p => p.2.1)).length := by omega
      obtain ⟨nm, enm⟩ : ∃ y, (sortS (bs'.map fun p => p.2.1))[v.toNat]? = some y := ⟨_, List.getElem?_eq_getElem hv⟩
      obtain ⟨z, hz, ez⟩ := List.mem_map.mp ((sortS_perm _).mem_iff.mp (List.mem_of_getElem? enm))
      refine ⟨S, _, v, .str nm, rfl, rfl, .inl (.inl (gd.lst (by simpa using Sp) eS)), by rw [show v = ((v.toNat : Nat) : Int) by omega]; exact atI_nat (by rw [List.getElem?_map, enm]; rfl), ?_⟩
      have qp' : ∀ q ∈ bs', q.1 ≠ p := fun q hq => pt.other (fq' q hq)
      have hatd := hatc.grow gd (by simpa using dp) fun q hq => by simpa using qp' q hq
      have lz := (gv'.pm hz).length_eq
      have w20 := gv'.w20
      have dg : ∀ {H' : Hp}, GivAt H' d bs' → DGet H' d (.str nm) (some (.ref z.1)) := fun h => by
        rw [← kvB_val gv'.nd hz, ez]
        exact DGet.k (k := .inr nm) h.1
      obtain ⟨m, hm, m0, m20⟩ : ∃ m : Int, (if ((z.2.2.length : Nat) : Int) - 1 > 1 then ((z.2.2.length : Nat) : Int) - 1 else 1) = m ∧ 1 ≤ m ∧ m ≤ 20 := ⟨_, rfl, by split <;> omega, by split <;> omega⟩
      refine ⟨.ref p, rfl, .ref d, rfl, .str nm, rfl, d, .ref z.1, rfl, dg hatd, z.1, _, rfl, .inl (.inl (.inl (hatd.2 z hz))), _, _, rfl, rfl, _, _, rfl, p, m, _, by rw [List.length_map, hm]; rfl, by omega, by omega, by omega, pd, fun v3 He f0 f1 ge pe => ?_⟩
      have hate := hatd.grow ge (by simpa using dp) fun q hq => by simpa using qp' q hq
      obtain ⟨at_, rfl⟩ : ∃ k : Nat, v3 = (k : Int) := ⟨v3.toNat, (Int.toNat_of_nonneg f0).symm⟩
      obtain ⟨xs, exs⟩ : ∃ xs, z.2.2 = xs := ⟨_, rfl⟩
      have ex := hate.2 z hz
      rw [exs] at ex lz
      refine ⟨.ref d, rfl, .str nm, rfl, d, .ref z.1, rfl, dg hate, ?_⟩
      refine ⟨.ref z.1, rfl, .int at_, rfl, _, rfl, z.1, _, rfl, .inl (.inl ex), fun L1 n1' => ?_⟩
      rw [cut_hi, ← List.map_take]
      have k1 : Grow [] He (upd He L1 (.lst ((xs.take at_).map V.str))) := grow_new n1'
      have q1 : upd He L1 (.lst ((xs.take at_).map V.str)) L1 = some (.lst ((xs.take at_).map V.str)) := upd_same
      generalize upd He L1 (.lst ((xs.take at_).map V.str)) = Hf at k1 q1 ⊢
      refine ⟨.ref z.1, rfl, .int at_, rfl, _, rfl, .int at_, rfl, _, _, rfl, rfl, _, rfl, z.1, _, rfl, .inl (.inl (k1.lst (by simp) ex)), fun L2 n2' => ?_⟩
      have ec2 : cutV (xs.map V.str) (some (at_ : Int)) (some ((at_ : Int) + 2)) = ((xs.drop at_).take 2).map V.str := by rw [cut_two, List.map_take, List.map_drop]
      rw [ec2]
      have k2 : Grow [] Hf (upd Hf L2 (.lst (((xs.drop at_).take 2).map V.str))) := grow_new n2'
      have q2 : upd Hf L2 (.lst (((xs.drop at_).take 2).map V.str)) L2 = some (.lst (((xs.drop at_).take 2).map V.str)) := upd_same
      generalize upd Hf L2 (.lst (((xs.drop at_).take 2).map V.str)) = Hg at k2 q2 ⊢
      refine ⟨L2, _, rfl, .inl (.inl q2), fun L3 n3' => ?_⟩
      rw [← List.map_reverse]
      have k3 : Grow [] Hg (upd Hg L3 (.lst (((xs.drop at_).take 2).reverse.map V.str))) := grow_new n3'
      have q3 : upd Hg L3 (.lst (((xs.drop at_).take 2).reverse.map V.str)) L3 = some (.lst (((xs.drop at_).take 2).reverse.map V.str)) := upd_same
      generalize upd Hg L3 (.lst (((xs.drop at_).take 2).reverse.map V.str)) = Hh at k3 q3 ⊢
      refine ⟨L1, L3, _, _, rfl, rfl, (k2.trans k3).lst (by simp) q1, q3, by rw [List.length_map, List.length_map, List.length_reverse, List.length_take, List.length_take]; unfold sizeLine; omega, fun L4 n4' => ?_⟩
      rw [← List.map_append]
      have k4 : Grow [] Hh (upd Hh L4 (.lst ((xs.take at_ ++ ((xs.drop at_).take 2).reverse).map V.str))) := grow_new n4'
      have q4 : upd Hh L4 (.lst ((xs.take at_ ++ ((xs.drop at_).take 2).reverse).map V.str)) L4 = some (.lst ((xs.take at_ ++ ((xs.drop at_).take 2).reverse).map V.str)) := upd_same
      generalize upd Hh L4 (.lst ((xs.take at_ ++ ((xs.drop at_).take 2).reverse).map V.str)) = Hi at k4 q4 ⊢
      have k14 := ((k1.trans k2).trans k3).trans k4
      refine ⟨.ref z.1, rfl, .int at_, rfl, _, _, rfl, rfl, _, rfl, z.1, _, rfl, .inl (.inl (k14.lst (by simp) ex)), fun L5 n5' => ?_⟩
      have ec5 : cutV (xs.map V.str) (some ((at_ : Int) + 2)) none = (xs.drop (at_ + 2)).map V.str := by rw [show ((at_ : Int) + 2) = ((at_ + 1 : Nat) : Int) + 1 by omega, cut_from, List.map_drop]
      rw [ec5]
      have k5 : Grow [] Hi (upd Hi L5 (.lst ((xs.drop (at_ + 2)).map V.str))) := grow_new n5'
      have q5 : upd Hi L5 (.lst ((xs.drop (at_ + 2)).map V.str)) L5 = some (.lst ((xs.drop (at_ + 2)).map V.str)) := upd_same
      generalize upd Hi L5 (.lst ((xs.drop (at_ + 2)).map V.str)) = Hj at k5 q5 ⊢
      refine ⟨L4, L5, _, _, rfl, rfl, k5.lst (by simp) q4, q5, by rw [List.length_map, List.length_map, List.length_append, List.length_reverse, List.length_take, List.length_take, List.length_drop, List.length_drop]; unfold sizeLine; omega, fun L6 n6' => ?_⟩
      rw [← List.map_append]
      obtain ⟨nb, enb⟩ : ∃ nb, xs.take at_ ++ ((xs.drop at_).take 2).reverse ++ xs.drop (at_ + 2) = nb := ⟨_, rfl⟩
      have pnb : nb.Perm ws := by rw [← enb]; exact (turned_perm xs at_).trans (by rw [← exs]; exact gv'.pm hz)
      rw [enb]
      have k6 := (k14.trans k5).new (o := .lst (nb.map V.str)) n6'
      have q6 : upd Hj L6 (.lst (nb.map V.str)) L6 = some (.lst (nb.map V.str)) := upd_same
      have fL6 : Fresh H L6 := Fresh.back (Fresh.back ((k14.trans k5).fresh0 n6') (gd.trans ge) pe) (ga.trans gS.any) pc
      generalize upd Hj L6 (.lst (nb.map V.str)) = Hk at k6 q6 ⊢
      have hatk := hate.grow0 k6
      have pk := pot_grow pe k6
      have gk : Grow [p] H Hk := ((ga.trans gS.any).trans (gd.trans ge)).trans k6.any
      have vz : valV (kvB bs') (.inr nm) = some (.ref z.1) := by rw [← ez]; exact kvB_val gv'.nd hz
      have gdd := grow_at (ex := [d]) (o := .dK (putK (kvB bs') (.inr nm) (.ref L6))) hatk.1 (fun ps z => by cases z) (by simp)
      refine ⟨.ref d, rfl, .str nm, rfl, d, _, rfl, DPut.k (k := .inr nm) hatk.1 (by rw [kvB_len]; unfold sizeLine; omega), _, _, _, _, bsPut bs' nm L6 nb, rfl, gk.put fd0 hatk.1 (fun ps z => by cases z), (pk.at (Ne.symm dp)).mono (by omega), ⟨by rw [upd_same, kvB_put (b := nb) vz], fun y hy => ?_⟩, giv_put gv' nm L6 pnb, fun y hy => ?_⟩
      · have ned : ∀ {a : Addr} {xs : List V}, Hk a = some (.lst xs) → a ≠ d := fun e z => by rw [z, hatk.1] at e; cases e
        rcases bsPut_mem hy with ⟨_, _, _, rfl⟩ | hy
        · rw [upd_ne (ned q6)]; exact q6
        · rw [upd_ne (ned (hatk.2 y hy))]; exact hatk.2 y hy
      · rcases bsPut_mem hy with ⟨_, _, _, rfl⟩ | hy
        · exact fL6
        · exact fq' y hy
    · obtain ⟨o6, o7, o8, o9, bs', rfl, ga, pa, hat', gv', fq'⟩ := hp
      exact ⟨.ref d, rfl, q d Ha bs' ws fd0 ga hat' gv' fq' (pa.mono (by omega))⟩
end

end Lw

namespace Lw
open PySem PySem.Spec PyProof.Rows L2 GxR Gx
section
variable {P : Program} {w : World} {K : PySem.W.Frag} {mg : Str → Option Value} {base : Heap}
/-! ### _law_ahead -/
def spAhead : Sp := fun vs H Q _ => ∃ (l : Addr) (zs : List Str) (a b : Str), vs = [.ref l, .str a, .str b] ∧ H l = some (.lst (zs.map V.str)) ∧ a ∈ zs ∧ b ∈ zs ∧ Q (.bl (decide (zs.idxOf a < zs.idxOf b))) H
theorem ok_law_ahead {f c : Addr} {fd : FuncData} (B : Nb mg) (D : DefIs K "_law_ahead" "_law_ahead" st_law_ahead f fd (.ref c)) : FnG P w K mg base CX0 1 f fd ["book", "a", "b"] spAhead := by
  refine D.ok0 (k := 0) sc_law_ahead (fun vs H Q E h => ?_) (fun A outer s H vs Q E g hr h => ?_)
  · obtain ⟨l, zs, a, b, rfl, _⟩ := h
    rfl
  obtain ⟨l, zs, a, b, rfl, el, ha, hb, q⟩ := h
  refine ⟨_,
      (pss_one (ps_ret (pe_cmpR (op_lt) (pe_bm PySem.F.plainAttrs_list PySem.F.slot_list_index PySem.F.type_list_index mt_index (pv 0) (pa_cons (pv 1) pa_nil)) (pe_bm PySem.F.plainAttrs_list PySem.F.slot_list_index PySem.F.type_list_index mt_index (pv 0) (pa_cons (pv 2) pa_nil)) (nomark _)))), ?_⟩
  refine ⟨.ref l, rfl, tyl el, .str a, rfl, ?_⟩
  dsimp only [tNil]
  refine index_str (.inl (.inl el)) ha ?_
  refine ⟨.ref l, rfl, tyl el, .str b, rfl, ?_⟩
  dsimp only [tNil]
  refine index_str (.inl (.inl el)) hb ?_
  refine ⟨_, _, rfl, rfl, ?_⟩
  have : decide (((zs.idxOf a : Nat) : Int) < (zs.idxOf b : Nat)) = decide (zs.idxOf a < zs.idxOf b) := decide_eq_decide.mpr (by omega)
  show Q (.bl (decide _)) H
  rw [this]
  exact q
end

section
variable {P : Program} {w : World} {K : PySem.W.Frag} {mg : Str → Option Value} {base : Heap}
/-! ### _law_pairs -/
/-- a row: two words, the names that have the first ahead -/
def RowAt (H : Hp) (r : Addr × (Addr × ((Str × Str) × List Str))) : Prop := H r.1 = some (.tup [.str r.2.2.1.1, .str r.2.2.1.2, .ref r.2.1]) ∧ H r.2.1 = some (.lst (r.2.2.2.map V.str))
abbrev PRow := Addr × (Addr × ((Str × Str) × List Str))
def spLawPairs (K : PySem.W.Frag) : Sp := fun vs H Q _ => ∃ (d : Addr) (bs : List (Addr × (Str × List Str))) (ws : List Str), vs = [.ref d] ∧ GivAt H d bs ∧ Giv bs ws ∧
  ∀ R H' (rs : List PRow), Fresh H R → Grow [] H H' → H' R = some (.lst (rs.map fun r => V.ref r.1)) → (∀ r ∈ rs, RowAt H' r ∧ Fresh H r.2.1) → rs.map (fun r => r.2.2) = (combos (sortS (firstOf (bs.map Prod.snd)))).map (fun p => (p, aheadOf (bkOf (bs.map Prod.snd)) (namesOf (bs.map Prod.snd)) p)) → Q (.ref R) H'
theorem RowAt.grow {ex : List Addr} {H H' : Hp} {r : PRow} (h : RowAt H r) (g : Grow ex H H') (n1 : r.1 ∉ ex) (n2 : r.2.1 ∉ ex) : RowAt H' r := ⟨g.tup n1 h.1, g.lst n2 h.2⟩
theorem ok_law_pairs {f c : Addr} {fd : FuncData} (B : Nb mg) (D : DefIs K "_law_pairs" "_law_pairs" st_law_pairs f fd (.ref c))
    (c_law_ahead : Callee P w K mg base CX0 1 "_law_ahead" ["book", "a", "b"] spAhead) : FnG P w K mg base CX0 2 f fd ["books"] (spLawPairs K) := by
  refine D.ok0 (k := 1) sc_law_pairs (fun vs H Q E h => ?_) (fun A outer s H vs Q E g hr h => ?_)
  · obtain ⟨d, bs, ws, rfl, _⟩ := h
    rfl
  obtain ⟨d, bs, ws, rfl, hat, gv, q⟩ := h
  refine ⟨_,
      (pss_cons (ps_set (i := 1) sc_law_pairs.nd rfl (.inl rfl) (pe_callB (cr_sortG (val := V.str) (enc := PyData.str) hr.units) rfl B.n_sorted (by decide +kernel) (pa_cons (pe_dget (hu_of hr) (pv 0) (pe_ix ix_list (pe_callB (cr_sortD rfl hr.units) rfl B.n_sorted (by decide +kernel) (pa_cons (pv 0) pa_nil)) pe_int (fun _ _ => rfl)) (fun _ _ => rfl)) pa_nil)))
      (pss_cons (ps_set (i := 2) sc_law_pairs.nd rfl (.inl rfl) (pe_lst pa_nil))
      (pss_cons (ps_for PassesOwn.never rfl (pi_enum rfl B.n_enumerate (pa_cons (pv 1) pa_nil)) (pg_tup rfl (pgs_cons (pg_name (i := 3) sc_law_pairs.nd rfl (.inl rfl)) (pgs_cons (pg_name (i := 4) sc_law_pairs.nd rfl (.inr rfl)) pgs_nil))) (
        (pss_one (ps_for PassesOwn.never rfl (pi_list (pe_slice sl_list (pv 1) (po_some (pe_op op_add (pv 3) pe_int)) po_none)) (pg_name (i := 5) sc_law_pairs.nd rfl (.inr rfl)) (
          (pss_one (ps_expr (pe_bm PySem.F.plainAttrs_list PySem.F.slot_list_append PySem.F.type_list_append mt_append (pv 2) (pa_cons (pe_tup (pa_cons (pv 4) (pa_cons (pv 5) (pa_cons (pe_lc (own := [("name", 6)]) (g := (gName 6)) rfl sc_law_pairs.nd (pi_list (pe_callB (cr_sortD rfl hr.units) rfl B.n_sorted (by decide +kernel) (pa_cons (pv 0) pa_nil))) (blkOk_by (N := N_law_pairs) (sc := defScope st_law_pairs) (by decide +kernel)) (fun _ _ _ _ _ => (pg_name (i := 6) sc_law_pairs.nd rfl (.inl rfl))) (fun _ _ _ _ _ => pts_to (pts_one (pt_val (pe_g c_law_ahead g (hr.mono (by decide)) pass0 (pa_cons (pe_dget (hu_of hr) (pv 0) (pv 6) (fun _ _ => rfl)) (pa_cons (pv 4) (pa_cons (pv 5) pa_nil))))))) (fun _ _ _ _ _ => pe_to (pv 6))) pa_nil)))) pa_nil)))))))))
      (pss_one (ps_ret (pv 2)))))), ?_⟩
  have gn : (bs.map Prod.snd).map Prod.fst = bs.map fun p => p.2.1 := by rw [List.map_map]; rfl
  have ns12 : (namesOf (bs.map Prod.snd)).length = bs.length := by rw [(GivD.names_perm (gs := bs.map Prod.snd)).length_eq, List.length_map, List.length_map]
  have n12 := gv.most
  have l20 := gv.w20
  have es : (bs.map fun p => p.2.1).mergeSort (PySem.W.dataLe false PyData.str) = namesOf (bs.map Prod.snd) := by unfold namesOf; rw [gn]; rfl
  have eK := kvB_keys bs
  obtain ⟨ns, ens⟩ : ∃ ns, namesOf (bs.map Prod.snd) = ns := ⟨_, rfl⟩
  obtain ⟨Bf, eBf⟩ : ∃ Bf, bkOf (bs.map Prod.snd) = Bf := ⟨_, rfl⟩
  have at_ : ∀ n ∈ ns, ∃ p ∈ bs, p.2.1 = n ∧ p.2.2 = Bf n := fun n hn => by
    obtain ⟨p, hp, e⟩ := Giv.at (bs := bs) (by rw [ens]; exact hn)
    exact ⟨p, hp, e, by rw [← eBf, ← e]; exact (gv.bkOf hp).symm⟩
  obtain ⟨n0, r0, h0, hd0, m0⟩ := gv.gd.head
  rw [ens] at h0 m0
  obtain ⟨p0, hp0, e01, e02⟩ := at_ n0 m0
  have f0 : firstOf (bs.map Prod.snd) = p0.2.2 := by unfold firstOf; rw [hd0, eBf, e02]
  rw [ens, eBf, f0] at q
  rw [ens] at es ns12
  have dg : ∀ {H' : Hp} (z : Addr × (Str × List Str)), z ∈ bs → Grow [] H H' → DGet H' d (.str z.2.1) (some (.ref z.1)) := fun z hz g => by
    rw [← kvB_val gv.nd hz]
    exact DGet.k (k := .inr z.2.1) (Grow.dK g (by simp) hat.1)
  have lw := (gv.pm hp0).length_eq
  refine ⟨.ref d, rfl, .ref d, rfl, d, kvB bs, bs.map fun p => p.2.1, rfl, .inl hat.1, eK, by rw [List.length_map]; unfold sizeLine; omega, fun S nS => ?_⟩
  rw [es]
  have gS : Grow [] H (upd H S (.lst (ns.map V.str))) := grow_new nS
  have eS : upd H S (.lst (ns.map V.str)) S = some (.lst (ns.map V.str)) := upd_same
  generalize upd H S (.lst (ns.map V.str)) = H1 at gS eS ⊢
  refine ⟨S, _, 0, .str n0, rfl, rfl, .inl (.inl eS), atI_nat (j := 0) (by rw [h0]; rfl), d, .ref p0.1, rfl, by rw [← e01]; exact dg p0 hp0 gS, p0.1, p0.2.2, rfl, .inl (.inl (gS.lst (by simp) (hat.2 p0 hp0))), fun b _ => ⟨.str b, by show 0 ≤ 60; decide⟩, alike_strs _, sortable_strs _, by unfold sizeLine; omega, fun W nW => ?_⟩
  have ew : p0.2.2.mergeSort (PySem.W.dataLe false PyData.str) = sortS p0.2.2 := rfl
  rw [ew]
  obtain ⟨l, el⟩ : ∃ l, sortS p0.2.2 = l := ⟨_, rfl⟩
  have pl : l.Perm p0.2.2 := by rw [← el]; exact sortS_perm _
  rw [el] at q ⊢
  have lnd : l.Nodup := pl.nodup_iff.mpr (gv.book hp0).nd
  have l20' : l.length ≤ 20 := by rw [pl.length_eq]; omega
  have gW := gS.new (o := .lst (l.map V.str)) nW
  have eW : upd H1 W (.lst (l.map V.str)) W = some (.lst (l.map V.str)) := upd_same
  generalize upd H1 W (.lst (l.map V.str)) = H2 at gW eW ⊢
  refine ⟨by show 0 ≤ sizeLine; decide, fun F nF => ?_⟩
  have gF := gW.new (o := .lst []) nF
  have g2F : Grow [] H2 (upd H2 F (.lst [])) := grow_new nF
  have eF : upd H2 F (.lst []) F = some (.lst []) := upd_same
  have fF : Fresh H F := gW.fresh0 nF
  generalize upd H2 F (.lst []) = H3 at gF g2F eF ⊢
  have inB : ∀ x ∈ l, ∀ z ∈ bs, x ∈ z.2.2 := fun x hx z hz => (gv.pm hz).mem_iff.mpr ((gv.pm hp0).mem_iff.mp (pl.mem_iff.mp hx))
  have clen : (combos l).length ≤ 400 := Nat.le_trans (combos_len l) (Nat.mul_le_mul l20' l20')
  refine ⟨.ref W, rfl, W, _, rfl, .inl (.inl (g2F.lst (by simp) eW)), ?_⟩
  refine for_it (walk_enum (xs := l.map V.str)) (fun i σ H' => ∃ (o3 o4 o5 : Option V) (rs : List PRow) (done : List (Str × Str)), σ = [some (.ref d), some (.ref W), some (.ref F), o3, o4, o5, none] ∧ Grow [] H2 H' ∧ H' F = some (.lst (rs.map fun r => V.ref r.1)) ∧ (∀ r ∈ rs, RowAt H' r ∧ Fresh H r.2.1) ∧ rs.map (fun r => r.2.2) = done.map (fun p => (p, aheadOf Bf ns p)) ∧ done ++ combos (l.drop i) = combos l)
    ⟨none, none, none, [], [], rfl, g2F, eF, (fun r hr => nomatch hr), rfl, rfl⟩ (fun i σ H' _ h => by obtain ⟨_, _, _, _, _, _, g, _⟩ := h; exact .inl (.inl (g.lst (by simp) eW))) (fun i x σ H4 H5 hi hp hy => ?_) (fun σ H4 hp => ?_)
  · obtain ⟨o3, o4, o5, rs, done, rfl, g4, e4, hrs, em, ed⟩ := hp
    obtain ⟨T, x1, x2, rfl, nT, rfl, ei, ex⟩ := hy
    cases ei
    replace ex : (l.map V.str)[i]? = some x2 := ex
    rw [List.length_map] at hi
    rw [List.getElem?_map] at ex
    obtain ⟨a, ea⟩ : ∃ a, l[i]? = some a := ⟨_, List.getElem?_eq_getElem hi⟩
    rw [ea] at ex
    cases ex
    have gT := g4.new (o := .tup [.int (i : Nat), .str a]) nT
    have g4T : Grow [] H4 (upd H4 T (.tup [.int (i : Nat), .str a])) := grow_new nT
    refine ⟨T, _, rfl, .inl (.inl upd_same), rfl, _, _, rfl, _, _, rfl, rfl, ?_⟩
    generalize upd H4 T (.tup [.int (i : Nat), .str a]) = H6 at gT g4T ⊢
    have am := List.mem_of_getElem? ea
    refine ⟨.ref W, rfl, .int i, rfl, _, _, rfl, rfl, _, rfl, W, _, rfl, .inl (.inl (gT.lst (by simp) eW)), fun L nL => ⟨L, rfl, ⟨_, .inl (.inl upd_same)⟩, ?_⟩⟩
    have ec : cutV (l.map V.str) (some ((i : Int) + 1)) none = (l.drop (i + 1)).map V.str := by rw [cut_from, List.map_drop]
    rw [ec]
    have gL := gT.new (o := .lst ((l.drop (i + 1)).map V.str)) nL
    have g4L := g4T.new (o := .lst ((l.drop (i + 1)).map V.str)) nL
    have eL : upd H6 L (.lst ((l.drop (i + 1)).map V.str)) L = some (.lst ((l.drop (i + 1)).map V.str)) := upd_same
    have FL : F ≠ L := fun z => by
      have := g4T.lst (by simp) e4
      rw [z, nL] at this
      cases this
    generalize upd H6 L (.lst ((l.drop (i + 1)).map V.str)) = H7 at gL g4L eL ⊢
    have e7 := g4L.lst (by simp) e4
    have hrs7 : ∀ r ∈ rs, RowAt H7 r ∧ Fresh H r.2.1 := fun r hr => ⟨(hrs r hr).1.grow g4L (by simp) (by simp), (hrs r hr).2⟩
    have dsplit : combos (l.drop i) = ((l.drop (i + 1)).map fun b => (a, b)) ++ combos (l.drop (i + 1)) := by
      rw [List.drop_eq_getElem_cons hi, combos, show l[i] = a from by rw [List.getElem?_eq_getElem hi] at ea; exact Option.some.inj ea]
    refine for_it (walk_list (xs := (l.drop (i + 1)).map V.str)) (fun j σ H' => ∃ (o5 : Option V) (rs : List PRow), σ = [some (.ref d), some (.ref W), some (.ref F), some (.int (i : Nat)), some (.str a), o5, none] ∧ Grow [] H2 H' ∧ H' L = some (.lst ((l.drop (i + 1)).map V.str)) ∧ H' F = some (.lst (rs.map fun r => V.ref r.1)) ∧ (∀ r ∈ rs, RowAt H' r ∧ Fresh H r.2.1) ∧ rs.map (fun r => r.2.2) = (done ++ ((l.drop (i + 1)).take j).map fun b => (a, b)).map (fun p => (p, aheadOf Bf ns p)))
      ⟨_, rs, rfl, gL, eL, e7, hrs7, by rw [List.take_zero, List.map_nil, List.append_nil]; exact em⟩ (fun j σ H' _ h => by obtain ⟨_, _, _, _, g, _⟩ := h; exact .inl (.inl g)) (fun j x σ H8 H9 hj hp hy => ?_) (fun σ H8 hp => ?_)
    · obtain ⟨o5', rs', rfl, g8, eL8, e8, hrs8, em8⟩ := hp
      obtain ⟨rfl, ex⟩ := hy
      rw [List.length_map] at hj
      obtain ⟨b, eb⟩ : ∃ b, (l.drop (i + 1))[j]? = some b := ⟨_, List.getElem?_eq_getElem hj⟩
      rw [List.getElem?_map, eb] at ex
      cases ex
      have bm : b ∈ l := List.mem_of_mem_drop (List.mem_of_getElem? eb)
      have g0 := gW.trans g8
      refine ⟨.ref F, rfl, tyl e8, .str a, rfl, .str b, rfl, .ref d, rfl, d, kvB bs, bs.map fun p => p.2.1, rfl, .inl (Grow.dK g0 (by simp) hat.1), eK, by rw [List.length_map]; unfold sizeLine; omega, fun S2 nS2 => ?_⟩
      rw [es]
      have gS2 : Grow [] H9 (upd H9 S2 (.lst (ns.map V.str))) := grow_new nS2
      have eS2 : upd H9 S2 (.lst (ns.map V.str)) S2 = some (.lst (ns.map V.str)) := upd_same
      generalize upd H9 S2 (.lst (ns.map V.str)) = Ha at gS2 eS2 ⊢
      refine ⟨S2, rfl, ⟨_, .inl (.inl eS2)⟩, fun N1 nN1 => ?_⟩
      refine lc_it (walk_list (xs := ns.map V.str)) (fun k H' => Grow [] Ha H' ∧ H' N1 = some (.lst (((ns.take k).filter fun n => decide ((Bf n).idxOf a < (Bf n).idxOf b)).map V.str))) ⟨grow_new nN1, upd_same⟩ (fun k H' _ h => .inl (.inl (h.1.lst (by simp) eS2))) (fun k x Hb Hc hk hq hy => ?_) (fun Hb hq => ?_)
      · obtain ⟨gb, ebk⟩ := hq
        obtain ⟨rfl, ex⟩ := hy
        rw [List.length_map] at hk
        obtain ⟨n, en⟩ : ∃ n, ns[k]? = some n := ⟨_, List.getElem?_eq_getElem hk⟩
        rw [List.getElem?_map, en] at ex
        cases ex
        obtain ⟨z, hz, ez1, ez2⟩ := at_ n (List.mem_of_getElem? en)
        have g0b := (g0.trans gS2).trans gb
        refine ⟨rfl, .ref d, rfl, .str n, rfl, d, .ref z.1, rfl, by rw [← ez1]; exact dg z hz g0b, .str a, rfl, .str b, rfl, z.1, z.2.2, a, b, rfl, g0b.lst (by simp) (hat.2 z hz), inB a am z hz, inB b bm z hz, _, rfl, ?_⟩
        rw [ez2]
        have keep : ∀ v : Bool, decide ((Bf n).idxOf a < (Bf n).idxOf b) = v → (ns.take (k + 1)).filter (fun n => decide ((Bf n).idxOf a < (Bf n).idxOf b)) = (ns.take k).filter (fun n => decide ((Bf n).idxOf a < (Bf n).idxOf b)) ++ (if v = true then [n] else []) := fun v hv => by
          rw [List.take_add_one, en, List.filter_append]
          congr 1
          show List.filter _ [n] = _
          rw [List.filter_cons, hv]
          rfl
        by_cases c : (Bf n).idxOf a < (Bf n).idxOf b
        · rw [decide_eq_true c]
          show if true = true then _ else _
          rw [if_pos rfl]
          refine ⟨.str n, rfl, _, ebk, ?_, gb.put (fresh_none nN1) ebk (fun ps z => by cases z), ?_⟩
          · have := List.length_filter_le (fun n => decide ((Bf n).idxOf a < (Bf n).idxOf b)) (ns.take k)
            have h2 := List.length_take_le' k ns
            rw [List.length_map]
            unfold sizeLine
            omega
          · rw [upd_same, keep true (decide_eq_true c), if_pos rfl, List.map_append]
            rfl
        · rw [decide_eq_false c]
          show if false = true then _ else _
          rw [if_neg (fun z => Bool.noConfusion z)]
          refine ⟨gb, ?_⟩
          rw [keep false (decide_eq_false c), if_neg (fun z => Bool.noConfusion z), List.append_nil]
          exact ebk
      · obtain ⟨gb, eN⟩ := hq
        rw [List.length_map, List.take_length] at eN
        refine ⟨by show 3 ≤ sizeLine; decide, fun T2 nT2 => ?_⟩
        have gT2 : Grow [] Hb (upd Hb T2 (.tup [.str a, .str b, .ref N1])) := grow_new nT2
        have eT2 : upd Hb T2 (.tup [.str a, .str b, .ref N1]) T2 = some (.tup [.str a, .str b, .ref N1]) := upd_same
        generalize upd Hb T2 (.tup [.str a, .str b, .ref N1]) = Hd at gT2 eT2 ⊢
        have g9d := (gS2.trans gb).trans gT2
        have eFd := g9d.lst (by simp) e8
        have lrs : rs'.length ≤ 400 := by
          have h1 := congrArg List.length em8
          rw [List.length_map, List.length_map, List.length_append, List.length_map] at h1
          have h2 := congrArg List.length ed
          rw [dsplit, List.length_append, List.length_append, List.length_map] at h2
          have h3 := List.length_take_le' j (l.drop (i + 1))
          omega
        have gF2 : Grow [F] Hd (upd Hd F (.lst ((rs'.map fun r => V.ref r.1) ++ [.ref T2]))) := grow_at eFd (fun ps z => by cases z) (by simp)
        have N1F : N1 ≠ F := fun z => by
          have := gS2.lst (by simp) e8
          rw [← z, nN1] at this
          cases this
        refine ⟨F, _, _, rfl, rfl, eFd, by rw [List.length_map]; unfold sizeLine; omega, _, rs' ++ [(T2, (N1, ((a, b), aheadOf Bf ns (a, b))))], rfl, (g8.trans g9d).put (fresh_none nF) eFd (fun ps z => by cases z), gF2.lst (by simpa using FL.symm) (g9d.lst (by simp) eL8), by rw [upd_same, List.map_append]; rfl, fun r hr => ?_, ?_⟩
        · have tF : ∀ {x : Addr} {vs : List V}, Hd x = some (.tup vs) → x ∉ [F] := fun e z => by rw [List.mem_singleton.mp z, eFd] at e; cases e
          rcases List.mem_append.mp hr with hr | hr
          · have h1 := (hrs8 r hr).1.grow g9d (by simp) (by simp)
            refine ⟨h1.grow gF2 (tF h1.1) fun z => ?_, (hrs8 r hr).2⟩
            have e2 := h1.2
            rw [List.mem_singleton.mp z, eFd] at e2
            have e3 := HO.lst.inj (Option.some.inj e2)
            cases rs' with
            | nil => cases hr
            | cons y ys =>
              cases hn : r.2.2.2 with
              | nil => rw [hn] at e3; cases e3
              | cons u us => rw [hn] at e3; cases e3
          · rw [List.mem_singleton.mp hr]
            exact ⟨⟨gF2.tup (tF eT2) eT2, gF2.lst (by simpa using N1F) (gT2.lst (by simp) eN)⟩, (g0.trans gS2).fresh0 nN1⟩
        · rw [List.map_append, em8, List.take_add_one, eb]
          simp
    · obtain ⟨o5', rs', rfl, g8, eL8, e8, hrs8, em8⟩ := hp
      rw [List.length_map, List.take_length] at em8
      exact ⟨_, _, _, rs', _, rfl, g8, e8, hrs8, em8, by rw [List.append_assoc, ← dsplit]; exact ed⟩
  · obtain ⟨o3, o4, o5, rs, done, rfl, g4, e4, hrs, em, ed⟩ := hp
    rw [List.length_map, List.drop_length] at ed
    have ed2 : done = combos l := by rw [← ed]; exact (List.append_nil _).symm
    exact ⟨.ref F, rfl, q F H4 rs fF (gW.trans g4) e4 hrs (by rw [em, ed2])⟩
end

end Lw

namespace Lw
open PySem PySem.Spec PyProof.Rows L2 GxR Gx
section
variable {P : Program} {w : World} {K : PySem.W.Frag} {mg : Str → Option Value} {base : Heap}
/-! ### _law_partings -/
theorem eqvAll_map {α : Type} [DecidableEq α] {e : α → PyData} (h : ∀ a b, PyData.eqv (e a) (e b) = decide (a = b)) : ∀ xs ys : List α, PyData.eqvAll (xs.map e) (ys.map e) = decide (xs = ys)
  | [], [] => rfl
  | [], _ :: _ => rfl
  | _ :: _, [] => rfl
  | x :: xs, y :: ys => by
    show (PyData.eqv (e x) (e y) && PyData.eqvAll (xs.map e) (ys.map e)) = _
    rw [h, eqvAll_map h xs ys, ← Bool.decide_and]
    exact decide_eq_decide.mpr ⟨fun z => by rw [z.1, z.2], fun z => by cases z; exact ⟨rfl, rfl⟩⟩
theorem eqv_str (a b : Str) : PyData.eqv (.str a) (.str b) = decide (a = b) := by
  show (a == b) = decide (a = b)
  by_cases h : a = b
  · rw [h, decide_eq_true rfl]
    exact beq_self_eq_true b
  · rw [decide_eq_false h]
    exact beq_eq_false_iff_ne.mpr h
theorem eqv_pt (a b : Parting) : PyData.eqv (encPt a) (encPt b) = decide (a = b) := by
  unfold encPt
  show (PyData.eqvAll (a.1.map PyData.str) (b.1.map PyData.str) && (PyData.eqvAll (a.2.map PyData.str) (b.2.map PyData.str) && true)) = _
  rw [eqvAll_map eqv_str, eqvAll_map eqv_str, Bool.and_true, ← Bool.decide_and]
  exact decide_eq_decide.mpr ⟨fun z => Prod.ext z.1 z.2, fun z => by rw [z]; exact ⟨rfl, rfl⟩⟩
def PtOk (p : Parting) : Prop := p.1.all isNm = true ∧ p.1.length ≤ 200 ∧ p.2.all isNm = true ∧ p.2.length ≤ 200
theorem fine_pt {p : Parting} (h : PtOk p) : Fine (encPt p) 2 4000 := Fine.tuple (n := 1) (m := 1800) (fun e he => by
  rcases List.mem_cons.mp he with q | he
  · rw [q]; exact fine_names h.1 h.2.1
  · rw [List.mem_singleton.mp he]; exact fine_names h.2.2.1 h.2.2.2) (by show 2 * (1800 + 1) ≤ 4000; decide)
theorem fine_pts {ps : List Parting} (h : ∀ p ∈ ps, PtOk p) (l : ps.length ≤ 400) : Fine (.list (ps.map encPt)) 3 1600400 := Fine.list (n := 2) (m := 4000) (fun d hd => by
  obtain ⟨p, hp, rfl⟩ := List.mem_map.mp hd
  exact fine_pt (h p hp)) (by rw [List.length_map]; omega)
theorem pts_dp {K : PySem.W.Frag} {H : Hp} : ∀ {ts : List PT}, (∀ t ∈ ts, PtAt H t) → DpAll K H (ts.map fun t => V.ref t.1) ((ts.map fun t => t.2.2).map encPt)
  | [], _ => .nil
  | t :: ts, h => .cons (h t List.mem_cons_self).dp (pts_dp fun x hx => h x (List.mem_cons_of_mem _ hx))
theorem any_eqv (ps : List Parting) (p : Parting) : ((ps.map encPt).any fun z => PyData.eqv z (encPt p)) = decide (p ∈ ps) := by
  induction ps with
  | nil => rfl
  | cons x ps ih =>
    rw [List.map_cons, List.any_cons, ih, eqv_pt]
    by_cases c : x = p
    · simp [c]
    · simp [c, Ne.symm c]
/-- a list of names is not the list of such refs -/
theorem not_refs {H : Hp} {a F : Addr} {zs : List Str} {rs : List V} (h : H a = some (.lst (zs.map V.str))) (e : H F = some (.lst rs)) (hr : rs ≠ []) (hf : ∀ r ∈ rs, ∃ b, r = V.ref b) : a ≠ F := fun z => by
  rw [z, e] at h
  have e3 := HO.lst.inj (Option.some.inj h)
  cases rs with
  | nil => exact hr rfl
  | cons y ys =>
    obtain ⟨b, rfl⟩ := hf y List.mem_cons_self
    cases zs with
    | nil => cases e3
    | cons u us => cases e3
def spLawParts (K : PySem.W.Frag) : Sp := fun vs H Q _ => ∃ (d : Addr) (bs : List (Addr × (Str × List Str))) (ws : List Str), vs = [.ref d] ∧ GivAt H d bs ∧ Giv bs ws ∧
  ∀ R H' (ts : List PT), Fresh H R → Grow [] H H' → H' R = some (.lst (ts.map fun t => V.ref t.1)) → (∀ t ∈ ts, PtAt H' t) → ts.map (fun t => t.2.2) = lawParts (bs.map Prod.snd) → Q (.ref R) H'
theorem ok_law_partings {f c : Addr} {fd : FuncData} (B : Nb mg) (D : DefIs K "_law_partings" "_law_partings" st_law_partings f fd (.ref c))
    (c_law_pairs : Callee P w K mg base CX0 2 "_law_pairs" ["books"] (spLawPairs K)) : FnG P w K mg base CX0 3 f fd ["books"] (spLawParts K) := by
  refine D.ok0 (k := 2) sc_law_partings (fun vs H Q E h => ?_) (fun A outer s H vs Q E g hr h => ?_)
  · obtain ⟨d, bs, ws, rfl, _⟩ := h
    rfl
  obtain ⟨d, bs, ws, rfl, hat, gv, q⟩ := h
  refine ⟨_,
      (pss_cons (ps_set (i := 1) sc_law_partings.nd rfl (.inl rfl) (pe_callB (cr_sortD rfl hr.units) rfl B.n_sorted (by decide +kernel) (pa_cons (pv 0) pa_nil)))
      (pss_cons (ps_set (i := 2) sc_law_partings.nd rfl (.inl rfl) (pe_lst pa_nil))
      (pss_cons (ps_for PassesOwn.never rfl (pi_list (pe_g c_law_pairs g (hr.mono (by decide)) pass0 (pa_cons (pv 0) pa_nil))) (pg_tup rfl (pgs_cons (pg_name (i := 3) sc_law_partings.nd rfl (.inl rfl)) (pgs_cons (pg_name (i := 4) sc_law_partings.nd rfl (.inl rfl)) (pgs_cons (pg_name (i := 5) sc_law_partings.nd rfl (.inr rfl)) pgs_nil)))) (
        (pss_cons (ps_setLc (i := 6) (own := [("name", 7)]) (g := (gName 7)) rfl sc_law_partings.nd rfl rfl (sw_true rfl rfl rfl (by decide +kernel)) (pi_list (pv 1)) (blkOk_by (N := N_law_partings) (sc := defScope st_law_partings) (by decide +kernel)) (fun _ _ _ _ _ => (pg_name (i := 7) sc_law_partings.nd rfl (.inl rfl))) (fun _ _ _ _ _ => pts_to (pts_one (pt_cmpR (op_notIn_seq) (pv 7) (pv 5) rfl))) (fun _ _ _ _ _ => pe_to (pv 7)))
        (pss_cons (ps_set (i := 8) sc_law_partings.nd rfl (.inl rfl) (pe_ifExp (pt_cmpR (op_in_seq) (pe_ix ix_list (pv 1) pe_int (fun _ _ => rfl)) (pv 5) rfl) (pe_tup (pa_cons (pv 5) (pa_cons (pv 6) pa_nil))) (pe_tup (pa_cons (pv 6) (pa_cons (pv 5) pa_nil)))))
        (pss_one (ps_if (PW.pt (pw_and (pt_cmpR (op_neD hr.units) (pe_ix ix_tup (pv 8) pe_int (fun _ _ => rfl)) (pe_lst pa_nil) (nomark _)) (pw_and1 (pt_cmpR (op_notInD (room65 hr)) (pv 8) (pv 2) rfl)))) (
          (pss_one (ps_expr (pe_bm PySem.F.plainAttrs_list PySem.F.slot_list_append PySem.F.type_list_append mt_append (pv 2) (pa_cons (pv 8) pa_nil))))) pss_nil))))))
      (pss_one (ps_ret (pe_callB (cr_sortG (val := fun b : PT => V.ref b.1) (enc := fun b : PT => encPt b.2.2) hr.units) rfl B.n_sorted (by decide +kernel) (pa_cons (pv 2) pa_nil))))))), ?_⟩
  have gn : (bs.map Prod.snd).map Prod.fst = bs.map fun p => p.2.1 := by rw [List.map_map]; rfl
  have ns12 : (namesOf (bs.map Prod.snd)).length = bs.length := by rw [(GivD.names_perm (gs := bs.map Prod.snd)).length_eq, List.length_map, List.length_map]
  have n12 := gv.most
  have es : (bs.map fun p => p.2.1).mergeSort (PySem.W.dataLe false PyData.str) = namesOf (bs.map Prod.snd) := by unfold namesOf; rw [gn]; rfl
  have eK := kvB_keys bs
  refine ⟨.ref d, rfl, d, kvB bs, bs.map fun p => p.2.1, rfl, .inl hat.1, eK, by rw [List.length_map]; unfold sizeLine; omega, fun S nS => ?_⟩
  rw [es]
  obtain ⟨ns, ens⟩ : ∃ ns, namesOf (bs.map Prod.snd) = ns := ⟨_, rfl⟩
  rw [ens]
  have gS : Grow [] H (upd H S (.lst (ns.map V.str))) := grow_new nS
  have eS : upd H S (.lst (ns.map V.str)) S = some (.lst (ns.map V.str)) := upd_same
  generalize upd H S (.lst (ns.map V.str)) = H1 at gS eS ⊢
  refine ⟨by show 0 ≤ sizeLine; decide, fun F nF => ?_⟩
  have gF := gS.new (o := .lst []) nF
  have g1F : Grow [] H1 (upd H1 F (.lst [])) := grow_new nF
  have eF : upd H1 F (.lst []) F = some (.lst ([] : List V)) := upd_same
  have fF : Fresh H F := gS.fresh0 nF
  generalize upd H1 F (.lst []) = H2 at gF g1F eF ⊢
  refine ⟨.ref d, rfl, d, bs, ws, rfl, hat.grow0 gF, gv, fun R0 H3 rs fR g3 eR hrs em => ?_⟩
  have ng : ∀ n ∈ ns, isNm n = true := fun n hn => by
    obtain ⟨p, hp, rfl⟩ := Giv.at (bs := bs) (by rw [ens]; exact hn)
    exact gv.nm p hp
  rw [ens] at ns12
  have nall : ns.all isNm = true := List.all_eq_true.mpr ng
  obtain ⟨n0, r0, h0, hd0, m0⟩ := gv.gd.head
  rw [ens] at h0 m0 hd0
  obtain ⟨all, eall⟩ : ∃ all, lawAll (bs.map Prod.snd) = all := ⟨_, rfl⟩
  have ralls : rs.map (fun r => lawPart ns r.2.2.2) = all := by
    rw [← eall]
    unfold lawAll
    rw [ens]
    have := congrArg (List.map fun q : (Str × Str) × List Str => lawPart ns q.2) em
    rw [List.map_map, List.map_map, ens] at this
    exact this
  have lall : all.length ≤ 400 := by
    rw [← eall]
    unfold lawAll
    rw [List.length_map]
    have h1 := combos_len (sortS (firstOf (bs.map Prod.snd)))
    have h2 := (sortS_perm (firstOf (bs.map Prod.snd))).length_eq
    have h3 := gv.gd.first.length_eq
    have h4 := gv.w20
    have h5 := Nat.mul_le_mul (show (sortS (firstOf (bs.map Prod.snd))).length ≤ 20 by omega) (show (sortS (firstOf (bs.map Prod.snd))).length ≤ 20 by omega)
    omega
  have lrs : rs.length = all.length := by rw [← ralls, List.length_map]
  have sub : ∀ r ∈ rs, r.2.2.2.all isNm = true ∧ r.2.2.2.length ≤ 12 := fun r hr => by
    have : r.2.2 ∈ rs.map (fun r => r.2.2) := List.mem_map.mpr ⟨r, hr, rfl⟩
    rw [em] at this
    obtain ⟨p, _, e⟩ := List.mem_map.mp this
    rw [← e, ens]
    exact ⟨List.all_eq_true.mpr fun x hx => ng x (List.mem_filter.mp hx).1, Nat.le_trans (List.length_filter_le _ _) (by omega)⟩
  have okp : ∀ so : List Str, so.all isNm = true → so.length ≤ 12 → PtOk (lawPart ns so) := fun so h1 h2 => by
    have f1 : (ns.filter fun n => decide (n ∉ so)).all isNm = true := List.all_eq_true.mpr fun x hx => ng x (List.mem_filter.mp hx).1
    have f2 : (ns.filter fun n => decide (n ∉ so)).length ≤ 200 := Nat.le_trans (List.length_filter_le _ _) (by omega)
    unfold lawPart
    split
    · exact ⟨h1, by show so.length ≤ 200; omega, f1, f2⟩
    · exact ⟨f1, f2, h1, by show so.length ≤ 200; omega⟩
  have g02 := gF.trans g3
  refine ⟨R0, rfl, ⟨_, .inl (.inl eR)⟩, ?_⟩
  refine for_it (walk_list (xs := rs.map fun r => V.ref r.1)) (fun i σ H' => ∃ (o3 o4 o5 o6 o8 : Option V) (fs : List PT), σ = [some (.ref d), some (.ref S), some (.ref F), o3, o4, o5, o6, none, o8] ∧ Grow [] H1 H' ∧ (∀ b o, b ≠ F → H3 b = some o → (∀ ps, o ≠ .tbl ps) → H' b = some o) ∧ H' F = some (.lst (fs.map fun t => V.ref t.1)) ∧ (∀ t ∈ fs, PtAt H' t ∧ PtOk t.2.2) ∧ fs.map (fun t => t.2.2) = (all.take i).foldl addP [])
    ⟨none, none, none, none, none, [], rfl, g1F.trans g3, (fun b o _ h _ => h), g3.lst (by simp) eF, (fun t ht => nomatch ht), rfl⟩ (fun i σ H' _ h => by
      obtain ⟨_, _, _, _, _, _, _, _, k, _⟩ := h
      exact .inl (.inl (k R0 _ (fR.ne eF fun ps z => by cases z).symm eR fun ps z => by cases z))) (fun i x σ H4 H5 hi hp hy => ?_) (fun σ H4 hp => ?_)
  · obtain ⟨o3, o4, o5, o6, o8, fs, rfl, g4, k4, e4, hfs, emf⟩ := hp
    obtain ⟨rfl, ex⟩ := hy
    rw [List.length_map] at hi
    obtain ⟨r, er⟩ : ∃ r, rs[i]? = some r := ⟨_, List.getElem?_eq_getElem hi⟩
    rw [List.getElem?_map, er] at ex
    cases ex
    have rm := List.mem_of_getElem? er
    obtain ⟨⟨t1, t2⟩, t3⟩ := hrs r rm
    obtain ⟨s1, s2⟩ := sub r rm
    have neF : ∀ {b : Addr} {o : HO}, H3 b = some o → (∀ xs, o ≠ .lst xs) → b ≠ F := fun e n z => by
      rw [z, g3.lst (by simp) eF] at e
      cases e
      exact n _ rfl
    have t1' : H5 r.1 = some (.tup [.str r.2.2.1.1, .str r.2.2.1.2, .ref r.2.1]) := k4 _ _ (neF t1 fun xs z => by cases z) t1 fun ps z => by cases z
    have nF3 : r.2.1 ≠ F := fun z => by
      rw [z] at t3
      obtain ⟨ps, e⟩ := t3 _ eF
      cases e
    have t2' : H5 r.2.1 = some (.lst (r.2.2.2.map V.str)) := k4 _ _ nF3 t2 fun ps z => by cases z
    refine ⟨r.1, _, rfl, .inl (.inl t1'), rfl, _, _, rfl, _, _, rfl, _, _, rfl, rfl, ?_⟩
    have eS5 : H5 S = some (.lst (ns.map V.str)) := g4.lst (by simp) eS
    refine ⟨.ref S, rfl, S, rfl, ⟨_, .inl (.inl eS5)⟩, fun A nA => ?_⟩
    obtain ⟨so, eso⟩ : ∃ so, r.2.2.2 = so := ⟨_, rfl⟩
    rw [eso] at t2' s1 s2
    refine lc_it (walk_list (xs := ns.map V.str)) (fun j H' => Grow [] H5 H' ∧ H' A = some (.lst (((ns.take j).filter fun n => decide (n ∉ so)).map V.str))) ⟨grow_new nA, upd_same⟩ (fun j H' _ h => .inl (.inl (h.1.lst (by simp) eS5))) (fun j x Hc Hd hj hq hy => ?_) (fun H6 hq => ?_)
    · obtain ⟨gb, eb⟩ := hq
      obtain ⟨rfl, ex⟩ := hy
      rw [List.length_map] at hj
      obtain ⟨n, en⟩ : ∃ n, ns[j]? = some n := ⟨_, List.getElem?_eq_getElem hj⟩
      rw [List.getElem?_map, en] at ex
      cases ex
      refine ⟨rfl, .str n, rfl, .ref r.2.1, rfl, r.2.1, so.map V.str, rfl, .inl (.inl (.inl (gb.lst (by simp) t2'))), rfl, flat_strs so, _, rfl, ?_⟩
      have keep : ∀ b : Bool, decide (n ∉ so) = b → (ns.take (j + 1)).filter (fun n => decide (n ∉ so)) = (ns.take j).filter (fun n => decide (n ∉ so)) ++ (if b = true then [n] else []) := fun b hb => by
        rw [List.take_add_one, en, List.filter_append]
        congr 1
        show List.filter _ [n] = _
        rw [List.filter_cons, hb]
        rfl
      have ein : (!inV (.str n) (so.map V.str)) = decide (n ∉ so) := by
        rw [in_strs]
        by_cases c : n ∈ so <;> simp [c]
      show (if (if true = true then !inV (V.str n) (so.map V.str) else inV (V.str n) (so.map V.str)) = true then _ else _)
      rw [if_pos rfl, ein]
      by_cases c : n ∉ so
      · rw [decide_eq_true c, if_pos rfl]
        refine ⟨.str n, rfl, _, eb, ?_, gb.put (fresh_none nA) eb (fun ps z => by cases z), ?_⟩
        · have := List.length_filter_le (fun n => decide (n ∉ so)) (ns.take j)
          have h2 := List.length_take_le' j ns
          rw [List.length_map]
          unfold sizeLine
          omega
        · rw [upd_same, keep true (decide_eq_true c), if_pos rfl, List.map_append]
          rfl
      · rw [decide_eq_false c, if_neg (fun z => Bool.noConfusion z)]
        refine ⟨gb, ?_⟩
        rw [keep false (decide_eq_false c), if_neg (fun z => Bool.noConfusion z), List.append_nil]
        exact eb
    · obtain ⟨gb, eA⟩ := hq
      rw [List.length_map, List.take_length] at eA
      have e6 := gb.lst (by simp) e4
      have t6 := gb.lst (by simp) t2'
      have AF : A ≠ F := fun z => by rw [z, e4] at nA; cases nA
      have okl := okp so s1 s2
      have hfs6 : ∀ t ∈ fs, PtAt H6 t ∧ PtOk t.2.2 := fun t ht => ⟨(hfs t ht).1.grow0 gb, (hfs t ht).2⟩
      have g46 := g4.trans gb
      have k6 : ∀ b o, b ≠ F → H3 b = some o → (∀ ps, o ≠ .tbl ps) → H6 b = some o := fun b o hb e n => gb.keep b o (by simp) (k4 b o hb e n) n
      have eS6 := gb.lst (by simp) eS5
      have eal : all[i]? = some (lawPart ns so) := by rw [← ralls, List.getElem?_map, er, ← eso]; rfl
      have lfs : fs.length ≤ 400 := by
        have h1 := congrArg List.length emf
        rw [List.length_map] at h1
        obtain ⟨q1, q2⟩ := addP_fold (all.take i) [] List.nodup_nil
        have h2 := q1.length_le_of_subset (l₂ := all) fun x hx => ((q2 x).mp hx).elim (fun z => by cases z) fun z => List.mem_of_mem_take z.1
        omega
      dsimp only [gName]
      refine seq_cut (S := tAsg _ _) (fun σ' H' => ∃ (o3 o4 o5 o6 : Option V) (t : PT), σ' = [some (.ref d), some (.ref S), some (.ref F), o3, o4, o5, o6, none, some (.ref t.1)] ∧ Grow [] H6 H' ∧ PtAt H' t ∧ t.2.2 = lawPart ns so ∧ t.2.1.1 ≠ F ∧ t.2.1.2 ≠ F) (fun σ' H' hJ => ?_) fun R hR => ?_
      · obtain ⟨o3, o4, o5, o6, t, rfl, gt, pt, ep, nA1, nB1⟩ := hJ
        have et : (all.take (i + 1)).foldl addP [] = addP (fs.map fun t => t.2.2) t.2.2 := by
          rw [List.take_add_one, eal, List.foldl_append, ← emf, ep]
          rfl
        rw [← ep] at okl
        refine ⟨.ref t.1, rfl, t.1, _, 1, .ref t.2.1.2, rfl, rfl, .inl (.inl pt.1), rfl, by show 0 ≤ sizeLine; decide, fun E0 nE => ?_⟩
        have gE : Grow [] H' (upd H' E0 (.lst [])) := grow_new nE
        have eE : upd H' E0 (.lst []) E0 = some (.lst ([] : List V)) := upd_same
        generalize upd H' E0 (.lst []) = H7 at gE eE ⊢
        have pt7 := pt.grow0 gE
        have g67 := gt.trans gE
        have f2 := fine_names okl.2.2.1 okl.2.2.2
        refine ⟨_, _, dp_book (.inl (.inl pt7.2.2)), dp_book (xs := []) (.inl (.inl eE)), f2.shaped (by decide), (fine_names (zs := []) rfl (Nat.zero_le _)).shaped (by decide), _, rfl, ?_⟩
        rw [eqv_nil]
        have hfs7 : ∀ t ∈ fs, PtAt H7 t ∧ PtOk t.2.2 := fun t ht => ⟨(hfs6 t ht).1.grow0 g67, (hfs6 t ht).2⟩
        have e7 := g67.lst (by simp) e6
        have k7 : ∀ b o, b ≠ F → H3 b = some o → (∀ ps, o ≠ .tbl ps) → H7 b = some o := fun b o hb e n => g67.keep b o (by simp) (k6 b o hb e n) n
        by_cases c1 : t.2.2.2 = []
        · rw [decide_eq_true c1]
          refine iteF ⟨_, _, _, _, _, fs, rfl, g46.trans g67, k7, e7, hfs7, ?_⟩
          rw [et]
          unfold addP
          rw [if_neg (fun z => z.1 c1)]
        · rw [decide_eq_false c1]
          have fpt := fine_pt okl
          have fps := fine_pts (ps := fs.map fun t => t.2.2) (fun p hp => by obtain ⟨t, ht, rfl⟩ := List.mem_map.mp hp; exact (hfs6 t ht).2) (by rw [List.length_map]; exact lfs)
          refine iteT ⟨.ref t.1, rfl, .ref F, rfl, _, _, pt7.dp, .lst (.inl (.inl e7)) (pts_dp fun t ht => (hfs7 t ht).1), fpt.shaped (by decide), fps.shaped (by decide), _, rfl, ?_⟩
          rw [any_eqv]
          by_cases c2 : t.2.2 ∈ fs.map fun t => t.2.2
          · rw [decide_eq_true c2]
            refine iteF ⟨_, _, _, _, _, fs, rfl, g46.trans g67, k7, e7, hfs7, ?_⟩
            rw [et]
            unfold addP
            rw [if_neg (fun z => z.2 c2)]
          · rw [decide_eq_false c2]
            have gF2 : Grow [F] H7 (upd H7 F (.lst ((fs.map fun t => V.ref t.1) ++ [.ref t.1]))) := grow_at e7 (fun ps z => by cases z) (by simp)
            have tF : ∀ {x : Addr} {vs : List V}, H7 x = some (.tup vs) → x ∉ [F] := fun e z => by rw [List.mem_singleton.mp z, e7] at e; cases e
            refine iteT ⟨.ref F, rfl, tyl e7, .ref t.1, rfl, F, _, _, rfl, rfl, e7, by rw [List.length_map]; unfold sizeLine; omega, _, _, _, _, _, fs ++ [t], rfl, (g46.trans g67).put (fresh_none (show H1 F = none from ?_)) e7 (fun ps z => by cases z), fun b o hb e n => by rw [upd_ne hb]; exact k7 b o hb e n, by rw [upd_same, List.map_append]; rfl, fun t' ht' => ?_, ?_⟩
            · exact nF
            · rcases List.mem_append.mp ht' with ht' | ht'
              · have h1 := (hfs7 t' ht').1
                have hne : (fs.map fun t => V.ref t.1) ≠ [] := fun z => by
                  rw [List.map_eq_nil_iff] at z
                  rw [z] at ht'
                  cases ht'
                have isr : ∀ r ∈ (fs.map fun t => V.ref t.1), ∃ b, r = V.ref b := fun r hr => by
                  obtain ⟨y, _, rfl⟩ := List.mem_map.mp hr
                  exact ⟨_, rfl⟩
                exact ⟨h1.grow gF2 (tF h1.1) (by simpa using not_refs h1.2.1 e7 hne isr) (by simpa using not_refs h1.2.2 e7 hne isr), (hfs7 t' ht').2⟩
              · rw [List.mem_singleton.mp ht']
                exact ⟨pt7.grow gF2 (tF pt7.1) (by simpa using nA1) (by simpa using nB1), okl⟩
            · rw [et, List.map_append]
              unfold addP
              rw [if_pos ⟨c1, c2⟩]
              rfl
      · have ein : inV (.str n0) (so.map V.str) = decide (n0 ∈ so) := in_strs n0 so
        refine ⟨.ref S, rfl, S, _, 0, .str n0, rfl, rfl, .inl (.inl eS6), atI_nat (j := 0) (by rw [h0]; rfl), .ref r.2.1, rfl, r.2.1, so.map V.str, rfl, .inl (.inl (.inl t6)), rfl, flat_strs so, _, rfl, ?_⟩
        show (if (if false = true then !inV (V.str n0) (so.map V.str) else inV (V.str n0) (so.map V.str)) = true then _ else _)
        rw [show (if false = true then !inV (V.str n0) (so.map V.str) else inV (V.str n0) (so.map V.str)) = decide (n0 ∈ so) from ein]
        by_cases c : n0 ∈ so
        · have elp : lawPart ns so = (so, ns.filter fun n => decide (n ∉ so)) := by unfold lawPart; rw [hd0, if_pos c]
          rw [decide_eq_true c, if_pos rfl]
          refine ⟨.ref r.2.1, rfl, .ref A, rfl, by show 2 ≤ sizeLine; decide, fun Tt nT => hR _ _ ⟨_, _, _, _, (Tt, ((r.2.1, A), lawPart ns so)), rfl, grow_new nT, ⟨upd_same, ?_, ?_⟩, rfl, nF3, AF⟩⟩
          · rw [upd_ne (ne_of_none t6 nT), elp]; exact t6
          · rw [upd_ne (ne_of_none eA nT), elp]; exact eA
        · have elp : lawPart ns so = (ns.filter fun n => decide (n ∉ so), so) := by unfold lawPart; rw [hd0, if_neg c]
          rw [decide_eq_false c, if_neg (fun z => Bool.noConfusion z)]
          refine ⟨.ref A, rfl, .ref r.2.1, rfl, by show 2 ≤ sizeLine; decide, fun Tt nT => hR _ _ ⟨_, _, _, _, (Tt, ((A, r.2.1), lawPart ns so)), rfl, grow_new nT, ⟨upd_same, ?_, ?_⟩, rfl, AF, nF3⟩⟩
          · rw [upd_ne (ne_of_none eA nT), elp]; exact eA
          · rw [upd_ne (ne_of_none t6 nT), elp]; exact t6
  · obtain ⟨o3, o4, o5, o6, o8, fs, rfl, g4, k4, e4, hfs, emf⟩ := hp
    rw [List.length_map, lrs, List.take_length] at emf
    have lf : fs.length ≤ 400 := by
      have h1 := congrArg List.length emf
      rw [List.length_map] at h1
      obtain ⟨q1, q2⟩ := addP_fold all [] List.nodup_nil
      have h2 := q1.length_le_of_subset (l₂ := all) fun x hx => ((q2 x).mp hx).elim (fun z => by cases z) And.left
      omega
    refine ⟨.ref F, rfl, F, fs, rfl, .inl (.inl e4), fun t ht => ⟨(hfs t ht).1.dp, by rw [depth_pt]; decide⟩, alike_pts (fun t : PT => t.2.2) fs, sortable_pts (fun t : PT => t.2.2) fs, by unfold sizeLine; omega, fun R nR => ?_⟩
    have pm : (fs.mergeSort (PySem.W.dataLe false fun b : PT => encPt b.2.2)).Perm fs := List.mergeSort_perm _ _
    have em2 : (fs.mergeSort (PySem.W.dataLe false fun b : PT => encPt b.2.2)).map (fun t => t.2.2) = lawParts (bs.map Prod.snd) := by
      unfold lawParts sortPt
      rw [eall, ← emf]
      exact List.map_mergeSort (f := fun t : PT => t.2.2) (r := PySem.W.dataLe false fun b : PT => encPt b.2.2) (s := PySem.W.dataLe false encPt) fun a _ b _ => rfl
    exact q R _ _ ((gS.trans g4).fresh0 nR) ((gS.trans g4).new nR) upd_same (fun t ht => (hfs t (pm.mem_iff.mp ht)).1.grow0 (grow_new nR)) em2
end

/-! ### given books, shown; told in another order -/
theorem no_dict (zs : List Str) : (PyData.list (zs.map PyData.str)).hasDict = false := by
  rw [PyData.hasDict]
  induction zs with
  | nil => rfl
  | cons z r ih =>
    rw [List.map_cons, PyData.hasDictAll, ih]
    rfl
theorem kvd_B {K : PySem.W.Frag} {H : Hp} : ∀ {bs : List (Addr × (Str × List Str))}, LsAt H bs → KvD K H (kvB bs) ((bs.map Prod.snd).map fun q => (q.1, .list (q.2.map PyData.str)))
  | [], _ => .nil
  | b :: r, h => .cons (dp_book (.inl (.inl (h b List.mem_cons_self)))) (no_dict b.2.2) (kvd_B fun q hq => h q (List.mem_cons_of_mem _ hq))
theorem dic_show {n m : Nat} : ∀ {ps : List (Str × PyData)}, (∀ p ∈ ps, Fine (.str p.1) 0 8 ∧ Fine p.2 n m) →
    PyData.showableKv (ps.map fun p => ((.str p.1 : PyData), p.2)) = true ∧ PyData.leavesShortKv 8 (ps.map fun p => ((.str p.1 : PyData), p.2)) = true ∧ PyData.depthKv (ps.map fun p => ((.str p.1 : PyData), p.2)) ≤ n ∧ PyData.bulkKv (ps.map fun p => ((.str p.1 : PyData), p.2)) ≤ ps.length * (m + 10)
  | [], _ => ⟨rfl, rfl, Nat.zero_le _, Nat.zero_le _⟩
  | p :: r, h => by
    obtain ⟨f1, f2⟩ := h p List.mem_cons_self
    obtain ⟨i1, i2, i3, i4⟩ := dic_show (ps := r) fun q hq => h q (List.mem_cons_of_mem _ hq)
    rw [List.map_cons]
    refine ⟨?_, ?_, ?_, ?_⟩
    · rw [PyData.showableKv, f1.show_, f2.show_, i1]
      rfl
    · rw [PyData.leavesShortKv, f1.leaves, f2.leaves, i2]
      rfl
    · rw [PyData.depthKv]
      exact Nat.max_le.mpr ⟨Nat.max_le.mpr ⟨Nat.le_trans f1.deep (Nat.zero_le _), f2.deep⟩, i3⟩
    · rw [PyData.bulkKv, List.length_cons, Nat.succ_mul]
      have := f1.bulk
      have := f2.bulk
      omega
theorem Fine.int {i : Int} (h : i.natAbs < 10 ^ 7) : Fine (.int i) 0 0 := by
  refine ⟨rfl, ?_, rfl, ?_, Nat.le_refl _, Nat.le_refl _⟩
  · show decide (i.natAbs.log2 < 1920) = true
    exact decide_eq_true (PySem.Flt.log2_lt_of (by decide) (Nat.lt_trans h (by decide)))
  · show decide ((PyData.shown (.int i)).length ≤ 8) = true
    refine decide_eq_true ?_
    have t7 := int_text_length_le10 (a := i) (k := 7) (by decide) h
    have e8 : (PyData.shown (.int i)).length = (toString i).length := PySem.ofString_length (toString i)
    omega
theorem dp_ints {K : PySem.W.Frag} {H : Hp} : ∀ xs : List Int, DpAll K H (xs.map V.int) (xs.map PyData.int)
  | [] => .nil
  | x :: r => .cons (.int x) (dp_ints r)
theorem fine_ints {ns : List Int} {k : Nat} (h : ∀ i ∈ ns, i.natAbs < 10 ^ 7) (hk : ns.length ≤ k) : Fine (.list (ns.map PyData.int)) 1 k := Fine.list (n := 0) (m := 0) (fun d hd => by
  obtain ⟨i, hi, rfl⟩ := List.mem_map.mp hd
  exact Lw.Fine.int (h i hi)) (by rw [List.length_map]; omega)

def givD (bs : List (Addr × (Str × List Str))) : List (Str × PyData) := (bs.map Prod.snd).map fun q => (q.1, .list (q.2.map PyData.str))
theorem giv_show {bs : List (Addr × (Str × List Str))} {ws : List Str} (g : Giv bs ws) : (dicD (givD bs)).showable = true ∧ (dicD (givD bs)).depth ≤ 60 ∧ (dicD (givD bs)).shown.length ≤ sizeLine := by
  obtain ⟨b1, b2, b3, b4⟩ := dic_show (n := 1) (m := 1800) (ps := givD bs) fun p hp => by
    obtain ⟨q, hq, rfl⟩ := List.mem_map.mp hp
    obtain ⟨z, hz, rfl⟩ := List.mem_map.mp hq
    have bz := g.book hz
    exact ⟨fine_name (g.nm z hz), fine_names bz.nm bz.len⟩
  have l : (givD bs).length ≤ 12 := by unfold givD; rw [List.length_map, List.length_map]; exact g.most
  have b5 := Nat.mul_le_mul l (Nat.le_refl (1800 + 10))
  refine ⟨?_, ?_, ?_⟩
  · unfold dicD
    rw [PyData.showable]
    exact b1
  · unfold dicD
    rw [PyData.depth]
    omega
  · have lv : (dicD (givD bs)).leavesShort 8 = true := by
      unfold dicD
      rw [PyData.leavesShort]
      exact b2
    have bk : (dicD (givD bs)).bulk ≤ 40000 := by
      unfold dicD
      rw [PyData.bulk]
      omega
    have := PyData.shown_le_bulk 8 (by decide) _ lv
    unfold sizeLine
    omega
/-- the entry of a name -/
def entryOf (bs : List (Addr × (Str × List Str))) (x : Str) : Addr × (Str × List Str) := (bs.find? fun p => decide (p.2.1 = x)).getD (0, (x, []))
theorem entry_mem : ∀ {bs : List (Addr × (Str × List Str))} {q : Addr × (Str × List Str)}, (bs.map fun p => p.2.1).Nodup → q ∈ bs → entryOf bs q.2.1 = q
  | p :: bs, q, nd, h => by
    unfold entryOf
    by_cases e : p.2.1 = q.2.1
    · rw [List.find?_cons_of_pos (by simpa using e)]
      rcases List.mem_cons.mp h with h | h
      · rw [h]; rfl
      · exact absurd (show q.2.1 ∈ bs.map (fun p => p.2.1) from List.mem_map.mpr ⟨q, h, rfl⟩) (by rw [← e]; exact (List.nodup_cons.mp nd).1)
    · rw [List.find?_cons_of_neg (by simpa using e)]
      rcases List.mem_cons.mp h with h | h
      · rw [h] at e; exact absurd rfl e
      · exact entry_mem (List.nodup_cons.mp nd).2 h
theorem entry_perm {bs : List (Addr × (Str × List Str))} {sm : List Str} (nd : (bs.map fun p => p.2.1).Nodup) (pm : sm.Perm (bs.map fun p => p.2.1)) : (sm.map (entryOf bs)).Perm bs := by
  refine (pm.map (entryOf bs)).trans (List.Perm.of_eq ?_)
  rw [List.map_map]
  conv => rhs; rw [← List.map_id bs]
  exact List.map_congr_left fun q hq => entry_mem nd hq
theorem bkOf_perm {gs hs : List (Str × List Str)} (p : gs.Perm hs) (nd : (gs.map Prod.fst).Nodup) : bkOf gs = bkOf hs := funext fun n => by
  have nd2 : (hs.map Prod.fst).Nodup := (p.map Prod.fst).nodup_iff.mp nd
  by_cases h : n ∈ gs.map Prod.fst
  · obtain ⟨q, hq, rfl⟩ := List.mem_map.mp h
    rw [bkOf_mem nd (show (q.1, q.2) ∈ gs from hq), bkOf_mem nd2 (show (q.1, q.2) ∈ hs from p.mem_iff.mp hq)]
  · have no : ∀ {ks : List (Str × List Str)}, n ∉ ks.map Prod.fst → bkOf ks n = [] := fun {ks} hn => by
      unfold bkOf
      rw [List.find?_eq_none.mpr fun q hq z => hn (List.mem_map.mpr ⟨q, hq, by simpa using z⟩)]
      rfl
    rw [no h, no fun z => h ((p.map Prod.fst).mem_iff.mpr z)]
theorem parts_perm {gs hs : List (Str × List Str)} (p : gs.Perm hs) (nd : (gs.map Prod.fst).Nodup) : partsOf gs = partsOf hs := by
  have e1 : namesOf gs = namesOf hs := sort_names (p.map Prod.fst)
  have e2 := bkOf_perm p nd
  unfold partsOf othersAll firstOf
  rw [e1, e2]
theorem giv_perm {bs cs : List (Addr × (Str × List Str))} {ws : List Str} (g : Giv bs ws) (p : cs.Perm bs) : Giv cs ws :=
  giv_of ((p.map _).nodup_iff.mpr g.nd) (by rw [p.length_eq]; exact g.pos) (by rw [p.length_eq]; exact g.most) (fun q hq => g.nm q (p.mem_iff.mp hq)) (fun q hq => g.pm (p.mem_iff.mp hq)) g.bk g.w20
theorem parts_ok {bs : List (Addr × (Str × List Str))} {ws : List Str} (g : Giv bs ws) : (∀ p ∈ partsOf (bs.map Prod.snd), PtOk p) ∧ (partsOf (bs.map Prod.snd)).length ≤ 400 := by
  have l12 : (namesOf (bs.map Prod.snd)).length ≤ 12 := by
    rw [(GivD.names_perm (gs := bs.map Prod.snd)).length_eq, List.length_map, List.length_map]
    exact g.most
  have nm : ∀ n ∈ namesOf (bs.map Prod.snd), isNm n = true := fun n hn => by
    obtain ⟨q, hq, rfl⟩ := Giv.at hn
    exact g.nm q hq
  refine ⟨fun p hp => ?_, ?_⟩
  · obtain ⟨o, ho, rfl⟩ := List.mem_map.mp ((sortPt_perm _).mem_iff.mp hp)
    obtain ⟨w, _, rfl⟩ := List.mem_map.mp (mem_okeys.mp ho).1
    refine ⟨List.all_eq_true.mpr fun x hx => nm x (List.mem_filter.mp hx).1, Nat.le_trans (List.length_filter_le _ _) (by omega), List.all_eq_true.mpr fun x hx => nm x (List.mem_filter.mp hx).1, Nat.le_trans (List.length_filter_le _ _) (by omega)⟩
  · unfold partsOf partsBy
    rw [(sortPt_perm _).length_eq, List.length_map]
    have h2 := (okeys_nd (othersAll (bs.map Prod.snd))).length_le_of_subset (fun o ho => (mem_okeys.mp ho).1)
    have h3 := g.ps400
    unfold othersAll at h2
    rw [List.length_map] at h2
    unfold othersAll
    omega

end Lw

namespace Lw
open PySem PySem.Spec PyProof.Rows L2 GxR Gx
section
variable {P : Program} {w : World} {K : PySem.W.Frag} {mg : Str → Option Value} {base : Heap}
/-! ### _law_kind -/
def spKind (K : PySem.W.Frag) : Sp := fun vs H Q _ => ∃ (a : Addr) (x : Str), vs = [.ref a] ∧ H a = some (excO a (.ref (He.ga K x)) none) ∧ XOne K excNames x ∧ x ∈ excNames ∧ ∀ H', Grow [] H H' → Q (.str x) H'
theorem ok_law_kind {f c : Addr} {fd : FuncData} {rs : List Str} (B : Nb mg) (D : DefIs K "_law_kind" "_law_kind" st_law_kind f fd (.ref c)) (XS : Xs K mg excNames rs) :
    FnG P w K mg base CX0 3 f fd ["e"] (spKind K) := by
  refine D.ok0 (k := 2) sc_law_kind (fun vs H Q E h => ?_) (fun A outer s H vs Q E g hr h => ?_)
  · obtain ⟨a, x, rfl, _⟩ := h
    rfl
  obtain ⟨a, x, rfl, ha, XO, hx, q⟩ := h
  refine ⟨_,
      (pss_cons (ps_set (i := 1) sc_law_kind.nd rfl (.inl rfl) (pe_lst (pa_cons (pe_tup (pa_cons pe_str (pa_cons (pe_callB call_isX rfl B.n_isinstance (by decide +kernel) (pa_cons (pv 0) (pa_cons (pe_glob (v := .ref (He.ga K "NoName")) rfl (XS.glo "NoName" (by simp [excNames])) rfl) pa_nil))) pa_nil))) (pa_cons (pe_tup (pa_cons pe_str (pa_cons (pe_callB call_isX rfl B.n_isinstance (by decide +kernel) (pa_cons (pv 0) (pa_cons (pe_glob (v := .ref (He.ga K "NoWeb")) rfl (XS.glo "NoWeb" (by simp [excNames])) rfl) pa_nil))) pa_nil))) (pa_cons (pe_tup (pa_cons pe_str (pa_cons (pe_callB call_isX rfl B.n_isinstance (by decide +kernel) (pa_cons (pv 0) (pa_cons (pe_glob (v := .ref (He.ga K "NoHand")) rfl (XS.glo "NoHand" (by simp [excNames])) rfl) pa_nil))) pa_nil))) pa_nil)))))
      (pss_cons (ps_set (i := 1) sc_law_kind.nd rfl (.inl rfl) (pe_op op_cat (pv 1) (pe_lst (pa_cons (pe_tup (pa_cons pe_str (pa_cons (pe_callB call_isX rfl B.n_isinstance (by decide +kernel) (pa_cons (pv 0) (pa_cons (pe_glob (v := .ref (He.ga K "NoRoad")) rfl (XS.glo "NoRoad" (by simp [excNames])) rfl) pa_nil))) pa_nil))) (pa_cons (pe_tup (pa_cons pe_str (pa_cons (pe_callB call_isX rfl B.n_isinstance (by decide +kernel) (pa_cons (pv 0) (pa_cons (pe_glob (v := .ref (He.ga K "NoBook")) rfl (XS.glo "NoBook" (by simp [excNames])) rfl) pa_nil))) pa_nil))) pa_nil)))))
      (pss_cons (ps_set (i := 1) sc_law_kind.nd rfl (.inl rfl) (pe_op op_cat (pv 1) (pe_lst (pa_cons (pe_tup (pa_cons pe_str (pa_cons (pe_callB call_isX rfl B.n_isinstance (by decide +kernel) (pa_cons (pv 0) (pa_cons (pe_glob (v := .ref (He.ga K "Unlike")) rfl (XS.glo "Unlike" (by simp [excNames])) rfl) pa_nil))) pa_nil))) (pa_cons (pe_tup (pa_cons pe_str (pa_cons (pe_callB call_isX rfl B.n_isinstance (by decide +kernel) (pa_cons (pv 0) (pa_cons (pe_glob (v := .ref (He.ga K "NoNumber")) rfl (XS.glo "NoNumber" (by simp [excNames])) rfl) pa_nil))) pa_nil))) pa_nil)))))
      (pss_cons (ps_set (i := 1) sc_law_kind.nd rfl (.inl rfl) (pe_op op_cat (pv 1) (pe_lst (pa_cons (pe_tup (pa_cons pe_str (pa_cons (pe_callB call_isX rfl B.n_isinstance (by decide +kernel) (pa_cons (pv 0) (pa_cons (pe_glob (v := .ref (He.ga K "NoNumbering")) rfl (XS.glo "NoNumbering" (by simp [excNames])) rfl) pa_nil))) pa_nil))) (pa_cons (pe_tup (pa_cons pe_str (pa_cons (pe_callB call_isX rfl B.n_isinstance (by decide +kernel) (pa_cons (pv 0) (pa_cons (pe_glob (v := .ref (He.ga K "NoSpot")) rfl (XS.glo "NoSpot" (by simp [excNames])) rfl) pa_nil))) pa_nil))) pa_nil)))))
      (pss_cons (ps_set (i := 1) sc_law_kind.nd rfl (.inl rfl) (pe_op op_cat (pv 1) (pe_lst (pa_cons (pe_tup (pa_cons pe_str (pa_cons (pe_callB call_isX rfl B.n_isinstance (by decide +kernel) (pa_cons (pv 0) (pa_cons (pe_glob (v := .ref (He.ga K "TooMany")) rfl (XS.glo "TooMany" (by simp [excNames])) rfl) pa_nil))) pa_nil))) (pa_cons (pe_tup (pa_cons pe_str (pa_cons (pe_callB call_isX rfl B.n_isinstance (by decide +kernel) (pa_cons (pv 0) (pa_cons (pe_glob (v := .ref (He.ga K "Twice")) rfl (XS.glo "Twice" (by simp [excNames])) rfl) pa_nil))) pa_nil))) pa_nil)))))
      (pss_cons (ps_set (i := 1) sc_law_kind.nd rfl (.inl rfl) (pe_op op_cat (pv 1) (pe_lst (pa_cons (pe_tup (pa_cons pe_str (pa_cons (pe_callB call_isX rfl B.n_isinstance (by decide +kernel) (pa_cons (pv 0) (pa_cons (pe_glob (v := .ref (He.ga K "Empty")) rfl (XS.glo "Empty" (by simp [excNames])) rfl) pa_nil))) pa_nil))) (pa_cons (pe_tup (pa_cons pe_str (pa_cons (pe_callB call_isX rfl B.n_isinstance (by decide +kernel) (pa_cons (pv 0) (pa_cons (pe_glob (v := .ref (He.ga K "NoWord")) rfl (XS.glo "NoWord" (by simp [excNames])) rfl) pa_nil))) pa_nil))) pa_nil)))))
      (pss_cons (ps_set (i := 1) sc_law_kind.nd rfl (.inl rfl) (pe_op op_cat (pv 1) (pe_lst (pa_cons (pe_tup (pa_cons pe_str (pa_cons (pe_callB call_isX rfl B.n_isinstance (by decide +kernel) (pa_cons (pv 0) (pa_cons (pe_glob (v := .ref (He.ga K "Alike")) rfl (XS.glo "Alike" (by simp [excNames])) rfl) pa_nil))) pa_nil))) (pa_cons (pe_tup (pa_cons pe_str (pa_cons (pe_callB call_isX rfl B.n_isinstance (by decide +kernel) (pa_cons (pv 0) (pa_cons (pe_glob (v := .ref (He.ga K "NoMoment")) rfl (XS.glo "NoMoment" (by simp [excNames])) rfl) pa_nil))) pa_nil))) pa_nil)))))
      (pss_cons (ps_set (i := 1) sc_law_kind.nd rfl (.inl rfl) (pe_op op_cat (pv 1) (pe_lst (pa_cons (pe_tup (pa_cons pe_str (pa_cons (pe_callB call_isX rfl B.n_isinstance (by decide +kernel) (pa_cons (pv 0) (pa_cons (pe_glob (v := .ref (He.ga K "Faulty")) rfl (XS.glo "Faulty" (by simp [excNames])) rfl) pa_nil))) pa_nil))) (pa_cons (pe_tup (pa_cons pe_str (pa_cons (pe_callB call_isX rfl B.n_isinstance (by decide +kernel) (pa_cons (pv 0) (pa_cons (pe_glob (v := .ref (He.ga K "NoBooks")) rfl (XS.glo "NoBooks" (by simp [excNames])) rfl) pa_nil))) pa_nil))) pa_nil)))))
      (pss_cons (ps_set (i := 1) sc_law_kind.nd rfl (.inl rfl) (pe_op op_cat (pv 1) (pe_lst (pa_cons (pe_tup (pa_cons pe_str (pa_cons (pe_callB call_isX rfl B.n_isinstance (by decide +kernel) (pa_cons (pv 0) (pa_cons (pe_glob (v := .ref (He.ga K "NoParting")) rfl (XS.glo "NoParting" (by simp [excNames])) rfl) pa_nil))) pa_nil))) (pa_cons (pe_tup (pa_cons pe_str (pa_cons (pe_callB call_isX rfl B.n_isinstance (by decide +kernel) (pa_cons (pv 0) (pa_cons (pe_glob (v := .ref (He.ga K "Cross")) rfl (XS.glo "Cross" (by simp [excNames])) rfl) pa_nil))) pa_nil))) pa_nil)))))
      (pss_cons (ps_set (i := 1) sc_law_kind.nd rfl (.inl rfl) (pe_op op_cat (pv 1) (pe_lst (pa_cons (pe_tup (pa_cons pe_str (pa_cons (pe_callB call_isX rfl B.n_isinstance (by decide +kernel) (pa_cons (pv 0) (pa_cons (pe_glob (v := .ref (He.ga K "Common")) rfl (XS.glo "Common" (by simp [excNames])) rfl) pa_nil))) pa_nil))) (pa_cons (pe_tup (pa_cons pe_str (pa_cons (pe_callB call_isX rfl B.n_isinstance (by decide +kernel) (pa_cons (pv 0) (pa_cons (pe_glob (v := .ref (He.ga K "NoLine")) rfl (XS.glo "NoLine" (by simp [excNames])) rfl) pa_nil))) pa_nil))) pa_nil)))))
      (pss_cons (ps_set (i := 1) sc_law_kind.nd rfl (.inl rfl) (pe_op op_cat (pv 1) (pe_lst (pa_cons (pe_tup (pa_cons pe_str (pa_cons (pe_callB call_isX rfl B.n_isinstance (by decide +kernel) (pa_cons (pv 0) (pa_cons (pe_glob (v := .ref (He.ga K "NoHeap")) rfl (XS.glo "NoHeap" (by simp [excNames])) rfl) pa_nil))) pa_nil))) (pa_cons (pe_tup (pa_cons pe_str (pa_cons (pe_callB call_isX rfl B.n_isinstance (by decide +kernel) (pa_cons (pv 0) (pa_cons (pe_glob (v := .ref (He.ga K "NoText")) rfl (XS.glo "NoText" (by simp [excNames])) rfl) pa_nil))) pa_nil))) pa_nil)))))
      (pss_cons (ps_set (i := 1) sc_law_kind.nd rfl (.inl rfl) (pe_op op_cat (pv 1) (pe_lst (pa_cons (pe_tup (pa_cons pe_str (pa_cons (pe_callB call_isX rfl B.n_isinstance (by decide +kernel) (pa_cons (pv 0) (pa_cons (pe_glob (v := .ref (He.ga K "NoRow")) rfl (XS.glo "NoRow" (by simp [excNames])) rfl) pa_nil))) pa_nil))) (pa_cons (pe_tup (pa_cons pe_str (pa_cons (pe_callB call_isX rfl B.n_isinstance (by decide +kernel) (pa_cons (pv 0) (pa_cons (pe_glob (v := .ref (He.ga K "NoNet")) rfl (XS.glo "NoNet" (by simp [excNames])) rfl) pa_nil))) pa_nil))) pa_nil)))))
      (pss_cons (ps_setLc (i := 2) (own := [("word", 3), ("so", 4)]) (g := (gTup _ 2 (gCons (gName 3) (gCons (gName 4) gNil)))) rfl sc_law_kind.nd rfl rfl (sw_true rfl rfl rfl (by decide +kernel)) (pi_list (pe_op op_cat (pv 1) (pe_lst (pa_cons (pe_tup (pa_cons pe_str (pa_cons (pe_callB call_isX rfl B.n_isinstance (by decide +kernel) (pa_cons (pv 0) (pa_cons (pe_glob (v := .ref (He.ga K "Unfinished")) rfl (XS.glo "Unfinished" (by simp [excNames])) rfl) pa_nil))) pa_nil))) pa_nil)))) (blkOk_by (N := N_law_kind) (sc := defScope st_law_kind) (by decide +kernel)) (fun _ _ _ _ _ => (pg_tup rfl (pgs_cons (pg_name (i := 3) sc_law_kind.nd rfl (.inl rfl)) (pgs_cons (pg_name (i := 4) sc_law_kind.nd rfl (.inl rfl)) pgs_nil)))) (fun _ _ _ _ _ => pts_to (pts_one (pt_val (pv 4)))) (fun _ _ _ _ _ => pe_to (pv 3)))
      (pss_one (ps_ret (pe_ifExp (PW.pt (pw_and (pt_cmpR (op_eq) (pe_callB call_len_seq rfl B.n_len PySem.boot_len (pa_cons (pv 2) pa_nil)) pe_int (nomark _)) (pw_and1 (pt_val (pe_callB call_isX rfl B.n_isinstance (by decide +kernel) (pa_cons (pv 0) (pa_cons (pe_bltn (v := .ty "ValueError") rfl B.n_ValueError (by decide +kernel) rfl) pa_nil))))))) (pe_ix ix_list (pv 2) pe_int (fun _ _ => rfl)) pe_str)))))))))))))))), ?_⟩
  refine ks_first (o0 := some (.ref a)) (o1 := none) (o2 := none) (o3 := none) (o4 := none) XO ["NoName", "NoWeb", "NoHand"] (by simp [excNames]) (by decide) rfl ha fun L zs H1 g1 eL ks em => ?_
  have ha := g1.keep a _ (by simp) ha fun ps z => by cases z
  refine ks_more XO ["NoRoad", "NoBook"] (by simp [excNames]) (by decide) rfl ha eL ks em fun L zs H2 g2 eL ks em => ?_
  have ha := g2.keep a _ (by simp) ha fun ps z => by cases z
  have g1 := g1.trans g2
  refine ks_more XO ["Unlike", "NoNumber"] (by simp [excNames]) (by decide) rfl ha eL ks em fun L zs H2 g2 eL ks em => ?_
  have ha := g2.keep a _ (by simp) ha fun ps z => by cases z
  have g1 := g1.trans g2
  refine ks_more XO ["NoNumbering", "NoSpot"] (by simp [excNames]) (by decide) rfl ha eL ks em fun L zs H2 g2 eL ks em => ?_
  have ha := g2.keep a _ (by simp) ha fun ps z => by cases z
  have g1 := g1.trans g2
  refine ks_more XO ["TooMany", "Twice"] (by simp [excNames]) (by decide) rfl ha eL ks em fun L zs H2 g2 eL ks em => ?_
  have ha := g2.keep a _ (by simp) ha fun ps z => by cases z
  have g1 := g1.trans g2
  refine ks_more XO ["Empty", "NoWord"] (by simp [excNames]) (by decide) rfl ha eL ks em fun L zs H2 g2 eL ks em => ?_
  have ha := g2.keep a _ (by simp) ha fun ps z => by cases z
  have g1 := g1.trans g2
  refine ks_more XO ["Alike", "NoMoment"] (by simp [excNames]) (by decide) rfl ha eL ks em fun L zs H2 g2 eL ks em => ?_
  have ha := g2.keep a _ (by simp) ha fun ps z => by cases z
  have g1 := g1.trans g2
  refine ks_more XO ["Faulty", "NoBooks"] (by simp [excNames]) (by decide) rfl ha eL ks em fun L zs H2 g2 eL ks em => ?_
  have ha := g2.keep a _ (by simp) ha fun ps z => by cases z
  have g1 := g1.trans g2
  refine ks_more XO ["NoParting", "Cross"] (by simp [excNames]) (by decide) rfl ha eL ks em fun L zs H2 g2 eL ks em => ?_
  have ha := g2.keep a _ (by simp) ha fun ps z => by cases z
  have g1 := g1.trans g2
  refine ks_more XO ["Common", "NoLine"] (by simp [excNames]) (by decide) rfl ha eL ks em fun L zs H2 g2 eL ks em => ?_
  have ha := g2.keep a _ (by simp) ha fun ps z => by cases z
  have g1 := g1.trans g2
  refine ks_more XO ["NoHeap", "NoText"] (by simp [excNames]) (by decide) rfl ha eL ks em fun L zs H2 g2 eL ks em => ?_
  have ha := g2.keep a _ (by simp) ha fun ps z => by cases z
  have g1 := g1.trans g2
  refine ks_more XO ["NoRow", "NoNet"] (by simp [excNames]) (by decide) rfl ha eL ks em fun L zs H2 g2 eL ks em => ?_
  have ha := g2.keep a _ (by simp) ha fun ps z => by cases z
  have g1 := g1.trans g2
  refine ks_cat (σ := [some (.ref a), some (.ref L), none, none, none]) XO ["Unfinished"] (by simp [excNames]) (by decide) rfl rfl ha eL ks em fun L zs H2 g2 eL ks em => ?_
  have ha := g2.keep a _ (by simp) ha fun ps z => by cases z
  have g1 := g1.trans g2
  have em : zs.map Prod.snd = excNames.map fun y => (y, decide (y = x)) := em
  have zl : zs.length = 26 := by rw [← List.length_map (f := Prod.snd) (as := zs), em]; rfl
  refine ⟨L, rfl, ⟨_, .inl (.inl eL)⟩, fun D1 n1 => ?_⟩
  have f1 : Fresh H2 D1 := fresh_none n1
  refine lc_it (walk_list (xs := zs.map fun z => V.ref z.1)) (fun j H' => Grow [] H2 H' ∧ H' D1 = some (.lst (((zs.take j).filter fun z => z.2.2).map fun z => V.str z.2.1))) ⟨grow_new n1, upd_same⟩
    (fun j H' _ h => .inl (.inl (h.1.lst (by simp) eL))) (fun j v H6 H7 hj hp hy => ?_) (fun H6 hp => ?_)
  · obtain ⟨gj, eD⟩ := hp
    obtain ⟨rfl, ex⟩ := hy
    rw [List.getElem?_map] at ex
    cases ez : zs[j]? with
    | none => rw [ez] at ex; cases ex
    | some z =>
      rw [ez] at ex
      cases ex
      have tk : zs.take (j + 1) = zs.take j ++ [z] := by rw [List.take_add_one, ez]; rfl
      refine ⟨z.1, [.str z.2.1, .bl z.2.2], rfl, .inl (.inl (gj.tup (by simp) (ks z (List.mem_of_getElem? ez)))), rfl, _, _, rfl, _, _, rfl, rfl, rfl, ?_⟩
      refine ⟨.bl z.2.2, rfl, z.2.2, rfl, ?_⟩
      show if z.2.2 = true then _ else _
      by_cases cb : z.2.2 = true
      · rw [if_pos cb]
        refine ⟨.str z.2.1, rfl, _, eD, ?_, gj.put f1 eD (fun ps z => by cases z), ?_⟩
        · rw [List.length_map]
          have h1 := List.length_filter_le (fun z : Addr × (Str × Bool) => z.2.2) (zs.take j)
          rw [List.length_take] at h1
          have : (26 : Nat) < sizeLine := by decide
          omega
        · rw [upd_same, tk, List.filter_append, List.filter_cons_of_pos (by exact cb), List.filter_nil, List.map_append]
          rfl
      · rw [if_neg cb]
        refine ⟨gj, ?_⟩
        rw [eD, tk, List.filter_append, List.filter_cons_of_neg (by exact cb), List.filter_nil, List.append_nil]
  · obtain ⟨g6, eD⟩ := hp
    have ef : ((zs.take (zs.map fun z => V.ref z.1).length).filter fun z => z.2.2).map (fun z => V.str z.2.1) = [V.str x] := by
      rw [List.length_map, List.take_length]
      have h1 : (zs.filter fun z => z.2.2).map (fun z => V.str z.2.1) = (((zs.map Prod.snd).filter fun p => p.2).map fun p => V.str p.1) := by
        rw [List.filter_map, List.map_map]
        rfl
      rw [h1, em, List.filter_map, List.map_map]
      have h2 : (excNames.filter ((fun p : Str × Bool => p.2) ∘ fun y => (y, decide (y = x)))) = [x] := by
        exact filter_one exc_nd hx
      rw [h2]
      rfl
    rw [ef] at eD
    have ha := g6.keep a _ (by simp) ha fun ps z => by cases z
    refine ⟨.ref D1, rfl, D1, [.str x], rfl, .inl (.inl (.inl eD)), rfl, ?_⟩
    refine ⟨true, rfl, iteT ⟨.ref a, rfl, a, He.ga K x, .ty "ValueError", .type "ValueError", true, rfl, ha, XO.is, fun u r => r, XO.ve, true, rfl, iteT ⟨.ref D1, rfl, D1, _, 0, .str x, rfl, rfl, .inl (.inl eD), atI_nat (j := 0) rfl, ?_⟩⟩⟩
    exact q _ (g1.trans g6)
end

/-! ### partings of given books -/
theorem part_mem {gs : List (Str × List Str)} {p : Parting} (h : p ∈ partsOf gs) : p = partOf (namesOf gs) p.2 ∧ p.2 ∈ okeys (othersAll gs) := by
  obtain ⟨o, ho, rfl⟩ := List.mem_map.mp ((sortPt_perm _).mem_iff.mp h)
  exact ⟨rfl, ho⟩
/-- the pairs of a parting, told either way -/
theorem part_first {gs : List (Str × List Str)} {ws : List Str} (g : GivD gs ws) {p : Parting} (h : p ∈ partsOf gs) : p.1 ≠ [] ∧ p.2 ≠ [] ∧ (namesOf gs).headD Str.empty ∈ p.1 ∧ (namesOf gs).headD Str.empty ∉ p.2 := by
  obtain ⟨e, ho⟩ := part_mem h
  obtain ⟨q, hq, eo⟩ := List.mem_map.mp (mem_okeys.mp ho).1
  obtain ⟨n, r, en, eh, hn⟩ := g.head
  have n2 : n ∉ p.2 := fun z => by
    rw [← eo] at z
    have hlt := ((mem_combos (a := q.1) (b := q.2) (g.first.nodup_iff.mpr g.wnd)).mp hq).2.2
    unfold firstOf at hlt
    rw [eh] at hlt
    have := of_decide_eq_true (List.mem_filter.mp z).2
    omega
  have n1 : n ∈ p.1 := by
    rw [e]
    exact List.mem_filter.mpr ⟨hn, decide_eq_true n2⟩
  rw [eh]
  exact ⟨fun z => (by rw [z] at n1; cases n1), (mem_okeys.mp ho).2, n1, n2⟩
theorem part_sub {gs : List (Str × List Str)} {ws : List Str} (g : GivD gs ws) {p : Parting} (h : p ∈ partsOf gs) : p.2.Nodup ∧ (∀ x ∈ p.2, x ∈ namesOf gs) ∧ p.1 = (namesOf gs).filter fun n => decide (n ∉ p.2) := by
  obtain ⟨e, ho⟩ := part_mem h
  obtain ⟨q, hq, eo⟩ := List.mem_map.mp (mem_okeys.mp ho).1
  refine ⟨?_, fun x hx => ?_, congrArg Prod.fst e⟩
  · rw [← eo]; exact g.names_nd.filter _
  · rw [← eo] at hx; exact (List.mem_filter.mp hx).1

section
variable {P : Program} {w : World} {K : PySem.W.Frag} {mg : Str → Option Value} {base : Heap}
/-! ### share_name, do_cross, some_cross, fits -/
def spShare (K : PySem.W.Frag) (T : Addr) : Sp := fun vs H Q _ => ∃ (l m : Addr) (xs ys : List Str), vs = [.ref l, .ref m] ∧ TabG H T ∧ H l = some (.lst (xs.map V.str)) ∧ H m = some (.lst (ys.map V.str)) ∧ ∀ H', Grow [] H H' → Q (.bl (meet xs ys)) H'
theorem ok_share_name {f c T : Addr} {fd : FuncData} (B : Nb mg) (D : DefIs K "share_name" "share_name" st_share_name f fd (.ref c)) (x_share_name : TabB base mg c T) : FnG P w K mg base CX0 4 f fd ["names", "others"] (spShare K T) := by
  refine D.ok0 (k := 3) sc_share_name (fun vs H Q E h => ?_) (fun A outer s H vs Q E g hr h => ?_)
  · obtain ⟨l, m, xs, ys, rfl, _⟩ := h
    rfl
  obtain ⟨l, m, xs, ys, rfl, tT, hl, hm, q⟩ := h
  refine ⟨_,
      (pss_one (ps_ret (pe_anyG (own := [("name", 2)]) hr (gx_ok (N := N_share_name) (dsc := defScope st_share_name) x_share_name sc_share_name.nd (by decide +kernel) (by decide +kernel)) rfl B.n_any (by decide +kernel) (pi_list (pv 0)) (fun _ _ _ _ _ => (pg_name (i := 2) sc_share_name.nd rfl (.inl rfl))) (fun _ _ _ _ _ => pe_to (pe_cmpR (op_in_seq) (pv 2) (pv 1) rfl))))), ?_⟩
  refine ⟨.ref l, rfl, l, rfl, ⟨_, .inl (.inl hl)⟩, tT, ?_⟩
  refine truth_list (xs := xs.map V.str) (fun i H' => Grow [] H H' ∧ ∀ x ∈ xs.take i, x ∉ ys) (fun H2 t => ⟨grow_tab tT t, fun x hx => by cases hx⟩) (fun i H' hp => .inl (.inl (hp.1.lst (by simp) hl))) (fun i x H' hx hp => ?_) fun H' hp => ?_
  · obtain ⟨gr, no⟩ := hp
    rw [List.getElem?_map] at hx
    cases ez : xs[i]? with
    | none => rw [ez] at hx; cases hx
    | some z =>
      rw [ez] at hx
      cases hx
      refine ⟨rfl, .str z, rfl, .ref m, rfl, m, ys.map V.str, rfl, .inl (.inl (.inl (gr.lst (by simp) hm))), rfl, flat_strs ys, ?_⟩
      refine ⟨_, rfl, ?_⟩
      show if inV (.str z) (ys.map V.str) = true then _ else _
      rw [in_strs]
      by_cases c : z ∈ ys
      · rw [decide_eq_true c, if_pos rfl]
        have e : meet xs ys = true := meet_iff.mpr ⟨z, List.mem_of_getElem? ez, c⟩
        rw [← e]
        exact q H' gr
      · rw [decide_eq_false c, if_neg Bool.false_ne_true]
        refine ⟨gr, fun x hx => ?_⟩
        rw [List.take_add_one, ez] at hx
        rcases List.mem_append.mp hx with hx | hx
        · exact no x hx
        · rw [List.mem_singleton.mp hx]; exact c
  · obtain ⟨gr, no⟩ := hp
    rw [List.length_map, List.take_length] at no
    have e : meet xs ys = false := meet_no.mpr no
    have := q H' gr
    rw [e] at this
    exact this
/-- the two lists of a parting -/
def sides (t : PT) : List (Addr × List Str) := [(t.2.1.1, t.2.2.1), (t.2.1.2, t.2.2.2)]
theorem sides_at {H : Hp} {t : PT} (h : PtAt H t) : ∀ a ∈ sides t, H a.1 = some (.lst (a.2.map V.str)) := fun a ha => by
  rcases List.mem_cons.mp ha with e | ha
  · rw [e]; exact h.2.1
  · rw [List.mem_singleton.mp ha]; exact h.2.2
theorem sides_tup {H : Hp} {t : PT} (h : PtAt H t) : H t.1 = some (.tup ((sides t).map fun a => V.ref a.1)) := h.1
def spDoCross (K : PySem.W.Frag) (T : Addr) : Sp := fun vs H Q _ => ∃ (t u : PT), vs = [.ref t.1, .ref u.1] ∧ TabG H T ∧ PtAt H t ∧ PtAt H u ∧ ∀ H', Grow [] H H' → Q (.bl (crossB t.2.2 u.2.2)) H'
theorem ok_do_cross {f c T : Addr} {fd : FuncData} (B : Nb mg) (D : DefIs K "do_cross" "do_cross" st_do_cross f fd (.ref c)) (c_share_name : Callee P w K mg base CX0 4 "share_name" ["names", "others"] (spShare K T)) :
    FnG P w K mg base CX0 8 f fd ["parting", "other"] (spDoCross K T) := by
  refine D.ok0 (k := 7) sc_do_cross (fun vs H Q E h => ?_) (fun A outer s H vs Q E g hr h => ?_)
  · obtain ⟨t, u, rfl, _⟩ := h
    rfl
  obtain ⟨t, u, rfl, tT, ht, hu, q⟩ := h
  refine ⟨_,
      (pss_one (ps_ret (pe_callB (cr_all rfl) rfl B.n_all (by decide +kernel) (pa_cons (pe_lc2 (own := [("names", 2), ("others", 3)]) (vs1 := [3]) (g := (gName 2)) (g1 := (gName 3)) (tt := tYes) (tt1 := tYes) rfl sc_do_cross.nd (pi_tup (pv 0)) (blkOk_by (N := N_do_cross) (sc := defScope st_do_cross) (by decide +kernel)) (by decide) (fun _ _ _ _ _ => (pg_name (i := 2) sc_do_cross.nd rfl (.inl rfl))) (fun _ _ _ _ _ => pts_nil) (fun _ _ _ _ _ => pi_to (pi_tup (pv 1))) (fun _ _ _ _ _ => (pg_name (i := 3) sc_do_cross.nd rfl (.inl rfl))) (fun _ _ _ _ _ => pts_nil) (fun _ _ _ _ _ => pe_to (pe_g c_share_name g (hr.mono (by decide)) pass0 (pa_cons (pv 2) (pa_cons (pv 3) pa_nil))))) pa_nil)))), ?_⟩
  refine ⟨.ref t.1, rfl, t.1, rfl, ⟨_, .inl (.inl (sides_tup ht))⟩, fun D1 n1 => ?_⟩
  have row : ∀ i, ((sides t).take i).flatMap (fun a => (sides u).map fun b => meet a.2 b.2) = ((sides t).take i).flatMap (fun a => (sides u).map fun b => meet a.2 b.2) := fun _ => rfl
  refine lc2_it (walk_tup (xs := (sides t).map fun a => V.ref a.1)) (fun i H' => Grow [] H H' ∧ H' D1 = some (.lst ((((sides t).take i).flatMap fun a => (sides u).map fun b => meet a.2 b.2).map V.bl))) ⟨grow_new n1, upd_same⟩ (fun i H' _ h => .inl (.inl (h.1.tup (by simp) (sides_tup ht)))) (fun i x Ha Hb hi hp hy => ?_) (fun H2 hp => ?_)
  · obtain ⟨ga, ea⟩ := hp
    obtain ⟨rfl, ex⟩ := hy
    rw [List.length_map] at hi
    obtain ⟨a, eq⟩ : ∃ a, (sides t)[i]? = some a := ⟨_, List.getElem?_eq_getElem hi⟩
    rw [List.getElem?_map, eq] at ex
    cases ex
    have am := List.mem_of_getElem? eq
    have i2 : i < 2 := hi
    have lfl : (((sides t).take i).flatMap fun a => (sides u).map fun b => meet a.2 b.2).length = 2 * i := by
      match i, i2 with
      | 0, _ => rfl
      | 1, _ => rfl
    refine ⟨rfl, yes_if ⟨.ref u.1, rfl, u.1, rfl, ⟨_, .inl (.inl (ga.tup (by simp) (sides_tup hu)))⟩, ?_⟩⟩
    refine in1_it (walk_tup (xs := (sides u).map fun a => V.ref a.1)) (fun j H' => Grow [] H H' ∧ H' D1 = some (.lst (((((sides t).take i).flatMap fun a => (sides u).map fun b => meet a.2 b.2) ++ ((sides u).take j).map fun b => meet a.2 b.2).map V.bl))) ⟨ga, by rw [List.take_zero, List.map_nil, List.append_nil]; exact ea⟩ (fun j H' _ h => .inl (.inl (h.1.tup (by simp) (sides_tup hu)))) (fun j x Hc Hd hj hq hy => ?_) (fun H3 hq => ?_)
    · obtain ⟨gc, ec⟩ := hq
      obtain ⟨rfl, ex⟩ := hy
      rw [List.length_map] at hj
      obtain ⟨b, eb⟩ : ∃ b, (sides u)[j]? = some b := ⟨_, List.getElem?_eq_getElem hj⟩
      rw [List.getElem?_map, eb] at ex
      cases ex
      have bm := List.mem_of_getElem? eb
      refine ⟨rfl, yes_if ⟨.ref a.1, rfl, .ref b.1, rfl, a.1, b.1, a.2, b.2, rfl, gc.tabs _ tT, gc.lst (by simp) (sides_at ht a am), gc.lst (by simp) (sides_at hu b bm), fun He ge => ?_⟩⟩
      have ee := ge.lst (by simp) ec
      refine ⟨_, ee, ?_, (gc.trans ge).put (fresh_none n1) ee (fun ps z => by cases z), ?_⟩
      · rw [List.length_map, List.length_append, lfl, List.length_map, List.length_take]
        have : (sides u).length = 2 := rfl
        have : (100 : Nat) < sizeLine := by decide
        omega
      · rw [upd_same, List.take_add_one, eb, List.map_append (l₁ := (sides u).take j), ← List.append_assoc]
        exact congrArg (fun z => some (HO.lst z)) (List.map_append (l₂ := [meet a.2 b.2])).symm
    · obtain ⟨gc, ec⟩ := hq
      refine ⟨gc, ?_⟩
      rw [List.length_map, List.take_length] at ec
      rw [ec, List.take_add_one, eq, List.flatMap_append]
      show _ = some (HO.lst (List.map V.bl (_ ++ List.flatMap _ [a])))
      rw [List.flatMap_cons, List.flatMap_nil, List.append_nil]
  · obtain ⟨g2, e2⟩ := hp
    refine ⟨D1, _, rfl, .inl (.inl e2), ?_⟩
    have := q H2 g2
    have e : ((((sides t).take ((sides t).map fun a => V.ref a.1).length).flatMap fun a => (sides u).map fun b => meet a.2 b.2)).all id = crossB t.2.2 u.2.2 := by
      show ([meet t.2.2.1 u.2.2.1, meet t.2.2.1 u.2.2.2, meet t.2.2.2 u.2.2.1, meet t.2.2.2 u.2.2.2]).all id = _
      unfold crossB
      simp only [List.all_cons, List.all_nil, id_eq, Bool.and_true, Bool.and_assoc]
    rw [e]
    exact this
def spSomeCross (K : PySem.W.Frag) (T : Addr) : Sp := fun vs H Q _ => ∃ (D : Addr) (ts : List PT), vs = [.ref D] ∧ TabG H T ∧ H D = some (.lst (ts.map fun t => V.ref t.1)) ∧ (∀ t ∈ ts, PtAt H t) ∧ ts.length ≤ 400 ∧ ∀ H', Grow [] H H' → Q (.bl (crs (ts.map fun t => t.2.2))) H'
theorem combos_sq {α : Type} : ∀ l : List α, (combos l).length ≤ l.length * l.length
  | [] => Nat.zero_le _
  | x :: l => by
    have ih := combos_sq l
    rw [combos, List.length_append, List.length_map, List.length_cons, Nat.succ_mul, Nat.mul_succ]
    omega
theorem combos_mem {α : Type} : ∀ {l : List α} {z : α × α}, z ∈ combos l → z.1 ∈ l ∧ z.2 ∈ l
  | x :: l, z, h => by
    rw [combos] at h
    rcases List.mem_append.mp h with h | h
    · obtain ⟨y, hy, rfl⟩ := List.mem_map.mp h
      exact ⟨List.mem_cons_self, List.mem_cons_of_mem _ hy⟩
    · have := combos_mem h
      exact ⟨List.mem_cons_of_mem _ this.1, List.mem_cons_of_mem _ this.2⟩
theorem ok_some_cross {f c T : Addr} {fd : FuncData} (B : Nb mg) (D : DefIs K "some_cross" "some_cross" st_some_cross f fd (.ref c)) (m_combinations : mg "combinations" = some (.type "itertools.combinations"))
    (c_do_cross : Callee P w K mg base CX0 8 "do_cross" ["parting", "other"] (spDoCross K T)) : FnG P w K mg base CX0 10 f fd ["partings"] (spSomeCross K T) := by
  refine D.ok0 (k := 9) sc_some_cross (fun vs H Q E h => ?_) (fun A outer s H vs Q E g hr h => ?_)
  · obtain ⟨d, ts, rfl, _⟩ := h
    rfl
  obtain ⟨d, ts, rfl, tT, hd, ht, lt, q⟩ := h
  refine ⟨_,
      (pss_one (ps_ret (pe_callB (cr_any rfl) rfl B.n_any (by decide +kernel) (pa_cons (pe_lc (own := [("parting", 1), ("other", 2)]) (tt := tYes) (g := (gTup _ 2 (gCons (gName 1) (gCons (gName 2) gNil)))) rfl sc_some_cross.nd (pi_comb rfl m_combinations (pa_cons (pv 0) (pa_cons pe_int pa_nil))) (blkOk_by (N := N_some_cross) (sc := defScope st_some_cross) (by decide +kernel)) (fun _ _ _ _ _ => (pg_tup rfl (pgs_cons (pg_name (i := 1) sc_some_cross.nd rfl (.inl rfl)) (pgs_cons (pg_name (i := 2) sc_some_cross.nd rfl (.inl rfl)) pgs_nil)))) (fun _ _ _ _ _ => pts_nil) (fun _ _ _ _ _ => pe_to (pe_g c_do_cross g (hr.mono (by decide)) pass0 (pa_cons (pv 1) (pa_cons (pv 2) pa_nil))))) pa_nil)))), ?_⟩
  refine ⟨.ref d, rfl, d, _, rfl, .inl (.inl hd), fun D1 n1 => ?_⟩
  rw [combos_map]
  have lc : (combos ts).length ≤ 1000000 := by
    have h1 := combos_sq ts
    have h2 := Nat.mul_le_mul lt lt
    omega
  refine lc_it walk_comb (fun i H' => Grow [] H H' ∧ H' D1 = some (.lst ((((combos ts).take i).map fun z => crossB z.1.2.2 z.2.2.2).map V.bl))) ⟨grow_new n1, upd_same⟩ (fun _ _ _ _ => trivial) (fun i x Ha Hb hi hp hy => ?_) (fun H2 hp => ?_)
  · obtain ⟨ga, ea⟩ := hp
    obtain ⟨Tn, x1, x2, rfl, nT, rfl, e1, e2⟩ := hy
    dsimp only at e1 e2
    rw [List.getElem?_map] at e1 e2
    rw [List.length_map] at hi
    obtain ⟨z, ez⟩ : ∃ z, (combos ts)[i]? = some z := ⟨_, List.getElem?_eq_getElem hi⟩
    rw [ez] at e1 e2
    cases e1
    cases e2
    obtain ⟨m1, m2⟩ := combos_mem (List.mem_of_getElem? ez)
    have gb := ga.new (o := .tup [V.ref z.1.1, V.ref z.2.1]) nT
    have eb : upd Ha Tn (.tup [V.ref z.1.1, V.ref z.2.1]) D1 = some (.lst ((((combos ts).take i).map fun z => crossB z.1.2.2 z.2.2.2).map V.bl)) := by rw [upd_ne (ne_of_none ea nT)]; exact ea
    refine ⟨Tn, _, rfl, .inl (.inl upd_same), rfl, _, _, rfl, _, _, rfl, rfl, rfl, ?_⟩
    generalize upd Ha Tn (.tup [V.ref z.1.1, V.ref z.2.1]) = Hc at gb eb ⊢
    refine yes_if ⟨.ref z.1.1, rfl, .ref z.2.1, rfl, z.1, z.2, rfl, gb.tabs _ tT, (ht _ m1).grow0 gb, (ht _ m2).grow0 gb, fun He ge => ?_⟩
    have ee := ge.lst (by simp) eb
    refine ⟨_, ee, ?_, (gb.trans ge).put (fresh_none n1) ee (fun ps z => by cases z), ?_⟩
    · rw [List.length_map, List.length_map, List.length_take]
      have : (1000001 : Nat) < sizeLine := by decide
      omega
    · rw [upd_same, List.take_add_one, ez, List.map_append (l₁ := (combos ts).take i), List.map_append (l₂ := List.map _ _)]
      rfl
  · obtain ⟨g2, e2⟩ := hp
    rw [List.length_map, List.take_length] at e2
    refine ⟨D1, _, rfl, .inl (.inl e2), ?_⟩
    have := q H2 g2
    have e : (((combos ts).map fun z => crossB z.1.2.2 z.2.2.2)).any id = crs (ts.map fun t => t.2.2) := by
      unfold crs
      rw [combos_map, List.any_map, List.any_map]
      rfl
    rw [e]
    exact this
/-- a place of the tree: its own list, the lists chosen -/
abbrev TrT := Addr × List (Addr × List Str)
def trD (t : TrT) : List (List Str) := t.2.map Prod.snd
def TrAt (H : Hp) (t : TrT) : Prop := H t.1 = some (.lst (t.2.map fun e => V.ref e.1)) ∧ ∀ e ∈ t.2, H e.1 = some (.lst (e.2.map V.str))
theorem TrAt.grow0 {H H' : Hp} {t : TrT} (h : TrAt H t) (g : Grow [] H H') : TrAt H' t := ⟨g.lst (by simp) h.1, fun e he => g.lst (by simp) (h.2 e he)⟩
def spFits (K : PySem.W.Frag) (T1 T : Addr) : Sp := fun vs H Q _ => ∃ (t : TrT) (a : Addr) (ys : List Str), vs = [.ref t.1, .ref a] ∧ TabG H T1 ∧ TabG H T ∧ TrAt H t ∧ H a = some (.lst (ys.map V.str)) ∧ ∀ H', Grow [] H H' → Q (.bl (fitsB (trD t) ys)) H'
theorem ok_fits {f c T1 T : Addr} {fd : FuncData} (B : Nb mg) (D : DefIs K "fits" "fits" st_fits f fd (.ref c)) (x_fits : TabB base mg c T) (c_share_name : Callee P w K mg base CX0 4 "share_name" ["names", "others"] (spShare K T1)) :
    FnG P w K mg base CX0 8 f fd ["place", "names"] (spFits K T1 T) := by
  refine D.ok0 (k := 7) sc_fits (fun vs H Q E h => ?_) (fun A outer s H vs Q E g hr h => ?_)
  · obtain ⟨t, a, ys, rfl, _⟩ := h
    rfl
  obtain ⟨t, a, ys, rfl, t1, tT, ht, ha, q⟩ := h
  refine ⟨_,
      (pss_one (ps_ret (pe_allG (own := [("chosen", 2)]) hr (gx_ok (N := N_fits) (dsc := defScope st_fits) x_fits sc_fits.nd (by decide +kernel) (by decide +kernel)) rfl B.n_all (by decide +kernel) (pi_list (pv 0)) (fun _ _ _ _ _ => (pg_name (i := 2) sc_fits.nd rfl (.inl rfl))) (fun _ _ _ _ _ => pe_to (pe_g c_share_name g ((room_gx hr).mono (by decide)) pass0 (pa_cons (pv 1) (pa_cons (pv 2) pa_nil))))))), ?_⟩
  refine ⟨.ref t.1, rfl, t.1, rfl, ⟨_, .inl (.inl ht.1)⟩, tT, ?_⟩
  refine truth_list (xs := t.2.map fun e => V.ref e.1) (fun i H' => Grow [] H H' ∧ ∀ e ∈ t.2.take i, meet ys e.2 = true) (fun H2 tb => ⟨grow_tab tT tb, fun x hx => by cases hx⟩) (fun i H' hp => .inl (.inl (hp.1.lst (by simp) ht.1))) (fun i x H' hx hp => ?_) fun H' hp => ?_
  · obtain ⟨gr, al⟩ := hp
    rw [List.getElem?_map] at hx
    cases ez : t.2[i]? with
    | none => rw [ez] at hx; cases hx
    | some z =>
      rw [ez] at hx
      cases hx
      have zm := List.mem_of_getElem? ez
      refine ⟨rfl, .ref a, rfl, .ref z.1, rfl, a, z.1, ys, z.2, rfl, gr.tabs _ t1, gr.lst (by simp) ha, gr.lst (by simp) (ht.2 z zm), fun H2 g2 => ⟨_, rfl, ?_⟩⟩
      cases e : meet ys z.2 with
      | false =>
        rw [if_pos rfl]
        have e2 : fitsB (trD t) ys = false := by
          refine Bool.eq_false_iff.mpr fun y => ?_
          have := List.all_eq_true.mp y z.2 (List.mem_map.mpr ⟨z, zm, rfl⟩)
          rw [e] at this
          cases this
        rw [← e2]
        exact q H2 (gr.trans g2)
      | true =>
        rw [if_neg (fun y => Bool.noConfusion y)]
        refine ⟨gr.trans g2, fun x hx => ?_⟩
        rw [List.take_add_one, ez] at hx
        rcases List.mem_append.mp hx with hx | hx
        · exact al x hx
        · rw [List.mem_singleton.mp hx]; exact e
  · obtain ⟨gr, al⟩ := hp
    rw [List.length_map, List.take_length] at al
    have e2 : fitsB (trD t) ys = true := by
      refine List.all_eq_true.mpr fun y hy => ?_
      obtain ⟨e, he, rfl⟩ := List.mem_map.mp hy
      exact al e he
    have := q H' gr
    rw [e2] at this
    exact this
end

end Lw

namespace Lw
open PySem PySem.Spec PyProof.Rows L2 GxR Gx
/-! ### the places of the tree as data -/
def encN (c : List Str) : PyData := .list (c.map PyData.str)
def encTr (s : List (List Str)) : PyData := .list (s.map encN)
def sortTr (l : List (List (List Str))) : List (List (List Str)) := l.mergeSort (PySem.W.dataLe false encTr)
def treeOf (gs : List (Str × List Str)) : List (List (List Str)) := sortTr (placesOf (partsOf gs))
theorem alike_tr : ∀ as bs : List (List Str), PySem.W.alikeAll (as.map encN) (bs.map encN) = true
  | [], _ => by simp [PySem.W.alikeAll]
  | _ :: _, [] => by simp [PySem.W.alikeAll]
  | a :: as, b :: bs => by
    rw [List.map_cons, List.map_cons, PySem.W.alikeAll, alike_tr as bs]
    unfold encN
    rw [PySem.W.alike, alike_strl]
    rfl
theorem alike_trs {β : Type} (f : β → List (List Str)) (bs : List β) : PySem.W.AllAlike (bs.map fun b => encTr (f b)) := PySem.W.AllAlike.of fun b b' => by
  unfold encTr
  rw [PySem.W.alike]
  exact alike_tr _ _
theorem sortable_trs {β : Type} (f : β → List (List Str)) (bs : List β) : PySem.W.Sortable (bs.map fun b => encTr (f b)) := PySem.W.Sortable.others fun b => ⟨(nomatch ·), fun xs => (nomatch ·)⟩
theorem depth_ns (as : List (List Str)) : PyData.depthAll (as.map encN) ≤ 1 := by
  induction as with
  | nil => exact Nat.zero_le _
  | cons a as ih =>
    rw [List.map_cons, PyData.depthAll]
    refine Nat.max_le.mpr ⟨?_, ih⟩
    unfold encN
    rw [PyData.depth, depth_strl]
    decide
theorem depth_tr (s : List (List Str)) : (encTr s).depth ≤ 2 := by
  unfold encTr
  rw [PyData.depth]
  exact Nat.succ_le_succ (depth_ns s)
theorem ns_dp {K : PySem.W.Frag} {H : Hp} : ∀ {es : List (Addr × List Str)}, (∀ e ∈ es, H e.1 = some (.lst (e.2.map V.str))) → DpAll K H (es.map fun e => V.ref e.1) ((es.map Prod.snd).map encN)
  | [], _ => .nil
  | e :: es, h => .cons (dp_book (.inl (.inl (h e List.mem_cons_self)))) (ns_dp fun x hx => h x (List.mem_cons_of_mem _ hx))
theorem TrAt.dp {K : PySem.W.Frag} {H : Hp} {t : TrT} (h : TrAt H t) : Dp K H (.ref t.1) (encTr (trD t)) := .lst (.inl (.inl h.1)) (ns_dp h.2)
theorem trs_dp {K : PySem.W.Frag} {H : Hp} : ∀ {ts : List TrT}, (∀ t ∈ ts, TrAt H t) → DpAll K H (ts.map fun t => V.ref t.1) ((ts.map trD).map encTr)
  | [], _ => .nil
  | t :: ts, h => .cons (h t List.mem_cons_self).dp (trs_dp fun x hx => h x (List.mem_cons_of_mem _ hx))
/-- names of a list, so few -/
def NmOk (c : List Str) : Prop := c.all isNm = true ∧ c.length ≤ 12
theorem fine_ns {c : List Str} (h : NmOk c) : Fine (encN c) 1 108 := Fine.list (n := 0) (m := 8) (fun d hd => by
  obtain ⟨z, hz, rfl⟩ := List.mem_map.mp hd
  have h1 := List.all_eq_true.mp h.1 z hz
  exact .str (nm_lt h1) (nm_short h1)) (by rw [List.length_map]; have := h.2; omega)
theorem fine_tr {s : List (List Str)} (h : ∀ c ∈ s, NmOk c) (l : s.length ≤ 121) : Fine (encTr s) 2 13189 := Fine.list (n := 1) (m := 108) (fun d hd => by
  obtain ⟨c, hc, rfl⟩ := List.mem_map.mp hd
  exact fine_ns (h c hc)) (by rw [List.length_map]; omega)
theorem fine_trs {F : List (List (List Str))} (h : ∀ s ∈ F, s.length ≤ 121 ∧ ∀ c ∈ s, NmOk c) (l : F.length ≤ 122) : Fine (.list (F.map encTr)) 3 1609180 := Fine.list (n := 2) (m := 13189) (fun d hd => by
  obtain ⟨s, hs, rfl⟩ := List.mem_map.mp hd
  exact fine_tr (h s hs).2 (h s hs).1) (by rw [List.length_map]; omega)
theorem parts_prts {bs : List (Addr × (Str × List Str))} {ws : List Str} (gv : Giv bs ws) (nc : crs (partsOf (bs.map Prod.snd)) = false) :
    ∃ (h : Str) (r : List Str), namesOf (bs.map Prod.snd) = h :: r ∧ r.length ≤ 11 ∧ Prts (h :: r) h (partsOf (bs.map Prod.snd)) := by
  have g := gv.gd
  obtain ⟨h, r, e1, e2, e3⟩ := g.head
  have l12 : (namesOf (bs.map Prod.snd)).length ≤ 12 := by
    rw [(GivD.names_perm (gs := bs.map Prod.snd)).length_eq, List.length_map, List.length_map]
    exact gv.most
  rw [e1, List.length_cons] at l12
  refine ⟨h, r, e1, by omega, ?_⟩
  rw [← e1]
  refine ⟨?_, fun p hp => ?_, fun p hp => ?_, fun p hp => (part_first g hp).2.1, fun p hp => (part_sub g hp).1, fun p hp x => ?_, fun p hp => (part_sub g hp).2.1, fun p hp q hq e => ?_, (crs_iff _).mp nc⟩
  · unfold partsOf partsBy
    refine (sortPt_perm _).nodup_iff.mpr ?_
    exact List.pairwise_map.mpr ((okeys_nd _).imp fun h e => h (congrArg Prod.snd e))
  · have := (part_first g hp).2.2.1
    rwa [e2] at this
  · have := (part_first g hp).2.2.2
    rwa [e2] at this
  · rw [show p.1 = (namesOf (bs.map Prod.snd)).filter fun n => decide (n ∉ p.2) from (part_sub g hp).2.2, List.mem_filter, decide_eq_true_iff]
  · obtain ⟨p1, hp2⟩ := part_mem hp
    obtain ⟨q1, hq2⟩ := part_mem hq
    have canon : ∀ {z : Parting}, z.2 ∈ okeys (othersAll (bs.map Prod.snd)) → z.2 = (namesOf (bs.map Prod.snd)).filter fun n => decide (n ∈ z.2) := fun {z} hz => by
      obtain ⟨w, hw, eo⟩ := List.mem_map.mp (mem_okeys.mp hz).1
      rw [← eo]
      unfold othersOf
      refine List.filter_congr fun n hn => ?_
      refine decide_eq_decide.mpr ?_
      rw [List.mem_filter, decide_eq_true_iff]
      exact ⟨fun y => ⟨hn, y⟩, fun y => y.2⟩
    have e4 : p.2 = q.2 := by
      rw [canon hp2, canon hq2]
      refine List.filter_congr fun n hn => decide_eq_decide.mpr (e n)
    rw [p1, q1, e4]
/-- what the tree of given books is -/
structure TreeOk (bs : List (Addr × (Str × List Str))) (F : List (List (List Str))) : Prop where
  ok : ∃ h r, namesOf (bs.map Prod.snd) = h :: r ∧ Prts (h :: r) h (partsOf (bs.map Prod.snd)) ∧ TreeR (h :: r) (partsOf (bs.map Prod.snd)) F
  few : (partsOf (bs.map Prod.snd)).length ≤ 121
  fine : ∀ s ∈ F, s.length ≤ 121 ∧ ∀ c ∈ s, NmOk c
theorem tree_pre {ns : List Str} {h : Str} {ps : List Parting} (g : Prts ns h ps) (i : Nat) : (placesOf (ps.take i)).length ≤ ps.length + 1 := by
  have g2 : Prts ns h (ps.take i ++ ps.drop i) := by rw [List.take_append_drop]; exact g
  rw [(tree_right (ps.take i) g2.left).len, List.length_take]
  omega
theorem tree_ok {bs : List (Addr × (Str × List Str))} {ws : List Str} (gv : Giv bs ws) (nc : crs (partsOf (bs.map Prod.snd)) = false) : TreeOk bs (placesOf (partsOf (bs.map Prod.snd))) := by
  obtain ⟨h, r, e1, l11, g⟩ := parts_prts gv nc
  have t := tree_right _ g
  have l121 : (partsOf (bs.map Prod.snd)).length ≤ 121 := Nat.le_trans g.few (Nat.mul_le_mul l11 l11)
  refine ⟨⟨h, r, e1, g, t⟩, l121, fun s hs => ?_⟩
  obtain ⟨f, rfl, _⟩ := (t.mem s).mp hs
  refine ⟨by rw [plOf_len]; exact l121, fun c hc => ?_⟩
  obtain ⟨p, hp, rfl⟩ := List.mem_map.mp hc
  obtain ⟨k1, _⟩ := parts_ok gv
  have ok := k1 p hp
  have sub : ∀ b, (sd p b).Nodup ∧ ∀ x ∈ sd p b, x ∈ h :: r := fun b => by
    refine ⟨?_, fun x hx => g.in_ hp hx⟩
    cases b
    · exact (part_sub gv.gd hp).1
    · show p.1.Nodup
      rw [show p.1 = (namesOf (bs.map Prod.snd)).filter fun n => decide (n ∉ p.2) from (part_sub gv.gd hp).2.2]
      exact gv.gd.names_nd.filter _
  have len : (sd p (f p)).length ≤ 12 := by
    have := (sub (f p)).1.length_le_of_subset (l₂ := h :: r) fun x hx => (sub (f p)).2 x hx
    rw [List.length_cons] at this
    omega
  refine ⟨?_, len⟩
  cases f p
  · exact ok.2.2.1
  · exact ok.1
theorem TreeOk.sorted {bs : List (Addr × (Str × List Str))} {F : List (List (List Str))} (t : TreeOk bs F) : TreeOk bs (sortTr F) := by
  obtain ⟨⟨h, r, e1, g, tr⟩, l, f⟩ := t
  have pm : (sortTr F).Perm F := List.mergeSort_perm _ _
  refine ⟨⟨h, r, e1, g, ⟨fun s => pm.mem_iff.trans (tr.mem s), pm.nodup_iff.mpr tr.nd, by rw [pm.length_eq]; exact tr.len, by rw [pc_perm nb_comm pm]; exact tr.nbs⟩⟩, l, fun s hs => f s (pm.mem_iff.mp hs)⟩

end Lw

namespace Lw
open PySem PySem.Spec PyProof.Rows L2 GxR Gx
section
variable {P : Program} {w : World} {K : PySem.W.Frag} {mg : Str → Option Value} {base : Heap}
/-! ### places_by -/
def spPlacesBy (K : PySem.W.Frag) (T1 T : Addr) : Sp := fun vs H Q _ => ∃ (D : Addr) (ts : List PT), vs = [.ref D] ∧ TabG H T1 ∧ TabG H T ∧ H D = some (.lst (ts.map fun t => V.ref t.1)) ∧ (∀ t ∈ ts, PtAt H t) ∧ ts.length ≤ 400 ∧
  (∀ i, (placesOf ((ts.map fun t => t.2.2).take i)).length ≤ 1000) ∧ ∀ R H' (Ls : List TrT), Fresh H R → Grow [] H H' → H' R = some (.lst (Ls.map fun t => V.ref t.1)) → (∀ t ∈ Ls, TrAt H' t) → Ls.map trD = placesOf (ts.map fun t => t.2.2) → Q (.ref R) H'
theorem pl_len : ∀ (ps : List Parting), ∀ s ∈ placesOf ps, s.length = ps.length := fun ps => by
  induction ps using snoc_ind with
  | h0 => intro s hs; rw [List.mem_singleton.mp hs]; rfl
  | hs ps p ih =>
    intro s hs
    rw [places_snoc] at hs
    obtain ⟨u, hu, hs⟩ := List.mem_flatMap.mp hs
    obtain ⟨c, rfl, _⟩ := ext_mem.mp hs
    rw [List.length_append, ih u hu, List.length_append]
    rfl
theorem sides_snd (t : PT) : (sides t).map Prod.snd = [t.2.2.1, t.2.2.2] := rfl
/-- a new place: made of an old one and a side -/
theorem ok_places_by {f c T1 T : Addr} {fd : FuncData} (B : Nb mg) (D : DefIs K "places_by" "places_by" st_places_by f fd (.ref c)) (c_fits : Callee P w K mg base CX0 8 "fits" ["place", "names"] (spFits K T1 T)) :
    FnG P w K mg base CX0 12 f fd ["partings"] (spPlacesBy K T1 T) := by
  refine D.ok0 (k := 11) sc_places_by (fun vs H Q E h => ?_) (fun A outer s H vs Q E g hr h => ?_)
  · obtain ⟨d, ts, rfl, _⟩ := h
    rfl
  obtain ⟨d, ts, rfl, t1, tT, hd, ht, lt, few, q⟩ := h
  refine ⟨_,
      (pss_cons (ps_set (i := 1) sc_places_by.nd rfl (.inl rfl) (pe_lst (pa_cons (pe_lst pa_nil) pa_nil)))
      (pss_cons (ps_for PassesOwn.never rfl (pi_list (pv 0)) (pg_name (i := 2) sc_places_by.nd rfl (.inr rfl)) (
        (pss_one (ps_setLc2 (i := 1) (own := [("place", 3), ("names", 4)]) (vs1 := [4]) (g := (gName 3)) (g1 := (gName 4)) (tt := tYes) rfl sc_places_by.nd rfl rfl (sw_true rfl rfl rfl (by decide +kernel)) (pi_list (pv 1)) (blkOk_by (N := N_places_by) (sc := defScope st_places_by) (by decide +kernel)) (by decide) (fun _ _ _ _ _ => (pg_name (i := 3) sc_places_by.nd rfl (.inl rfl))) (fun _ _ _ _ _ => pts_nil) (fun _ _ _ _ _ => pi_to (pi_tup (pv 2))) (fun _ _ _ _ _ => (pg_name (i := 4) sc_places_by.nd rfl (.inl rfl))) (fun _ _ _ _ _ => pts_to (pts_one (pt_val (pe_g c_fits g (hr.mono (by decide)) pass0 (pa_cons (pv 3) (pa_cons (pv 4) pa_nil)))))) (fun _ _ _ _ _ => pe_to (pe_op op_cat (pv 3) (pe_lst (pa_cons (pv 4) pa_nil))))))))
      (pss_one (ps_ret (pv 1))))), ?_⟩
  refine ⟨by show 0 ≤ sizeLine; decide, fun E0 nE => ⟨by show 1 ≤ sizeLine; decide, fun R0 nR => ?_⟩⟩
  have g0 : Grow [] H (upd (upd H E0 (.lst [])) R0 (.lst [.ref E0])) := (grow_new nE).new nR
  have fR0 : Fresh H R0 := (grow_new (ex := []) (o := .lst []) nE).fresh0 nR
  have eR : upd (upd H E0 (.lst [])) R0 (.lst [.ref E0]) R0 = some (.lst [V.ref E0]) := upd_same
  have eE : upd (upd H E0 (.lst [])) R0 (.lst [.ref E0]) E0 = some (.lst ([] : List V)) := by rw [upd_ne (ne_of_none upd_same nR)]; exact upd_same
  generalize upd (upd H E0 (.lst [])) R0 (.lst [.ref E0]) = H1 at g0 eR eE ⊢
  refine ⟨.ref d, rfl, d, rfl, ⟨_, .inl (.inl (g0.lst (by simp) hd))⟩, ?_⟩
  refine for_it (walk_list (xs := ts.map fun t => V.ref t.1)) (fun i σ H' => ∃ (o2 : Option V) (R : Addr) (Ls : List TrT), σ = [some (.ref d), some (.ref R), o2, none, none] ∧ Fresh H R ∧ Grow [] H H' ∧ H' R = some (.lst (Ls.map fun t => V.ref t.1)) ∧ (∀ t ∈ Ls, TrAt H' t) ∧ Ls.map trD = placesOf ((ts.map fun t => t.2.2).take i))
    ⟨none, R0, [(E0, [])], rfl, fR0, g0, eR, fun t hm => by rw [List.mem_singleton.mp hm]; exact ⟨eE, fun e he => nomatch he⟩, rfl⟩ (fun i σ H' _ h => by
      obtain ⟨_, _, _, _, _, g', _⟩ := h
      exact .inl (.inl (g'.lst (by simp) hd))) (fun i x σ Ha Hb hi hp hy => ?_) (fun σ H' hp => ?_)
  · obtain ⟨o2, R, Ls, rfl, fR, ga, eL, hL, em⟩ := hp
    obtain ⟨rfl, ex⟩ := hy
    rw [List.length_map] at hi
    obtain ⟨t, et⟩ : ∃ t, ts[i]? = some t := ⟨_, List.getElem?_eq_getElem hi⟩
    rw [List.getElem?_map, et] at ex
    cases ex
    have htm := (ht t (List.mem_of_getElem? et)).grow0 ga
    have stk : (ts.map fun t => t.2.2).take (i + 1) = (ts.map fun t => t.2.2).take i ++ [t.2.2] := by rw [List.take_add_one, List.getElem?_map, et]; rfl
    have few1 := few (i + 1)
    rw [stk, places_snoc, ← em] at few1
    refine ⟨.ref R, rfl, R, rfl, ⟨_, .inl (.inl eL)⟩, fun D1 n1 => ?_⟩
    -- what the new list holds
    refine lc2_it (walk_list (xs := Ls.map fun t => V.ref t.1)) (fun j H' => Grow [] Hb H' ∧ ∃ Ms : List TrT, H' D1 = some (.lst (Ms.map fun t => V.ref t.1)) ∧ (∀ m ∈ Ms, m.1 ≠ D1 ∧ H' m.1 = some (.lst (m.2.map fun e => V.ref e.1)) ∧ ∀ e ∈ m.2, Hb e.1 = some (.lst (e.2.map V.str))) ∧ Ms.map trD = ((Ls.map trD).take j).flatMap (ext t.2.2))
      ⟨grow_new n1, [], upd_same, (fun m hm => nomatch hm), rfl⟩ (fun j H' _ h => .inl (.inl (h.1.lst (by simp) eL))) (fun j x Hc Hd hj hq hy => ?_) (fun H2 hq => ?_)
    · obtain ⟨gc, Ms, eD, hM, eM⟩ := hq
      obtain ⟨rfl, ex⟩ := hy
      rw [List.length_map] at hj
      obtain ⟨l, el⟩ : ∃ l, Ls[j]? = some l := ⟨_, List.getElem?_eq_getElem hj⟩
      rw [List.getElem?_map, el] at ex
      cases ex
      have lm := List.mem_of_getElem? el
      have ltk : (Ls.map trD).take (j + 1) = (Ls.map trD).take j ++ [trD l] := by rw [List.take_add_one, List.getElem?_map, el]; rfl
      have fewj : ((Ls.map trD).take j).flatMap (ext t.2.2) ++ ext t.2.2 (trD l) = ((Ls.map trD).take (j + 1)).flatMap (ext t.2.2) := by rw [ltk, List.flatMap_append, List.flatMap_cons, List.flatMap_nil, List.append_nil]
      have few2 : (((Ls.map trD).take (j + 1)).flatMap (ext t.2.2)).length ≤ 1000 := by
        refine Nat.le_trans ?_ few1
        have e : (Ls.map trD).flatMap (ext t.2.2) = ((Ls.map trD).take (j + 1)).flatMap (ext t.2.2) ++ ((Ls.map trD).drop (j + 1)).flatMap (ext t.2.2) := by rw [← List.flatMap_append, List.take_append_drop]
        rw [e, List.length_append]
        omega
      rw [← fewj, List.length_append] at few2
      have hlb := hL l lm
      refine ⟨rfl, yes_if ⟨.ref t.1, rfl, t.1, rfl, ⟨_, .inl (.inl (gc.tup (by simp) (sides_tup htm)))⟩, ?_⟩⟩
      refine in1_it (walk_tup (xs := (sides t).map fun a => V.ref a.1)) (fun k H' => Grow [] Hb H' ∧ ∃ Ns : List TrT, H' D1 = some (.lst ((Ms ++ Ns).map fun t => V.ref t.1)) ∧ (∀ m ∈ Ms ++ Ns, m.1 ≠ D1 ∧ H' m.1 = some (.lst (m.2.map fun e => V.ref e.1)) ∧ ∀ e ∈ m.2, Hb e.1 = some (.lst (e.2.map V.str))) ∧ Ns.length ≤ k ∧ Ns.map trD = ((((sides t).map Prod.snd).take k).filter (fitsB (trD l))).map fun c => trD l ++ [c])
        ⟨gc, [], by rw [List.append_nil]; exact eD, by rw [List.append_nil]; exact hM, Nat.le_refl _, rfl⟩ (fun k H' _ h => .inl (.inl (h.1.tup (by simp) (sides_tup htm)))) (fun k x He Hf hk hr hy => ?_) (fun H3 hr => ?_)
      · obtain ⟨ge, Ns, eN, hN, lN, eNs⟩ := hr
        obtain ⟨rfl, ex⟩ := hy
        rw [List.length_map] at hk
        obtain ⟨a, ea⟩ : ∃ a, (sides t)[k]? = some a := ⟨_, List.getElem?_eq_getElem hk⟩
        rw [List.getElem?_map, ea] at ex
        cases ex
        have am := List.mem_of_getElem? ea
        have hab := sides_at htm a am
        have atk : ((sides t).map Prod.snd).take (k + 1) = ((sides t).map Prod.snd).take k ++ [a.2] := by rw [List.take_add_one, List.getElem?_map, ea]; rfl
        have ghe := ga.trans ge
        refine ⟨rfl, .ref l.1, rfl, .ref a.1, rfl, l, a.1, a.2, rfl, ghe.tabs _ t1, ghe.tabs _ tT, hlb.grow0 ge, ge.lst (by simp) hab, fun Hg gg => ?_⟩
        have g2 := ge.trans gg
        have keep : ∀ m ∈ Ms ++ Ns, m.1 ≠ D1 ∧ Hg m.1 = some (.lst (m.2.map fun e => V.ref e.1)) ∧ ∀ e ∈ m.2, Hb e.1 = some (.lst (e.2.map V.str)) := fun m hm => by
          obtain ⟨h1, h2, h3⟩ := hN m hm
          exact ⟨h1, gg.lst (by simp) h2, h3⟩
        have eD2 := gg.lst (by simp) eN
        refine ⟨_, rfl, ?_⟩
        cases cf : fitsB (trD l) a.2 with
        | false =>
          rw [if_neg Bool.false_ne_true]
          refine ⟨g2, Ns, eD2, keep, by omega, ?_⟩
          rw [eNs, atk, List.filter_append, List.filter_cons_of_neg (by rw [cf]; exact Bool.false_ne_true), List.filter_nil, List.append_nil]
        | true =>
          rw [if_pos rfl]
          have el2 := (hlb.grow0 g2).1
          have ll : l.2.length ≤ 400 := by
            have h1 : (trD l).length = ((ts.map fun t => t.2.2).take i).length := pl_len _ _ (by rw [← em]; exact List.mem_map.mpr ⟨l, lm, rfl⟩)
            unfold trD at h1
            rw [List.length_map, List.length_take, List.length_map] at h1
            omega
          refine ⟨.ref l.1, rfl, .ref a.1, rfl, by show 1 ≤ sizeLine; decide, fun O nO => ?_⟩
          have gO := g2.new (o := .lst [V.ref a.1]) nO
          have eO : upd Hg O (.lst [V.ref a.1]) O = some (.lst [V.ref a.1]) := upd_same
          have keepO : ∀ m ∈ Ms ++ Ns, m.1 ≠ D1 ∧ upd Hg O (.lst [V.ref a.1]) m.1 = some (.lst (m.2.map fun e => V.ref e.1)) ∧ ∀ e ∈ m.2, Hb e.1 = some (.lst (e.2.map V.str)) := fun m hm => by
            obtain ⟨h1, h2, h3⟩ := keep m hm
            exact ⟨h1, by rw [upd_ne (ne_of_none h2 nO)]; exact h2, h3⟩
          have eD3 : upd Hg O (.lst [V.ref a.1]) D1 = some (.lst ((Ms ++ Ns).map fun t => V.ref t.1)) := by rw [upd_ne (ne_of_none eD2 nO)]; exact eD2
          have el3 : upd Hg O (.lst [V.ref a.1]) l.1 = some (.lst (l.2.map fun e => V.ref e.1)) := by rw [upd_ne (ne_of_none el2 nO)]; exact el2
          generalize upd Hg O (.lst [V.ref a.1]) = Hh at gO eO keepO eD3 el3 ⊢
          refine ⟨l.1, O, _, [V.ref a.1], rfl, rfl, el3, eO, by rw [List.length_map]; show l.2.length + 1 ≤ sizeLine; unfold sizeLine; omega, fun N nN => ?_⟩
          have gN := gO.new (o := .lst ((l.2.map fun e => V.ref e.1) ++ [V.ref a.1])) nN
          have eN4 : upd Hh N (.lst ((l.2.map fun e => V.ref e.1) ++ [V.ref a.1])) N = some (.lst ((l.2 ++ [a]).map fun e => V.ref e.1)) := by rw [upd_same, List.map_append]; rfl
          have eD4 : upd Hh N (.lst ((l.2.map fun e => V.ref e.1) ++ [V.ref a.1])) D1 = some (.lst ((Ms ++ Ns).map fun t => V.ref t.1)) := by rw [upd_ne (ne_of_none eD3 nN)]; exact eD3
          have ND : N ≠ D1 := fun z => by rw [z, eD3] at nN; cases nN
          have keepN : ∀ m ∈ Ms ++ Ns, m.1 ≠ D1 ∧ upd Hh N (.lst ((l.2.map fun e => V.ref e.1) ++ [V.ref a.1])) m.1 = some (.lst (m.2.map fun e => V.ref e.1)) ∧ ∀ e ∈ m.2, Hb e.1 = some (.lst (e.2.map V.str)) := fun m hm => by
            obtain ⟨h1, h2, h3⟩ := keepO m hm
            exact ⟨h1, by rw [upd_ne (ne_of_none h2 nN)]; exact h2, h3⟩
          generalize upd Hh N (.lst ((l.2.map fun e => V.ref e.1) ++ [V.ref a.1])) = Hi at gN eN4 eD4 keepN ⊢
          have lms : (Ms ++ Ns).length ≤ 2000 := by
            have h1 : Ms.length = (((Ls.map trD).take j).flatMap (ext t.2.2)).length := by rw [← eM, List.length_map]
            have h2 : (sides t).length = 2 := rfl
            rw [List.length_append]
            omega
          refine ⟨_, eD4, by rw [List.length_map]; unfold sizeLine; omega, gN.put (fresh_none n1) eD4 (fun ps z => by cases z), Ns ++ [(N, l.2 ++ [a])], by rw [upd_same, ← List.append_assoc, List.map_append (l₂ := [(N, l.2 ++ [a])])]; rfl, fun m hm => ?_, by rw [List.length_append]; show Ns.length + 1 ≤ _; omega, ?_⟩
          · rw [← List.append_assoc] at hm
            rcases List.mem_append.mp hm with hm | hm
            · obtain ⟨h1, h2, h3⟩ := keepN m hm
              exact ⟨h1, by rw [upd_ne h1]; exact h2, h3⟩
            · rw [List.mem_singleton.mp hm]
              refine ⟨ND, by rw [upd_ne ND]; exact eN4, fun e he => ?_⟩
              rcases List.mem_append.mp he with he | he
              · exact hlb.2 e he
              · rw [List.mem_singleton.mp he]; exact hab
          · rw [List.map_append, eNs, atk, List.filter_append, List.filter_cons_of_pos cf, List.filter_nil, List.map_append]
            congr 1
            show [trD (N, l.2 ++ [a])] = [trD l ++ [a.2]]
            unfold trD
            rw [List.map_append]
            rfl
      · obtain ⟨ge, Ns, eN, hN, lN, eNs⟩ := hr
        refine ⟨ge, Ms ++ Ns, eN, hN, ?_⟩
        rw [List.map_append, eM, eNs, ← fewj]
        rfl
    · obtain ⟨gc, Ms, eD, hM, eM⟩ := hq
      rw [List.length_map, show Ls.length = (Ls.map trD).length by rw [List.length_map], List.take_length] at eM
      refine ⟨_, D1, Ms, rfl, ga.fresh0 n1, ga.trans gc, eD, fun m hm => ?_, ?_⟩
      · obtain ⟨h1, h2, h3⟩ := hM m hm
        exact ⟨h2, fun e he => gc.lst (by simp) (h3 e he)⟩
      · rw [eM, em, stk, places_snoc]
  · obtain ⟨o2, R, Ls, rfl, fR, ga, eL, hL, em⟩ := hp
    rw [List.length_map, show ts.length = (ts.map fun t => t.2.2).length by rw [List.length_map], List.take_length] at em
    exact ⟨.ref R, rfl, q R H' Ls fR ga eL hL em⟩
end

end Lw

namespace Lw
open PySem PySem.Spec PyProof.Rows L2 GxR Gx
section
variable {P : Program} {w : World} {K : PySem.W.Frag} {mg : Str → Option Value} {base : Heap}
/-! ### tree_places -/
def trAdd (ts : List TrT) : List Addr := ts.flatMap fun t => t.1 :: t.2.map Prod.fst
structure TrsAt (H : Hp) (R : Addr) (ts : List TrT) : Prop where
  lst : H R = some (.lst (ts.map fun t => V.ref t.1))
  each : ∀ t ∈ ts, TrAt H t
  nd : (trAdd ts).Nodup
  ne : R ∉ trAdd ts
theorem TrsAt.grow0 {H H' : Hp} {R : Addr} {ts : List TrT} (h : TrsAt H R ts) (g : Grow [] H H') : TrsAt H' R ts := ⟨g.lst (by simp) h.lst, fun t ht => (h.each t ht).grow0 g, h.nd, h.ne⟩
theorem trAdd_some {H : Hp} {ts : List TrT} (h : ∀ t ∈ ts, TrAt H t) {a : Addr} (ha : a ∈ trAdd ts) : ∃ zs : List V, H a = some (.lst zs) := by
  obtain ⟨t, ht, hm⟩ := List.mem_flatMap.mp ha
  rcases List.mem_cons.mp hm with e | hm
  · rw [e]; exact ⟨_, (h t ht).1⟩
  · obtain ⟨e, he, rfl⟩ := List.mem_map.mp hm
    exact ⟨_, (h t ht).2 e he⟩
def spTree (K : PySem.W.Frag) (T1 T2 T3 T4 T5 : Addr) : Sp := fun vs H Q E => ∃ (d : Addr) (bs : List (Addr × (Str × List Str))) (ws : List Str), vs = [.ref d] ∧ TabG H T1 ∧ TabG H T2 ∧ TabG H T3 ∧ TabG H T4 ∧ TabG H T5 ∧ GivAt H d bs ∧ Giv bs ws ∧
  (crs (partsOf (bs.map Prod.snd)) = false → ∀ R H' (Ls : List TrT), Fresh H R → Grow [] H H' → TrsAt H' R Ls → (∀ a ∈ trAdd Ls, Fresh H a) → Ls.map trD = treeOf (bs.map Prod.snd) → Q (.ref R) H') ∧
  (crs (partsOf (bs.map Prod.snd)) = true → ∀ H', Grow [] H H' → E (.ref (He.ga K "Cross")) none H')
theorem ok_tree_places {f c T1 T2 T3 T4 T5 : Addr} {fd : FuncData} (B : Nb mg) (D : DefIs K "tree_places" "tree_places" st_tree_places f fd (.ref c)) (XS : Xs K mg excNames ["Cross"])
    (c_check_given : Callee P w K mg base CX0 14 "check_given" ["thing"] (spCheckG K T1 T2 T3)) (c_pairs_by_others : Callee P w K mg base CX0 5 "pairs_by_others" ["books"] (spPairsBy K)) (c_partings_by : Callee P w K mg base CX0 4 "partings_by" ["books", "pairs"] (spPartBy K))
    (c_some_cross : Callee P w K mg base CX0 10 "some_cross" ["partings"] (spSomeCross K T4)) (c_places_by : Callee P w K mg base CX0 12 "places_by" ["partings"] (spPlacesBy K T4 T5)) :
    FnG P w K mg base (L2.CX P w) 15 f fd ["books"] (spTree K T1 T2 T3 T4 T5) := by
  refine D.ok (k := 14) sc_tree_places (fun vs H Q E h => ?_) (fun A outer s H vs Q E g hr h => ?_)
  · obtain ⟨d, bs, ws, rfl, _⟩ := h
    rfl
  obtain ⟨d, bs, ws, rfl, t1, t2, t3, t4, t5, at0, gv, q, qe⟩ := h
  refine ⟨_,
      (pss_cons (ps_expr (pe_g c_check_given g (hr.mono (by decide)) pass0 (pa_cons (pv 0) pa_nil)))
      (pss_cons (ps_set (i := 1) sc_tree_places.nd rfl (.inl rfl) (pe_g c_partings_by g (hr.mono (by decide)) pass0 (pa_cons (pv 0) (pa_cons (pe_g c_pairs_by_others g (hr.mono (by decide)) pass0 (pa_cons (pv 0) pa_nil)) pa_nil))))
      (pss_cons (ps_if (pt_val (pe_g c_some_cross g (hr.mono (by decide)) pass0 (pa_cons (pv 1) pa_nil))) (
        (pss_one (ps_raiseX rfl (takes_of rfl rfl rfl rfl) XS (by simp) (by simp [excNames]) rfl))) pss_nil)
      (pss_one (ps_ret (pe_callB (cr_sortG (val := fun b : TrT => V.ref b.1) (enc := fun b : TrT => encTr (trD b)) hr.units) rfl B.n_sorted (by decide +kernel) (pa_cons (pe_lc (own := [("place", 2)]) (tt := tYes) (g := (gName 2)) rfl sc_tree_places.nd (pi_list (pe_g c_places_by g (hr.mono (by decide)) pass0 (pa_cons (pv 1) pa_nil))) (blkOk_by (N := N_tree_places) (sc := defScope st_tree_places) (by decide +kernel)) (fun _ _ _ _ _ => (pg_name (i := 2) sc_tree_places.nd rfl (.inl rfl))) (fun _ _ _ _ _ => pts_nil) (fun _ _ _ _ _ => pe_to (pe_lc (own := [("names", 3)]) (tt := tYes) (g := (gName 3)) rfl sc_tree_places.nd (pi_list (pv 2)) (blkOk_by (N := N_tree_places) (sc := { kind := ScopeKind.function, names := [(".0", NameKind.local), ("place", NameKind.local)], isGenerator := false, isCoroutine := false }) (by decide +kernel)) (fun _ _ _ _ _ => (pg_name (i := 3) sc_tree_places.nd rfl (.inl rfl))) (fun _ _ _ _ _ => pts_nil) (fun _ _ _ _ _ => pe_to (pe_callTy call_list_of rfl B.n_list (by decide +kernel) (pa_cons (pv 3) pa_nil)))))) pa_nil))))))), ?_⟩
  refine ⟨.ref d, rfl, d, bs, ws, rfl, t1, t2, t3, at0, gv, fun H1 g1 => ?_⟩
  refine ⟨.ref d, rfl, .ref d, rfl, d, bs, ws, rfl, at0.grow0 g1, gv, fun D0 H2 f2 g2 hP => ?_⟩
  have g12 := g1.trans g2
  refine ⟨d, D0, bs, ws, _, _, _, rfl, at0.grow0 g12, gv, hP, Nat.le_trans gv.ps400 (by decide), fun p hp n hn => giv_others_nm gv hn, fun R H3 ts f3 g3 pt fr em => ?_⟩
  have em : ts.map (fun t => t.2.2) = partsOf (bs.map Prod.snd) := em
  have g13 := g12.trans g3
  obtain ⟨_, l400⟩ := parts_ok gv
  have lts : ts.length ≤ 400 := by rw [← em, List.length_map] at l400; exact l400
  refine ⟨.ref R, rfl, R, ts, rfl, g13.tabs _ t4, pt.lst, pt.each, lts, fun H4 g4 => ⟨_, rfl, ?_⟩⟩
  rw [em]
  have g14 := g13.trans g4
  cases cr : crs (partsOf (bs.map Prod.snd)) with
  | true => exact iteT (qe cr H4 g14)
  | false =>
    have tk := tree_ok gv cr
    obtain ⟨h0, r0, _, _, pr⟩ := parts_prts gv cr
    refine iteF ⟨.ref R, rfl, R, ts, rfl, g14.tabs _ t4, g14.tabs _ t5, g4.lst (by simp) pt.lst, fun t ht => (pt.each t ht).grow0 g4, lts, fun i => ?_, fun Rp H5 Ls fRp g5 eRp hLs eLs => ?_⟩
    · rw [em]
      have := tree_pre pr i
      have := tk.few
      omega
    · rw [em] at eLs
      have g15 := g14.trans g5
      have lLs : Ls.length ≤ 200 := by
        obtain ⟨⟨_, _, _, _, tr⟩, few, _⟩ := tk
        have h1 := congrArg List.length eLs
        rw [List.length_map, tr.len] at h1
        omega
      have lrow : ∀ l ∈ Ls, l.2.length ≤ 200 := fun l hl => by
        have h1 := (tk.fine (trD l) (by rw [← eLs]; exact List.mem_map.mpr ⟨l, hl, rfl⟩)).1
        unfold trD at h1
        rw [List.length_map] at h1
        omega
      refine ⟨Rp, rfl, ⟨_, .inl (.inl eRp)⟩, fun D1 n1 => ?_⟩
      refine lc_it (walk_list (xs := Ls.map fun t => V.ref t.1)) (fun j H' => Grow [] H5 H' ∧ ∃ Ms : List TrT, H' D1 = some (.lst (Ms.map fun t => V.ref t.1)) ∧ (∀ m ∈ Ms, TrAt H' m) ∧ (trAdd Ms).Nodup ∧ (∀ a ∈ trAdd Ms, Fresh H5 a ∧ a ≠ D1) ∧ Ms.length ≤ j ∧ Ms.map trD = (Ls.map trD).take j)
        ⟨grow_new n1, [], upd_same, (fun m hm => nomatch hm), List.nodup_nil, (fun a ha => nomatch ha), Nat.le_refl _, rfl⟩ (fun j H' _ h => .inl (.inl (h.1.lst (by simp) eRp))) (fun j x Ha Hb hj hq hy => ?_) (fun H6 hq => ?_)
      · obtain ⟨ga, Ms, eD, hM, nd, fM, lM, eM⟩ := hq
        obtain ⟨rfl, ex⟩ := hy
        rw [List.length_map] at hj
        obtain ⟨l, el⟩ : ∃ l, Ls[j]? = some l := ⟨_, List.getElem?_eq_getElem hj⟩
        rw [List.getElem?_map, el] at ex
        cases ex
        have lm := List.mem_of_getElem? el
        have ltk : (Ls.map trD).take (j + 1) = (Ls.map trD).take j ++ [trD l] := by rw [List.take_add_one, List.getElem?_map, el]; rfl
        have hl := (hLs l lm).grow0 ga
        have ll := lrow l lm
        refine ⟨rfl, yes_if ⟨.ref l.1, rfl, l.1, rfl, ⟨_, .inl (.inl hl.1)⟩, fun A nA => ?_⟩⟩
        refine lc_it (walk_list (xs := l.2.map fun e => V.ref e.1)) (fun k H' => Grow [] Hb H' ∧ ∃ es : List (Addr × List Str), H' A = some (.lst (es.map fun e => V.ref e.1)) ∧ (∀ e ∈ es, H' e.1 = some (.lst (e.2.map V.str))) ∧ (es.map Prod.fst).Nodup ∧ (∀ e ∈ es, Fresh Hb e.1 ∧ e.1 ≠ A) ∧ es.length ≤ k ∧ es.map Prod.snd = (l.2.map Prod.snd).take k)
          ⟨grow_new nA, [], upd_same, (fun m hm => nomatch hm), List.nodup_nil, (fun a ha => nomatch ha), Nat.le_refl _, rfl⟩ (fun k H' _ h => .inl (.inl (h.1.lst (by simp) hl.1))) (fun k x Hc Hd hk hr hy => ?_) (fun H7 hr => ?_)
        · obtain ⟨gc, es, eA, hes, nde, fes, les, ees⟩ := hr
          obtain ⟨rfl, ex⟩ := hy
          rw [List.length_map] at hk
          obtain ⟨e, ee⟩ : ∃ e, l.2[k]? = some e := ⟨_, List.getElem?_eq_getElem hk⟩
          rw [List.getElem?_map, ee] at ex
          cases ex
          have etk : (l.2.map Prod.snd).take (k + 1) = (l.2.map Prod.snd).take k ++ [e.2] := by rw [List.take_add_one, List.getElem?_map, ee]; rfl
          refine ⟨rfl, yes_if ⟨.ref e.1, rfl, e.1, e.2.map V.str, rfl, .inl (.inl (.inl (gc.lst (by simp) (hl.2 e (List.mem_of_getElem? ee))))), fun C nC => ?_⟩⟩
          have gC : Grow [] Hd (upd Hd C (.lst (e.2.map V.str))) := grow_new nC
          have eC : upd Hd C (.lst (e.2.map V.str)) C = some (.lst (e.2.map V.str)) := upd_same
          have fC := gc.fresh0 nC
          have CA : C ≠ A := fun z => by rw [z, eA] at nC; cases nC
          have newC : ∀ y ∈ es, y.1 ≠ C := fun y hy => ne_of_none (hes y hy) nC
          generalize upd Hd C (.lst (e.2.map V.str)) = He at gC eC ⊢
          have eA2 := gC.lst (by simp) eA
          refine ⟨_, eA2, by rw [List.length_map]; unfold sizeLine; omega, (gc.trans gC).put (fresh_none nA) eA2 (fun ps z => by cases z), es ++ [(C, e.2)], by rw [upd_same, List.map_append]; rfl, fun y hy => ?_, ?_, fun y hy => ?_, by rw [List.length_append]; show es.length + 1 ≤ _; omega, by rw [List.map_append, ees, etk]; rfl⟩
          · rcases List.mem_append.mp hy with hy | hy
            · rw [upd_ne (fes y hy).2]; exact gC.lst (by simp) (hes y hy)
            · rw [List.mem_singleton.mp hy]; show upd He A _ C = _; rw [upd_ne CA]; exact eC
          · rw [List.map_append]
            refine List.nodup_append.mpr ⟨nde, by simp, fun a ha b hb z => ?_⟩
            obtain ⟨y, hy, rfl⟩ := List.mem_map.mp ha
            rw [List.map_cons, List.map_nil] at hb
            rw [List.mem_singleton.mp hb] at z
            exact newC y hy z
          · rcases List.mem_append.mp hy with hy | hy
            · exact fes y hy
            · rw [List.mem_singleton.mp hy]; exact ⟨fC, CA⟩
        · obtain ⟨gc, es, eA, hes, nde, fes, les, ees⟩ := hr
          rw [List.length_map] at les
          rw [List.length_map, show l.2.length = (l.2.map Prod.snd).length by rw [List.length_map], List.take_length] at ees
          have eD2 := gc.lst (by simp) eD
          have AD : A ≠ D1 := fun z => by rw [z, eD] at nA; cases nA
          have fA : Fresh Hb A := fresh_none nA
          have old : ∀ {a : Addr}, a ∈ trAdd Ms → ∃ zs : List V, Hb a = some (.lst zs) := fun ha => trAdd_some hM ha
          have e1 : trAdd (Ms ++ [(A, es)]) = trAdd Ms ++ (A :: es.map Prod.fst) := by unfold trAdd; rw [List.flatMap_append, List.flatMap_cons, List.flatMap_nil, List.append_nil]
          have sep : ∀ {a : Addr}, a ∈ A :: es.map Prod.fst → Fresh Hb a := fun ha => by
            rcases List.mem_cons.mp ha with z | ha
            · rw [z]; exact fA
            · obtain ⟨y, hy, rfl⟩ := List.mem_map.mp ha
              exact (fes y hy).1
          refine ⟨_, eD2, by rw [List.length_map]; unfold sizeLine; omega, (ga.trans gc).put (fresh_none n1) eD2 (fun ps z => by cases z), Ms ++ [(A, es)], by rw [upd_same, List.map_append]; rfl, fun m hm => ?_, ?_, fun a ha => ?_, by rw [List.length_append]; show Ms.length + 1 ≤ _; omega, ?_⟩
          · rcases List.mem_append.mp hm with hm | hm
            · have h1 := (hM m hm).grow0 gc
              have m1 : m.1 ∈ trAdd Ms := List.mem_flatMap.mpr ⟨m, hm, List.mem_cons_self⟩
              refine ⟨by rw [upd_ne (fM _ m1).2]; exact h1.1, fun e he => ?_⟩
              have m2 : e.1 ∈ trAdd Ms := List.mem_flatMap.mpr ⟨m, hm, List.mem_cons_of_mem _ (List.mem_map.mpr ⟨e, he, rfl⟩)⟩
              rw [upd_ne (fM _ m2).2]
              exact h1.2 e he
            · rw [List.mem_singleton.mp hm]
              refine ⟨by show upd H7 D1 _ A = _; rw [upd_ne AD]; exact eA, fun e he => ?_⟩
              rw [upd_ne ((fes e he).1.ne eD (fun ps z => by cases z)).symm]
              exact hes e he
          · rw [e1]
            refine List.nodup_append.mpr ⟨nd, List.nodup_cons.mpr ⟨fun z => ?_, nde⟩, fun a ha b hb z => ?_⟩
            · obtain ⟨y, hy, e⟩ := List.mem_map.mp z
              exact (fes y hy).2 e
            · obtain ⟨zs, ez⟩ := old ha
              have fb := sep hb
              rw [← z] at fb
              obtain ⟨ps, y⟩ := fb _ ez
              cases y
          · rw [e1] at ha
            rcases List.mem_append.mp ha with ha | ha
            · exact fM a ha
            · have fb := sep ha
              exact ⟨ga.fresh (by simp) fb, (fb.ne eD (fun ps z => by cases z)).symm⟩
          · rw [List.map_append, eM, ltk]
            congr 1
            show [trD (A, es)] = [trD l]
            unfold trD
            rw [ees]
      · obtain ⟨ga, Ms, eD, hM, nd, fM, lM, eM⟩ := hq
        rw [List.length_map, show Ls.length = (Ls.map trD).length by rw [List.length_map], List.take_length, eLs] at eM
        rw [List.length_map] at lM
        refine ⟨D1, Ms, rfl, .inl (.inl eD), fun t ht => ⟨(hM t ht).dp, Nat.le_trans (depth_tr _) (by decide)⟩, alike_trs trD Ms, sortable_trs trD Ms, by unfold sizeLine; omega, fun Rr nR => ?_⟩
        have pm : (Ms.mergeSort (PySem.W.dataLe false fun b : TrT => encTr (trD b))).Perm Ms := List.mergeSort_perm _ _
        have pl : (trAdd (Ms.mergeSort (PySem.W.dataLe false fun b : TrT => encTr (trD b)))).Perm (trAdd Ms) := pm.flatMap_right _
        have g16 := g15.trans ga
        refine q cr Rr _ (Ms.mergeSort (PySem.W.dataLe false fun b : TrT => encTr (trD b))) (g16.fresh0 nR) (g16.new nR) ⟨upd_same, fun t hm => (hM t (pm.mem_iff.mp hm)).grow0 (grow_new nR), pl.nodup_iff.mpr nd, fun hm => ?_⟩ (fun a hm => ?_) ?_
        · obtain ⟨zs, ez⟩ := trAdd_some hM (pl.mem_iff.mp hm)
          rw [nR] at ez
          cases ez
        · exact g15.fresh (by simp) (fM a (pl.mem_iff.mp hm)).1
        · unfold treeOf sortTr
          rw [← eM]
          exact List.map_mergeSort (f := trD) (r := PySem.W.dataLe false fun b : TrT => encTr (trD b)) (s := PySem.W.dataLe false encTr) fun a _ b _ => rfl
end

end Lw

namespace Lw
open PySem PySem.Spec PyProof.Rows L2 GxR Gx
section
variable {P : Program} {w : World} {K : PySem.W.Frag} {mg : Str → Option Value} {base : Heap}
/-! ### _law_meet, _law_cross -/
def spMeet (K : PySem.W.Frag) : Sp := fun vs H Q _ => ∃ (l m : Addr) (xs ys : List Str), vs = [.ref l, .ref m] ∧ H l = some (.lst (xs.map V.str)) ∧ H m = some (.lst (ys.map V.str)) ∧ NmOk xs ∧ ∀ H', Grow [] H H' → Q (.bl (meet xs ys)) H'
theorem NmOk.filt {xs : List Str} (h : NmOk xs) (p : Str → Bool) : NmOk (xs.filter p) := ⟨List.all_eq_true.mpr fun x hx => List.all_eq_true.mp h.1 x (List.mem_filter.mp hx).1, Nat.le_trans (List.length_filter_le _ _) h.2⟩
theorem ok_law_meet {f c : Addr} {fd : FuncData} (B : Nb mg) (D : DefIs K "_law_meet" "_law_meet" st_law_meet f fd (.ref c)) : FnG P w K mg base CX0 2 f fd ["some", "more"] (spMeet K) := by
  refine D.ok0 (k := 1) sc_law_meet (fun vs H Q E h => ?_) (fun A outer s H vs Q E g hr h => ?_)
  · obtain ⟨l, m, xs, ys, rfl, _⟩ := h
    rfl
  obtain ⟨l, m, xs, ys, rfl, hl, hm, ok, q⟩ := h
  refine ⟨_,
      (pss_one (ps_ret (pe_cmpR (op_neD hr.units) (pe_lc (own := [("name", 2)]) (g := (gName 2)) rfl sc_law_meet.nd (pi_list (pv 0)) (blkOk_by (N := N_law_meet) (sc := defScope st_law_meet) (by decide +kernel)) (fun _ _ _ _ _ => (pg_name (i := 2) sc_law_meet.nd rfl (.inl rfl))) (fun _ _ _ _ _ => pts_to (pts_one (pt_cmpR (op_in_seq) (pv 2) (pv 1) rfl))) (fun _ _ _ _ _ => pe_to (pv 2))) (pe_lst pa_nil) (nomark _)))), ?_⟩
  have lx := ok.2
  refine ⟨.ref l, rfl, l, rfl, ⟨_, .inl (.inl hl)⟩, fun D1 n1 => ?_⟩
  refine lc_filt (walk_list (xs := xs.map V.str)) xs (fun x => decide (x ∈ ys)) V.str n1 (List.length_map _) (by omega) (fun H' g => .inl (.inl (g.lst (by simp) hl))) (fun i z x Ha Hb Pu Pn ez ga hy hu hn => ?_) (fun H2 g2 e2 => ?_)
  · obtain ⟨rfl, ex⟩ := hy
    rw [List.getElem?_map, ez] at ex
    cases ex
    refine ⟨rfl, .str z, rfl, .ref m, rfl, m, ys.map V.str, rfl, .inl (.inl (.inl (ga.lst (by simp) hm))), rfl, flat_strs ys, ?_⟩
    refine ⟨_, rfl, ?_⟩
    show if inV (.str z) (ys.map V.str) = true then _ else _
    rw [in_strs]
    by_cases c : z ∈ ys
    · rw [decide_eq_true c, if_pos rfl]
      exact ⟨.str z, rfl, hu _ (Grow.refl _ _) (decide_eq_true c)⟩
    · rw [decide_eq_false c, if_neg Bool.false_ne_true]
      exact hn _ (Grow.refl _ _) (decide_eq_false c)
  · refine ⟨by show 0 ≤ sizeLine; decide, fun E0 nE => ?_⟩
    have gE : Grow [] H2 (upd H2 E0 (.lst [])) := grow_new nE
    have eE : upd H2 E0 (.lst []) E0 = some (.lst ([] : List V)) := upd_same
    generalize upd H2 E0 (.lst []) = H3 at gE eE ⊢
    refine ⟨_, _, dp_book (.inl (.inl (gE.lst (by simp) e2))), dp_book (xs := []) (.inl (.inl eE)), (fine_ns (ok.filt _)).shaped (by decide), (fine_names (zs := []) rfl (Nat.zero_le _)).shaped (by decide), ?_⟩
    rw [eqv_nil]
    have e : (!decide (xs.filter (fun x => decide (x ∈ ys)) = [])) = meet xs ys := by
      rw [Bool.eq_iff_iff, meet_iff]
      simp [List.filter_eq_nil_iff]
    rw [e]
    exact q H3 (g2.trans gE)
def spLCross (K : PySem.W.Frag) : Sp := fun vs H Q _ => ∃ (t u : PT), vs = [.ref t.1, .ref u.1] ∧ PtAt H t ∧ PtAt H u ∧ NmOk t.2.2.1 ∧ NmOk t.2.2.2 ∧ ∀ H', Grow [] H H' → Q (.bl (crossB t.2.2 u.2.2)) H'
theorem ok_law_cross {f c : Addr} {fd : FuncData} (B : Nb mg) (D : DefIs K "_law_cross" "_law_cross" st_law_cross f fd (.ref c)) (c_law_meet : Callee P w K mg base CX0 2 "_law_meet" ["some", "more"] (spMeet K)) : FnG P w K mg base CX0 3 f fd ["one", "other"] (spLCross K) := by
  refine D.ok0 (k := 2) sc_law_cross (fun vs H Q E h => ?_) (fun A outer s H vs Q E g hr h => ?_)
  · obtain ⟨t, u, rfl, _⟩ := h
    rfl
  obtain ⟨t, u, rfl, ht, hu, n1, n2, q⟩ := h
  refine ⟨_,
      (pss_one (ps_ret (pe_cmpR (op_eqD hr.units) (pe_lc (own := [("some", 2)]) (g := (gName 2)) rfl sc_law_cross.nd (pi_tup (pv 0)) (blkOk_by (N := N_law_cross) (sc := defScope st_law_cross) (by decide +kernel)) (fun _ _ _ _ _ => (pg_name (i := 2) sc_law_cross.nd rfl (.inl rfl))) (fun _ _ _ _ _ => pts_to (pts_one (PW.pt (pw_or (pt_not (pt_val (pe_g c_law_meet g (hr.mono (by decide)) pass0 (pa_cons (pv 2) (pa_cons (pe_ix ix_tup (pv 1) pe_int (fun _ _ => rfl)) pa_nil))))) (pw_or1 (pt_not (pt_val (pe_g c_law_meet g (hr.mono (by decide)) pass0 (pa_cons (pv 2) (pa_cons (pe_ix ix_tup (pv 1) pe_int (fun _ _ => rfl)) pa_nil)))))))))) (fun _ _ _ _ _ => pe_to pe_int)) (pe_lst pa_nil) (nomark _)))), ?_⟩
  refine ⟨.ref t.1, rfl, t.1, rfl, ⟨_, .inl (.inl (sides_tup ht))⟩, fun D1 nD => ?_⟩
  refine lc_filt (walk_tup (xs := (sides t).map fun a => V.ref a.1)) (sides t) (fun a => !meet a.2 u.2.2.1 || !meet a.2 u.2.2.2) (fun _ => V.int 1) nD (List.length_map _) (by show 2 ≤ 1000000; decide) (fun H' g => .inl (.inl (g.tup (by simp) (sides_tup ht)))) (fun i z x Ha Hb Pu Pn ez ga hy ku kn => ?_) (fun H2 g2 e2 => ?_)
  · obtain ⟨rfl, ex⟩ := hy
    rw [List.getElem?_map, ez] at ex
    cases ex
    have zm := List.mem_of_getElem? ez
    have nz : NmOk z.2 := by
      rcases List.mem_cons.mp zm with e | e
      · rw [e]; exact n1
      · rw [List.mem_singleton.mp e]; exact n2
    have hu' := hu.grow0 ga
    refine ⟨rfl, .ref z.1, rfl, .ref u.1, rfl, u.1, _, 0, .ref u.2.1.1, rfl, rfl, .inl (.inl hu'.1), rfl, z.1, u.2.1.1, z.2, u.2.2.1, rfl, ga.lst (by simp) (sides_at ht z zm), hu'.2.1, nz, fun Hc gc => ⟨_, rfl, ?_⟩⟩
    have hu2 := hu'.grow0 gc
    show if (!meet z.2 u.2.2.1) = true then _ else _
    cases c1 : meet z.2 u.2.2.1 with
    | false =>
      rw [if_pos (show (!false) = true from rfl)]
      show if true = true then _ else _
      rw [if_pos rfl]
      exact ku _ gc (by rw [c1]; rfl)
    | true =>
      rw [if_neg (fun y => Bool.noConfusion y)]
      refine ⟨.ref z.1, rfl, .ref u.1, rfl, u.1, _, 1, .ref u.2.1.2, rfl, rfl, .inl (.inl hu2.1), rfl, z.1, u.2.1.2, z.2, u.2.2.2, rfl, (ga.trans gc).lst (by simp) (sides_at ht z zm), hu2.2.2, nz, fun Hd gd => ⟨_, rfl, ?_⟩⟩
      show if (!meet z.2 u.2.2.2) = true then _ else _
      cases c2 : meet z.2 u.2.2.2 with
      | false =>
        rw [if_pos (show (!false) = true from rfl)]
        exact ku _ (gc.trans gd) (by rw [c1, c2]; rfl)
      | true =>
        rw [if_neg (fun y => Bool.noConfusion y)]
        exact kn _ (gc.trans gd) (by rw [c1, c2]; rfl)
  · refine ⟨by show 0 ≤ sizeLine; decide, fun E0 nE => ?_⟩
    have gE : Grow [] H2 (upd H2 E0 (.lst [])) := grow_new nE
    have eE : upd H2 E0 (.lst []) E0 = some (.lst ([] : List V)) := upd_same
    generalize upd H2 E0 (.lst []) = H3 at gE eE ⊢
    have lf : ((sides t).filter fun a => !meet a.2 u.2.2.1 || !meet a.2 u.2.2.2).length ≤ 2 := List.length_filter_le _ (sides t)
    have em : ∀ l : List (Addr × List Str), (l.map fun _ => V.int 1) = (l.map fun _ => (1 : Int)).map V.int := fun l => by rw [List.map_map]; rfl
    have f1 := fine_ints (ns := ((sides t).filter fun a => !meet a.2 u.2.2.1 || !meet a.2 u.2.2.2).map fun _ => (1 : Int)) (k := 2) (fun i hi => by obtain ⟨_, _, rfl⟩ := List.mem_map.mp hi; decide) (by rw [List.length_map]; exact lf)
    rw [em] at e2
    refine ⟨_, _, .lst (.inl (.inl (gE.lst (by simp) e2))) (dp_ints _), dp_book (xs := []) (.inl (.inl eE)), f1.shaped (by decide), (fine_names (zs := []) rfl (Nat.zero_le _)).shaped (by decide), ?_⟩
    have e : PyData.eqv (.list ((((sides t).filter fun a => !meet a.2 u.2.2.1 || !meet a.2 u.2.2.2).map fun _ => (1 : Int)).map PyData.int)) (.list (([] : List Str).map PyData.str)) = crossB t.2.2 u.2.2 := by
      have e0 : (sides t).filter (fun a => !meet a.2 u.2.2.1 || !meet a.2 u.2.2.2) = (if (!meet t.2.2.1 u.2.2.1 || !meet t.2.2.1 u.2.2.2) = true then [(t.2.1.1, t.2.2.1)] else []) ++ (if (!meet t.2.2.2 u.2.2.1 || !meet t.2.2.2 u.2.2.2) = true then [(t.2.1.2, t.2.2.2)] else []) := by
        unfold sides
        rw [List.filter_cons, List.filter_cons, List.filter_nil]
        by_cases c1 : (!meet t.2.2.1 u.2.2.1 || !meet t.2.2.1 u.2.2.2) = true
        · rw [if_pos c1, if_pos c1]; rfl
        · rw [if_neg c1, if_neg c1]; rfl
      rw [e0]
      unfold crossB
      cases meet t.2.2.1 u.2.2.1 <;> cases meet t.2.2.1 u.2.2.2 <;> cases meet t.2.2.2 u.2.2.1 <;> cases meet t.2.2.2 u.2.2.2 <;> rfl
    rw [e]
    exact q H3 (g2.trans gE)
end

end Lw

namespace Lw
open PySem PySem.Spec PyProof.Rows L2 GxR Gx
section
variable {P : Program} {w : World} {K : PySem.W.Frag} {mg : Str → Option Value} {base : Heap}
/-! ### _law_crosses -/
def spCrosses (K : PySem.W.Frag) : Sp := fun vs H Q _ => ∃ (D : Addr) (ts : List PT), vs = [.ref D] ∧ H D = some (.lst (ts.map fun t => V.ref t.1)) ∧ (∀ t ∈ ts, PtAt H t) ∧ (∀ t ∈ ts, NmOk t.2.2.1 ∧ NmOk t.2.2.2) ∧ ts.length ≤ 400 ∧ ∀ H', Grow [] H H' → Q (.bl (crs (ts.map fun t => t.2.2))) H'
theorem ok_law_crosses {f c : Addr} {fd : FuncData} (B : Nb mg) (D : DefIs K "_law_crosses" "_law_crosses" st_law_crosses f fd (.ref c)) (c_law_cross : Callee P w K mg base CX0 3 "_law_cross" ["one", "other"] (spLCross K)) : FnG P w K mg base CX0 4 f fd ["parted"] (spCrosses K) := by
  refine D.ok0 (k := 3) sc_law_crosses (fun vs H Q E h => ?_) (fun A outer s H vs Q E g hr h => ?_)
  · obtain ⟨d, ts, rfl, _⟩ := h
    rfl
  obtain ⟨d, ts, rfl, hd, ht, nm, lt, q⟩ := h
  refine ⟨_,
      (pss_cons (ps_for PassesOwn.never rfl (pi_enum rfl B.n_enumerate (pa_cons (pv 0) pa_nil)) (pg_tup rfl (pgs_cons (pg_name (i := 1) sc_law_crosses.nd rfl (.inl rfl)) (pgs_cons (pg_name (i := 2) sc_law_crosses.nd rfl (.inr rfl)) pgs_nil))) (
        (pss_one (ps_if (pt_cmpR (op_neD hr.units) (pe_lc (own := [("other", 3)]) (g := (gName 3)) rfl sc_law_crosses.nd (pi_list (pe_slice sl_list (pv 0) po_none (po_some (pv 1)))) (blkOk_by (N := N_law_crosses) (sc := defScope st_law_crosses) (by decide +kernel)) (fun _ _ _ _ _ => (pg_name (i := 3) sc_law_crosses.nd rfl (.inl rfl))) (fun _ _ _ _ _ => pts_to (pts_one (pt_val (pe_g c_law_cross g (hr.mono (by decide)) pass0 (pa_cons (pv 2) (pa_cons (pv 3) pa_nil)))))) (fun _ _ _ _ _ => pe_to (pv 3))) (pe_lst pa_nil) (nomark _)) (
          (pss_one (ps_ret pe_bl))) pss_nil))))
      (pss_one (ps_ret pe_bl))), ?_⟩
  refine ⟨.ref d, rfl, d, _, rfl, .inl (.inl hd), ?_⟩
  have hS : ∀ {H' : Hp}, Grow [] H H' → SqL K H' d (ts.map fun t => V.ref t.1) := fun g => .inl (.inl (g.lst (by simp) hd))
  refine for_it (walk_enum (xs := ts.map fun t => V.ref t.1)) (fun i σ H' => ∃ (o1 o2 : Option V), σ = [some (.ref d), o1, o2, none] ∧ Grow [] H H' ∧ ((ts.map fun t => t.2.2).take i).Pairwise fun p q => crossB p q = false) ⟨none, none, rfl, Grow.refl _ _, .nil⟩ (fun i σ H' _ h => by
    obtain ⟨_, _, _, g', _⟩ := h
    exact hS g') (fun i x σ Ha Hb hi hp hy => ?_) (fun σ H' hp => ?_)
  · obtain ⟨o1, o2, rfl, ga, pw⟩ := hp
    obtain ⟨Tn, x1, x2, rfl, nT, rfl, e1, e2⟩ := hy
    dsimp only at e1 e2
    cases e1
    rw [List.length_map] at hi
    obtain ⟨t, et⟩ : ∃ t, ts[i]? = some t := ⟨_, List.getElem?_eq_getElem hi⟩
    rw [List.getElem?_map, et] at e2
    cases e2
    have tm := List.mem_of_getElem? et
    have gb := ga.new (o := .tup [V.int (i : Nat), V.ref t.1]) nT
    refine ⟨Tn, _, rfl, .inl (.inl upd_same), rfl, _, _, rfl, _, _, rfl, rfl, ?_⟩
    generalize upd Ha Tn (.tup [V.int (i : Nat), V.ref t.1]) = Hc at gb ⊢
    refine ⟨.ref d, rfl, .int (i : Nat), rfl, (i : Nat), rfl, d, _, rfl, hS gb, fun L nL => ?_⟩
    rw [show cutV (ts.map fun t => V.ref t.1) none (some ((i : Nat) : Int)) = (ts.take i).map fun t => V.ref t.1 by rw [cut_hi, List.map_take]]
    have gc := gb.new (o := .lst ((ts.take i).map fun t => V.ref t.1)) nL
    have eL : upd Hc L (.lst ((ts.take i).map fun t => V.ref t.1)) L = some (.lst ((ts.take i).map fun t => V.ref t.1)) := upd_same
    generalize upd Hc L (.lst ((ts.take i).map fun t => V.ref t.1)) = Hd at gc eL ⊢
    refine ⟨L, rfl, ⟨_, .inl (.inl eL)⟩, fun D1 nD => ?_⟩
    have sub : ∀ u ∈ ts.take i, u ∈ ts := fun u hu => List.mem_of_mem_take hu
    refine lc_filt (walk_list (xs := (ts.take i).map fun t => V.ref t.1)) (ts.take i) (fun u => crossB t.2.2 u.2.2) (fun u => V.ref u.1) nD (List.length_map _) (by rw [List.length_take]; omega) (fun H' g => .inl (.inl (g.lst (by simp) eL))) (fun j z x He Hf Pu Pn ez ge hy hu hn => ?_) (fun H2 g2 e2 => ?_)
    · obtain ⟨rfl, ex⟩ := hy
      rw [List.getElem?_map, ez] at ex
      cases ex
      have g3 := gc.trans ge
      have zm := sub z (List.mem_of_getElem? ez)
      refine ⟨rfl, .ref t.1, rfl, .ref z.1, rfl, t, z, rfl, (ht t tm).grow0 g3, (ht z zm).grow0 g3, (nm t tm).1, (nm t tm).2, fun Hg gg => ⟨_, rfl, ?_⟩⟩
      cases c1 : crossB t.2.2 z.2.2 with
      | true =>
        rw [if_pos rfl]
        exact ⟨.ref z.1, rfl, hu _ gg c1⟩
      | false =>
        rw [if_neg Bool.false_ne_true]
        exact hn _ gg c1
    · refine ⟨by show 0 ≤ sizeLine; decide, fun E0 nE => ?_⟩
      have gE : Grow [] H2 (upd H2 E0 (.lst [])) := grow_new nE
      have eE : upd H2 E0 (.lst []) E0 = some (.lst ([] : List V)) := upd_same
      generalize upd H2 E0 (.lst []) = H3 at gE eE ⊢
      have g3 := (gc.trans g2).trans gE
      have subF : ∀ u ∈ (ts.take i).filter (fun u => crossB t.2.2 u.2.2), u ∈ ts := fun u hu => sub u (List.mem_filter.mp hu).1
      have okp : ∀ u ∈ ts, PtOk u.2.2 := fun u hu => ⟨(nm u hu).1.1, Nat.le_trans (nm u hu).1.2 (by decide), (nm u hu).2.1, Nat.le_trans (nm u hu).2.2 (by decide)⟩
      have fp := fine_pts (ps := ((ts.take i).filter (fun u => crossB t.2.2 u.2.2)).map fun t => t.2.2) (fun p hp => by obtain ⟨u, hu, rfl⟩ := List.mem_map.mp hp; exact okp u (subF u hu)) (by
        rw [List.length_map]
        have := List.length_filter_le (fun u : PT => crossB t.2.2 u.2.2) (ts.take i)
        rw [List.length_take] at this
        omega)
      refine ⟨_, _, .lst (.inl (.inl (gE.lst (by simp) e2))) (pts_dp fun u hu => (ht u (subF u hu)).grow0 g3), dp_book (xs := []) (.inl (.inl eE)), fp.shaped (by decide), (fine_names (zs := []) rfl (Nat.zero_le _)).shaped (by decide), ?_⟩
      have e : PyData.eqv (.list ((((ts.take i).filter (fun u => crossB t.2.2 u.2.2)).map fun t => t.2.2).map encPt)) (.list (([] : List Str).map PyData.str)) = decide ((ts.take i).filter (fun u => crossB t.2.2 u.2.2) = []) := by
        cases (ts.take i).filter (fun u => crossB t.2.2 u.2.2) with
        | nil => rfl
        | cons x r => simp [PyData.eqv, PyData.eqvAll]
      rw [e]
      refine ⟨_, rfl, ?_⟩
      by_cases c0 : (ts.take i).filter (fun u => crossB t.2.2 u.2.2) = []
      · rw [decide_eq_true c0]
        refine iteF ⟨_, _, rfl, g3, ?_⟩
        rw [List.take_add_one, List.getElem?_map, et]
        refine List.pairwise_append.mpr ⟨pw, List.pairwise_singleton _ _, fun a ha b hb => ?_⟩
        rw [show b = t.2.2 by simpa using hb]
        rw [← List.map_take] at ha
        obtain ⟨u, hu, rfl⟩ := List.mem_map.mp ha
        rw [cross_comm]
        exact Bool.eq_false_iff.mpr fun y => by
          have := List.mem_filter (p := fun u : PT => crossB t.2.2 u.2.2).mpr ⟨hu, y⟩
          rw [c0] at this
          cases this
      · rw [decide_eq_false c0]
        refine iteT ?_
        obtain ⟨u, hu⟩ := List.exists_mem_of_ne_nil _ c0
        obtain ⟨hu1, hu2⟩ := List.mem_filter.mp hu
        have cr : crs (ts.map fun t => t.2.2) = true := by
          refine (Bool.not_eq_false _).mp fun y => ?_
          have pw2 := (crs_iff _).mp y
          have pw3 : ((ts.map fun t => t.2.2).take (i + 1)).Pairwise fun p q => crossB p q = false := pw2.sublist (List.take_sublist _ _)
          rw [List.take_add_one, List.getElem?_map, et] at pw3
          have := (List.pairwise_append.mp pw3).2.2 u.2.2 (by rw [← List.map_take]; exact List.mem_map.mpr ⟨u, hu1, rfl⟩) t.2.2 (by simp)
          rw [cross_comm, hu2] at this
          cases this
        rw [← cr]
        exact q _ g3
  · obtain ⟨o1, o2, rfl, ga, pw⟩ := hp
    rw [List.length_map, show ts.length = (ts.map fun t => t.2.2).length by rw [List.length_map], List.take_length] at pw
    have := q H' ga
    rw [(crs_iff _).mpr pw] at this
    exact this
end

end Lw

namespace Lw
open PySem PySem.Spec PyProof.Rows L2 GxR Gx
section
variable {P : Program} {w : World} {K : PySem.W.Frag} {mg : Str → Option Value} {base : Heap}
/-! ### _law_places -/
theorem shaped_tr {s : List (List Str)} (h : ∀ c ∈ s, NmOk c) : SeqAt.shaped (encTr s) = true :=
  (Fine.list (n := 1) (m := 108) (k := (s.map encN).length * 109) (fun d hd => by
    obtain ⟨c, hc, rfl⟩ := List.mem_map.mp hd
    exact fine_ns (h c hc)) (Nat.le_refl _)).shaped (by decide)
theorem eqv_nils (l : List PyData) : PyData.eqv (.list l) (.list (([] : List Str).map PyData.str)) = decide (l = []) := by
  cases l with
  | nil => rfl
  | cons x r => simp [PyData.eqv, PyData.eqvAll]
def spLPlaces (K : PySem.W.Frag) : Sp := fun vs H Q _ => ∃ (D : Addr) (ts : List PT), vs = [.ref D] ∧ H D = some (.lst (ts.map fun t => V.ref t.1)) ∧ (∀ t ∈ ts, PtAt H t) ∧ (∀ t ∈ ts, NmOk t.2.2.1 ∧ NmOk t.2.2.2) ∧ ts.length ≤ 400 ∧
  (∀ i, (placesOf ((ts.map fun t => t.2.2).take i)).length ≤ 1000) ∧ ∀ R H' (Ls : List TrT), Fresh H R → Grow [] H H' → H' R = some (.lst (Ls.map fun t => V.ref t.1)) → (∀ t ∈ Ls, TrAt H' t) → Ls.map trD = sortTr (placesOf (ts.map fun t => t.2.2)) → Q (.ref R) H'
theorem ok_law_places {f c : Addr} {fd : FuncData} (B : Nb mg) (D : DefIs K "_law_places" "_law_places" st_law_places f fd (.ref c)) (c_law_meet : Callee P w K mg base CX0 2 "_law_meet" ["some", "more"] (spMeet K)) : FnG P w K mg base CX0 3 f fd ["parted"] (spLPlaces K) := by
  refine D.ok0 (k := 2) sc_law_places (fun vs H Q E h => ?_) (fun A outer s H vs Q E g hr h => ?_)
  · obtain ⟨d, ts, rfl, _⟩ := h
    rfl
  obtain ⟨d, ts, rfl, hd, ht, nm, lt, few, q⟩ := h
  refine ⟨_,
      (pss_cons (ps_set (i := 1) sc_law_places.nd rfl (.inl rfl) (pe_lst (pa_cons (pe_lst pa_nil) pa_nil)))
      (pss_cons (ps_for PassesOwn.never rfl (pi_list (pv 0)) (pg_name (i := 2) sc_law_places.nd rfl (.inl rfl)) (
        (pss_cons (ps_set (i := 3) sc_law_places.nd rfl (.inl rfl) (pe_lst pa_nil))
        (pss_cons (ps_for PassesOwn.never rfl (pi_list (pv 1)) (pg_name (i := 4) sc_law_places.nd rfl (.inr rfl)) (
          (pss_cons (ps_setLc (i := 5) (own := [("one", 6)]) (g := (gName 6)) rfl sc_law_places.nd rfl rfl (sw_true rfl rfl rfl (by decide +kernel)) (pi_tup (pv 2)) (blkOk_by (N := N_law_places) (sc := defScope st_law_places) (by decide +kernel)) (fun _ _ _ _ _ => (pg_name (i := 6) sc_law_places.nd rfl (.inr rfl))) (fun _ _ _ _ _ => pts_to (pts_one (pt_cmpR (op_eqD hr.units) (pe_lc (own := [("more", 7)]) (g := (gName 7)) rfl sc_law_places.nd (pi_list (pv 4)) (blkOk_by (N := N_law_places) (sc := { kind := ScopeKind.function, names := [(".0", NameKind.local), ("one", NameKind.cell), ("some", NameKind.cell)], isGenerator := false, isCoroutine := false }) (by decide +kernel)) (fun _ _ _ _ _ => (pg_name (i := 7) sc_law_places.nd rfl (.inl rfl))) (fun _ _ _ _ _ => pts_to (pts_one (pt_not (pt_val (pe_g c_law_meet g (hr.mono (by decide)) pass0 (pa_cons (pv 7) (pa_cons (pv 6) pa_nil))))))) (fun _ _ _ _ _ => pe_to (pv 7))) (pe_lst pa_nil) (nomark _)))) (fun _ _ _ _ _ => pe_to (pv 6)))
          (pss_one (ps_expr (pe_bm PySem.F.plainAttrs_list PySem.F.slot_list_extend PySem.F.type_list_extend mt_extend (pv 3) (pa_cons (pe_lc (own := [("one", 6)]) (tt := tYes) (g := (gName 6)) rfl sc_law_places.nd (pi_list (pv 5)) (blkOk_by (N := N_law_places) (sc := defScope st_law_places) (by decide +kernel)) (fun _ _ _ _ _ => (pg_name (i := 6) sc_law_places.nd rfl (.inl rfl))) (fun _ _ _ _ _ => pts_nil) (fun _ _ _ _ _ => pe_to (pe_op op_cat (pv 4) (pe_lst (pa_cons (pv 6) pa_nil))))) pa_nil)))))))
        (pss_one (ps_set (i := 1) sc_law_places.nd rfl (.inl rfl) (pv 3)))))))
      (pss_one (ps_ret (pe_callB (cr_sortG (val := fun b : TrT => V.ref b.1) (enc := fun b : TrT => encTr (trD b)) hr.units) rfl B.n_sorted (by decide +kernel) (pa_cons (pv 1) pa_nil)))))), ?_⟩
  refine ⟨by show 0 ≤ sizeLine; decide, fun E0 nE => ⟨by show 1 ≤ sizeLine; decide, fun R0 nR => ?_⟩⟩
  have g0 : Grow [] H (upd (upd H E0 (.lst [])) R0 (.lst [.ref E0])) := (grow_new nE).new nR
  have eR : upd (upd H E0 (.lst [])) R0 (.lst [.ref E0]) R0 = some (.lst [V.ref E0]) := upd_same
  have eE : upd (upd H E0 (.lst [])) R0 (.lst [.ref E0]) E0 = some (.lst ([] : List V)) := by rw [upd_ne (ne_of_none upd_same nR)]; exact upd_same
  generalize upd (upd H E0 (.lst [])) R0 (.lst [.ref E0]) = H1 at g0 eR eE ⊢
  refine ⟨.ref d, rfl, d, rfl, ⟨_, .inl (.inl (g0.lst (by simp) hd))⟩, ?_⟩
  refine for_it (walk_list (xs := ts.map fun t => V.ref t.1)) (fun i σ H' => ∃ (o2 o3 o4 o5 : Option V) (R : Addr) (Ls : List TrT), σ = [some (.ref d), some (.ref R), o2, o3, o4, o5, none, none] ∧ Grow [] H H' ∧ H' R = some (.lst (Ls.map fun t => V.ref t.1)) ∧ (∀ t ∈ Ls, TrAt H' t) ∧ (∀ t ∈ Ls, ∀ e ∈ t.2, NmOk e.2) ∧ Ls.map trD = placesOf ((ts.map fun t => t.2.2).take i))
    ⟨none, none, none, none, R0, [(E0, [])], rfl, g0, eR, fun t hm => by rw [List.mem_singleton.mp hm]; exact ⟨eE, fun e he => nomatch he⟩, (fun t hm e he => by rw [List.mem_singleton.mp hm] at he; cases he), rfl⟩ (fun i σ H' _ h => by
      obtain ⟨_, _, _, _, _, _, _, g', _⟩ := h
      exact .inl (.inl (g'.lst (by simp) hd))) (fun i x σ Ha Hb hi hp hy => ?_) (fun σ H' hp => ?_)
  · obtain ⟨o2, o3, o4, o5, R, Ls, rfl, ga, eL, hL, nL, em⟩ := hp
    obtain ⟨rfl, ex⟩ := hy
    rw [List.length_map] at hi
    obtain ⟨t, et⟩ : ∃ t, ts[i]? = some t := ⟨_, List.getElem?_eq_getElem hi⟩
    rw [List.getElem?_map, et] at ex
    cases ex
    have tm := List.mem_of_getElem? et
    have htm := (ht t tm).grow0 ga
    have nmt : ∀ a ∈ sides t, NmOk a.2 := fun a ha => by
      rcases List.mem_cons.mp ha with e | ha
      · rw [e]; exact (nm t tm).1
      · rw [List.mem_singleton.mp ha]; exact (nm t tm).2
    have stk : (ts.map fun t => t.2.2).take (i + 1) = (ts.map fun t => t.2.2).take i ++ [t.2.2] := by rw [List.take_add_one, List.getElem?_map, et]; rfl
    have few1 := few (i + 1)
    rw [stk, places_snoc, ← em] at few1
    refine ⟨by show 0 ≤ sizeLine; decide, fun Lg nLg => ?_⟩
    have gLg : Grow [] Hb (upd Hb Lg (.lst [])) := grow_new nLg
    have eLg : upd Hb Lg (.lst []) Lg = some (.lst ([] : List V)) := upd_same
    generalize upd Hb Lg (.lst []) = Hc at gLg eLg ⊢
    refine ⟨.ref R, rfl, R, rfl, ⟨_, .inl (.inl (gLg.lst (by simp) eL))⟩, ?_⟩
    refine for_it (walk_list (xs := Ls.map fun t => V.ref t.1)) (fun j σ H' => ∃ (o4 o5 : Option V) (Ms : List TrT), σ = [some (.ref d), some (.ref R), some (.ref t.1), some (.ref Lg), o4, o5, none, none] ∧ Grow [] Hb H' ∧ H' Lg = some (.lst (Ms.map fun t => V.ref t.1)) ∧ (∀ m ∈ Ms, m.1 ≠ Lg ∧ H' m.1 = some (.lst (m.2.map fun e => V.ref e.1)) ∧ ∀ e ∈ m.2, Hb e.1 = some (.lst (e.2.map V.str)) ∧ NmOk e.2) ∧ Ms.map trD = ((Ls.map trD).take j).flatMap (ext t.2.2))
      ⟨_, _, [], rfl, gLg, eLg, (fun m hm => nomatch hm), rfl⟩ (fun j σ H' _ h => by
        obtain ⟨_, _, _, _, g', _⟩ := h
        exact .inl (.inl (g'.lst (by simp) eL))) (fun j x σ Hd He hj hp hy => ?_) (fun σ H2 hp => ?_)
    · obtain ⟨o4, o5, Ms, rfl, gd, eD, hM, eM⟩ := hp
      obtain ⟨rfl, ex⟩ := hy
      rw [List.length_map] at hj
      obtain ⟨l, el⟩ : ∃ l, Ls[j]? = some l := ⟨_, List.getElem?_eq_getElem hj⟩
      rw [List.getElem?_map, el] at ex
      cases ex
      have lm := List.mem_of_getElem? el
      have ltk : (Ls.map trD).take (j + 1) = (Ls.map trD).take j ++ [trD l] := by rw [List.take_add_one, List.getElem?_map, el]; rfl
      have fewj : ((Ls.map trD).take j).flatMap (ext t.2.2) ++ ext t.2.2 (trD l) = ((Ls.map trD).take (j + 1)).flatMap (ext t.2.2) := by rw [ltk, List.flatMap_append, List.flatMap_cons, List.flatMap_nil, List.append_nil]
      have few2 : (((Ls.map trD).take (j + 1)).flatMap (ext t.2.2)).length ≤ 1000 := by
        refine Nat.le_trans ?_ few1
        have e : (Ls.map trD).flatMap (ext t.2.2) = ((Ls.map trD).take (j + 1)).flatMap (ext t.2.2) ++ ((Ls.map trD).drop (j + 1)).flatMap (ext t.2.2) := by rw [← List.flatMap_append, List.take_append_drop]
        rw [e, List.length_append]
        omega
      rw [← fewj, List.length_append] at few2
      have hlb := hL l lm
      have nml := nL l lm
      have ll : l.2.length ≤ 400 := by
        have h1 : (trD l).length = ((ts.map fun t => t.2.2).take i).length := pl_len _ _ (by rw [← em]; exact List.mem_map.mpr ⟨l, lm, rfl⟩)
        unfold trD at h1
        rw [List.length_map, List.length_take, List.length_map] at h1
        omega
      have hte := htm.grow0 gd
      have hle := hlb.grow0 gd
      -- the sides that fit
      refine ⟨.ref t.1, rfl, t.1, rfl, ⟨_, .inl (.inl (sides_tup hte))⟩, fun D1 nD => ?_⟩
      refine lc_filt (walk_tup (xs := (sides t).map fun a => V.ref a.1)) (sides t) (fun a => fitsB (trD l) a.2) (fun a => V.ref a.1) nD (List.length_map _) (by show 2 ≤ 1000000; decide) (fun H' g => .inl (.inl (g.tup (by simp) (sides_tup hte)))) (fun k a x Hf Hg Pu Pn ea gf hy ku kn => ?_) (fun Hf gf eF => ?_)
      · obtain ⟨rfl, ex⟩ := hy
        rw [List.getElem?_map, ea] at ex
        cases ex
        have am := List.mem_of_getElem? ea
        refine ⟨rfl, .ref l.1, rfl, l.1, rfl, ⟨_, .inl (.inl (gf.lst (by simp) hle.1))⟩, fun D2 nD2 => ?_⟩
        refine lc_filt (walk_list (xs := l.2.map fun e => V.ref e.1)) l.2 (fun e => !meet e.2 a.2) (fun e => V.ref e.1) nD2 (List.length_map _) (by omega) (fun H' g => .inl (.inl (g.lst (by simp) (gf.lst (by simp) hle.1)))) (fun k2 e x Hh Hi Pu2 Pn2 ee gh hy ku2 kn2 => ?_) (fun Hh gh eH => ?_)
        · obtain ⟨rfl, ex⟩ := hy
          rw [List.getElem?_map, ee] at ex
          cases ex
          have em' := List.mem_of_getElem? ee
          have g3 := gf.trans gh
          refine ⟨rfl, .ref e.1, rfl, .ref a.1, rfl, e.1, a.1, e.2, a.2, rfl, g3.lst (by simp) (hle.2 e em'), g3.lst (by simp) (sides_at hte a am), nml e em', fun Hj gj => ⟨_, rfl, ?_⟩⟩
          show if (!meet e.2 a.2) = true then _ else _
          cases c1 : meet e.2 a.2 with
          | false =>
            rw [if_pos (show (!false) = true from rfl)]
            exact ⟨.ref e.1, rfl, ku2 _ gj (by rw [c1]; rfl)⟩
          | true =>
            rw [if_neg (fun y => Bool.noConfusion y)]
            exact kn2 _ gj (by rw [c1]; rfl)
        · refine ⟨by show 0 ≤ sizeLine; decide, fun E1 nE1 => ?_⟩
          have gE : Grow [] Hh (upd Hh E1 (.lst [])) := grow_new nE1
          have eE1 : upd Hh E1 (.lst []) E1 = some (.lst ([] : List V)) := upd_same
          generalize upd Hh E1 (.lst []) = Hk at gE eE1 ⊢
          have g3 := (gf.trans gh).trans gE
          have d1 : DpAll K Hk ((l.2.filter fun e => !meet e.2 a.2).map fun e => V.ref e.1) (((l.2.filter fun e => !meet e.2 a.2).map Prod.snd).map encN) := ns_dp fun e he => g3.lst (by simp) (hle.2 e (List.mem_filter.mp he).1)
          refine ⟨_, _, .lst (.inl (.inl (gE.lst (by simp) eH))) d1, dp_book (xs := []) (.inl (.inl eE1)), shaped_tr (fun c hc => ?_), (fine_names (zs := []) rfl (Nat.zero_le _)).shaped (by decide), ?_⟩
          · obtain ⟨e, he, rfl⟩ := List.mem_map.mp hc
            exact nml e (List.mem_filter.mp he).1
          · rw [eqv_nils]
            have e : decide ((((l.2.filter fun e => !meet e.2 a.2).map Prod.snd).map encN) = []) = fitsB (trD l) a.2 := by
              rw [Bool.eq_iff_iff, decide_eq_true_iff, List.map_eq_nil_iff, List.map_eq_nil_iff, List.filter_eq_nil_iff]
              unfold fitsB trD
              rw [List.all_map, List.all_eq_true]
              refine forall_congr' fun e => forall_congr' fun _ => ?_
              show _ ↔ meet a.2 e.2 = true
              rw [meet_comm]
              cases meet e.2 a.2 <;> simp
            rw [e]
            refine ⟨_, rfl, ?_⟩
            cases c1 : fitsB (trD l) a.2 with
            | true =>
              rw [if_pos rfl]
              exact ⟨.ref a.1, rfl, ku _ ((gh.trans gE)) c1⟩
            | false =>
              rw [if_neg Bool.false_ne_true]
              exact kn _ ((gh.trans gE)) c1
      · have eLg2 := gf.lst (by simp) eD
        have g2 := gd.trans gf
        have hM2 : ∀ m ∈ Ms, m.1 ≠ Lg ∧ Hf m.1 = some (.lst (m.2.map fun e => V.ref e.1)) ∧ ∀ e ∈ m.2, Hb e.1 = some (.lst (e.2.map V.str)) ∧ NmOk e.2 := fun m hm => by
          obtain ⟨h1, h2, h3⟩ := hM m hm
          exact ⟨h1, gf.lst (by simp) h2, h3⟩
        refine ⟨.ref Lg, rfl, tyl eLg2, .ref D1, rfl, D1, rfl, ⟨_, .inl (.inl eF)⟩, fun D2 nD2 => ?_⟩
        obtain ⟨as, eas⟩ : ∃ as, (sides t).filter (fun a => fitsB (trD l) a.2) = as := ⟨_, rfl⟩
        have has : ∀ a ∈ as, a ∈ sides t := fun a ha => by rw [← eas] at ha; exact (List.mem_filter.mp ha).1
        have las : as.length ≤ 2 := by rw [← eas]; exact List.length_filter_le _ (sides t)
        rw [eas] at eF
        dsimp only [tNil]
        have hlf := hle.grow0 gf
        refine lc_it (walk_list (xs := as.map fun a => V.ref a.1)) (fun k H' => Grow [] Hf H' ∧ ∃ Ns : List TrT, H' D2 = some (.lst (Ns.map fun t => V.ref t.1)) ∧ (∀ m ∈ Ns, m.1 ≠ D2 ∧ m.1 ≠ Lg ∧ H' m.1 = some (.lst (m.2.map fun e => V.ref e.1)) ∧ ∀ e ∈ m.2, Hb e.1 = some (.lst (e.2.map V.str)) ∧ NmOk e.2) ∧ Ns.length ≤ k ∧ Ns.map trD = ((as.take k).map fun a => trD l ++ [a.2]))
          ⟨grow_new nD2, [], upd_same, (fun m hm => nomatch hm), Nat.le_refl _, rfl⟩ (fun k H' _ h => .inl (.inl (h.1.lst (by simp) eF))) (fun k x Hg Hh hk hr hy => ?_) (fun Hg hr => ?_)
        · obtain ⟨gg, Ns, eN, hN, lN, eNs⟩ := hr
          obtain ⟨rfl, ex⟩ := hy
          rw [List.length_map] at hk
          obtain ⟨a, ea⟩ : ∃ a, as[k]? = some a := ⟨_, List.getElem?_eq_getElem hk⟩
          rw [List.getElem?_map, ea] at ex
          cases ex
          have am := has a (List.mem_of_getElem? ea)
          have atk : as.take (k + 1) = as.take k ++ [a] := by rw [List.take_add_one, ea]; rfl
          have hab := sides_at htm a am
          refine ⟨rfl, yes_if ⟨.ref l.1, rfl, .ref a.1, rfl, by show 1 ≤ sizeLine; decide, fun O nO => ?_⟩⟩
          have gO : Grow [] Hh (upd Hh O (.lst [V.ref a.1])) := grow_new nO
          have eO : upd Hh O (.lst [V.ref a.1]) O = some (.lst [V.ref a.1]) := upd_same
          generalize upd Hh O (.lst [V.ref a.1]) = Hi at gO eO ⊢
          have el3 := gO.lst (by simp) (gg.lst (by simp) hlf.1)
          refine ⟨l.1, O, _, [V.ref a.1], rfl, rfl, el3, eO, by rw [List.length_map]; show l.2.length + 1 ≤ sizeLine; unfold sizeLine; omega, fun N nN => ?_⟩
          have gN := gO.new (o := .lst ((l.2.map fun e => V.ref e.1) ++ [V.ref a.1])) nN
          have eN4 : upd Hi N (.lst ((l.2.map fun e => V.ref e.1) ++ [V.ref a.1])) N = some (.lst ((l.2 ++ [a]).map fun e => V.ref e.1)) := by rw [upd_same, List.map_append]; rfl
          have ND : N ≠ D2 := fun z => by rw [z, gO.lst (by simp) eN] at nN; cases nN
          have NL : N ≠ Lg := fun z => by rw [z, gO.lst (by simp) (gg.lst (by simp) eLg2)] at nN; cases nN
          generalize upd Hi N (.lst ((l.2.map fun e => V.ref e.1) ++ [V.ref a.1])) = Hj at gN eN4 ⊢
          have eD4 := gN.lst (by simp) eN
          refine ⟨_, eD4, by rw [List.length_map]; unfold sizeLine; omega, (gg.trans gN).put (fresh_none nD2) eD4 (fun ps z => by cases z), Ns ++ [(N, l.2 ++ [a])], by rw [upd_same, List.map_append (l₂ := [(N, l.2 ++ [a])])]; rfl, fun m hm => ?_, by rw [List.length_append]; show Ns.length + 1 ≤ _; omega, ?_⟩
          · rcases List.mem_append.mp hm with hm | hm
            · obtain ⟨h1, h2, h3, h4⟩ := hN m hm
              exact ⟨h1, h2, by rw [upd_ne h1]; exact gN.lst (by simp) h3, h4⟩
            · rw [List.mem_singleton.mp hm]
              refine ⟨ND, NL, by rw [upd_ne ND]; exact eN4, fun e he => ?_⟩
              rcases List.mem_append.mp he with he | he
              · exact ⟨hlb.2 e he, nml e he⟩
              · rw [List.mem_singleton.mp he]; exact ⟨hab, nmt a am⟩
          · rw [List.map_append, eNs, atk, List.map_append]
            congr 1
            show [trD (N, l.2 ++ [a])] = [trD l ++ [a.2]]
            unfold trD
            rw [List.map_append]
            rfl
        · obtain ⟨gg, Ns, eN, hN, lN, eNs⟩ := hr
          rw [List.length_map] at lN
          rw [List.length_map, List.take_length] at eNs
          have eLg3 := gg.lst (by simp) eLg2
          have lms : Ms.length ≤ 1000 := by
            have h1 : Ms.length = (((Ls.map trD).take j).flatMap (ext t.2.2)).length := by rw [← eM, List.length_map]
            omega
          refine ⟨Lg, D2, _, _, rfl, rfl, eLg3, eN, by rw [List.length_map, List.length_map]; unfold sizeLine; omega, _, _, Ms ++ Ns, rfl, (g2.trans gg).put (fresh_none nLg) eLg3 (fun ps z => by cases z), by rw [upd_same, List.map_append], fun m hm => ?_, ?_⟩
          · rcases List.mem_append.mp hm with hm | hm
            · obtain ⟨h1, h2, h3⟩ := hM2 m hm
              exact ⟨h1, by rw [upd_ne h1]; exact gg.lst (by simp) h2, h3⟩
            · obtain ⟨h1, h2, h3, h4⟩ := hN m hm
              exact ⟨h2, by rw [upd_ne h2]; exact h3, h4⟩
          · rw [List.map_append, eM, eNs, ← fewj, ← eas]
            congr 1
            unfold ext
            rw [show [t.2.2.1, t.2.2.2] = (sides t).map Prod.snd from rfl, List.filter_map, List.map_map]
            rfl
    · obtain ⟨o4, o5, Ms, rfl, gd, eD, hM, eM⟩ := hp
      rw [List.length_map, show Ls.length = (Ls.map trD).length by rw [List.length_map], List.take_length] at eM
      refine ⟨.ref Lg, rfl, _, _, _, _, Lg, Ms, rfl, ga.trans gd, eD, fun m hm => ?_, fun m hm e he => ((hM m hm).2.2 e he).2, ?_⟩
      · obtain ⟨h1, h2, h3⟩ := hM m hm
        exact ⟨h2, fun e he => gd.lst (by simp) (h3 e he).1⟩
      · rw [eM, em, stk, places_snoc]
  · obtain ⟨o2, o3, o4, o5, R, Ls, rfl, ga, eL, hL, nL, em⟩ := hp
    rw [List.length_map, show ts.length = (ts.map fun t => t.2.2).length by rw [List.length_map], List.take_length] at em
    have lLs : Ls.length ≤ 1000 := by
      have h1 := few (ts.map fun t => t.2.2).length
      rw [List.take_length, ← em, List.length_map] at h1
      exact h1
    refine ⟨.ref R, rfl, R, Ls, rfl, .inl (.inl eL), fun t ht => ⟨(hL t ht).dp, Nat.le_trans (depth_tr _) (by decide)⟩, alike_trs trD Ls, sortable_trs trD Ls, by unfold sizeLine; omega, fun Rr nR => ?_⟩
    have pm : (Ls.mergeSort (PySem.W.dataLe false fun b : TrT => encTr (trD b))).Perm Ls := List.mergeSort_perm _ _
    refine q Rr _ (Ls.mergeSort (PySem.W.dataLe false fun b : TrT => encTr (trD b))) (ga.fresh0 nR) (ga.new nR) upd_same (fun t hm => (hL t (pm.mem_iff.mp hm)).grow0 (grow_new nR)) ?_
    unfold sortTr
    rw [← em]
    exact List.map_mergeSort (f := trD) (r := PySem.W.dataLe false fun b : TrT => encTr (trD b)) (s := PySem.W.dataLe false encTr) fun a _ b _ => rfl
end

end Lw

namespace Lw
open PySem PySem.Spec PyProof.Rows L2 GxR Gx
section
variable {P : Program} {w : World} {K : PySem.W.Frag} {mg : Str → Option Value} {base : Heap}
/-! ### _law_told -/
def spTold (K : PySem.W.Frag) (T1 T2 T3 T4 T5 : Addr) : Sp := fun vs H Q _ => ∃ (d : Addr) (bs : List (Addr × (Str × List Str))) (ws : List Str), vs = [.ref d] ∧ TabG H T1 ∧ TabG H T2 ∧ TabG H T3 ∧ TabG H T4 ∧ TabG H T5 ∧ GivAt H d bs ∧ Giv bs ws ∧
  (crs (partsOf (bs.map Prod.snd)) = false → ∀ R H' (Ls : List TrT), Fresh H R → Grow [] H H' → TrsAt H' R Ls → (∀ a ∈ trAdd Ls, Fresh H a) → Ls.map trD = treeOf (bs.map Prod.snd) → Q (.ref R) H') ∧
  (crs (partsOf (bs.map Prod.snd)) = true → ∀ H', Grow [] H H' → Q (.str "Cross") H')
theorem ok_law_told {f c T1 T2 T3 T4 T5 : Addr} {fd : FuncData} (B : Nb mg) (D : DefIs K "_law_told" "_law_told" st_law_told f fd (.ref c)) (XS : Xs K mg excNames ["Cross"])
    (c_tree_places : Callee P w K mg base (L2.CX P w) 15 "tree_places" ["books"] (spTree K T1 T2 T3 T4 T5)) (c_law_kind : Callee P w K mg base CX0 3 "_law_kind" ["e"] (spKind K)) :
    FnG P w K mg base CX0 16 f fd ["books"] (spTold K T1 T2 T3 T4 T5) := by
  refine D.ok0 (k := 15) sc_law_told (fun vs H Q E h => ?_) (fun A outer s H vs Q E g hr h => ?_)
  · obtain ⟨d, bs, ws, rfl, _⟩ := h
    rfl
  obtain ⟨d, bs, ws, rfl, t1, t2, t3, t4, t5, at0, gv, q, qe⟩ := h
  refine ⟨_,
      (pss_cons (ps_set (i := 1) sc_law_told.nd rfl (.inl rfl) pe_non)
      (pss_cons (ps_try_keep (i := 2) rfl rfl rfl sc_law_told.nd rfl rfl rfl XS.top (fun W pn xe tk => (
        (pss_one (ps_ret (pe_gS c_tree_places g (hr.mono (by decide)) (passAt tk) (pa_cons (pv 0) pa_nil)))))) (fun a pn => (
        (pss_one (ps_set (i := 1) sc_law_told.nd rfl (.inl rfl) (pv 2))))))
      (pss_one (ps_ret (pe_g c_law_kind g (hr.mono (by decide)) pass0 (pa_cons (pv 1) pa_nil)))))), ?_⟩
  refine ⟨.ref d, rfl, d, bs, ws, rfl, t1, t2, t3, t4, t5, at0, gv, q, fun cr H1 g1 => ?_⟩
  have X1 := XS.one "Cross" (by simp)
  refine ⟨X1.apart, fun a na => ?_⟩
  have g2 : Grow [] H1 (upd H1 a (excO a (.ref (He.ga K "Cross")) none)) := grow_new na
  have e2 : upd H1 a (excO a (.ref (He.ga K "Cross")) none) a = some (excO a (.ref (He.ga K "Cross")) none) := upd_same
  generalize upd H1 a (excO a (.ref (He.ga K "Cross")) none) = H2 at g2 e2 ⊢
  exact ⟨.ref a, rfl, .ref a, rfl, a, "Cross", rfl, e2, X1, by simp [excNames], fun H3 g3 => qe cr H3 ((g1.trans g2).trans g3)⟩
end

end Lw

namespace Lw
open PySem PySem.Spec PyProof.Rows L2 GxR Gx
section
variable {P : Program} {w : World} {K : PySem.W.Frag} {mg : Str → Option Value} {base : Heap}
/-! ### _law_tree_right -/
theorem eqv_n (a b : List Str) : PyData.eqv (encN a) (encN b) = decide (a = b) := by
  unfold encN
  rw [PyData.eqv, eqvAll_map eqv_str]
theorem eqv_tr (a b : List (List Str)) : PyData.eqv (encTr a) (encTr b) = decide (a = b) := by
  unfold encTr
  rw [PyData.eqv, eqvAll_map eqv_n]
theorem any_tr (F : List (List (List Str))) (s : List (List Str)) : ((F.map encTr).any fun z => PyData.eqv z (encTr s)) = decide (s ∈ F) := by
  induction F with
  | nil => rfl
  | cons x F ih =>
    rw [List.map_cons, List.any_cons, ih, eqv_tr]
    by_cases c : x = s
    · simp [c]
    · simp [c, Ne.symm c]
theorem shaped_trs {F : List (List (List Str))} (h : ∀ s ∈ F, s.length ≤ 121 ∧ ∀ c ∈ s, NmOk c) (l : F.length ≤ 122) : SeqAt.shaped (.list (F.map encTr)) = true := (fine_trs h l).shaped (by decide)
theorem df_zip (l m : List (Addr × List Str)) : df (l.map Prod.snd) (m.map Prod.snd) = ((l.zip m).filter fun z => decide (z.1.2 ≠ z.2.2)).length := by
  unfold df
  rw [List.zip_map, List.filter_map, List.length_map]
  rfl
def spTreeR (K : PySem.W.Frag) : Sp := fun vs H Q _ => ∃ (d D R : Addr) (bs : List (Addr × (Str × List Str))) (ws : List Str) (ts : List PT) (Ls : List TrT), vs = [.ref d, .ref D, .ref R] ∧ GivAt H d bs ∧ Giv bs ws ∧ H D = some (.lst (ts.map fun t => V.ref t.1)) ∧ (∀ t ∈ ts, PtAt H t) ∧
  ts.map (fun t => t.2.2) = partsOf (bs.map Prod.snd) ∧ H R = some (.lst (Ls.map fun t => V.ref t.1)) ∧ (∀ t ∈ Ls, TrAt H t) ∧ TreeOk bs (Ls.map trD) ∧ ∀ H', Grow [] H H' → Q (.bl true) H'
theorem ok_law_tree_right {f c : Addr} {fd : FuncData} (B : Nb mg) (D : DefIs K "_law_tree_right" "_law_tree_right" st_law_tree_right f fd (.ref c)) : FnG P w K mg base CX0 3 f fd ["books", "parted", "found"] (spTreeR K) := by
  refine D.ok0 (k := 2) sc_law_tree_right (fun vs H Q E h => ?_) (fun A outer s H vs Q E g hr h => ?_)
  · obtain ⟨d, D, R, bs, ws, ts, Ls, rfl, _⟩ := h
    rfl
  obtain ⟨d, D0, R, bs, ws, ts, Ls, rfl, at0, gv, hD, ht, et, hR, hL, ok, q⟩ := h
  refine ⟨_,
      (pss_cons (ps_if (pt_cmpR (op_ne) (pe_callB call_len_seq rfl B.n_len PySem.boot_len (pa_cons (pv 2) pa_nil)) (pe_op op_add (pe_callB call_len_seq rfl B.n_len PySem.boot_len (pa_cons (pv 1) pa_nil)) pe_int) (nomark _)) (
        (pss_one (ps_ret pe_bl))) pss_nil)
      (pss_cons (ps_lock (ps_for PassesOwn.never rfl (pi_keys (pv 0)) (pg_name (i := 3) sc_law_tree_right.nd rfl (.inr rfl)) (
        (pss_cons (ps_setLc (i := 4) (own := [("one", 5), ("other", 6)]) (tt := tYes) (g := (gTup _ 2 (gCons (gName 5) (gCons (gName 6) gNil)))) rfl sc_law_tree_right.nd rfl rfl (sw_true rfl rfl rfl (by decide +kernel)) (pi_list (pv 1)) (blkOk_by (N := N_law_tree_right) (sc := defScope st_law_tree_right) (by decide +kernel)) (fun _ _ _ _ _ => (pg_tup rfl (pgs_cons (pg_name (i := 5) sc_law_tree_right.nd rfl (.inl rfl)) (pgs_cons (pg_name (i := 6) sc_law_tree_right.nd rfl (.inl rfl)) pgs_nil)))) (fun _ _ _ _ _ => pts_nil) (fun _ _ _ _ _ => pe_to (pe_ifExp (pt_cmpR (op_in_seq) (pv 3) (pv 5) rfl) (pv 5) (pv 6))))
        (pss_one (ps_if (pt_cmpR (op_notInD (room65 hr)) (pv 4) (pv 2) rfl) (
          (pss_one (ps_ret pe_bl))) pss_nil))))))
      (pss_cons (ps_set (i := 7) sc_law_tree_right.nd rfl (.inl rfl) pe_int)
      (pss_cons (ps_for PassesOwn.never rfl (pi_enum rfl B.n_enumerate (pa_cons (pv 2) pa_nil)) (pg_tup rfl (pgs_cons (pg_name (i := 8) sc_law_tree_right.nd rfl (.inl rfl)) (pgs_cons (pg_name (i := 9) sc_law_tree_right.nd rfl (.inl rfl)) pgs_nil))) (
        (pss_one (ps_for PassesOwn.never rfl (pi_list (pe_slice sl_list (pv 2) po_none (po_some (pv 8)))) (pg_name (i := 6) sc_law_tree_right.nd rfl (.inl rfl)) (
          (pss_cons (ps_setLc (i := 10) (own := [("some", 11), ("more", 12)]) (g := (gTup _ 2 (gCons (gName 11) (gCons (gName 12) gNil)))) rfl sc_law_tree_right.nd rfl rfl (sw_true rfl rfl rfl (by decide +kernel)) (pi_zip rfl B.n_zip (pa_cons (pv 9) (pa_cons (pv 6) pa_nil))) (blkOk_by (N := N_law_tree_right) (sc := defScope st_law_tree_right) (by decide +kernel)) (fun _ _ _ _ _ => (pg_tup rfl (pgs_cons (pg_name (i := 11) sc_law_tree_right.nd rfl (.inl rfl)) (pgs_cons (pg_name (i := 12) sc_law_tree_right.nd rfl (.inl rfl)) pgs_nil)))) (fun _ _ _ _ _ => pts_to (pts_one (pt_cmpR (op_neD hr.units) (pv 11) (pv 12) (nomark _)))) (fun _ _ _ _ _ => pe_to pe_int))
          (pss_cons (ps_if (pt_cmpR (op_eqD hr.units) (pv 10) (pe_lst pa_nil) (nomark _)) (
            (pss_one (ps_ret pe_bl))) pss_nil)
          (pss_one (ps_set (i := 7) sc_law_tree_right.nd rfl (.inl rfl) (pe_op op_add (pv 7) (pe_callTy call_int1 rfl B.n_int (by decide +kernel) (pa_cons (pe_cmpR (op_eq) (pe_callB call_len_seq rfl B.n_len PySem.boot_len (pa_cons (pv 10) pa_nil)) pe_int (nomark _)) pa_nil))))))))))))
      (pss_one (ps_ret (pe_cmpR (op_eq) (pv 7) (pe_callB call_len_seq rfl B.n_len PySem.boot_len (pa_cons (pv 1) pa_nil)) (nomark _)))))))), ?_⟩
  obtain ⟨⟨h0, r0, ens, pr, tr⟩, few, fin⟩ := ok
  have lF := tr.len
  rw [List.length_map] at lF
  have lts : ts.length = (partsOf (bs.map Prod.snd)).length := by rw [← et, List.length_map]
  refine ⟨.ref R, rfl, R, _, rfl, .inl (.inl (.inl hR)), .ref D0, rfl, D0, _, rfl, .inl (.inl (.inl hD)), ?_⟩
  refine ⟨_, _, rfl, rfl, rfl, _, rfl, ?_⟩
  rw [show (!decide (V.int (((Ls.map fun t => V.ref t.1).length : Nat) : Int) = V.int (((ts.map fun t => V.ref t.1).length : Nat) + 1))) = false by
    rw [List.length_map, List.length_map, decide_eq_true (by rw [lF, lts]; rfl)]
    rfl]
  have e1 := at0.1
  have nt : ∀ ps, HO.dK (kvB bs) ≠ .tbl ps := fun ps z => by cases z
  refine iteF ⟨d, .dK (kvB bs), e1, trivial, fun od => ⟨.ref d, rfl, d, od, rfl, .inl ⟨kvB bs, upd_same, ?_⟩⟩⟩
  have ne : ∀ {a : Addr} {xs : List V}, H a = some (.lst xs) → upd H d (.frz od (.dK (kvB bs))) a = some (.lst xs) := fun e => by rw [upd_ne (fun z => by rw [z, e1] at e; cases e)]; exact e
  have neT : ∀ {a : Addr} {xs : List V}, H a = some (.tup xs) → upd H d (.frz od (.dK (kvB bs))) a = some (.tup xs) := fun e => by rw [upd_ne (fun z => by rw [z, e1] at e; cases e)]; exact e
  have hD1 := ne hD
  have hR1 := ne hR
  have ht1 : ∀ t ∈ ts, PtAt (upd H d (.frz od (.dK (kvB bs)))) t := fun t hm => ⟨neT (ht t hm).1, ne (ht t hm).2.1, ne (ht t hm).2.2⟩
  have hL1 : ∀ t ∈ Ls, TrAt (upd H d (.frz od (.dK (kvB bs)))) t := fun t hm => ⟨ne (hL t hm).1, fun e he => ne ((hL t hm).2 e he)⟩
  have ed1 : upd H d (.frz od (.dK (kvB bs))) d = some (.frz od (.dK (kvB bs))) := upd_same
  have un : ∀ H', Grow [] (upd H d (.frz od (.dK (kvB bs)))) H' → Grow [] H (upd H' d (.dK (kvB bs))) := fun H' g' => grow_unlock e1 nt g' (g'.keep d _ (by simp) upd_same fun ps z => by cases z)
  generalize upd H d (.frz od (.dK (kvB bs))) = H1 at hD1 hR1 ht1 hL1 ed1 un ⊢
  refine for_it (walk_keys (kvs := kvB bs)) (fun i σ H' => ∃ (o3 o4 : Option V), σ = [some (.ref d), some (.ref D0), some (.ref R), o3, o4, none, none, none, none, none, none, none, none] ∧ Grow [] H1 H')
    ⟨none, none, rfl, Grow.refl _ _⟩ (fun i σ H' _ h => by
      obtain ⟨_, _, _, g'⟩ := h
      exact g'.keep d _ (by simp) ed1 fun ps z => by cases z) (fun i x σ Ha Hb hi hp hy => ?_) (fun σ H2 hp => ?_)
  · obtain ⟨o3, o4, rfl, ga⟩ := hp
    obtain ⟨rfl, kk, vv, ek, rfl⟩ := hy
    unfold kvB at ek
    rw [List.getElem?_map] at ek
    cases eb : bs[i]? with
    | none => rw [eb] at ek; cases ek
    | some b =>
      rw [eb] at ek
      cases ek
      have bm := List.mem_of_getElem? eb
      have nin : b.2.1 ∈ h0 :: r0 := by
        rw [← ens]
        refine GivD.names_perm.mem_iff.mpr ?_
        rw [List.map_map]
        exact List.mem_map.mpr ⟨b, bm, rfl⟩
      refine ⟨.ref D0, rfl, D0, rfl, ⟨_, .inl (.inl (ga.lst (by simp) hD1))⟩, fun A nA => ?_⟩
      obtain ⟨ow, how⟩ : ∃ ow : PT → Addr × List Str, (fun t : PT => if b.2.1 ∈ t.2.2.1 then (t.2.1.1, t.2.2.1) else (t.2.1.2, t.2.2.2)) = ow := ⟨_, rfl⟩
      have ow1 : ∀ t, ow t = if b.2.1 ∈ t.2.2.1 then (t.2.1.1, t.2.2.1) else (t.2.1.2, t.2.2.2) := fun t => by rw [← how]
      refine lc_filt (walk_list (xs := ts.map fun t => V.ref t.1)) ts (fun _ => true) (fun t => V.ref (ow t).1) nA (List.length_map _) (by omega) (fun H' g => .inl (.inl (g.lst (by simp) (ga.lst (by simp) hD1)))) (fun k t x Hc Hd Pu Pn ek gc hy ku kn => ?_) (fun Hc gc ec => ?_)
      · obtain ⟨rfl, ex⟩ := hy
        rw [List.getElem?_map, ek] at ex
        cases ex
        have g3 := ga.trans gc
        have h3 := (ht1 t (List.mem_of_getElem? ek)).grow0 g3
        refine ⟨t.1, _, rfl, .inl (.inl h3.1), rfl, _, _, rfl, _, _, rfl, rfl, rfl, yes_if ⟨.str b.2.1, rfl, .ref t.2.1.1, rfl, t.2.1.1, t.2.2.1.map V.str, rfl, .inl (.inl (.inl h3.2.1)), rfl, flat_strs _, ?_⟩⟩
        refine ⟨_, rfl, ?_⟩
        have ku' := ku _ (Grow.refl _ _) rfl
        show if inV (.str b.2.1) (t.2.2.1.map V.str) = true then _ else _
        rw [in_strs]
        by_cases cn : b.2.1 ∈ t.2.2.1
        · rw [decide_eq_true cn, if_pos rfl]
          rw [show (ow t).1 = t.2.1.1 by rw [ow1, if_pos cn]] at ku'
          exact ⟨.ref t.2.1.1, rfl, ku'⟩
        · rw [decide_eq_false cn, if_neg Bool.false_ne_true]
          rw [show (ow t).1 = t.2.1.2 by rw [ow1, if_neg cn]] at ku'
          exact ⟨.ref t.2.1.2, rfl, ku'⟩
      · rw [List.filter_eq_self.mpr (fun _ _ => rfl)] at ec
        have g3 := ga.trans gc
        have how2 : ∀ t ∈ ts, Hc (ow t).1 = some (.lst ((ow t).2.map V.str)) := fun t hm => by
          have h3 := (ht1 t hm).grow0 g3
          rw [ow1]
          split
          · exact h3.2.1
          · exact h3.2.2
        have own : ts.map (fun t => (ow t).2) = plOf (partsOf (bs.map Prod.snd)) fun p => decide (b.2.1 ∈ p.1) := by
          rw [← et]
          unfold plOf
          rw [List.map_map]
          refine List.map_congr_left fun t _ => ?_
          rw [ow1]
          show _ = sd t.2.2 (decide (b.2.1 ∈ t.2.2.1))
          by_cases cn : b.2.1 ∈ t.2.2.1
          · rw [if_pos cn, decide_eq_true cn]; rfl
          · rw [if_neg cn, decide_eq_false cn]; rfl
        have inF : ts.map (fun t => (ow t).2) ∈ Ls.map trD := (tr.mem _).mpr ⟨_, own, fun p hp z hz => by
          have has : ∀ {y}, y ∈ partsOf (bs.map Prod.snd) → b.2.1 ∈ sd y (decide (b.2.1 ∈ y.1)) := fun {y} hy => by
            by_cases cn : b.2.1 ∈ y.1
            · rw [decide_eq_true cn]; exact cn
            · rw [decide_eq_false cn]
              exact (pr.one hy _ nin false).mpr cn
          exact ⟨_, has hp, has hz⟩⟩
        have d1 : DpAll K Hc (ts.map fun t => V.ref (ow t).1) ((ts.map fun t => (ow t).2).map encN) := by
          have := ns_dp (K := K) (H := Hc) (es := ts.map ow) (fun e he => by obtain ⟨t, hm, rfl⟩ := List.mem_map.mp he; exact how2 t hm)
          rw [List.map_map, List.map_map, List.map_map] at this
          rw [List.map_map]
          exact this
        refine ⟨.ref A, rfl, .ref R, rfl, _, _, .lst (.inl (.inl ec)) d1, .lst (.inl (.inl (g3.lst (by simp) hR1))) (trs_dp fun t hm => (hL1 t hm).grow0 g3), shaped_tr (fin _ inF).2, shaped_trs fin (by rw [List.length_map, lF]; omega), _, rfl, ?_⟩
        rw [show ((Ls.map trD).map encTr).any (fun z => PyData.eqv z (.list ((ts.map fun t => (ow t).2).map encN))) = true by
          have := any_tr (Ls.map trD) (ts.map fun t => (ow t).2)
          rw [decide_eq_true inF] at this
          exact this]
        exact iteF ⟨_, _, rfl, g3⟩
  · obtain ⟨o3, o4, rfl, g2⟩ := hp
    have ed2 := g2.keep d _ (by simp) ed1 fun ps z => by cases z
    have gU := un H2 g2
    refine ⟨ed2, ?_⟩
    generalize upd H2 d (.dK (kvB bs)) = H3 at gU ⊢
    have hR3 := gU.lst (by simp) hR
    have hS : ∀ {H' : Hp}, Grow [] H3 H' → SqL K H' R (Ls.map fun t => V.ref t.1) := fun g => .inl (.inl (g.lst (by simp) hR3))
    have hL3 : ∀ t ∈ Ls, TrAt H3 t := fun t hm => (hL t hm).grow0 gU
    have lenF : ∀ s ∈ Ls.map trD, s.length = (partsOf (bs.map Prod.snd)).length := fun s hs => by
      obtain ⟨f, ef, _⟩ := (tr.mem _).mp hs
      rw [ef]
      exact plOf_len _ _
    refine ⟨.ref R, rfl, R, _, rfl, hS (Grow.refl _ _), ?_⟩
    refine for_it (walk_enum (xs := Ls.map fun t => V.ref t.1)) (fun i σ H' => ∃ (o6 o8 o9 o10 : Option V), σ = [some (.ref d), some (.ref D0), some (.ref R), o3, o4, none, o6, some (.int (pc nb ((Ls.map trD).take i) : Nat)), o8, o9, o10, none, none] ∧ Grow [] H3 H')
      ⟨none, none, none, none, rfl, Grow.refl _ _⟩ (fun i σ H' _ h => by
        obtain ⟨_, _, _, _, _, g'⟩ := h
        exact hS g') (fun i x σ Ha Hb hi hp hy => ?_) (fun σ H4 hp => ?_)
    · obtain ⟨o6, o8, o9, o10, rfl, ga⟩ := hp
      obtain ⟨Tn, x1, x2, rfl, nT, rfl, e1', e2'⟩ := hy
      dsimp only at e1' e2'
      cases e1'
      rw [List.length_map] at hi
      obtain ⟨l, el⟩ : ∃ l, Ls[i]? = some l := ⟨_, List.getElem?_eq_getElem hi⟩
      rw [List.getElem?_map, el] at e2'
      cases e2'
      have lm := List.mem_of_getElem? el
      have gb := ga.new (o := .tup [V.int (i : Nat), V.ref l.1]) nT
      refine ⟨Tn, _, rfl, .inl (.inl upd_same), rfl, _, _, rfl, _, _, rfl, rfl, ?_⟩
      generalize upd Ha Tn (.tup [V.int (i : Nat), V.ref l.1]) = Hc at gb ⊢
      refine ⟨.ref R, rfl, .int (i : Nat), rfl, (i : Nat), rfl, R, _, rfl, hS gb, fun L nL => ?_⟩
      rw [show cutV (Ls.map fun t => V.ref t.1) none (some ((i : Nat) : Int)) = (Ls.take i).map fun t => V.ref t.1 by rw [cut_hi, List.map_take]]
      have gc := gb.new (o := .lst ((Ls.take i).map fun t => V.ref t.1)) nL
      have eL : upd Hc L (.lst ((Ls.take i).map fun t => V.ref t.1)) L = some (.lst ((Ls.take i).map fun t => V.ref t.1)) := upd_same
      generalize upd Hc L (.lst ((Ls.take i).map fun t => V.ref t.1)) = Hd at gc eL ⊢
      refine ⟨L, rfl, ⟨_, .inl (.inl eL)⟩, ?_⟩
      refine for_it (walk_list (xs := (Ls.take i).map fun t => V.ref t.1)) (fun j σ H' => ∃ (o6 o10 : Option V), σ = [some (.ref d), some (.ref D0), some (.ref R), o3, o4, none, o6, some (.int (pc nb ((Ls.map trD).take i) + ((Ls.take i).take j).countP (fun m => nb (trD m) (trD l)) : Nat)), some (.int (i : Nat)), some (.ref l.1), o10, none, none] ∧ Grow [] Hd H')
        ⟨o6, o10, rfl, Grow.refl _ _⟩ (fun j σ H' _ h => by
          obtain ⟨_, _, _, g'⟩ := h
          exact .inl (.inl (g'.lst (by simp) eL))) (fun j x σ He Hf hj hp hy => ?_) (fun σ H4 hp => ?_)
      · obtain ⟨o6, o10, rfl, ge⟩ := hp
        obtain ⟨rfl, ex⟩ := hy
        rw [List.length_map] at hj
        obtain ⟨m, em⟩ : ∃ m, (Ls.take i)[j]? = some m := ⟨_, List.getElem?_eq_getElem hj⟩
        rw [List.getElem?_map, em] at ex
        cases ex
        have mm := List.mem_of_mem_take (List.mem_of_getElem? em)
        have ji : j < i := by rw [List.length_take] at hj; omega
        have em2 : Ls[j]? = some m := by rw [List.getElem?_take, if_pos ji] at em; exact em
        have ml : trD m ≠ trD l := fun z => by
          have h1 : (Ls.map trD)[j]? = some (trD m) := by rw [List.getElem?_map, em2]; rfl
          have h2 : (Ls.map trD)[i]? = some (trD l) := by rw [List.getElem?_map, el]; rfl
          have := (List.getElem?_inj (l := Ls.map trD) (i := j) (j := i) (by rw [List.length_map]; omega) tr.nd).mp (by rw [h1, h2, z])
          omega
        have g3 := gc.trans ge
        have hl := (hL3 l lm).grow0 g3
        have hm := (hL3 m mm).grow0 g3
        have fl := fin (trD l) (List.mem_map.mpr ⟨l, lm, rfl⟩)
        have fm := fin (trD m) (List.mem_map.mpr ⟨m, mm, rfl⟩)
        have ll : l.2.length ≤ 121 := by have := fl.1; unfold trD at this; rwa [List.length_map] at this
        refine ⟨.ref l.1, rfl, .ref m.1, rfl, l.1, m.1, _, _, rfl, .inl (.inl hl.1), .inl (.inl hm.1), fun D1 nD => ?_⟩
        refine lc_filt (walk_zip (xs := l.2.map fun e => V.ref e.1) (ys := m.2.map fun e => V.ref e.1) (n := (l.2.zip m.2).length) (by rw [List.length_map, List.length_map, List.length_zip])) (l.2.zip m.2) (fun z => decide (z.1.2 ≠ z.2.2)) (fun _ => V.int 1) nD rfl (by rw [List.length_zip]; omega)
          (fun H' g => ⟨.inl (.inl (g.lst (by simp) hl.1)), .inl (.inl (g.lst (by simp) hm.1))⟩) (fun k z x Hg Hh Pu Pn ek gg hy ku kn => ?_) (fun Hg gg eg => ?_)
        · obtain ⟨T0, x1, x2, rfl, nT0, rfl, ea, eb⟩ := hy
          obtain ⟨za, zb⟩ := List.getElem?_zip_eq_some.mp ek
          replace ea : (l.2.map fun e => V.ref e.1)[k]? = some x1 := ea
          replace eb : (m.2.map fun e => V.ref e.1)[k]? = some x2 := eb
          rw [List.getElem?_map, za] at ea
          rw [List.getElem?_map, zb] at eb
          cases ea
          cases eb
          have gT : Grow [] Hg (upd Hg T0 (.tup [V.ref z.1.1, V.ref z.2.1])) := grow_new nT0
          refine ⟨T0, _, rfl, .inl (.inl upd_same), rfl, _, _, rfl, _, _, rfl, rfl, rfl, ?_⟩
          have zl := List.mem_of_getElem? za
          have zm := List.mem_of_getElem? zb
          have h1 := (gg.trans gT).lst (by simp) (hl.2 z.1 zl)
          have h2 := (gg.trans gT).lst (by simp) (hm.2 z.2 zm)
          generalize upd Hg T0 (.tup [V.ref z.1.1, V.ref z.2.1]) = Hi at gT h1 h2 ⊢
          refine ⟨.ref z.1.1, rfl, .ref z.2.1, rfl, encN z.1.2, encN z.2.2, dp_book (.inl (.inl h1)), dp_book (.inl (.inl h2)), (fine_ns (fl.2 _ (List.mem_map.mpr ⟨_, zl, rfl⟩))).shaped (by decide), (fine_ns (fm.2 _ (List.mem_map.mpr ⟨_, zm, rfl⟩))).shaped (by decide), _, rfl, ?_⟩
          rw [eqv_n]
          by_cases cz : z.1.2 = z.2.2
          · rw [decide_eq_true cz]
            exact kn _ gT (decide_eq_false (fun y => y cz))
          · rw [decide_eq_false cz]
            exact ku _ gT (decide_eq_true cz)
        · have ed := df_zip l.2 m.2
          obtain ⟨us, eus⟩ : ∃ us, (l.2.zip m.2).filter (fun z => decide (z.1.2 ≠ z.2.2)) = us := ⟨_, rfl⟩
          rw [eus] at ed eg
          have ed : df (trD l) (trD m) = us.length := ed
          have d0 : us.length ≠ 0 := fun z => ml ((df_eq ((lenF _ (List.mem_map.mpr ⟨l, lm, rfl⟩)).trans (lenF _ (List.mem_map.mpr ⟨m, mm, rfl⟩)).symm)).mp (ed.trans z)).symm
          have lus : us.length ≤ 121 := by
            rw [← eus]
            refine Nat.le_trans (List.length_filter_le _ _) ?_
            rw [List.length_zip]
            omega
          refine ⟨.ref D1, rfl, by show 0 ≤ sizeLine; decide, fun E1 nE1 => ?_⟩
          have gE : Grow [] Hg (upd Hg E1 (.lst [])) := grow_new nE1
          have eE1 : upd Hg E1 (.lst []) E1 = some (.lst ([] : List V)) := upd_same
          generalize upd Hg E1 (.lst []) = Hk at gE eE1 ⊢
          have em1 : (us.map fun _ => V.int 1) = (us.map fun _ => (1 : Int)).map V.int := by rw [List.map_map]; rfl
          have ek := gE.lst (by simp) eg
          have f1 := fine_ints (ns := us.map fun _ => (1 : Int)) (k := 121) (fun i hi => by obtain ⟨_, _, rfl⟩ := List.mem_map.mp hi; decide) (by rw [List.length_map]; exact lus)
          rw [em1] at ek
          refine ⟨_, _, .lst (.inl (.inl ek)) (dp_ints _), dp_book (xs := []) (.inl (.inl eE1)), f1.shaped (by decide), (fine_names (zs := []) rfl (Nat.zero_le _)).shaped (by decide), _, rfl, ?_⟩
          rw [eqv_nils, decide_eq_false (fun z => by rw [List.map_eq_nil_iff, List.map_eq_nil_iff] at z; rw [z] at d0; exact d0 rfl)]
          have step : ((pc nb ((Ls.map trD).take i) + ((Ls.take i).take j).countP (fun m => nb (trD m) (trD l)) : Nat) : Int) + (if decide (V.int ((((us.map fun _ => (1 : Int)).map V.int).length : Nat) : Int) = V.int 1) = true then 1 else 0) = ((pc nb ((Ls.map trD).take i) + ((Ls.take i).take (j + 1)).countP (fun m => nb (trD m) (trD l)) : Nat) : Int) := by
            rw [List.take_add_one (l := Ls.take i), em, List.countP_append]
            show _ = ((_ + (_ + List.countP _ [m]) : Nat) : Int)
            rw [List.countP_singleton, List.length_map, List.length_map]
            have e2 : nb (trD m) (trD l) = decide (V.int ((us.length : Nat) : Int) = V.int 1) := by
              unfold nb
              rw [df_comm, ed]
              refine decide_eq_decide.mpr ⟨fun z => by rw [z]; rfl, fun z => ?_⟩
              have := V.int.inj z
              omega
            rw [← e2]
            cases nb (trD m) (trD l) <;> simp <;> omega
          refine iteF ⟨_, rfl, .ref D1, rfl, D1, _, rfl, .inl (.inl (.inl ek)), rfl, .inr ⟨_, rfl, _, _, rfl, rfl, some (.ref m.1), some (.ref D1), ?_, ge.trans (gg.trans gE)⟩⟩
          exact congrArg (fun z : Int => [some (V.ref d), some (V.ref D0), some (V.ref R), o3, o4, none, some (V.ref m.1), some (V.int z), some (V.int (i : Nat)), some (V.ref l.1), some (V.ref D1), none, none]) step
      · obtain ⟨o6, o10, rfl, ge⟩ := hp
        rw [List.length_map, List.take_length]
        refine ⟨o6, some (.int (i : Nat)), some (.ref l.1), o10, ?_, gc.trans ge⟩
        rw [List.take_add_one, List.getElem?_map, el]
        show _ = [some (.ref d), some (.ref D0), some (.ref R), o3, o4, none, o6, some (.int (pc nb ((Ls.map trD).take i ++ [trD l]) : Nat)), some (.int (i : Nat)), some (.ref l.1), o10, none, none]
        rw [pc_snoc, ← List.map_take, List.countP_map]
        rfl
    · obtain ⟨o6, o8, o9, o10, rfl, ga⟩ := hp
      rw [List.length_map, show Ls.length = (Ls.map trD).length by rw [List.length_map], List.take_length, tr.nbs]
      have hD3 := (gU.trans ga).lst (by simp) hD
      refine ⟨_, rfl, .ref D0, rfl, D0, _, rfl, .inl (.inl (.inl hD3)), rfl, ?_⟩
      rw [List.length_map, lts, decide_eq_true rfl]
      exact q _ (gU.trans ga)
end

end Lw

namespace Lw
open PySem PySem.Spec PyProof.Rows L2 GxR Gx
section
variable {P : Program} {w : World} {K : PySem.W.Frag} {mg : Str → Option Value} {base : Heap}
/-! ### law -/
theorem parts_nm {bs : List (Addr × (Str × List Str))} {ws : List Str} (gv : Giv bs ws) : ∀ p ∈ partsOf (bs.map Prod.snd), NmOk p.1 ∧ NmOk p.2 := fun p hp => by
  obtain ⟨k1, _⟩ := parts_ok gv
  have ok := k1 p hp
  have l12 : (namesOf (bs.map Prod.snd)).length ≤ 12 := by
    rw [(GivD.names_perm (gs := bs.map Prod.snd)).length_eq, List.length_map, List.length_map]
    exact gv.most
  obtain ⟨n2, s2, e1⟩ := part_sub gv.gd hp
  refine ⟨⟨ok.1, ?_⟩, ok.2.2.1, Nat.le_trans (n2.length_le_of_subset s2) l12⟩
  rw [e1]
  exact Nat.le_trans (List.length_filter_le _ _) l12
/-- what is due: the class, or the places -/
def dueD (bs : List (Addr × (Str × List Str))) : PyData := if crs (partsOf (bs.map Prod.snd)) = true then .str "Cross" else .list ((treeOf (bs.map Prod.snd)).map encTr)
theorem due_show {bs : List (Addr × (Str × List Str))} {ws : List Str} (gv : Giv bs ws) : (dueD bs).showable = true ∧ (dueD bs).hasDict = false ∧ (dueD bs).depth ≤ 60 ∧ (dueD bs).shown.length ≤ sizeLine := by
  unfold dueD
  cases cr : crs (partsOf (bs.map Prod.snd)) with
  | true =>
    rw [if_pos rfl]
    exact ⟨by decide +kernel, by decide +kernel, by decide +kernel, by decide +kernel⟩
  | false =>
    rw [if_neg Bool.false_ne_true]
    have tk := (tree_ok gv cr).sorted
    obtain ⟨⟨_, _, _, _, tr⟩, few, fin⟩ := tk
    have f := fine_trs fin (by rw [tr.len]; omega)
    exact ⟨f.show_, f.nod, Nat.le_trans f.deep (by decide), f.shown (by unfold sizeLine; decide)⟩
theorem tr_at {Ls : List TrT} {l : TrT} (h : l ∈ Ls) : l.1 ∈ trAdd Ls := List.mem_flatMap.mpr ⟨l, h, List.mem_cons_self⟩
theorem tr_in {Ls : List TrT} {e : Addr × List Str} (h : e ∈ Ls.flatMap fun l => l.2) : e.1 ∈ trAdd Ls := by
  obtain ⟨l, hl, he⟩ := List.mem_flatMap.mp h
  exact List.mem_flatMap.mpr ⟨l, hl, List.mem_cons_of_mem _ (List.mem_map.mpr ⟨e, he, rfl⟩)⟩
theorem tr_apart : ∀ {Ls : List TrT}, (trAdd Ls).Nodup → ((Ls.flatMap fun l => l.2).map Prod.fst).Nodup ∧ ∀ l ∈ Ls, ∀ e ∈ Ls.flatMap (fun l => l.2), l.1 ≠ e.1
  | [], _ => ⟨List.nodup_nil, fun l h => nomatch h⟩
  | t :: Ls, nd => by
    have e1 : trAdd (t :: Ls) = (t.1 :: t.2.map Prod.fst) ++ trAdd Ls := by unfold trAdd; rw [List.flatMap_cons]
    rw [e1] at nd
    obtain ⟨n1, n2, n3⟩ := List.nodup_append.mp nd
    obtain ⟨i1, i2⟩ := tr_apart n2
    have n4 := List.nodup_cons.mp n1
    refine ⟨?_, fun l hl e he z => ?_⟩
    · rw [List.flatMap_cons, List.map_append]
      refine List.nodup_append.mpr ⟨n4.2, i1, fun a ha b hb z => ?_⟩
      obtain ⟨y, hy, rfl⟩ := List.mem_map.mp hb
      exact n3 a (List.mem_cons_of_mem _ ha) y.1 (tr_in hy) z
    · rw [List.flatMap_cons] at he
      rcases List.mem_cons.mp hl with hl | hl <;> rcases List.mem_append.mp he with he | he
      · rw [hl] at z
        exact n4.1 (List.mem_map.mpr ⟨e, he, z.symm⟩)
      · rw [hl] at z
        exact n3 t.1 List.mem_cons_self e.1 (tr_in he) z
      · exact n3 e.1 (List.mem_cons_of_mem _ (List.mem_map.mpr ⟨e, he, rfl⟩)) l.1 (tr_at hl) z.symm
      · exact i2 l hl e he z
theorem flat_len {m : Nat} : ∀ {Ls : List TrT}, (∀ l ∈ Ls, l.2.length ≤ m) → (Ls.flatMap fun l => l.2).length ≤ Ls.length * m
  | [], _ => Nat.zero_le _
  | t :: Ls, h => by
    have h1 := h t List.mem_cons_self
    have h2 := flat_len (Ls := Ls) fun l hl => h l (List.mem_cons_of_mem _ hl)
    rw [List.flatMap_cons, List.length_append, List.length_cons, Nat.succ_mul]
    omega
def spLaw (K : PySem.W.Frag) (T1 T2 T3 T4 T5 : Addr) : Sp := fun vs H Q _ => ∃ (a : Addr) (ns : List Int), vs = [.ref a] ∧ TabG H T1 ∧ TabG H T2 ∧ TabG H T3 ∧ TabG H T4 ∧ TabG H T5 ∧ SqL K H a (ns.map V.int) ∧ ∀ H', Grow [] H H' → Q (.bl true) H'
theorem ok_law {f c T1 T2 T3 T4 T5 : Addr} {fd : FuncData} (B : Nb mg) (D : DefIs K "law" "law" st_law f fd (.ref c))
    (c_law_pot : Callee P w K mg base CX0 3 "_law_pot" ["script", "k"] (spPot K)) (c_law_take : Callee P w K mg base CX0 3 "_law_take" ["pot", "many"] (spTake K)) (c_law_given : Callee P w K mg base CX0 8 "_law_given" ["pot"] (spGiven K))
    (c_law_heard : Callee P w K mg base CX0 7 "_law_heard" ["pot", "most", "words"] (spHeardG K)) (c_law_partings : Callee P w K mg base CX0 3 "_law_partings" ["books"] (spLawParts K)) (c_law_crosses : Callee P w K mg base CX0 4 "_law_crosses" ["parted"] (spCrosses K))
    (c_law_places : Callee P w K mg base CX0 3 "_law_places" ["parted"] (spLPlaces K)) (c_law_told : Callee P w K mg base CX0 16 "_law_told" ["books"] (spTold K T1 T2 T3 T4 T5)) (c_law_tree_right : Callee P w K mg base CX0 3 "_law_tree_right" ["books", "parted", "found"] (spTreeR K))
    (c_tree_places : Callee P w K mg base (L2.CX P w) 15 "tree_places" ["books"] (spTree K T1 T2 T3 T4 T5)) :
    FnG P w K mg base CX0 18 f fd ["script"] (spLaw K T1 T2 T3 T4 T5) := by
  refine D.ok0 (k := 17) sc_law (fun vs H Q E h => ?_) (fun A outer s H vs Q E g hr h => ?_)
  · obtain ⟨a, ns, rfl, _⟩ := h
    rfl
  obtain ⟨a, ns, rfl, t1, t2, t3, t4, t5, ha, q⟩ := h
  refine ⟨_,
      (pss_cons (ps_for PassesOwn.never rfl (pi_range1 rfl B.n_range (pa_cons (pe_callB (call_max2 rfl) rfl B.n_max (by decide +kernel) (pa_cons pe_int (pa_cons (pe_callB (call_min2 rfl) rfl B.n_min (by decide +kernel) (pa_cons pe_int (pa_cons (pe_callB call_len_seq rfl B.n_len PySem.boot_len (pa_cons (pv 0) pa_nil)) pa_nil))) pa_nil))) pa_nil)) (pg_name (i := 1) sc_law.nd rfl (.inl rfl)) (
        (pss_cons (ps_set (i := 2) sc_law.nd rfl (.inl rfl) (pe_g c_law_pot g (hr.mono (by decide)) pass0 (pa_cons (pv 0) (pa_cons (pv 1) pa_nil))))
        (pss_cons (ps_set (i := 3) sc_law.nd rfl (.inl rfl) (pe_g c_law_given g (hr.mono (by decide)) pass0 (pa_cons (pv 2) pa_nil)))
        (pss_cons (ps_if (PW.pt (pw_and (pt_cmpR (op_eq) (pv 1) pe_int (nomark _)) (pw_and1 (pt_cmpR (op_eq) (pe_g c_law_take g (hr.mono (by decide)) pass0 (pa_cons (pv 2) (pa_cons pe_int pa_nil))) pe_int (nomark _))))) (
          (pss_one (ps_set (i := 3) sc_law.nd rfl (.inl rfl) (pe_ix ix_list (pe_g c_law_heard g (hr.mono (by decide)) pass0 (pa_cons (pv 2) (pa_cons pe_int (pa_cons pe_int pa_nil)))) pe_int (fun _ _ => rfl))))) pss_nil)
        (pss_cons (ps_set (i := 4) sc_law.nd rfl (.inl rfl) (pe_g c_law_partings g (hr.mono (by decide)) pass0 (pa_cons (pv 3) pa_nil)))
        (pss_cons (ps_set (i := 5) sc_law.nd rfl (.inl rfl) (pe_g c_law_crosses g (hr.mono (by decide)) pass0 (pa_cons (pv 4) pa_nil)))
        (pss_cons (ps_set (i := 6) sc_law.nd rfl (.inl rfl) (pe_ifExp (pt_val (pv 5)) pe_str (pe_g c_law_places g (hr.mono (by decide)) pass0 (pa_cons (pv 4) pa_nil))))
        (pss_cons (ps_set (i := 7) sc_law.nd rfl (.inl rfl) (pe_callB (cr_reprD g hr.units) rfl B.n_repr (by decide +kernel) (pa_cons (pv 3) pa_nil)))
        (pss_one (ps_for PassesOwn.never rfl (pi_range1 rfl B.n_range (pa_cons pe_int pa_nil)) (pg_name (i := 8) sc_law.nd rfl (.inl rfl)) (
          (pss_cons (ps_set (i := 9) sc_law.nd rfl (.inl rfl) (pe_g c_law_told g (hr.mono (by decide)) pass0 (pa_cons (pv 3) pa_nil)))
          (pss_cons (ps_if (PW.pt (pw_or (pt_cmpR (op_ne) (pe_callB (cr_repr g hr.units) rfl B.n_repr (by decide +kernel) (pa_cons (pv 9) pa_nil)) (pe_callB (cr_repr g hr.units) rfl B.n_repr (by decide +kernel) (pa_cons (pv 6) pa_nil)) (nomark _)) (pw_or1 (pt_cmpR (op_ne) (pe_callB (cr_reprD g hr.units) rfl B.n_repr (by decide +kernel) (pa_cons (pv 3) pa_nil)) (pv 7) (nomark _))))) (
            (pss_one (ps_ret pe_bl))) pss_nil)
          (pss_one (ps_if (pt_not (pt_val (pv 5))) (
            (pss_cons (ps_if (pt_not (pt_val (pe_g c_law_tree_right g (hr.mono (by decide)) pass0 (pa_cons (pv 3) (pa_cons (pv 4) (pa_cons (pv 9) pa_nil)))))) (
              (pss_one (ps_ret pe_bl))) pss_nil)
            (pss_cons (ps_set (i := 10) sc_law.nd rfl (.inl rfl) (pe_lst pa_nil))
            (pss_cons (ps_for PassesOwn.never rfl (pi_list (pv 9)) (pg_name (i := 11) sc_law.nd rfl (.inl rfl)) (
              (pss_one (ps_expr (pe_bm PySem.F.plainAttrs_list PySem.F.slot_list_extend PySem.F.type_list_extend mt_extend (pv 10) (pa_cons (pv 11) pa_nil))))))
            (pss_cons (ps_for PassesOwn.never rfl (pi_enum rfl B.n_enumerate (pa_cons (pv 10) pa_nil)) (pg_tup rfl (pgs_cons (pg_name (i := 12) sc_law.nd rfl (.inl rfl)) (pgs_cons (pg_name (i := 13) sc_law.nd rfl (.inl rfl)) pgs_nil))) (
              (pss_one (ps_expr (pe_bm PySem.F.plainAttrs_list PySem.F.slot_list_append PySem.F.type_list_append mt_append (pv 13) (pa_cons (pv 12) pa_nil))))))
            (pss_cons (ps_if (pt_cmpR (op_neD hr.units) (pe_lc (own := [("some", 13)]) (tt := tYes) (g := (gName 13)) rfl sc_law.nd (pi_list (pv 10)) (blkOk_by (N := N_law) (sc := defScope st_law) (by decide +kernel)) (fun _ _ _ _ _ => (pg_name (i := 13) sc_law.nd rfl (.inl rfl))) (fun _ _ _ _ _ => pts_nil) (fun _ _ _ _ _ => pe_to (pe_ix ix_list (pv 13) (pe_un un_neg pe_int) (fun _ _ => rfl)))) (pe_listRg rfl rfl B.n_list (prg_1 rfl B.n_range (pe_callB call_len_seq rfl B.n_len PySem.boot_len (pa_cons (pv 10) pa_nil)))) (nomark _)) (
              (pss_one (ps_ret pe_bl))) pss_nil)
            (pss_cons (ps_for PassesOwn.never rfl (pi_list (pv 9)) (pg_name (i := 11) sc_law.nd rfl (.inl rfl)) (
              (pss_one (ps_expr (pe_bm PySem.F.plainAttrs_list PySem.F.slot_list_append PySem.F.type_list_append mt_append (pv 11) (pa_cons (pe_lst (pa_cons pe_str pa_nil)) pa_nil))))))
            (pss_one (ps_expr (pe_bm PySem.F.plainAttrs_list PySem.F.slot_list_append PySem.F.type_list_append mt_append (pv 9) (pa_cons (pe_lst pa_nil) pa_nil))))))))))) pss_nil))))))))))))))))
      (pss_one (ps_ret (pe_cmpR (op_eqD hr.units) (pe_g c_tree_places g (hr.mono (by decide)) passX0 (pa_cons (pe_disp (pps_cons pe_str (pe_lst (pa_cons pe_str pa_nil)) pps_nil) rfl rfl (List.cons_ne_nil _ _) (by decide)) pa_nil)) (pe_lst (pa_cons (pe_lst pa_nil) pa_nil)) (nomark _))))), ?_⟩
  refine ⟨.ref a, rfl, a, _, rfl, .inl ha, _, _, rfl, _, _, rfl, ?_⟩
  obtain ⟨n, hn, n8⟩ : ∃ n : Int, (if (if ((ns.map V.int).length : Int) < 5 then ((ns.map V.int).length : Int) else 5) > 1 then (if ((ns.map V.int).length : Int) < 5 then ((ns.map V.int).length : Int) else 5) else 1) = n ∧ 0 ≤ n ∧ n ≤ 5 := ⟨_, rfl, by omega⟩
  rw [hn]
  refine ⟨n, rfl, by omega, by omega, ?_⟩
  refine for_it walk_range (fun i σ H' => ∃ o1 o2 o3 o4 o5 o6 o7 o8 o9 o10 o11 o12 o13 : Option V, σ = [some (.ref a), o1, o2, o3, o4, o5, o6, o7, o8, o9, o10, o11, o12, o13] ∧ Grow [] H H') ⟨none, none, none, none, none, none, none, none, none, none, none, none, none, rfl, Grow.refl _ _⟩ (fun _ _ _ _ _ => trivial) (fun i x σ H2 H3 hi hp hy => ?_) (fun σ H2 hp => ?_)
  · obtain ⟨o1, o2, o3, o4, o5, o6, o7, o8, o9, o10, o11, o12, o13, rfl, gr⟩ := hp
    obtain ⟨rfl, rfl⟩ := hy
    refine ⟨.ref a, rfl, .int (0 + i), rfl, a, ns, i, by show [V.ref a, V.int (0 + (i : Int))] = [V.ref a, V.int (i : Int)]; rw [Int.zero_add], gr.seq0 ha, by omega, fun p H4 fp g4 pot4 => ?_⟩
    have gr4 := gr.trans g4
    have fpH := gr.fresh (by simp) fp
    refine ⟨.ref p, rfl, p, 0, rfl, pot4, by decide, fun d H5 bs ws fd g5 hat gv fq pot5 => ?_⟩
    have gr5 : Grow [] H H5 := ((gr4.any (ex := [p])).trans g5).drop fpH
    have dp := pot4.other fd
    have qp : ∀ q ∈ bs, q.1 ≠ p := fun q hq => pot4.other (fq q hq)
    dsimp only [gName]
    refine seq_cut (S := tIfS _ _ _) (fun σ' H' => ∃ (d : Addr) (bs : List (Addr × (Str × List Str))) (ws : List Str), σ' = [some (.ref a), some (.int (0 + i)), some (.ref p), some (.ref d), o4, o5, o6, o7, o8, o9, o10, o11, o12, o13] ∧ Grow [] H H' ∧ GivAt H' d bs ∧ Giv bs ws) (fun σ' H' hJ => ?_) fun R hR => ?_
    · obtain ⟨d, bs, ws, rfl, g', hat', gv'⟩ := hJ
      have tb : ∀ {H' : Hp} {T0 : Addr}, Grow [] H H' → TabG H T0 → TabG H' T0 := fun g t => g.tabs _ t
      have gd := gv'.gd
      obtain ⟨pok, plen⟩ := parts_ok gv'
      obtain ⟨s1, s2, s3⟩ := giv_show gv'
      obtain ⟨u1, u2, u3, u4⟩ := due_show gv'
      have pnm := parts_nm gv'
      refine ⟨.ref d, rfl, d, bs, ws, rfl, hat', gv', fun Pd H6 ts fPd g6 eP hP em => ?_⟩
      have em : ts.map (fun t => t.2.2) = partsOf (bs.map Prod.snd) := em.trans (parts_same gd)
      have lts : ts.length ≤ 400 := by rw [← em, List.length_map] at plen; exact plen
      have nmt : ∀ t ∈ ts, NmOk t.2.2.1 ∧ NmOk t.2.2.2 := fun t ht => pnm _ (by rw [← em]; exact List.mem_map.mpr ⟨t, ht, rfl⟩)
      have g06 := g'.trans g6
      refine ⟨.ref Pd, rfl, Pd, ts, rfl, eP, hP, nmt, lts, fun H7 g7 => ?_⟩
      rw [em]
      have g07 := g06.trans g7
      have eP7 := g7.lst (by simp) eP
      have hP7 : ∀ t ∈ ts, PtAt H7 t := fun t ht => (hP t ht).grow0 g7
      have hat7 := (hat'.grow0 g6).grow0 g7
      obtain ⟨cr, ecr⟩ : ∃ cr, crs (partsOf (bs.map Prod.snd)) = cr := ⟨_, rfl⟩
      have dueN : cr = true → dueD bs = .str "Cross" := fun z => by unfold dueD; rw [ecr, if_pos z]
      have dueY : cr = false → dueD bs = .list ((treeOf (bs.map Prod.snd)).map encTr) := fun z => by unfold dueD; rw [ecr, z, if_neg Bool.false_ne_true]
      rw [ecr]
      dsimp only [gName]
      refine seq_cut (S := tAsg _ _) (fun σ' H' => ∃ v : V, σ' = [some (.ref a), some (.int (0 + i)), some (.ref p), some (.ref d), some (.ref Pd), some (.bl cr), some v, o7, o8, o9, o10, o11, o12, o13] ∧ Grow [] H7 H' ∧ Dp K H' v (dueD bs)) (fun σ' H8 hJ => ?_) fun R hR => ?_
      · obtain ⟨v, rfl, g8, dv⟩ := hJ
        have g08 := g07.trans g8
        have hat8 := hat7.grow0 g8
        have eP8 := g8.lst (by simp) eP7
        have hP8 : ∀ t ∈ ts, PtAt H8 t := fun t ht => (hP7 t ht).grow0 g8
        refine ⟨.ref d, rfl, d, kvB bs, givD bs, rfl, hat8.1, kvd_B hat8.2, s1, s2, s3, ?_⟩
        refine ⟨2, rfl, by omega, by omega, ?_⟩
        refine for_it walk_range (fun k σ H' => ∃ o8 o9 o10 o11 o12 o13 : Option V, σ = [some (.ref a), some (.int (0 + i)), some (.ref p), some (.ref d), some (.ref Pd), some (.bl cr), some v, some (.str (dicD (givD bs)).shown), o8, o9, o10, o11, o12, o13] ∧ Grow [] H8 H') ⟨_, _, _, _, _, _, rfl, Grow.refl _ _⟩ (fun _ _ _ _ _ => trivial) (fun k x σ Ha Hb hk hp hy => ?_) (fun σ Ha hp => ?_)
        · obtain ⟨o8, o9, o10, o11, o12, o13, rfl, ga⟩ := hp
          obtain ⟨rfl, rfl⟩ := hy
          have g0a := g08.trans ga
          have hata := hat8.grow0 ga
          have same : ∀ s : Str, (!decide (V.str s = V.str s)) = false := fun s => by rw [decide_eq_true rfl]; rfl
          refine ⟨.ref d, rfl, d, bs, ws, rfl, tb g0a t1, tb g0a t2, tb g0a t3, tb g0a t4, tb g0a t5, hata, gv', fun cr0 R0 Hc Ls fR gc trs frs eLs => ?_, fun cr1 Hc gc => ?_⟩
          · rw [ecr] at cr0
            have hatc := hata.grow0 gc
            have g8c := ga.trans gc
            have dt : Dp K Hc (.ref R0) (dueD bs) := by
              rw [dueY cr0, ← eLs]
              exact .lst (.inl (.inl trs.lst)) (trs_dp trs.each)
            refine ⟨.ref R0, rfl, _, _, rfl, dt, u1, u2, u3, u4, v, rfl, _, _, rfl, Dp.grow g8c dv, u1, u2, u3, u4, rfl, _, rfl, ?_⟩
            rw [same]
            refine iteF ⟨.ref d, rfl, d, kvB bs, givD bs, rfl, hatc.1, kvd_B hatc.2, s1, s2, s3, .str _, rfl, rfl, _, rfl, ?_⟩
            rw [same]
            refine iteF ⟨_, rfl, cr, rfl, ?_⟩
            rw [cr0]
            have tk : TreeOk bs (Ls.map trD) := by rw [eLs]; exact (tree_ok gv' (ecr.trans cr0)).sorted
            refine iteT ⟨.ref d, rfl, .ref Pd, rfl, .ref R0, rfl, d, Pd, R0, bs, ws, ts, Ls, rfl, hatc, gv', g8c.lst (by simp) eP8, fun t ht => (hP8 t ht).grow0 g8c, em, trs.lst, trs.each, tk, fun Hd gd' => ⟨true, rfl, iteF ?_⟩⟩
            have lLs : Ls.length ≤ 122 := by
              obtain ⟨⟨_, _, _, _, tr⟩, few, _⟩ := tk
              have h1 := tr.len
              rw [List.length_map] at h1
              omega
            have lrow : ∀ l ∈ Ls, l.2.length ≤ 121 := fun l hl => by
              have h1 := (tk.fine (trD l) (List.mem_map.mpr ⟨l, hl, rfl⟩)).1
              unfold trD at h1
              rwa [List.length_map] at h1
            obtain ⟨nde, apart⟩ := tr_apart trs.nd
            have les : ∀ m, ((Ls.take m).flatMap fun l => l.2).length ≤ 14762 := fun m => by
              have h1 := flat_len (m := 121) (Ls := Ls.take m) fun l hl => lrow l (List.mem_of_mem_take hl)
              have h2 := Nat.mul_le_mul_right 121 (Nat.le_trans (List.length_take_le' m Ls) lLs)
              omega
            have trd := trs.grow0 gd'
            have g8d := g8c.trans gd'
            refine ⟨by show 0 ≤ sizeLine; decide, fun Rw nRw => ?_⟩
            have gRw : Grow [] Hd (upd Hd Rw (.lst [])) := grow_new nRw
            have eRw0 : upd Hd Rw (.lst []) Rw = some (.lst ([] : List V)) := upd_same
            generalize upd Hd Rw (.lst []) = He at gRw eRw0 ⊢
            refine ⟨.ref R0, rfl, R0, rfl, ⟨_, .inl (.inl (gRw.lst (by simp) trd.lst))⟩, ?_⟩
            refine for_it (walk_list (xs := Ls.map fun t => V.ref t.1)) (fun m σ H' => ∃ o11 : Option V, σ = [some (.ref a), some (.int (0 + i)), some (.ref p), some (.ref d), some (.ref Pd), some (.bl false), some v, some (.str (dicD (givD bs)).shown), some (.int (0 + k)), some (.ref R0), some (.ref Rw), o11, o12, o13] ∧ Grow [] Hd H' ∧ H' Rw = some (.lst (((Ls.take m).flatMap fun l => l.2).map fun e => V.ref e.1)))
              ⟨_, rfl, gRw, eRw0⟩ (fun m σ H' _ h => by
                obtain ⟨_, _, g', _⟩ := h
                exact .inl (.inl (g'.lst (by simp) trd.lst))) (fun m x σ Hf Hg hm hp hy => ?_) (fun σ Hf hp => ?_)
            · obtain ⟨o11, rfl, gf, ef⟩ := hp
              obtain ⟨rfl, ex⟩ := hy
              rw [List.length_map] at hm
              obtain ⟨l, el⟩ : ∃ l, Ls[m]? = some l := ⟨_, List.getElem?_eq_getElem hm⟩
              rw [List.getElem?_map, el] at ex
              cases ex
              have hl := gf.lst (by simp) (trd.each l (List.mem_of_getElem? el)).1
              have h1 := les m
              have h2 := lrow l (List.mem_of_getElem? el)
              refine ⟨.ref Rw, rfl, tyl ef, .ref l.1, rfl, Rw, l.1, _, _, rfl, rfl, ef, hl, by rw [List.length_map, List.length_map]; unfold sizeLine; omega, _, rfl, gf.put (fresh_none nRw) ef (fun ps z => by cases z), ?_⟩
              rw [upd_same, List.take_add_one, el, List.flatMap_append, List.map_append (l₂ := List.flatMap _ _)]
              show _ = some (HO.lst (_ ++ List.map _ (List.flatMap _ [l])))
              rw [List.flatMap_cons, List.flatMap_nil, List.append_nil]
            · obtain ⟨o11, rfl, gf, ef⟩ := hp
              rw [List.length_map, List.take_length] at ef
              have hes := les Ls.length
              rw [List.take_length] at hes
              obtain ⟨es, ees⟩ : ∃ es, (Ls.flatMap fun l => l.2) = es := ⟨_, rfl⟩
              rw [ees] at ef nde apart hes
              have esat : ∀ e ∈ es, Hf e.1 = some (.lst (e.2.map V.str)) := fun e he => by
                rw [← ees] at he
                obtain ⟨l, hl, he⟩ := List.mem_flatMap.mp he
                exact gf.lst (by simp) ((trd.each l hl).2 e he)
              have esadd : ∀ e ∈ es, e.1 ∈ trAdd Ls := fun e he => tr_in (by rw [ees]; exact he)
              have esf : ∀ e ∈ es, Fresh H8 e.1 := fun e he => ga.fresh (by simp) (frs _ (esadd e he))
              have lsf : ∀ l ∈ Ls, Fresh H8 l.1 := fun l hl => ga.fresh (by simp) (frs _ (tr_at hl))
              have R0f : Fresh H8 R0 := ga.fresh (by simp) fR
              have esR : ∀ e ∈ es, R0 ≠ e.1 := fun e he z => trs.ne (by rw [z]; exact esadd e he)
              have esRw : ∀ e ∈ es, Rw ≠ e.1 := fun e he z => by
                have := esat e he
                rw [← z, ef] at this
                have hd : Hd e.1 = some (.lst (e.2.map V.str)) := by
                  rw [← ees] at he
                  obtain ⟨l, hl, he⟩ := List.mem_flatMap.mp he
                  exact (trd.each l hl).2 e he
                rw [← z, nRw] at hd
                cases hd
              have nm12 : ∀ e ∈ es, e.2.length ≤ 12 := fun e he => by
                rw [← ees] at he
                obtain ⟨l, hl, he⟩ := List.mem_flatMap.mp he
                exact ((tk.fine (trD l) (List.mem_map.mpr ⟨l, hl, rfl⟩)).2 e.2 (List.mem_map.mpr ⟨e, he, rfl⟩)).2
              have g8f := g8d.trans gf
              refine ⟨.ref Rw, rfl, Rw, _, rfl, .inl (.inl ef), ?_⟩
              refine for_it (walk_enum (xs := es.map fun e => V.ref e.1)) (fun m σ H' => ∃ o12 o13 : Option V, σ = [some (.ref a), some (.int (0 + i)), some (.ref p), some (.ref d), some (.ref Pd), some (.bl false), some v, some (.str (dicD (givD bs)).shown), some (.int (0 + k)), some (.ref R0), some (.ref Rw), o11, o12, o13] ∧ Grow [] H8 H' ∧ H' Rw = some (.lst (es.map fun e => V.ref e.1)) ∧ H' R0 = some (.lst (Ls.map fun t => V.ref t.1)) ∧
                  (∀ l ∈ Ls, H' l.1 = some (.lst (l.2.map fun e => V.ref e.1))) ∧ ∀ j e, es[j]? = some e → H' e.1 = some (.lst (e.2.map V.str ++ if j < m then [V.int (j : Nat)] else [])))
                ⟨_, _, rfl, g8f, ef, gf.lst (by simp) trd.lst, (fun l hl => gf.lst (by simp) (trd.each l hl).1), fun j e he => by rw [if_neg (Nat.not_lt_zero _), List.append_nil]; exact esat e (List.mem_of_getElem? he)⟩ (fun m σ H' _ h => by
                  obtain ⟨_, _, _, _, g', _⟩ := h
                  exact .inl (.inl g')) (fun m x σ Hg Hh hm hp hy => ?_) (fun σ Hg hp => ?_)
              · obtain ⟨o12, o13, rfl, gg, eRw, eR0, eLl, eEs⟩ := hp
                obtain ⟨Tn, x1, x2, rfl, nT, rfl, e1', e2'⟩ := hy
                dsimp only at e1' e2'
                cases e1'
                rw [List.length_map] at hm
                obtain ⟨e, ee⟩ : ∃ e, es[m]? = some e := ⟨_, List.getElem?_eq_getElem hm⟩
                rw [List.getElem?_map, ee] at e2'
                cases e2'
                have hem := List.mem_of_getElem? ee
                have gT : Grow [] Hg (upd Hg Tn (.tup [V.int (m : Nat), V.ref e.1])) := grow_new nT
                refine ⟨Tn, _, rfl, .inl (.inl upd_same), rfl, _, _, rfl, _, _, rfl, rfl, ?_⟩
                have eT := gT.lst (by simp) (eEs m e ee)
                have eRw' := gT.lst (by simp) eRw
                have eR0' := gT.lst (by simp) eR0
                have eLl' : ∀ l ∈ Ls, _ := fun l hl => gT.lst (by simp) (eLl l hl)
                have eEs' : ∀ j e, es[j]? = some e → _ := fun j e he => gT.lst (by simp) (eEs j e he)
                have g8h := gg.trans gT
                generalize upd Hg Tn (.tup [V.int (m : Nat), V.ref e.1]) = Hi at gT eT eRw' eR0' eLl' eEs' g8h ⊢
                rw [if_neg (Nat.lt_irrefl _), List.append_nil] at eT
                have h12 := nm12 e hem
                refine ⟨.ref e.1, rfl, tyl eT, .int (m : Nat), rfl, e.1, _, _, rfl, rfl, eT, by rw [List.length_map]; unfold sizeLine; omega, _, _, rfl, g8h.put (esf e hem) eT (fun ps z => by cases z), by rw [upd_ne (esRw e hem)]; exact eRw', by rw [upd_ne (esR e hem)]; exact eR0', fun l hl => by rw [upd_ne (apart l hl e hem)]; exact eLl' l hl, fun j e2 he2 => ?_⟩
                by_cases c : j = m
                · subst c
                  rw [ee] at he2
                  cases he2
                  rw [upd_same, if_pos (Nat.lt_succ_self _)]
                · have ne : e2.1 ≠ e.1 := fun z => by
                    have h1 : (es.map Prod.fst)[j]? = some e2.1 := by rw [List.getElem?_map, he2]; rfl
                    have h2 : (es.map Prod.fst)[m]? = some e.1 := by rw [List.getElem?_map, ee]; rfl
                    have hj : j < (es.map Prod.fst).length := by
                      rw [List.length_map]
                      exact (List.getElem?_eq_some_iff.mp he2).1
                    exact c ((List.getElem?_inj (l := es.map Prod.fst) (i := j) (j := m) hj nde).mp (by rw [h1, h2, z]))
                  rw [upd_ne ne, eEs' j e2 he2]
                  by_cases cj : j < m
                  · rw [if_pos cj, if_pos (Nat.lt_succ_of_lt cj)]
                  · rw [if_neg cj, if_neg (by omega)]
              · obtain ⟨o12, o13, rfl, gg, eRw, eR0, eLl, eEs⟩ := hp
                rw [List.length_map] at eEs
                have eEs' : ∀ j e, es[j]? = some e → Hg e.1 = some (.lst (e.2.map V.str ++ [V.int (j : Nat)])) := fun j e he => by
                  have := eEs j e he
                  rwa [if_pos (List.getElem?_eq_some_iff.mp he).1] at this
                refine ⟨.ref Rw, rfl, Rw, rfl, ⟨_, .inl (.inl eRw)⟩, fun D1 nD => ?_⟩
                refine lc_filt (walk_list (xs := es.map fun e => V.ref e.1)) (List.range es.length) (fun _ => true) (fun j => V.int (j : Nat)) nD (by rw [List.length_map, List.length_range]) (by rw [List.length_range]; omega) (fun H' g => .inl (.inl (g.lst (by simp) eRw))) (fun m z x Hh Hi Pu Pn ez gh hy ku kn => ?_) (fun Hh gh eh => ?_)
                · obtain ⟨rfl, ex⟩ := hy
                  obtain ⟨hmr, ez2⟩ := List.getElem?_eq_some_iff.mp ez
                  rw [List.getElem_range] at ez2
                  subst ez2
                  rw [List.length_range] at hmr
                  obtain ⟨e, ee⟩ : ∃ e, es[m]? = some e := ⟨_, List.getElem?_eq_getElem hmr⟩
                  rw [List.getElem?_map, ee] at ex
                  cases ex
                  exact ⟨rfl, yes_if ⟨.ref e.1, rfl, 1, rfl, e.1, _, _, _, rfl, rfl, .inl (.inl (gh.lst (by simp) (eEs' m e ee))), L2.atI_last _ _, ku _ (Grow.refl _ _) rfl⟩⟩
                · rw [List.filter_eq_self.mpr (fun _ _ => rfl)] at eh
                  have g8h := gg.trans gh
                  refine ⟨.ref Rw, rfl, Rw, _, rfl, .inl (.inl (.inl (gh.lst (by simp) eRw))), _, rfl, ⟨by decide, by decide, by rw [List.length_map]; omega, by rw [List.length_map]; omega, by rw [List.length_map]; omega⟩, fun q1 nq1 => ?_⟩
                  have gq := grow_new (ex := []) (o := .lst (rgV 0 (((es.map fun e => V.ref e.1).length : Nat) : Int))) nq1
                  have eq1 : upd Hh q1 (.lst (rgV 0 (((es.map fun e => V.ref e.1).length : Nat) : Int))) q1 = some (.lst (((List.range es.length).map fun j => ((j : Nat) : Int)).map V.int)) := by
                    rw [upd_same, List.map_map]
                    unfold rgV
                    rw [List.length_map]
                    have : (((es.length : Nat) : Int) - 0).toNat = es.length := by omega
                    rw [this]
                    refine congrArg (fun z => some (HO.lst z)) (List.map_congr_left fun j _ => ?_)
                    show V.int (0 + (j : Nat)) = V.int (j : Nat)
                    rw [Int.zero_add]
                  generalize upd Hh q1 (.lst (rgV 0 (((es.map fun e => V.ref e.1).length : Nat) : Int))) = Hi at gq eq1 ⊢
                  have eh2 : Hi D1 = some (.lst (((List.range es.length).map fun j => ((j : Nat) : Int)).map V.int)) := by
                    rw [gq.lst (by simp) eh, List.map_map]
                    rfl
                  have f1 := fine_ints (ns := (List.range es.length).map fun j => ((j : Nat) : Int)) (k := 14762) (fun z hz => by
                    obtain ⟨j, hj, rfl⟩ := List.mem_map.mp hz
                    have := List.mem_range.mp hj
                    have : (10 : Nat) ^ 7 = 10000000 := by decide
                    omega) (by rw [List.length_map, List.length_range]; exact hes)
                  refine ⟨_, _, .lst (.inl (.inl eh2)) (dp_ints _), .lst (.inl (.inl eq1)) (dp_ints _), f1.shaped (by decide), f1.shaped (by decide), _, rfl, ?_⟩
                  rw [f1.eqv]
                  have g8i := g8h.trans gq
                  have ghi := gh.trans gq
                  have eR0i := ghi.lst (by simp) eR0
                  refine iteF ⟨.ref R0, rfl, R0, rfl, ⟨_, .inl (.inl eR0i)⟩, ?_⟩
                  refine for_it (walk_list (xs := Ls.map fun t => V.ref t.1)) (fun m σ H' => ∃ o11 : Option V, σ = [some (.ref a), some (.int (0 + i)), some (.ref p), some (.ref d), some (.ref Pd), some (.bl false), some v, some (.str (dicD (givD bs)).shown), some (.int (0 + k)), some (.ref R0), some (.ref Rw), o11, o12, o13] ∧ Grow [] H8 H' ∧ H' R0 = some (.lst (Ls.map fun t => V.ref t.1)) ∧ ∀ l ∈ Ls, ∃ zs, H' l.1 = some (.lst zs) ∧ zs.length ≤ 121 + m)
                    ⟨_, rfl, g8i, eR0i, fun l hl => ⟨_, ghi.lst (by simp) (eLl l hl), by rw [List.length_map]; exact lrow l hl⟩⟩ (fun m σ H' _ h => by
                      obtain ⟨_, _, _, g', _⟩ := h
                      exact .inl (.inl g')) (fun m x σ Hj Hk hm hp hy => ?_) (fun σ Hj hp => ?_)
                  · obtain ⟨o11, rfl, gj, eRj, eLj⟩ := hp
                    obtain ⟨rfl, ex⟩ := hy
                    rw [List.length_map] at hm
                    obtain ⟨l, el⟩ : ∃ l, Ls[m]? = some l := ⟨_, List.getElem?_eq_getElem hm⟩
                    rw [List.getElem?_map, el] at ex
                    cases ex
                    have lm := List.mem_of_getElem? el
                    obtain ⟨zs, ez, lz⟩ := eLj l lm
                    refine ⟨.ref l.1, rfl, tyl ez, by show 1 ≤ sizeLine; decide, fun O nO => ?_⟩
                    have gO : Grow [] Hk (upd Hk O (.lst [V.str "qu"])) := grow_new nO
                    have ez2 := gO.lst (by simp) ez
                    have eRk := gO.lst (by simp) eRj
                    have eLk : ∀ l ∈ Ls, ∃ zs, upd Hk O (.lst [V.str "qu"]) l.1 = some (.lst zs) ∧ zs.length ≤ 121 + m := fun l hl => by
                      obtain ⟨zs, e1, e2⟩ := eLj l hl
                      exact ⟨zs, gO.lst (by simp) e1, e2⟩
                    have g8k := gj.trans gO
                    dsimp only [tNil]
                    generalize upd Hk O (.lst [V.str "qu"]) = Hl at gO ez2 eRk eLk g8k ⊢
                    have R0l : R0 ≠ l.1 := fun z => trs.ne (by rw [z]; exact tr_at lm)
                    refine ⟨l.1, zs, _, rfl, rfl, ez2, by unfold sizeLine; omega, _, rfl, g8k.put (lsf l lm) ez2 (fun ps z => by cases z), by rw [upd_ne R0l]; exact eRk, fun l2 hl2 => ?_⟩
                    by_cases c : l2.1 = l.1
                    · exact ⟨zs ++ [.ref O], by rw [c, upd_same], by rw [List.length_append]; show zs.length + 1 ≤ _; omega⟩
                    · obtain ⟨ys, e1, e2⟩ := eLk l2 hl2
                      exact ⟨ys, by rw [upd_ne c]; exact e1, by omega⟩
                  · obtain ⟨o11, rfl, gj, eRj, _⟩ := hp
                    refine ⟨.ref R0, rfl, tyl eRj, by show 0 ≤ sizeLine; decide, fun O nO => ?_⟩
                    have gO : Grow [] Hj (upd Hj O (.lst [])) := grow_new nO
                    have eRk := gO.lst (by simp) eRj
                    have g8k := gj.trans gO
                    dsimp only [tNil]
                    generalize upd Hj O (.lst []) = Hl at gO eRk g8k ⊢
                    exact ⟨R0, _, _, rfl, rfl, eRk, by rw [List.length_map]; unfold sizeLine; omega, _, _, _, _, _, _, rfl, g8k.put R0f eRk (fun ps z => by cases z)⟩
          · rw [ecr] at cr1
            have hatc := hata.grow0 gc
            have g8c := ga.trans gc
            have dt : Dp K Hc (.str "Cross") (dueD bs) := by
              rw [dueN cr1]
              exact .str _
            refine ⟨.str "Cross", rfl, _, _, rfl, dt, u1, u2, u3, u4, v, rfl, _, _, rfl, Dp.grow g8c dv, u1, u2, u3, u4, rfl, _, rfl, ?_⟩
            rw [same]
            refine iteF ⟨.ref d, rfl, d, kvB bs, givD bs, rfl, hatc.1, kvd_B hatc.2, s1, s2, s3, .str _, rfl, rfl, _, rfl, ?_⟩
            rw [same]
            refine iteF ⟨_, rfl, cr, rfl, ?_⟩
            rw [cr1]
            exact iteF ⟨_, _, _, _, _, _, rfl, g8c⟩
        · obtain ⟨o8, o9, o10, o11, o12, o13, rfl, ga⟩ := hp
          exact ⟨_, _, _, _, _, _, _, _, _, _, _, _, _, rfl, g08.trans ga⟩
      · refine ⟨.bl cr, rfl, cr, rfl, ?_⟩
        by_cases c0 : cr = true
        · rw [c0]
          refine iteT ?_
          rw [c0] at hR
          exact hR _ _ ⟨.str "Cross", rfl, Grow.refl _ _, by rw [dueN c0]; exact .str _⟩
        · have c0 : cr = false := by simpa using c0
          rw [c0] at ecr hR ⊢
          obtain ⟨_, _, _, _, pr⟩ := parts_prts gv' ecr
          have tk := tree_ok gv' ecr
          refine iteF ⟨.ref Pd, rfl, Pd, ts, rfl, eP7, hP7, nmt, lts, fun i => ?_, fun Rd H8 Ds fRd g8 eRd hDs eDs => ?_⟩
          · rw [em]
            have := tree_pre pr i
            have := tk.few
            omega
          · rw [em] at eDs
            refine hR _ _ ⟨.ref Rd, rfl, g8, ?_⟩
            rw [dueY c0]
            unfold treeOf
            rw [← eDs]
            exact .lst (.inl (.inl eRd)) (trs_dp hDs)
    · refine if_cut (fun H' => ∃ c, Pot H' p c ∧ c ≤ 9001 ∧ Grow [] H H') (fun H' => Grow [p] H5 H' ∧ Grow [] H H') (fun H' h' => ?_) (fun H' h' => ?_) fun RA RB hA hB => ?_
      · obtain ⟨c0, potA, hc0, grA⟩ := h'
        refine ⟨.ref p, rfl, p, 14, 20, c0, rfl, by decide, by decide, by decide, potA, by omega, fun R0 H6 d N0 bs ws fR g6' eR hat6 gv' fd2 fq2 pot6 => ?_⟩
        have gr6 : Grow [] H H6 := ((grA.any (ex := [p])).trans g6').drop fpH
        exact ⟨R0, _, 0, .ref d, rfl, rfl, .inl (.inl eR), rfl, hR _ _ ⟨d, bs, ws, rfl, gr6, hat6, gv'⟩⟩
      · obtain ⟨g5', grA⟩ := h'
        exact hR _ _ ⟨d, bs, ws, rfl, grA, hat.grow g5' (by simpa using dp) fun q hq => by simpa using qp q hq, gv⟩
      · refine ⟨.int (0 + i), rfl, rfl, _, rfl, ?_⟩
        by_cases c1 : (0 : Int) + (i : Nat) = 0
        · rw [show decide (V.int (0 + (i : Nat)) = V.int 0) = true from decide_eq_true (congrArg V.int c1)]
          refine iteT ⟨.ref p, rfl, p, 4, _, rfl, by decide, by decide, by decide, pot5, fun v2 H6 u0 u1 g6 pot6 => ⟨rfl, _, rfl, ?_⟩⟩
          have gr6 : Grow [] H H6 := ((gr5.any (ex := [p])).trans g6).drop fpH
          by_cases c2 : v2 = 3
          · rw [show decide (V.int v2 = V.int 3) = true from decide_eq_true (congrArg V.int c2)]
            exact iteT (hA H6 ⟨_, pot6, by decide, gr6⟩)
          · rw [show decide (V.int v2 = V.int 3) = false from decide_eq_false fun y => c2 (V.int.inj y)]
            exact iteF (hB H6 ⟨g6, gr6⟩)
        · rw [show decide (V.int (0 + (i : Nat)) = V.int 0) = false from decide_eq_false fun y => c1 (V.int.inj y)]
          exact iteF (hB H5 ⟨Grow.refl _ _, gr5⟩)
  · obtain ⟨o1, o2, o3, o4, o5, o6, o7, o8, o9, o10, o11, o12, o13, rfl, gr⟩ := hp
    refine fun d0 nd0 => ⟨by show 1 ≤ sizeLine; decide, fun L0 nL => ?_⟩
    have gd : Grow [] H2 (upd H2 d0 (.dK [])) := grow_new nd0
    have ed : upd H2 d0 (.dK []) d0 = some (.dK []) := upd_same
    generalize upd H2 d0 (.dK []) = H3 at gd ed nL ⊢
    have gL : Grow [] H3 (upd H3 L0 (.lst [.str "bo"])) := grow_new nL
    have eL : upd H3 L0 (.lst [.str "bo"]) L0 = some (.lst [V.str "bo"]) := upd_same
    have ed4 : upd H3 L0 (.lst [.str "bo"]) d0 = some (.dK []) := by rw [upd_ne (ne_of_none ed nL)]; exact ed
    generalize upd H3 L0 (.lst [.str "bo"]) = H4 at gL eL ed4 ⊢
    have Ld : L0 ≠ d0 := fun y => by rw [y, ed4] at eL; cases eL
    refine ⟨ed4, [((Sum.inr "an" : Key), V.ref L0)], rfl, by show 1 ≤ 15; decide, ?_⟩
    have em0 : mergeK [] [((Sum.inr "an" : Key), V.ref L0)] = kvB [(L0, ("an", ["bo"]))] := rfl
    rw [em0]
    have g5 : Grow [] H (upd H4 d0 (.dK (kvB [(L0, ("an", ["bo"]))]))) := ((gr.trans gd).trans gL).put (gr.fresh0 nd0) ed4 fun ps z => by cases z
    have hat : GivAt (upd H4 d0 (.dK (kvB [(L0, ("an", ["bo"]))]))) d0 [(L0, ("an", ["bo"]))] := ⟨upd_same, fun q hq => by
      rw [List.mem_singleton.mp hq]
      show upd H4 d0 _ L0 = some (.lst [V.str "bo"])
      rw [upd_ne Ld]
      exact eL⟩
    have gv : Giv [(L0, (("an" : Str), (["bo"] : List Str)))] ["bo"] := giv_of (by simp) (by simp) (by simp) (fun q hq => by rw [List.mem_singleton.mp hq]; show isNm "an" = true; decide +kernel) (fun q hq => by rw [List.mem_singleton.mp hq]) ⟨by decide +kernel, by decide +kernel, by decide⟩ (by decide)
    generalize upd H4 d0 (.dK (kvB [(L0, ("an", ["bo"]))])) = H5 at g5 hat ⊢
    have tb : ∀ {T0 : Addr}, TabG H T0 → TabG H5 T0 := fun t => g5.tabs _ t
    have em1 : partsOf ([(L0, (("an" : Str), (["bo"] : List Str)))].map Prod.snd) = [] := List.eq_nil_iff_forall_not_mem.mpr fun pp hpp => by
      obtain ⟨_, q2, q3, q4⟩ := part_first gv.gd hpp
      obtain ⟨_, s2, _⟩ := part_sub gv.gd hpp
      obtain ⟨x, hx⟩ := List.exists_mem_of_ne_nil _ q2
      have en : namesOf ([(L0, (("an" : Str), (["bo"] : List Str)))].map Prod.snd) = ([("an" : Str)] : List Str) := List.perm_singleton.mp (sortS_perm _)
      have hx2 := s2 x hx
      rw [en] at hx2 q4
      rw [List.mem_singleton.mp hx2] at hx
      exact q4 hx
    refine ⟨d0, _, ["bo"], rfl, tb t1, tb t2, tb t3, tb t4, tb t5, hat, gv, fun _ R H6 Ls fR g6 trs _ em => ⟨by show 0 ≤ sizeLine; decide, fun E1 nE1 => ⟨by show 1 ≤ sizeLine; decide, fun E2 nE2 => ?_⟩⟩, fun cr => ?_⟩
    · have et : treeOf ([(L0, (("an" : Str), (["bo"] : List Str)))].map Prod.snd) = [[]] := by
        unfold treeOf
        rw [em1]
        exact List.perm_singleton.mp (List.mergeSort_perm _ _)
      rw [et] at em
      have gE : Grow [] H6 (upd (upd H6 E1 (.lst [])) E2 (.lst [.ref E1])) := (grow_new nE1).new nE2
      have eE2 : upd (upd H6 E1 (.lst [])) E2 (.lst [.ref E1]) E2 = some (.lst [V.ref E1]) := upd_same
      have eE1 : upd (upd H6 E1 (.lst [])) E2 (.lst [.ref E1]) E1 = some (.lst ([] : List V)) := by rw [upd_ne (ne_of_none upd_same nE2)]; exact upd_same
      generalize upd (upd H6 E1 (.lst [])) E2 (.lst [.ref E1]) = H7 at gE eE2 eE1 ⊢
      have d1 : Dp K H7 (.ref R) (.list ((Ls.map trD).map encTr)) := .lst (.inl (.inl (gE.lst (by simp) trs.lst))) (trs_dp fun t ht => (trs.each t ht).grow0 gE)
      have d2 : Dp K H7 (.ref E2) (.list [.list []]) := .lst (.inl (.inl eE2)) (.cons (dp_book (xs := []) (.inl (.inl eE1))) .nil)
      rw [em] at d1
      exact ⟨_, _, d1, d2, rfl, rfl, q _ ((g5.trans g6).trans gE)⟩
    · rw [em1] at cr
      cases cr
end
theorem law_start {K : PySem.W.Frag} {H : Hp} {a : Addr} {ns : List Int} {c1 c2 c3 c4 c5 : Addr × Addr} (t : ∀ p ∈ [c1, c2, c3, c4, c5], TabG H p.2) (_ : ns.length ≤ 63) (_ : ∀ z ∈ ns, Builtin.Int.intBits z ≤ 1048576) (h : SqL K H a (ns.map V.int)) :
    spLaw K c1.2 c2.2 c3.2 c4.2 c5.2 [.ref a] H (fun v _ => v = .bl true) E0 := ⟨a, ns, rfl, t c1 (by simp), t c2 (by simp), t c3 (by simp), t c4 (by simp), t c5 (by simp), h, fun _ _ => rfl⟩

end Lw
namespace Lw
open PySem PySem.Spec PyProof.Rows L2 GxR Gx
/-! ### the head -/
def d_is_name : He.DefD := ⟨("is_name", none), "is_name", "is_name", defArgs st_is_name, defBody st_is_name, defScope st_is_name, [], []⟩
def d_are_unlike_names : He.DefD := ⟨("are_unlike_names", none), "are_unlike_names", "are_unlike_names", defArgs st_are_unlike_names, defBody st_are_unlike_names, defScope st_are_unlike_names, [], []⟩
def d_is_book : He.DefD := ⟨("is_book", none), "is_book", "is_book", defArgs st_is_book, defBody st_is_book, defScope st_is_book, [], []⟩
def d_places_of : He.DefD := ⟨("places_of", none), "places_of", "places_of", defArgs st_places_of, defBody st_places_of, defScope st_places_of, [], []⟩
def d_tree_places : He.DefD := ⟨("tree_places", none), "tree_places", "tree_places", defArgs st_tree_places, defBody st_tree_places, defScope st_tree_places, [], []⟩
def d_are_given : He.DefD := ⟨("are_given", none), "are_given", "are_given", defArgs st_are_given, defBody st_are_given, defScope st_are_given, [], []⟩
def d_check_given : He.DefD := ⟨("check_given", none), "check_given", "check_given", defArgs st_check_given, defBody st_check_given, defScope st_check_given, [], []⟩
def d_pairs_by_others : He.DefD := ⟨("pairs_by_others", none), "pairs_by_others", "pairs_by_others", defArgs st_pairs_by_others, defBody st_pairs_by_others, defScope st_pairs_by_others, [], []⟩
def d_partings_by : He.DefD := ⟨("partings_by", none), "partings_by", "partings_by", defArgs st_partings_by, defBody st_partings_by, defScope st_partings_by, [], []⟩
def d_share_name : He.DefD := ⟨("share_name", none), "share_name", "share_name", defArgs st_share_name, defBody st_share_name, defScope st_share_name, [], []⟩
def d_do_cross : He.DefD := ⟨("do_cross", none), "do_cross", "do_cross", defArgs st_do_cross, defBody st_do_cross, defScope st_do_cross, [], []⟩
def d_some_cross : He.DefD := ⟨("some_cross", none), "some_cross", "some_cross", defArgs st_some_cross, defBody st_some_cross, defScope st_some_cross, [], []⟩
def d_places_by : He.DefD := ⟨("places_by", none), "places_by", "places_by", defArgs st_places_by, defBody st_places_by, defScope st_places_by, [], []⟩
def d_fits : He.DefD := ⟨("fits", none), "fits", "fits", defArgs st_fits, defBody st_fits, defScope st_fits, [], []⟩
def d_law_pot : He.DefD := ⟨("_law_pot", none), "_law_pot", "_law_pot", defArgs st_law_pot, defBody st_law_pot, defScope st_law_pot, [], []⟩
def d_law_take : He.DefD := ⟨("_law_take", none), "_law_take", "_law_take", defArgs st_law_take, defBody st_law_take, defScope st_law_take, [], []⟩
def d_law_some : He.DefD := ⟨("_law_some", none), "_law_some", "_law_some", defArgs st_law_some, defBody st_law_some, defScope st_law_some, [], []⟩
def d_law_names : He.DefD := ⟨("_law_names", none), "_law_names", "_law_names", defArgs st_law_names, defBody st_law_names, defScope st_law_names, [], []⟩
def d_law_web : He.DefD := ⟨("_law_web", none), "_law_web", "_law_web", defArgs st_law_web, defBody st_law_web, defScope st_law_web, [], []⟩
def d_law_gone : He.DefD := ⟨("_law_gone", none), "_law_gone", "_law_gone", defArgs st_law_gone, defBody st_law_gone, defScope st_law_gone, [], []⟩
def d_law_heard : He.DefD := ⟨("_law_heard", none), "_law_heard", "_law_heard", defArgs st_law_heard, defBody st_law_heard, defScope st_law_heard, [], []⟩
def d_law_given : He.DefD := ⟨("_law_given", none), "_law_given", "_law_given", defArgs st_law_given, defBody st_law_given, defScope st_law_given, [], []⟩
def d_law_ahead : He.DefD := ⟨("_law_ahead", none), "_law_ahead", "_law_ahead", defArgs st_law_ahead, defBody st_law_ahead, defScope st_law_ahead, [], []⟩
def d_law_pairs : He.DefD := ⟨("_law_pairs", none), "_law_pairs", "_law_pairs", defArgs st_law_pairs, defBody st_law_pairs, defScope st_law_pairs, [], []⟩
def d_law_partings : He.DefD := ⟨("_law_partings", none), "_law_partings", "_law_partings", defArgs st_law_partings, defBody st_law_partings, defScope st_law_partings, [], []⟩
def d_law_meet : He.DefD := ⟨("_law_meet", none), "_law_meet", "_law_meet", defArgs st_law_meet, defBody st_law_meet, defScope st_law_meet, [], []⟩
def d_law_cross : He.DefD := ⟨("_law_cross", none), "_law_cross", "_law_cross", defArgs st_law_cross, defBody st_law_cross, defScope st_law_cross, [], []⟩
def d_law_places : He.DefD := ⟨("_law_places", none), "_law_places", "_law_places", defArgs st_law_places, defBody st_law_places, defScope st_law_places, [], []⟩
def d_law_kind : He.DefD := ⟨("_law_kind", none), "_law_kind", "_law_kind", defArgs st_law_kind, defBody st_law_kind, defScope st_law_kind, [], []⟩
def d_law_told : He.DefD := ⟨("_law_told", none), "_law_told", "_law_told", defArgs st_law_told, defBody st_law_told, defScope st_law_told, [], []⟩
def d_law_crosses : He.DefD := ⟨("_law_crosses", none), "_law_crosses", "_law_crosses", defArgs st_law_crosses, defBody st_law_crosses, defScope st_law_crosses, [], []⟩
def d_law_tree_right : He.DefD := ⟨("_law_tree_right", none), "_law_tree_right", "_law_tree_right", defArgs st_law_tree_right, defBody st_law_tree_right, defScope st_law_tree_right, [], []⟩
def d_law : He.DefD := ⟨("law", none), "law", "law", defArgs st_law, defBody st_law, defScope st_law, [], []⟩
def hdDefs : List He.DefD := [d_is_name, d_are_unlike_names, d_is_book, d_places_of, d_tree_places, d_are_given, d_check_given, d_pairs_by_others, d_partings_by, d_share_name, d_do_cross, d_some_cross, d_places_by, d_fits, d_law_pot, d_law_take, d_law_some, d_law_names, d_law_web, d_law_gone, d_law_heard, d_law_given, d_law_ahead, d_law_pairs, d_law_partings, d_law_meet, d_law_cross, d_law_places, d_law_kind, d_law_told, d_law_crosses, d_law_tree_right, d_law]
def hdFacts : List He.Fa := [.glo "is_name", .glo "are_unlike_names", .glo "is_book", .glo "places_of", .glo "tree_places", .glo "are_given", .glo "check_given", .glo "pairs_by_others", .glo "partings_by", .glo "share_name", .glo "do_cross", .glo "some_cross", .glo "places_by", .glo "fits", .glo "_law_pot", .glo "_law_take", .glo "_law_some", .glo "_law_names", .glo "_law_web", .glo "_law_gone", .glo "_law_heard", .glo "_law_given", .glo "_law_ahead", .glo "_law_pairs", .glo "_law_partings", .glo "_law_meet", .glo "_law_cross", .glo "_law_places", .glo "_law_kind", .glo "_law_told", .glo "_law_crosses", .glo "_law_tree_right", .glo "law", .free "ValueError", .free "all", .free "any", .free "dict", .free "enumerate", .free "int", .free "isinstance", .free "len", .free "list", .free "max", .free "min", .free "range", .free "repr", .free "set", .free "sorted", .free "str", .free "tuple", .free "type", .free "zip", .int "MOST_LETTERS" 8, .int "MOST_NAMES" 12, .int "MOST_WORDS" 20]
def hdTabs : List He.Defn := [("is_name", none), ("are_unlike_names", none), ("are_given", none), ("share_name", none), ("fits", none)]
def hdLoose : List Str := (["combinations", "ApartError", "NoName", "NoWeb", "NoHand", "NoRoad", "NoBook", "Unlike", "NoNumber", "NoNumbering", "NoSpot", "TooMany", "Twice", "Empty", "NoWord", "Alike", "NoMoment", "Faulty", "NoBooks", "NoParting"] : List Str) ++ (["Cross", "Common", "NoLine", "NoHeap", "NoText", "NoRow", "NoNet", "Unfinished", "MOST_LETTERS", "MOST_NAMES", "MOST_WORDS", "is_name", "are_unlike_names", "is_book", "places_of", "tree_places", "are_given", "check_given", "pairs_by_others", "partings_by"] : List Str) ++ (["share_name", "do_cross", "some_cross", "places_by", "fits", "_law_pot", "_law_take", "_law_some", "_law_names", "_law_web", "_law_gone", "_law_heard", "_law_given", "_law_ahead", "_law_pairs", "_law_partings", "_law_meet", "_law_cross", "_law_places", "_law_kind"] : List Str) ++ (["_law_told", "_law_crosses", "_law_tree_right"] : List Str)
abbrev hdRow : PySem.W.OpenRow := PySem.W.OpenLaw.row PySem.Challenge.rw_heardapart_k40_places_of_trees
abbrev hdView : Program := PySem.W.view hdRow.prog [68]
abbrev hdTop : DefRec := HandSHeadRun.topDef hdRow.prog 68
def hdEx : PySem.W.Frag → Bool := fun K => He.eqO (PySem.W.nsIn K mainGlobals "combinations") (some (some (.type "itertools.combinations"))) && (xsB K excNames ["Cross"])
def hdTs : List He.Tab := []
abbrev hdHook : PySem.W.Hook := He.hookX 4 hdFacts hdDefs hdTs hdTabs hdEx
def hdOb (s : PySem.W.SharedT) : He.AlX := He.obsX 4 hdFacts hdDefs hdTs hdTabs hdEx (HandSHeadRun.getT s)
theorem hdOb_eq (s : PySem.W.SharedT) : hdOb s = hdHook.obs s.abs := He.obsX_eq (HandSHeadRun.getT_eq s)
theorem hdRun (w : World) : HandSHeadRun.RunEqI hdRow hdView hdHook hdOb 12000 hdLoose w := by
  unfold HandSHeadRun.RunEqI
  kernel_rfl
theorem triples_none : TriplesOk (#[] : Array Value).toList := trivial
/-- the law's promise, from the head's word -/
theorem hd_all {w : World} {K : PySem.W.Frag} {h : Heap} {mg : Str → Option Value} {f : Addr} (X : K.In h) (G : h.Ns mainGlobals mg) (hfa : mg ("law" : Str) = some (.ref f)) (c : He.SaysX hdFacts hdDefs hdTs hdTabs hdEx w h K) :
    LawG PySem.Challenge.rw_heardapart_k40_places_of_trees w K 18 63 "script" mg f h := by
  have glo : ∀ x : Str, He.Fa.glo x ∈ hdFacts → mg x = some (.ref (He.ga K x)) := fun x hx => He.glo_ok X G (c.t.d.facts hx)
  have free : ∀ x : Str, He.Fa.free x ∈ hdFacts → mg x = none := fun x hx => He.free_ok X G (c.t.d.facts hx)
  have e := hfa.symm.trans (glo "law" (by simp [hdFacts]))
  cases e
  obtain ⟨fd_is_name, F_is_name⟩ := c.t.d.def_ 0 (d := d_is_name) rfl
  have D_is_name : DefIs K "is_name" "is_name" st_is_name _ fd_is_name _ := DefIs.of (p := ("is_name", none)) F_is_name
  have b_is_name : Binds K fd_is_name ["thing"] [] := D_is_name.binds fun _ _ _ _ _ us hl => match us, hl with | [_], _ => rfl
  have g_is_name := glo "is_name" (by simp [hdFacts])
  obtain ⟨fd_are_unlike_names, F_are_unlike_names⟩ := c.t.d.def_ 1 (d := d_are_unlike_names) rfl
  have D_are_unlike_names : DefIs K "are_unlike_names" "are_unlike_names" st_are_unlike_names _ fd_are_unlike_names _ := DefIs.of (p := ("are_unlike_names", none)) F_are_unlike_names
  have b_are_unlike_names : Binds K fd_are_unlike_names ["thing"] [] := D_are_unlike_names.binds fun _ _ _ _ _ us hl => match us, hl with | [_], _ => rfl
  have g_are_unlike_names := glo "are_unlike_names" (by simp [hdFacts])
  obtain ⟨fd_is_book, F_is_book⟩ := c.t.d.def_ 2 (d := d_is_book) rfl
  have D_is_book : DefIs K "is_book" "is_book" st_is_book _ fd_is_book _ := DefIs.of (p := ("is_book", none)) F_is_book
  have b_is_book : Binds K fd_is_book ["thing"] [] := D_is_book.binds fun _ _ _ _ _ us hl => match us, hl with | [_], _ => rfl
  have g_is_book := glo "is_book" (by simp [hdFacts])
  obtain ⟨fd_places_of, F_places_of⟩ := c.t.d.def_ 3 (d := d_places_of) rfl
  have D_places_of : DefIs K "places_of" "places_of" st_places_of _ fd_places_of _ := DefIs.of (p := ("places_of", none)) F_places_of
  have b_places_of : Binds K fd_places_of ["book"] [] := D_places_of.binds fun _ _ _ _ _ us hl => match us, hl with | [_], _ => rfl
  have g_places_of := glo "places_of" (by simp [hdFacts])
  obtain ⟨fd_tree_places, F_tree_places⟩ := c.t.d.def_ 4 (d := d_tree_places) rfl
  have D_tree_places : DefIs K "tree_places" "tree_places" st_tree_places _ fd_tree_places _ := DefIs.of (p := ("tree_places", none)) F_tree_places
  have b_tree_places : Binds K fd_tree_places ["books"] [] := D_tree_places.binds fun _ _ _ _ _ us hl => match us, hl with | [_], _ => rfl
  have g_tree_places := glo "tree_places" (by simp [hdFacts])
  obtain ⟨fd_are_given, F_are_given⟩ := c.t.d.def_ 5 (d := d_are_given) rfl
  have D_are_given : DefIs K "are_given" "are_given" st_are_given _ fd_are_given _ := DefIs.of (p := ("are_given", none)) F_are_given
  have b_are_given : Binds K fd_are_given ["thing"] [] := D_are_given.binds fun _ _ _ _ _ us hl => match us, hl with | [_], _ => rfl
  have g_are_given := glo "are_given" (by simp [hdFacts])
  obtain ⟨fd_check_given, F_check_given⟩ := c.t.d.def_ 6 (d := d_check_given) rfl
  have D_check_given : DefIs K "check_given" "check_given" st_check_given _ fd_check_given _ := DefIs.of (p := ("check_given", none)) F_check_given
  have b_check_given : Binds K fd_check_given ["thing"] [] := D_check_given.binds fun _ _ _ _ _ us hl => match us, hl with | [_], _ => rfl
  have g_check_given := glo "check_given" (by simp [hdFacts])
  obtain ⟨fd_pairs_by_others, F_pairs_by_others⟩ := c.t.d.def_ 7 (d := d_pairs_by_others) rfl
  have D_pairs_by_others : DefIs K "pairs_by_others" "pairs_by_others" st_pairs_by_others _ fd_pairs_by_others _ := DefIs.of (p := ("pairs_by_others", none)) F_pairs_by_others
  have b_pairs_by_others : Binds K fd_pairs_by_others ["books"] [] := D_pairs_by_others.binds fun _ _ _ _ _ us hl => match us, hl with | [_], _ => rfl
  have g_pairs_by_others := glo "pairs_by_others" (by simp [hdFacts])
  obtain ⟨fd_partings_by, F_partings_by⟩ := c.t.d.def_ 8 (d := d_partings_by) rfl
  have D_partings_by : DefIs K "partings_by" "partings_by" st_partings_by _ fd_partings_by _ := DefIs.of (p := ("partings_by", none)) F_partings_by
  have b_partings_by : Binds K fd_partings_by ["books", "pairs"] [] := D_partings_by.binds fun _ _ _ _ _ us hl => match us, hl with | [_, _], _ => rfl
  have g_partings_by := glo "partings_by" (by simp [hdFacts])
  obtain ⟨fd_share_name, F_share_name⟩ := c.t.d.def_ 9 (d := d_share_name) rfl
  have D_share_name : DefIs K "share_name" "share_name" st_share_name _ fd_share_name _ := DefIs.of (p := ("share_name", none)) F_share_name
  have b_share_name : Binds K fd_share_name ["names", "others"] [] := D_share_name.binds fun _ _ _ _ _ us hl => match us, hl with | [_, _], _ => rfl
  have g_share_name := glo "share_name" (by simp [hdFacts])
  obtain ⟨fd_do_cross, F_do_cross⟩ := c.t.d.def_ 10 (d := d_do_cross) rfl
  have D_do_cross : DefIs K "do_cross" "do_cross" st_do_cross _ fd_do_cross _ := DefIs.of (p := ("do_cross", none)) F_do_cross
  have b_do_cross : Binds K fd_do_cross ["parting", "other"] [] := D_do_cross.binds fun _ _ _ _ _ us hl => match us, hl with | [_, _], _ => rfl
  have g_do_cross := glo "do_cross" (by simp [hdFacts])
  obtain ⟨fd_some_cross, F_some_cross⟩ := c.t.d.def_ 11 (d := d_some_cross) rfl
  have D_some_cross : DefIs K "some_cross" "some_cross" st_some_cross _ fd_some_cross _ := DefIs.of (p := ("some_cross", none)) F_some_cross
  have b_some_cross : Binds K fd_some_cross ["partings"] [] := D_some_cross.binds fun _ _ _ _ _ us hl => match us, hl with | [_], _ => rfl
  have g_some_cross := glo "some_cross" (by simp [hdFacts])
  obtain ⟨fd_places_by, F_places_by⟩ := c.t.d.def_ 12 (d := d_places_by) rfl
  have D_places_by : DefIs K "places_by" "places_by" st_places_by _ fd_places_by _ := DefIs.of (p := ("places_by", none)) F_places_by
  have b_places_by : Binds K fd_places_by ["partings"] [] := D_places_by.binds fun _ _ _ _ _ us hl => match us, hl with | [_], _ => rfl
  have g_places_by := glo "places_by" (by simp [hdFacts])
  obtain ⟨fd_fits, F_fits⟩ := c.t.d.def_ 13 (d := d_fits) rfl
  have D_fits : DefIs K "fits" "fits" st_fits _ fd_fits _ := DefIs.of (p := ("fits", none)) F_fits
  have b_fits : Binds K fd_fits ["place", "names"] [] := D_fits.binds fun _ _ _ _ _ us hl => match us, hl with | [_, _], _ => rfl
  have g_fits := glo "fits" (by simp [hdFacts])
  obtain ⟨fd_law_pot, F_law_pot⟩ := c.t.d.def_ 14 (d := d_law_pot) rfl
  have D_law_pot : DefIs K "_law_pot" "_law_pot" st_law_pot _ fd_law_pot _ := DefIs.of (p := ("_law_pot", none)) F_law_pot
  have b_law_pot : Binds K fd_law_pot ["script", "k"] [] := D_law_pot.binds fun _ _ _ _ _ us hl => match us, hl with | [_, _], _ => rfl
  have g_law_pot := glo "_law_pot" (by simp [hdFacts])
  obtain ⟨fd_law_take, F_law_take⟩ := c.t.d.def_ 15 (d := d_law_take) rfl
  have D_law_take : DefIs K "_law_take" "_law_take" st_law_take _ fd_law_take _ := DefIs.of (p := ("_law_take", none)) F_law_take
  have b_law_take : Binds K fd_law_take ["pot", "many"] [] := D_law_take.binds fun _ _ _ _ _ us hl => match us, hl with | [_, _], _ => rfl
  have g_law_take := glo "_law_take" (by simp [hdFacts])
  obtain ⟨fd_law_some, F_law_some⟩ := c.t.d.def_ 16 (d := d_law_some) rfl
  have D_law_some : DefIs K "_law_some" "_law_some" st_law_some _ fd_law_some _ := DefIs.of (p := ("_law_some", none)) F_law_some
  have b_law_some : Binds K fd_law_some ["pot", "things", "many"] [] := D_law_some.binds fun _ _ _ _ _ us hl => match us, hl with | [_, _, _], _ => rfl
  have g_law_some := glo "_law_some" (by simp [hdFacts])
  obtain ⟨fd_law_names, F_law_names⟩ := c.t.d.def_ 17 (d := d_law_names) rfl
  have D_law_names : DefIs K "_law_names" "_law_names" st_law_names _ fd_law_names _ := DefIs.of (p := ("_law_names", none)) F_law_names
  have b_law_names : Binds K fd_law_names ["pot", "many"] [] := D_law_names.binds fun _ _ _ _ _ us hl => match us, hl with | [_, _], _ => rfl
  have g_law_names := glo "_law_names" (by simp [hdFacts])
  obtain ⟨fd_law_web, F_law_web⟩ := c.t.d.def_ 18 (d := d_law_web) rfl
  have D_law_web : DefIs K "_law_web" "_law_web" st_law_web _ fd_law_web _ := DefIs.of (p := ("_law_web", none)) F_law_web
  have b_law_web : Binds K fd_law_web ["pot", "most"] [] := D_law_web.binds fun _ _ _ _ _ us hl => match us, hl with | [_, _], _ => rfl
  have g_law_web := glo "_law_web" (by simp [hdFacts])
  obtain ⟨fd_law_gone, F_law_gone⟩ := c.t.d.def_ 19 (d := d_law_gone) rfl
  have D_law_gone : DefIs K "_law_gone" "_law_gone" st_law_gone _ fd_law_gone _ := DefIs.of (p := ("_law_gone", none)) F_law_gone
  have b_law_gone : Binds K fd_law_gone ["pot", "near", "mouths"] [] := D_law_gone.binds fun _ _ _ _ _ us hl => match us, hl with | [_, _, _], _ => rfl
  have g_law_gone := glo "_law_gone" (by simp [hdFacts])
  obtain ⟨fd_law_heard, F_law_heard⟩ := c.t.d.def_ 20 (d := d_law_heard) rfl
  have D_law_heard : DefIs K "_law_heard" "_law_heard" st_law_heard _ fd_law_heard _ := DefIs.of (p := ("_law_heard", none)) F_law_heard
  have b_law_heard : Binds K fd_law_heard ["pot", "most", "words"] [] := D_law_heard.binds fun _ _ _ _ _ us hl => match us, hl with | [_, _, _], _ => rfl
  have g_law_heard := glo "_law_heard" (by simp [hdFacts])
  obtain ⟨fd_law_given, F_law_given⟩ := c.t.d.def_ 21 (d := d_law_given) rfl
  have D_law_given : DefIs K "_law_given" "_law_given" st_law_given _ fd_law_given _ := DefIs.of (p := ("_law_given", none)) F_law_given
  have b_law_given : Binds K fd_law_given ["pot"] [] := D_law_given.binds fun _ _ _ _ _ us hl => match us, hl with | [_], _ => rfl
  have g_law_given := glo "_law_given" (by simp [hdFacts])
  obtain ⟨fd_law_ahead, F_law_ahead⟩ := c.t.d.def_ 22 (d := d_law_ahead) rfl
  have D_law_ahead : DefIs K "_law_ahead" "_law_ahead" st_law_ahead _ fd_law_ahead _ := DefIs.of (p := ("_law_ahead", none)) F_law_ahead
  have b_law_ahead : Binds K fd_law_ahead ["book", "a", "b"] [] := D_law_ahead.binds fun _ _ _ _ _ us hl => match us, hl with | [_, _, _], _ => rfl
  have g_law_ahead := glo "_law_ahead" (by simp [hdFacts])
  obtain ⟨fd_law_pairs, F_law_pairs⟩ := c.t.d.def_ 23 (d := d_law_pairs) rfl
  have D_law_pairs : DefIs K "_law_pairs" "_law_pairs" st_law_pairs _ fd_law_pairs _ := DefIs.of (p := ("_law_pairs", none)) F_law_pairs
  have b_law_pairs : Binds K fd_law_pairs ["books"] [] := D_law_pairs.binds fun _ _ _ _ _ us hl => match us, hl with | [_], _ => rfl
  have g_law_pairs := glo "_law_pairs" (by simp [hdFacts])
  obtain ⟨fd_law_partings, F_law_partings⟩ := c.t.d.def_ 24 (d := d_law_partings) rfl
  have D_law_partings : DefIs K "_law_partings" "_law_partings" st_law_partings _ fd_law_partings _ := DefIs.of (p := ("_law_partings", none)) F_law_partings
  have b_law_partings : Binds K fd_law_partings ["books"] [] := D_law_partings.binds fun _ _ _ _ _ us hl => match us, hl with | [_], _ => rfl
  have g_law_partings := glo "_law_partings" (by simp [hdFacts])
  obtain ⟨fd_law_meet, F_law_meet⟩ := c.t.d.def_ 25 (d := d_law_meet) rfl
  have D_law_meet : DefIs K "_law_meet" "_law_meet" st_law_meet _ fd_law_meet _ := DefIs.of (p := ("_law_meet", none)) F_law_meet
  have b_law_meet : Binds K fd_law_meet ["some", "more"] [] := D_law_meet.binds fun _ _ _ _ _ us hl => match us, hl with | [_, _], _ => rfl
  have g_law_meet := glo "_law_meet" (by simp [hdFacts])
  obtain ⟨fd_law_cross, F_law_cross⟩ := c.t.d.def_ 26 (d := d_law_cross) rfl
  have D_law_cross : DefIs K "_law_cross" "_law_cross" st_law_cross _ fd_law_cross _ := DefIs.of (p := ("_law_cross", none)) F_law_cross
  have b_law_cross : Binds K fd_law_cross ["one", "other"] [] := D_law_cross.binds fun _ _ _ _ _ us hl => match us, hl with | [_, _], _ => rfl
  have g_law_cross := glo "_law_cross" (by simp [hdFacts])
  obtain ⟨fd_law_places, F_law_places⟩ := c.t.d.def_ 27 (d := d_law_places) rfl
  have D_law_places : DefIs K "_law_places" "_law_places" st_law_places _ fd_law_places _ := DefIs.of (p := ("_law_places", none)) F_law_places
  have b_law_places : Binds K fd_law_places ["parted"] [] := D_law_places.binds fun _ _ _ _ _ us hl => match us, hl with | [_], _ => rfl
  have g_law_places := glo "_law_places" (by simp [hdFacts])
  obtain ⟨fd_law_kind, F_law_kind⟩ := c.t.d.def_ 28 (d := d_law_kind) rfl
  have D_law_kind : DefIs K "_law_kind" "_law_kind" st_law_kind _ fd_law_kind _ := DefIs.of (p := ("_law_kind", none)) F_law_kind
  have b_law_kind : Binds K fd_law_kind ["e"] [] := D_law_kind.binds fun _ _ _ _ _ us hl => match us, hl with | [_], _ => rfl
  have g_law_kind := glo "_law_kind" (by simp [hdFacts])
  obtain ⟨fd_law_told, F_law_told⟩ := c.t.d.def_ 29 (d := d_law_told) rfl
  have D_law_told : DefIs K "_law_told" "_law_told" st_law_told _ fd_law_told _ := DefIs.of (p := ("_law_told", none)) F_law_told
  have b_law_told : Binds K fd_law_told ["books"] [] := D_law_told.binds fun _ _ _ _ _ us hl => match us, hl with | [_], _ => rfl
  have g_law_told := glo "_law_told" (by simp [hdFacts])
  obtain ⟨fd_law_crosses, F_law_crosses⟩ := c.t.d.def_ 30 (d := d_law_crosses) rfl
  have D_law_crosses : DefIs K "_law_crosses" "_law_crosses" st_law_crosses _ fd_law_crosses _ := DefIs.of (p := ("_law_crosses", none)) F_law_crosses
  have b_law_crosses : Binds K fd_law_crosses ["parted"] [] := D_law_crosses.binds fun _ _ _ _ _ us hl => match us, hl with | [_], _ => rfl
  have g_law_crosses := glo "_law_crosses" (by simp [hdFacts])
  obtain ⟨fd_law_tree_right, F_law_tree_right⟩ := c.t.d.def_ 31 (d := d_law_tree_right) rfl
  have D_law_tree_right : DefIs K "_law_tree_right" "_law_tree_right" st_law_tree_right _ fd_law_tree_right _ := DefIs.of (p := ("_law_tree_right", none)) F_law_tree_right
  have b_law_tree_right : Binds K fd_law_tree_right ["books", "parted", "found"] [] := D_law_tree_right.binds fun _ _ _ _ _ us hl => match us, hl with | [_, _, _], _ => rfl
  have g_law_tree_right := glo "_law_tree_right" (by simp [hdFacts])
  obtain ⟨fd_law, F_law⟩ := c.t.d.def_ 32 (d := d_law) rfl
  have D_law : DefIs K "law" "law" st_law _ fd_law _ := DefIs.of (p := ("law", none)) F_law
  have b_law : Binds K fd_law ["script"] [] := D_law.binds fun _ _ _ _ _ us hl => match us, hl with | [_], _ => rfl
  have g_law := glo "law" (by simp [hdFacts])
  have mo_0 : (He.eqO (PySem.W.nsIn K mainGlobals "combinations") (some (some (.type "itertools.combinations"))) && (xsB K excNames ["Cross"])) = true := c.more
  obtain ⟨ex_0, mo_1⟩ := He.ba mo_0
  have ex_1 := mo_1
  have m_combinations : mg "combinations" = some (.type "itertools.combinations") := PySem.W.mg_of X G (He.eqO_ok ex_0)
  have XS : Xs K mg excNames ["Cross"] := xs_of X G ex_1
  have B : Nb mg := ⟨free "ValueError" (by simp [hdFacts]), free "all" (by simp [hdFacts]), free "any" (by simp [hdFacts]), free "dict" (by simp [hdFacts]), free "enumerate" (by simp [hdFacts]), free "int" (by simp [hdFacts]), free "isinstance" (by simp [hdFacts]), free "len" (by simp [hdFacts]), free "list" (by simp [hdFacts]), free "max" (by simp [hdFacts]), free "min" (by simp [hdFacts]), free "range" (by simp [hdFacts]), free "repr" (by simp [hdFacts]), free "set" (by simp [hdFacts]), free "sorted" (by simp [hdFacts]), free "str" (by simp [hdFacts]), free "tuple" (by simp [hdFacts]), free "type" (by simp [hdFacts]), free "zip" (by simp [hdFacts])⟩
  obtain ⟨tk_MOST_LETTERS, k_MOST_LETTERS⟩ := He.int_ok X G (c.t.d.facts (f := .int "MOST_LETTERS" 8) (by simp [hdFacts]))
  obtain ⟨tk_MOST_NAMES, k_MOST_NAMES⟩ := He.int_ok X G (c.t.d.facts (f := .int "MOST_NAMES" 12) (by simp [hdFacts]))
  obtain ⟨tk_MOST_WORDS, k_MOST_WORDS⟩ := He.int_ok X G (c.t.d.facts (f := .int "MOST_WORDS" 20) (by simp [hdFacts]))
  refine ⟨fd_law, [He.cT K ("is_name", none), He.cT K ("are_unlike_names", none), He.cT K ("are_given", none), He.cT K ("share_name", none), He.cT K ("fits", none)], (spLaw K (He.cT K ("is_name", none)).2 (He.cT K ("are_unlike_names", none)).2 (He.cT K ("are_given", none)).2 (He.cT K ("share_name", none)).2 (He.cT K ("fits", none)).2), fun p hp => ?_, fun s u => ?_, fun H a ns hl hbits hT hS => law_start (fun p hp => ⟨#[], hT p hp, triples_none⟩) hl hbits hS, fun base KX GX TB => ?_⟩
  · obtain ⟨q, hq, rfl⟩ := List.mem_map.mp (show p ∈ hdTabs.map (He.cT K) from hp)
    exact ⟨c.empty q hq, c.out q hq, PySem.W.codeHd_of_K X (c.hd q hq)⟩
  · exact FunD.bindsA (ps := ["script"]) F_law (fun _ _ _ _ _ _ us hl => match us, hl with | [_], _ => rfl) s [u] rfl
  · have X_is_name := TB _ List.mem_cons_self
    have X_are_unlike_names := TB _ (List.mem_cons_of_mem _ List.mem_cons_self)
    have X_are_given := TB _ (List.mem_cons_of_mem _ (List.mem_cons_of_mem _ List.mem_cons_self))
    have X_share_name := TB _ (List.mem_cons_of_mem _ (List.mem_cons_of_mem _ (List.mem_cons_of_mem _ List.mem_cons_self)))
    have X_fits := TB _ (List.mem_cons_of_mem _ (List.mem_cons_of_mem _ (List.mem_cons_of_mem _ (List.mem_cons_of_mem _ List.mem_cons_self))))
    have c_is_name : Callee PySem.Challenge.rw_heardapart_k40_places_of_trees.prog w K mg base CX0 4 "is_name" ["thing"] (spIsName K (He.cT K ("is_name", none)).2) := ⟨_, fd_is_name, ok_is_name B D_is_name X_is_name k_MOST_LETTERS, g_is_name, F_is_name.kp, b_is_name⟩
    have c_are_unlike_names : Callee PySem.Challenge.rw_heardapart_k40_places_of_trees.prog w K mg base CX0 8 "are_unlike_names" ["thing"] (spUnlike K (He.cT K ("is_name", none)).2 (He.cT K ("are_unlike_names", none)).2) := ⟨_, fd_are_unlike_names, ok_are_unlike_names B D_are_unlike_names X_are_unlike_names c_is_name, g_are_unlike_names, F_are_unlike_names.kp, b_are_unlike_names⟩
    have c_is_book : Callee PySem.Challenge.rw_heardapart_k40_places_of_trees.prog w K mg base CX0 9 "is_book" ["thing"] (spUnlike K (He.cT K ("is_name", none)).2 (He.cT K ("are_unlike_names", none)).2) := ⟨_, fd_is_book, ok_is_book D_is_book c_are_unlike_names, g_is_book, F_is_book.kp, b_is_book⟩
    have c_places_of : Callee PySem.Challenge.rw_heardapart_k40_places_of_trees.prog w K mg base CX0 4 "places_of" ["book"] (spPlaces K) := ⟨_, fd_places_of, ok_places_of B D_places_of, g_places_of, F_places_of.kp, b_places_of⟩
    have c_are_given : Callee PySem.Challenge.rw_heardapart_k40_places_of_trees.prog w K mg base CX0 13 "are_given" ["thing"] (spAreG K (He.cT K ("is_name", none)).2 (He.cT K ("are_unlike_names", none)).2 (He.cT K ("are_given", none)).2) := ⟨_, fd_are_given, ok_are_given B D_are_given X_are_given k_MOST_NAMES k_MOST_WORDS c_is_name c_is_book, g_are_given, F_are_given.kp, b_are_given⟩
    have c_check_given : Callee PySem.Challenge.rw_heardapart_k40_places_of_trees.prog w K mg base CX0 14 "check_given" ["thing"] (spCheckG K (He.cT K ("is_name", none)).2 (He.cT K ("are_unlike_names", none)).2 (He.cT K ("are_given", none)).2) := ⟨_, fd_check_given, ok_check_given B D_check_given c_are_given, g_check_given, F_check_given.kp, b_check_given⟩
    have c_pairs_by_others : Callee PySem.Challenge.rw_heardapart_k40_places_of_trees.prog w K mg base CX0 5 "pairs_by_others" ["books"] (spPairsBy K) := ⟨_, fd_pairs_by_others, ok_pairs_by_others B D_pairs_by_others m_combinations c_places_of, g_pairs_by_others, F_pairs_by_others.kp, b_pairs_by_others⟩
    have c_partings_by : Callee PySem.Challenge.rw_heardapart_k40_places_of_trees.prog w K mg base CX0 4 "partings_by" ["books", "pairs"] (spPartBy K) := ⟨_, fd_partings_by, ok_partings_by B D_partings_by, g_partings_by, F_partings_by.kp, b_partings_by⟩
    have c_law_pot : Callee PySem.Challenge.rw_heardapart_k40_places_of_trees.prog w K mg base CX0 3 "_law_pot" ["script", "k"] (spPot K) := ⟨_, fd_law_pot, ok_law_pot B D_law_pot, g_law_pot, F_law_pot.kp, b_law_pot⟩
    have c_law_take : Callee PySem.Challenge.rw_heardapart_k40_places_of_trees.prog w K mg base CX0 3 "_law_take" ["pot", "many"] (spTake K) := ⟨_, fd_law_take, ok_law_take B D_law_take, g_law_take, F_law_take.kp, b_law_take⟩
    have c_law_some : Callee PySem.Challenge.rw_heardapart_k40_places_of_trees.prog w K mg base CX0 4 "_law_some" ["pot", "things", "many"] (spSome K) := ⟨_, fd_law_some, ok_law_some B D_law_some c_law_take, g_law_some, F_law_some.kp, b_law_some⟩
    have c_law_names : Callee PySem.Challenge.rw_heardapart_k40_places_of_trees.prog w K mg base CX0 5 "_law_names" ["pot", "many"] (spDraw K) := ⟨_, fd_law_names, ok_law_names B D_law_names c_law_some, g_law_names, F_law_names.kp, b_law_names⟩
    have c_law_web : Callee PySem.Challenge.rw_heardapart_k40_places_of_trees.prog w K mg base CX0 6 "_law_web" ["pot", "most"] (spWeb K) := ⟨_, fd_law_web, ok_law_web B D_law_web c_law_take c_law_names, g_law_web, F_law_web.kp, b_law_web⟩
    have c_law_gone : Callee PySem.Challenge.rw_heardapart_k40_places_of_trees.prog w K mg base CX0 4 "_law_gone" ["pot", "near", "mouths"] (spGone K) := ⟨_, fd_law_gone, ok_law_gone B D_law_gone c_law_take, g_law_gone, F_law_gone.kp, b_law_gone⟩
    have c_law_heard : Callee PySem.Challenge.rw_heardapart_k40_places_of_trees.prog w K mg base CX0 7 "_law_heard" ["pot", "most", "words"] (spHeardG K) := ⟨_, fd_law_heard, ok_law_heard B D_law_heard c_law_web c_law_names c_law_take c_law_gone c_law_some, g_law_heard, F_law_heard.kp, b_law_heard⟩
    have c_law_given : Callee PySem.Challenge.rw_heardapart_k40_places_of_trees.prog w K mg base CX0 8 "_law_given" ["pot"] (spGiven K) := ⟨_, fd_law_given, ok_law_given B D_law_given c_law_heard c_law_take c_law_names c_law_some, g_law_given, F_law_given.kp, b_law_given⟩
    have c_law_ahead : Callee PySem.Challenge.rw_heardapart_k40_places_of_trees.prog w K mg base CX0 1 "_law_ahead" ["book", "a", "b"] (spAhead) := ⟨_, fd_law_ahead, ok_law_ahead B D_law_ahead, g_law_ahead, F_law_ahead.kp, b_law_ahead⟩
    have c_law_pairs : Callee PySem.Challenge.rw_heardapart_k40_places_of_trees.prog w K mg base CX0 2 "_law_pairs" ["books"] (spLawPairs K) := ⟨_, fd_law_pairs, ok_law_pairs B D_law_pairs c_law_ahead, g_law_pairs, F_law_pairs.kp, b_law_pairs⟩
    have c_law_partings : Callee PySem.Challenge.rw_heardapart_k40_places_of_trees.prog w K mg base CX0 3 "_law_partings" ["books"] (spLawParts K) := ⟨_, fd_law_partings, ok_law_partings B D_law_partings c_law_pairs, g_law_partings, F_law_partings.kp, b_law_partings⟩
    have c_law_kind : Callee PySem.Challenge.rw_heardapart_k40_places_of_trees.prog w K mg base CX0 3 "_law_kind" ["e"] (spKind K) := ⟨_, fd_law_kind, ok_law_kind B D_law_kind XS, g_law_kind, F_law_kind.kp, b_law_kind⟩
    have c_share_name : Callee PySem.Challenge.rw_heardapart_k40_places_of_trees.prog w K mg base CX0 4 "share_name" ["names", "others"] (spShare K (He.cT K ("share_name", none)).2) := ⟨_, fd_share_name, ok_share_name B D_share_name X_share_name, g_share_name, F_share_name.kp, b_share_name⟩
    have c_do_cross : Callee PySem.Challenge.rw_heardapart_k40_places_of_trees.prog w K mg base CX0 8 "do_cross" ["parting", "other"] (spDoCross K (He.cT K ("share_name", none)).2) := ⟨_, fd_do_cross, ok_do_cross B D_do_cross c_share_name, g_do_cross, F_do_cross.kp, b_do_cross⟩
    have c_some_cross : Callee PySem.Challenge.rw_heardapart_k40_places_of_trees.prog w K mg base CX0 10 "some_cross" ["partings"] (spSomeCross K (He.cT K ("share_name", none)).2) := ⟨_, fd_some_cross, ok_some_cross B D_some_cross m_combinations c_do_cross, g_some_cross, F_some_cross.kp, b_some_cross⟩
    have c_fits : Callee PySem.Challenge.rw_heardapart_k40_places_of_trees.prog w K mg base CX0 8 "fits" ["place", "names"] (spFits K (He.cT K ("share_name", none)).2 (He.cT K ("fits", none)).2) := ⟨_, fd_fits, ok_fits B D_fits X_fits c_share_name, g_fits, F_fits.kp, b_fits⟩
    have c_places_by : Callee PySem.Challenge.rw_heardapart_k40_places_of_trees.prog w K mg base CX0 12 "places_by" ["partings"] (spPlacesBy K (He.cT K ("share_name", none)).2 (He.cT K ("fits", none)).2) := ⟨_, fd_places_by, ok_places_by B D_places_by c_fits, g_places_by, F_places_by.kp, b_places_by⟩
    have c_tree_places : Callee PySem.Challenge.rw_heardapart_k40_places_of_trees.prog w K mg base (L2.CX PySem.Challenge.rw_heardapart_k40_places_of_trees.prog w) 15 "tree_places" ["books"] (spTree K (He.cT K ("is_name", none)).2 (He.cT K ("are_unlike_names", none)).2 (He.cT K ("are_given", none)).2 (He.cT K ("share_name", none)).2 (He.cT K ("fits", none)).2) := ⟨_, fd_tree_places, ok_tree_places B D_tree_places XS c_check_given c_pairs_by_others c_partings_by c_some_cross c_places_by, g_tree_places, F_tree_places.kp, b_tree_places⟩
    have c_law_meet : Callee PySem.Challenge.rw_heardapart_k40_places_of_trees.prog w K mg base CX0 2 "_law_meet" ["some", "more"] (spMeet K) := ⟨_, fd_law_meet, ok_law_meet B D_law_meet, g_law_meet, F_law_meet.kp, b_law_meet⟩
    have c_law_cross : Callee PySem.Challenge.rw_heardapart_k40_places_of_trees.prog w K mg base CX0 3 "_law_cross" ["one", "other"] (spLCross K) := ⟨_, fd_law_cross, ok_law_cross B D_law_cross c_law_meet, g_law_cross, F_law_cross.kp, b_law_cross⟩
    have c_law_crosses : Callee PySem.Challenge.rw_heardapart_k40_places_of_trees.prog w K mg base CX0 4 "_law_crosses" ["parted"] (spCrosses K) := ⟨_, fd_law_crosses, ok_law_crosses B D_law_crosses c_law_cross, g_law_crosses, F_law_crosses.kp, b_law_crosses⟩
    have c_law_places : Callee PySem.Challenge.rw_heardapart_k40_places_of_trees.prog w K mg base CX0 3 "_law_places" ["parted"] (spLPlaces K) := ⟨_, fd_law_places, ok_law_places B D_law_places c_law_meet, g_law_places, F_law_places.kp, b_law_places⟩
    have c_law_told : Callee PySem.Challenge.rw_heardapart_k40_places_of_trees.prog w K mg base CX0 16 "_law_told" ["books"] (spTold K (He.cT K ("is_name", none)).2 (He.cT K ("are_unlike_names", none)).2 (He.cT K ("are_given", none)).2 (He.cT K ("share_name", none)).2 (He.cT K ("fits", none)).2) := ⟨_, fd_law_told, ok_law_told B D_law_told XS c_tree_places c_law_kind, g_law_told, F_law_told.kp, b_law_told⟩
    have c_law_tree_right : Callee PySem.Challenge.rw_heardapart_k40_places_of_trees.prog w K mg base CX0 3 "_law_tree_right" ["books", "parted", "found"] (spTreeR K) := ⟨_, fd_law_tree_right, ok_law_tree_right B D_law_tree_right, g_law_tree_right, F_law_tree_right.kp, b_law_tree_right⟩
    exact ok_law B D_law c_law_pot c_law_take c_law_given c_law_heard c_law_partings c_law_crosses c_law_places c_law_told c_law_tree_right c_tree_places
end Lw
open PyProof.Rows PySem PySem.W PySem.Calls
theorem PySem.Challenge.cw_heardapart_k40_places_of_trees_holds : PySem.Challenge.rw_heardapart_k40_places_of_trees.Holds := by
  w_on; o_law
  refine HandSHeadRun.head_imp (r := Lw.hdRow) (q := Lw.hdView) (H := Lw.hdHook) (ob := Lw.hdOb) (M := 12000) (loose := Lw.hdLoose) (d := Lw.hdTop) (kwd := []) Lw.hdOb_eq
    Lw.hdRun (by kernel_rfl) (by kernel_rfl) (by kernel_rfl) (by rfl) (by first | assumption | decide +kernel) (by decide +kernel) ⟨rfl, rfl, rfl, rfl, rfl, by decide +kernel⟩ ?hw ?hc
  case hw => w_witness2
  case hc =>
    refine Gx.walk_GE (l := PySem.Challenge.rw_heardapart_k40_places_of_trees) (n := 63) (k := 18) (x := "script") rfl (by decide) (by kernel_rfl) ⟨rfl, by decide, by decide⟩ ?F
    intro w mg fa h Y G hmg0
    obtain ⟨K, KX, c⟩ := Y
    have hmg : mg ("law" : PySem.Str) = some (.ref fa) := by
      have e : Lw.hdTop.name = ("law" : PySem.Str) := by kernel_rfl
      rw [← e]
      exact hmg0
    exact ⟨K, KX, Lw.hd_all KX G hmg c⟩

