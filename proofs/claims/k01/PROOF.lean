import PyProof.Rows.All
import Wide.All
import OpenK.AllK
import Wide.FinOn
import HandS.ForMost
import HandS.AnyAll
import HandS.GenList
import HandS.EndTab
import KE.SortData
import HandS.WideBits
import HandS.DictComp
import HandS.More
import HandS.TupAny
import HandS.TupLe
import HandS.Walk
import HandS.HeadHook4
import HandS.Head4
import HandS.SortKw
import HandS.Iter
import HandS.SetFor
import HandS.SortInts
import HandS.Strs
import HandS.Dict
import PyProof.RowDictHeap
import KE.KEqNest
import HandS.Text
import PyProof.NeKinds
import HandS.NoneIn
import HandS.IsInst
import HandS.Exc
import HandS.ExcOwn
import HandS.ExcIs
import PyProof.ExcBaseAll.ValueError
import KE.DataFind
import PyProof.EqKinds
import HandS.Style
import PyProof.ZipIter
import PyProof.CallType
import PyProof.TupleOfSeq
import PyProof.Walk
import PyProof.WalkLemmas
import PyProof.RulesTry
import HandS.Zip
import HandS.Small
import HandS.Deep
import HandS.Conv
import PyProof.AutoSeq1
import PySem.Challenge.RW_heardapart_k01_names_and_webs
set_option Elab.async false
set_option linter.all false
set_option maxRecDepth 100000
set_option maxHeartbeats 8000000
/-! A generator expression whose element may do anything, under all( ) and any( ). -/
namespace Gx
open PySem PySem.Spec PyProof.Rows L2 GxR GenW

abbrev genv (X : Cx) (sc : Scope) (C : Addr) (code : Value) : Env :=
  genEnv sc (cloFrom X.env.cells sc.names []) C code builtinsNs X.env
abbrev gcx (X : Cx) (s : Shared) (H : Hp) (sc : Scope) (C : Addr) (code : Value) (fp : List Addr) : Cx :=
  { X with
    A := X.A.in1.in1.deeper (genv X sc C code)
    s_0 := s
    H_0 := H
    env := genv X sc C code
    outer := X.stack
    stack := genv X sc C code :: X.stack
    ex := fp
    fn := fun _ => false
    calm := true
    pn := []
    xe := fun _ _ => False }

theorem over_loop_gx {A : Around} {elt : Expr} {gs : List Comprehension} {sc : Scope} {pos : Pos} {it acc : Value} {env : Env} :
    A.over (.compLoop (.GeneratorExp elt gs sc pos) 0 it acc env) [] = A.deeper env := by
  obtain ⟨a, b, c, d, e⟩ := A
  cases c <;> cases d <;>
  simp [Around.over, Around.deeper, marksOver, frameCount, unitsOf, envsOf, guardsOf, pushEnvs, pushGuards, Code.envs, Code.env?, Code.isFrame, Code.guards, Code.isGuard, Code.weight, Code.frames, Code.isCreation, Code.isCaller, Code.cUnits]
theorem over_start_gx {A : Around} {elt : Expr} {gs : List Comprehension} {sc : Scope} {pos : Pos} {it acc : Value} {env : Env} :
    A.over (.compStart (.GeneratorExp elt gs sc pos) 0 it acc env) [] = A.deeper env := by
  obtain ⟨a, b, c, d, e⟩ := A
  cases c <;> cases d <;>
  simp [Around.over, Around.deeper, marksOver, frameCount, unitsOf, envsOf, guardsOf, pushEnvs, pushGuards, Code.envs, Code.env?, Code.isFrame, Code.guards, Code.isGuard, Code.weight, Code.frames, Code.isCreation, Code.isCaller, Code.cUnits]

section
variable {X : Cx} {pins : List (Addr × Obj)} {σ : L2.St} {H : Hp} {s : Shared}

theorem clo_look {cells : List (Str × Addr)} {names : List (Str × NameKind)} {y : Str} {c : Addr} (hf : ∀ z ∈ names, z.2 = .free → ∃ c, cells.lookup z.1 = some c)
    (h : (cloFrom cells names []).lookup y = some c) : cells.lookup y = some c ∧ (y, NameKind.free) ∈ names := by
  rcases cloFrom_mem (PySem.mem_of_lookup h) with q | ⟨q1, q2⟩
  · cases q
  · obtain ⟨c', e⟩ := hf _ q1 rfl
    rw [e] at q2
    have q3 : c = c' := q2
    exact ⟨by rw [q3]; exact e, q1⟩
theorem clo_has {cells : List (Str × Addr)} {names : List (Str × NameKind)} {y : Str} (hf : ∀ z ∈ names, z.2 = .free → ∃ c, cells.lookup z.1 = some c)
    (h : (y, NameKind.free) ∈ names) : ∃ c, (cloFrom cells names []).lookup y = some c ∧ cells.lookup y = some c := by
  obtain ⟨c, e⟩ := mem_lookup (cloFrom_has (cells := cells) (acc := []) h)
  exact ⟨c, e, (clo_look hf e).1⟩

/-- the generator's frame has been made: the state as its body sees it -/
theorem gx_start {sc : Scope} {own : List (Str × Nat)} {fp : List Addr} {C : Addr} {code : Value} {h' : Heap} {g' : Array GenState} {d' : Drawn} {t' : Nat}
    (I : Inv X pins σ H s) (hh : X.A.handled = none) (ok : BlkOk X.N X.env.scope sc own) (hN : X.N.Nodup) (hcell : ∀ y ∈ sc.names, y.2 ≠ .cell)
    (hfp : ∀ b ∈ fp, FpOk X pins H b ∧ b < s.heap.objs.size) (hC : C = s.heap.objs.size) (hns : ∃ m, h'.Ns C m)
    (kp : ∀ b o, s.heap.get? b = some o → h'.get? b = some o) (hg : AllBare g') :
    Inv (gcx X s H sc C code fp) [] (wipe σ (own.map (·.2))) H { s with heap := h', gens := g', drawn := d', toks := t' } := by
  have hf : ∀ z ∈ sc.names, z.2 = .free → ∃ c, X.env.cells.lookup z.1 = some c := fun z hz e => by
    rcases ok.free z hz e with k | k
    · exact I.ok.has _ (.inl k)
    · exact I.ok.has _ (.inr k)
  have cl : ∀ {y c}, (genv X sc C code).cells.lookup y = some c → X.env.cells.lookup y = some c ∧ (y, NameKind.free) ∈ sc.names := fun {y c} e => clo_look hf e
  have clt : ∀ {y c}, X.env.cells.lookup y = some c → c < s.heap.objs.size := fun {y c} e => by
    obtain ⟨w, z⟩ := I.cell y c e
    exact z.lt
  have free_of : ∀ {y}, (genv X sc C code).kindOf y = some .cell ∨ (genv X sc C code).kindOf y = some .free → (y, NameKind.free) ∈ sc.names := fun {y} hy => by
    rcases hy with hy | hy
    · exact absurd rfl (hcell _ (PySem.mem_of_lookup (show sc.names.lookup y = some .cell from hy)))
    · exact PySem.mem_of_lookup (show sc.names.lookup y = some .free from hy)
  have okY : (gcx X s H sc C code fp).Ok :=
    { mod := I.ok.mod
      kind := ok.kind
      glob := I.ok.glob
      blt := rfl
      above := Nat.le_of_eq hC.symm
      inj := fun y z c e1 e2 => I.ok.inj y z c (cl e1).1 (cl e2).1
      has := fun y hy => by
        obtain ⟨c, e, _⟩ := clo_has (cells := X.env.cells) hf (free_of hy)
        exact ⟨c, e⟩
      cab := fun y c e => by cases e
      hd := fun _ => hh
      frames := by
        have q := I.ok.frames
        show X.A.frames.map (genv X sc C code :: ·) = _
        rw [q]
        rfl
      stk := .inr ⟨rfl, rfl⟩
      exf := fun b hb => ⟨by
          show b ≠ C
          rw [hC]
          exact Nat.ne_of_lt (hfp b hb).2, fun y c e => (hfp b hb).1.2.2.2.2.1 y c (cl e).1⟩
      bs := I.bs
      bsz := Nat.le_trans I.ok.bsz I.sz
      noex := fun b o e hb => by
        rcases (hfp b hb).1.2.2.2.1 with z | z
        · exact I.ok.noex b o e z
        · exact absurd (Nat.lt_of_lt_of_le (Heap.lt_size e) (Nat.le_trans I.ok.bsz z)) (Nat.lt_irrefl _)
      exfs := fun b hb z => by
        rcases List.mem_cons.mp (I.stkSub b z) with z | z
        · exact (hfp b hb).1.2.1 z
        · exact (hfp b hb).1.2.2.1 z
      funs := I.stack
      frf := I.stkFree }
  obtain ⟨m, hm⟩ := hns
  have hn : ∀ b, s.heap.objs.size ≤ b → H b = none := fun b hb => I.hok.fresh hb
  refine { ok := okY, os := rfl, bare := hg, base := Un.kept kp, loc := ⟨m, hm, fun i y v e1 e2 e3 => ?_⟩, cell := fun y c e => ?_, free := hn C (Nat.le_of_eq hC.symm), freeC := fun y c e => I.freeC y c (cl e).1,
           pin := fun p hp => absurd (show p ∈ ([] : List (Addr × Obj)) ++ [] from hp) (by simp), hok := I.hok.kept kp, len := by rw [wipe_length]; exact I.len }
  · obtain ⟨e2, hne⟩ := wipe_some e2
    have hfr : (y, NameKind.free) ∈ sc.names := by
      have e3' : sc.names.lookup y = some .local ∨ sc.names.lookup y = some .cell ∨ sc.names.lookup y = some .free := e3
      have own : ∀ k, (y, k) ∈ sc.names → k = .local ∨ k = .cell → False := fun k hk hk2 => by
        rcases ok.own _ hk hk2 with q | q
        · obtain ⟨p, hp, hpy⟩ := List.mem_map.mp q
          have q3 := ok.ix p hp
          rw [show p.1 = y from hpy] at q3
          exact hne (List.mem_map.mpr ⟨p, hp, nodup_ix hN q3 e1⟩)
        · exact q (List.mem_of_getElem? e1)
      rcases e3' with q | q | q
      · exact (own _ (PySem.mem_of_lookup q) (.inl rfl)).elim
      · exact (own _ (PySem.mem_of_lookup q) (.inr rfl)).elim
      · exact PySem.mem_of_lookup q
    obtain ⟨m0, _, hl⟩ := I.loc
    have vis : Vis X.env.scope y := (ok.free _ hfr rfl).elim (fun k => .inr (.inl k)) fun k => .inr (.inr k)
    obtain ⟨w, r, q⟩ := hl i y v e1 e2 vis
    obtain ⟨c, h1, h2⟩ := clo_has (cells := X.env.cells) hf hfr
    have kf : (genv X sc C code).kindOf y = some .free := ok.uniq _ hfr
    refine ⟨w, r, .inr ⟨.inr kf, c, h1, ?_⟩⟩
    rcases q with ⟨k, _⟩ | ⟨_, c', e', z⟩
    · have k' : X.env.scope.names.lookup y = some .local := k
      rcases ok.free _ hfr rfl with k2 | k2 <;> rw [show X.env.scope.names.lookup y = _ from k2] at k' <;> cases k'
    · rw [h2] at e'
      cases e'
      exact z.keeps kp
  · obtain ⟨w, z⟩ := I.cell y c (cl e).1
    exact ⟨w, z.keeps kp⟩

/-- generators, tokens and what was drawn are no matter -/
theorem inv_gens {g' : Array GenState} {d' : Drawn} {t' : Nat} (I : Inv X pins σ H s) (hg : AllBare g') : Inv X pins σ H { s with gens := g', drawn := d', toks := t' } :=
  I.step (h' := s.heap) (ch := []) (fun b hb => absurd hb (by simp)) (fun _ _ _ _ _ e _ => e) (fun _ o _ _ _ e _ => ⟨o.slots, e⟩) (fun _ _ _ _ n => n) (fun _ o _ e => ⟨o, e⟩)
    (fun _ _ e => e) (fun _ _ _ e => e) (fun _ ps e => ⟨#[], by rw [e]; simp⟩) (fun _ hm => hm) I.hok hg
theorem inv_like {s' : Shared} (I : Inv X pins σ H s) (hh : s'.heap = s.heap) (ho : s'.os = s.os) (hg : AllBare s'.gens) : Inv X pins σ H s' := by
  have J := inv_gens (g' := s'.gens) (d' := s'.drawn) (t' := s'.toks) I hg
  rw [← hh] at J
  rw [sh_eta s s' ho] at J
  exact J

/-- what is known once and for all of one run of the generator -/
structure Run (X : Cx) (s0 : Shared) (H0 : Hp) (sc : Scope) (C : Addr) (code : Value) (fp : List Addr) (tg elt : Expr) (g : TG) (te : TE) (J : It) (it : Addr) (tn : Nat → Heap → Prop) (vs : List Nat) (σ0 : L2.St)
    (sb : Bool) (W : Nat → Nat → Hp → Prop) (Q : VK) : Prop where
  turns : Turn X.prog X.w X.K tg J fp it tn
  target : PG (gcx X s0 H0 sc C code fp) tg g
  element : PE (gcx X s0 H0 sc C code fp) elt te
  nocor : sc.isCoroutine = false
  step : ∀ i m H, W i m H → (J.stop i H ∧ Q (.bl (!sb)) H) ∨ (J.go i H ∧ ∃ Nx : Hp → Prop, (∀ H', Nx H' → ∃ m', m' < m ∧ W (i + 1) m' H') ∧
    ∀ x H', J.yld i H x H' → g x σ0 H' fun σ2 H2 => wipe σ2 vs = σ0 ∧ te σ2 H2 fun y H4 => ∃ b, y = .bl b ∧ if b = sb then Q (.bl sb) H4 else Nx H4)

/-- the generator stands ahead of its i-th turn, with room for n more -/
def Ahead (X : Cx) (s0 : Shared) (H0 : Hp) (sc : Scope) (C : Addr) (code : Value) (fp : List Addr) (tn : Nat → Heap → Prop) (σ0 : L2.St) (W : Nat → Nat → Hp → Prop) (pin : Addr × Obj) (i n : Nat) (s : Shared) : Prop :=
  ∃ H m, Inv (gcx X s0 H0 sc C code fp) [pin] σ0 H s ∧ tn i s.heap ∧ (∀ b ∈ fp, H b = none) ∧ m ≤ n ∧ W i m H
/-- it hands out a truth -/
def Out (X : Cx) (s0 : Shared) (H0 : Hp) (sc : Scope) (C : Addr) (code : Value) (fp : List Addr) (pin : Addr × Obj) (sb : Bool) (Q : VK) : Protocol := fun n s₀ v s kap =>
  ∃ (b : Bool) (σ1 : L2.St) (H1 : Hp), v = .bool b ∧ Inv (gcx X s0 H0 sc C code fp) [pin] σ1 H1 s ∧ (b = sb → Q (.bl sb) H1) ∧
    (b ≠ sb → ∀ s'', s''.heap = s.heap → s''.os = s.os → AllBare s''.gens → kap (.send .none) s'')
/-- it has come to its end -/
def Over (X : Cx) (s0 : Shared) (H0 : Hp) (sc : Scope) (C : Addr) (code : Value) (fp : List Addr) (pin : Addr × Obj) (sb : Bool) (Q : VK) (n : Nat) (s₀ s : Shared) : Prop :=
  ∃ (σ1 : L2.St) (H1 : Hp), Inv (gcx X s0 H0 sc C code fp) [pin] σ1 H1 s ∧ Q (.bl (!sb)) H1

section
variable {s0 : Shared} {H0 : Hp} {sc : Scope} {C : Addr} {code : Value} {fp : List Addr} {tg elt iter : Expr} {g : TG} {te : TE} {J : It} {it : Addr} {tn : Nat → Heap → Prop} {vs : List Nat} {σ0 : L2.St} {sb : Bool} {W : Nat → Nat → Hp → Prop} {Q : VK}
  {pin : Addr × Obj} {pos : Pos}

theorem ahead_like {i n : Nat} {s s' : Shared} (h : Ahead X s0 H0 sc C code fp tn σ0 W pin i n s) (hh : s'.heap = s.heap) (ho : s'.os = s.os) (hg : AllBare s'.gens) : Ahead X s0 H0 sc C code fp tn σ0 W pin i n s' := by
  obtain ⟨H, m, I, st, n, le, w⟩ := h
  exact ⟨H, m, inv_like I hh ho hg, by rw [hh]; exact st, n, le, w⟩

abbrev LoopC (X : Cx) (elt tg iter : Expr) (sc : Scope) (pos : Pos) (it C : Addr) (code : Value) : Code := .compLoop (.GeneratorExp elt [⟨tg, iter, [], 0⟩] sc pos) 0 (.ref it) .none (genv X sc C code)
abbrev SegX (X : Cx) (s0 : Shared) (H0 : Hp) (sc : Scope) (C : Addr) (code : Value) (fp : List Addr) (pin : Addr × Obj) (sb : Bool) (Q : VK) (n : Nat) (s₀ : Shared) (c : Code) (t : Sem PySem.Fin) (s : Shared) : Prop :=
  Seg (model X.prog X.w) X.A.in1.in1 (fun n s₀ r s₁ => r = .ok .next ∧ Over X s0 H0 sc C code fp pin sb Q n s₀ s₁) (Out X s0 H0 sc C code fp pin sb Q) n s₀ c t [] s

theorem seg_turn (R : Run X s0 H0 sc C code fp tg elt g te J it tn vs σ0 sb W Q) (hp : pin.1 ∉ fp) (n i : Nat) (s₀ s : Shared) (h : Ahead X s0 H0 sc C code fp tn σ0 W pin i n s)
    (again : ∀ n' s'', n = n' + 1 → Ahead X s0 H0 sc C code fp tn σ0 W pin (i + 1) n' s'' → SegX X s0 H0 sc C code fp pin sb Q (n' + 1) s'' (LoopC X elt tg iter sc pos it C code) ((model X.prog X.w).den (LoopC X elt tg iter sc pos it C code)) s'') :
    SegX X s0 H0 sc C code fp pin sb Q (n + 1) s₀ (LoopC X elt tg iter sc pos it C code) ((model X.prog X.w).den (LoopC X elt tg iter sc pos it C code)) s := by
  have T := R.turns
  have eA : (X.A.in1.in1).over (LoopC X elt tg iter sc pos it C code) [] = (gcx X s0 H0 sc C code fp).A := over_loop_gx
  obtain ⟨H, m, I, st, nf, le, w⟩ := h
  have stat : ∀ {σ' : L2.St} {H' : Hp} {s' : Shared}, Inv (gcx X s0 H0 sc C code fp) [pin] σ' H' s' → (∀ b ∈ fp, H' b = none) → ∀ b ∈ fp, FpOk (gcx X s0 H0 sc C code fp) [pin] H' b := fun {σ' H' s'} I' hn b hb =>
    ⟨hn b hb, (I'.ok.exf b hb).1, I'.ok.exfs b hb, .inl hb, fun x c e => (I'.ok.exf b hb).2 x c e, fun p hp' => by
      have e : p = pin := by simpa using hp'
      rw [e]
      exact fun z => hp (z ▸ hb)⟩
  show Seg _ _ _ _ _ _ _ ((compTurn (.GeneratorExp elt [⟨tg, iter, [], 0⟩] sc pos) 0 (.ref it) .none (genv X sc C code)).onRaise (leaving (genv X sc C code))) _ _
  rw [compTurn_gen, Sem.onRaise_eq_wrap]
  refine seg_bind_wrap (wpAny_standAt ?_)
  rcases R.step i m H w with ⟨stop, q⟩ | ⟨go, Nx, hNx, turn⟩
  · refine seg_bind_wrap ?_
    rw [eA]
    refine wpAny_mono (T.done (gcx X s0 H0 sc C code fp) rfl rfl rfl rfl i [pin] s σ0 H (fun _ _ => False) I (stat I nf) st stop) (fun r s1 h1 => ?_) fun e s z => z.elim
    obtain ⟨hr, I1⟩ := h1
    subst hr
    exact seg_end (.ok .next) ⟨rfl, σ0, H, I1, q⟩
  · refine seg_bind_wrap ?_
    rw [eA]
    refine wpAny_mono (T.item (gcx X s0 H0 sc C code fp) rfl rfl rfl rfl i [pin] s σ0 H (fun _ _ => False) I (stat I nf) st go) (fun r s1 h1 => ?_) fun e s z => z.elim
    obtain ⟨u, hr, h1⟩ := h1
    subst hr
    refine seg_bind_wrap ?_
    rw [eA]
    refine wpAny_mono h1 (fun _ s2 h2 => ?_) fun e s z => z.elim
    obtain ⟨x, H2, I2, r2, y2, st2, nf2⟩ := h2
    have I2' := I2.pinned (stat I2 nf2) (T.obj _ _ st2)
    refine seg_bind_wrap ?_
    rw [eA]
    refine wpAny_mono (R.target.run _ s2 σ0 H2 x u _ I2' r2 (turn x H2 y2)) (fun _ s3 h3 => ?_) fun e s z => z.elim
    obtain ⟨σ3, H3, I3, hw3, q3⟩ := h3
    refine seg_bind_wrap ?_
    rw [List.forIn_nil]
    refine wpAny_pure ?_
    simp only [if_true]
    have hy : ∀ v, yieldOut (genv X sc C code) v = yieldValue v := fun v => by
      have e : (genv X sc C code).scope.isCoroutine = false := R.nocor
      simp only [yieldOut, e, Bool.false_eq_true, if_false]
    simp only [hy]
    rw [Sem.bind_eq_wrap', Sem.bind_eq_wrap', Sem.wrap_wrap, Sem.wrap_wrap]
    refine seg_wrap ?_
    rw [eA]
    refine wpAny_mono (R.element.run _ s3 σ3 H3 _ I3 q3) (fun y s4 h4 => ?_) fun e s z => z.elim
    obtain ⟨yv, H4, I4, r4, b, ey, q4⟩ := h4
    subst ey
    have er : y = Value.bool b := r4
    subst er
    have pinK : ∀ b ∈ fp, ∀ o, s2.heap.get? b = some o → s4.heap.get? b = some o ∧ H4 b = none := fun b hb o e =>
      let z := I4.pin (b, o) (List.mem_append_right _ (List.mem_append_right _ (mem_pinsAt hb e)))
      ⟨z.1, z.2.1⟩
    have hl : σ0.length = σ3.length := by rw [← hw3, wipe_length]
    have I4' : Inv (gcx X s0 H0 sc C code fp) [pin] σ0 H4 s4 := (I4.unpinned (pins := [pin])).weak hl fun j v e => by
      rw [← hw3] at e
      exact (wipe_some e).1
    refine seg_at (seg_yield rfl rfl rfl ⟨b, σ0, H4, rfl, I4', fun e => ?_, fun ne s'' hh ho hg => ?_⟩)
    · rw [if_pos e] at q4
      exact q4
    · rw [if_neg ne] at q4
      obtain ⟨m', hm, w'⟩ := hNx H4 q4
      obtain ⟨n', rfl⟩ : ∃ n', n = n' + 1 := ⟨n - 1, by omega⟩
      refine seg_again rfl (again n' s'' rfl (ahead_like (s := s4) ⟨H4, m', I4', T.keep _ _ _ st2 fun b hb o e => (pinK b hb o e).1, fun b hb => ?_, by omega, w'⟩ hh ho hg))
      obtain ⟨o, e, _⟩ := T.obj _ _ st2 b hb
      exact (pinK b hb o e).2
theorem seg_turns (R : Run X s0 H0 sc C code fp tg elt g te J it tn vs σ0 sb W Q) (hp : pin.1 ∉ fp) : ∀ (n i : Nat) (s₀ s : Shared), Ahead X s0 H0 sc C code fp tn σ0 W pin i n s →
    SegX X s0 H0 sc C code fp pin sb Q (n + 1) s₀ (LoopC X elt tg iter sc pos it C code) ((model X.prog X.w).den (LoopC X elt tg iter sc pos it C code)) s := by
  intro n
  induction n with
  | zero => exact fun i s₀ s h => seg_turn R hp 0 i s₀ s h fun n' s'' e _ => by omega
  | succ n ih =>
    refine fun i s₀ s h => seg_turn R hp (n + 1) i s₀ s h fun n' s'' e h' => ?_
    have e' : n' = n := by omega
    rw [e'] at h' ⊢
    exact ih (i + 1) s'' s'' h'
abbrev StartC (X : Cx) (elt tg iter : Expr) (sc : Scope) (pos : Pos) (it C : Addr) (code : Value) : Code := .compStart (.GeneratorExp elt [⟨tg, iter, [], 0⟩] sc pos) 0 (.ref it) .none (genv X sc C code)
theorem seg_begin (R : Run X s0 H0 sc C code fp tg elt g te J it tn vs σ0 sb W Q) (hp : pin.1 ∉ fp) (n : Nat) (s₀ s : Shared) (h : Ahead X s0 H0 sc C code fp tn σ0 W pin 0 n s) :
    SegX X s0 H0 sc C code fp pin sb Q (n + 1) s₀ (StartC X elt tg iter sc pos it C code) ((model X.prog X.w).den (StartC X elt tg iter sc pos it C code)) s := by
  have loop := seg_turns (iter := iter) (pos := pos) R hp n 0 s₀ s h
  obtain ⟨H, m, I, st, _⟩ := h
  show Seg _ _ _ _ _ _ _ ((compStart (.GeneratorExp elt [⟨tg, iter, [], 0⟩] sc pos) 0 (.ref it) .none (genv X sc C code)).onRaise (leaving (genv X sc C code))) _ _
  unfold compStart
  rw [Sem.onRaise_eq_wrap]
  show Seg _ _ _ _ _ _ _ ((ask >>= _).wrap _ _ _ _) _ _
  refine seg_bind_wrap (wpAny_askSetting ?_)
  split
  · exact seg_again rfl loop
  · refine seg_bind_wrap (wpAny_rule ?_)
    show Seg _ _ _ _ _ _ _ ((standAt iter.pos >>= _).wrap _ _ _ _) _ _
    refine seg_bind_wrap (wpAny_standAt (seg_bind_wrap ?_))
    exact R.turns.self _ 0 s _ _ st (seg_again rfl loop)
end
end
end Gx

namespace Gx
open PySem PySem.Spec PyProof.Rows L2 GxR GenW
section
variable {X : Cx} {s0 : Shared} {H0 : Hp} {sc : Scope} {C : Addr} {code : Value} {fp : List Addr} {sb : Bool} {Q : VK} {a : Addr} {go : Obj} {gi : Nat}

abbrev EndX (X : Cx) (s0 : Shared) (H0 : Hp) (sc : Scope) (C : Addr) (code : Value) (fp : List Addr) (pin : Addr × Obj) (sb : Bool) (Q : VK) : GenEnd := fun n s₀ r s₁ => r = .ok .next ∧ Over X s0 H0 sc C code fp pin sb Q n s₀ s₁
/-- the generator sleeps, n turns at most are ahead -/
def Awake (X : Cx) (s0 : Shared) (H0 : Hp) (sc : Scope) (C : Addr) (code : Value) (fp : List Addr) (sb : Bool) (Q : VK) (a : Addr) (go : Obj) (gi n : Nat) (s : Shared) : Prop :=
  (∃ σ1 H1, Inv (gcx X s0 H0 sc C code fp) [(a, go)] σ1 H1 s) ∧
  ∃ gs, s.gens[gi]? = some gs ∧ ∀ s'', s''.heap = s.heap → s''.os = s.os → AllBare s''.gens →
    gs.Goes (model X.prog X.w) X.A.in1.in1 (EndX X s0 H0 sc C code fp (a, go) sb Q) (Out X s0 H0 sc C code fp (a, go) sb Q) n (.send .none) s''
/-- what is wanted of the whole -/
def Fin' (X : Cx) (s0 : Shared) (H0 : Hp) (sc : Scope) (C : Addr) (code : Value) (fp : List Addr) (Q : VK) (a : Addr) (go : Obj) (R : Result → Shared → Prop) : Prop :=
  ∀ b σ1 H1 s1, Inv (gcx X s0 H0 sc C code fp) [(a, go)] σ1 H1 s1 → Q (.bl b) H1 → ∀ s', s'.os = s1.os → AllBare s'.gens → (∀ b o, s1.heap.get? b = some o → s'.heap.get? b = some o) → R (.ok (.ret (.bool b))) s'

theorem pin_at {σ1 : L2.St} {H1 : Hp} {s : Shared} (I : Inv (gcx X s0 H0 sc C code fp) [(a, go)] σ1 H1 s) : s.heap.get? a = some go := (I.pin (a, go) (by simp)).1

/-- one next( ) of it: a truth, or the end -/
theorem next_truth (hh : X.A.handled = none) (hd : X.A.depth < recursionLimit) (hgo : ∀ h : Heap, h.get? a = some go → h.IsGen a gi) {n : Nat} {s : Shared} (h : Awake X s0 H0 sc C code fp sb Q a go gi n s) {P : Option Value → Shared → Prop} {E : Value → Shared → Prop}
    (stop : ∀ σ1 H1 s1 s2, Inv (gcx X s0 H0 sc C code fp) [(a, go)] σ1 H1 s1 → Q (.bl sb) H1 → s2.os = s1.os → AllBare s2.gens → s2.heap = s1.heap → P (some (.bool sb)) s2)
    (more : ∀ n' s2, n = n' + 1 → Awake X s0 H0 sc C code fp sb Q a go gi n' s2 → P (some (.bool (!sb))) s2)
    (done : ∀ σ1 H1 s1 s2, Inv (gcx X s0 H0 sc C code fp) [(a, go)] σ1 H1 s1 → Q (.bl (!sb)) H1 → s2.os = s1.os → AllBare s2.gens → (∀ b o, s1.heap.get? b = some o → s2.heap.get? b = some o) → P none s2) :
    wpAny (model X.prog X.w) X.A.in1 (pyNext (.ref a)) P E s := by
  obtain ⟨⟨σ1, H1, I⟩, gs, hgs, goes⟩ := h
  have hlt : gi < s.gens.size := (Array.getElem?_eq_some_iff.mp hgs).1
  have hrun : AllBare (s.setGen gi .running).gens := allBare_setGen I.bare rfl
  refine wpAny_gsz (n := gi + 1) hlt (wpAny_pyNext_genexpQ (A := X.A.in1) (P := Over X s0 H0 sc C code fp (a, go) sb Q) hh I.nolimit hd (hgo _ (pin_at I)) hgs (goes _ rfl rfl hrun) (fun v s1 gs' hb hv => ?_) fun s1 hp h' hk => ?_)
  · intro hsz
    obtain ⟨b, σ2, H2, ev, I2, hst, hmore⟩ := hv
    subst ev
    have hb2 : AllBare (s1.setGen gi gs').gens := allBare_setGen I2.bare hb
    by_cases e : b = sb
    · rw [e]
      exact stop σ2 H2 s1 _ I2 (hst e) rfl hb2 rfl
    · have e2 : b = !sb := by cases b <;> cases sb <;> simp_all
      have q := hmore e
      cases n with
      | zero => exact (q s1 rfl rfl I2.bare).elim
      | succ n' =>
        rw [e2]
        have hlt2 : gi < s1.gens.size := by
          have z : (s1.setGen gi gs').gens.size = s1.gens.size := setGen_size _ _ _
          omega
        refine more n' _ rfl ⟨⟨σ2, H2, inv_like I2 rfl rfl hb2⟩, gs', setGen_at hlt2, fun s'' h1 h2 h3 => q s'' h1 h2 h3⟩
  · intro hsz
    obtain ⟨σ2, H2, I2, q⟩ := hp
    exact done σ2 H2 s1 _ I2 q rfl (allBare_setGen I2.bare rfl) hk

theorem all_turns (hh : X.A.handled = none) (hd : X.A.depth < recursionLimit) (hgo : ∀ h : Heap, h.get? a = some go → h.IsGen a gi) {R : Result → Shared → Prop} (fin : Fin' X s0 H0 sc C code fp Q a go R) :
    ∀ (n : Nat) (s : Shared), Awake X s0 H0 sc C code fp false Q a go gi n s → codeAny (model X.prog X.w) X.A (.builtin "all.loop" ⟨[.ref a], []⟩) R s := by
  intro n
  induction n with
  | zero =>
    intro s h
    refine codeAny_builtin F.entry_all_loop ?_
    rw [Around.under_plainId F.plain_all_loop _]
    show wpAny _ X.A.in1 (pyNext (.ref a) >>= _) _ _ s
    refine wpAny_bind (next_truth hh hd hgo h (fun σ1 H1 s1 s2 I q e1 e2 e3 => ?_) (fun n' s2 e _ => by omega) fun σ1 H1 s1 s2 I q e1 e2 e3 => ?_)
    · refine wpAny_bind (wpAny_holding (wpAny_truthy_bool ?_))
      refine wpAny_bind (wpAny_letGo ?_)
      simp only [Bool.false_eq_true, if_false]
      exact wpAny_bind (wpAny_rule (wpAny_pure (fin false σ1 H1 s1 I q s2 e1 e2 fun b o e => by rw [e3]; exact e)))
    · exact wpAny_bind (wpAny_rule (wpAny_pure (fin true σ1 H1 s1 I q s2 e1 e2 e3)))
  | succ n ih =>
    intro s h
    refine codeAny_builtin F.entry_all_loop ?_
    rw [Around.under_plainId F.plain_all_loop _]
    show wpAny _ X.A.in1 (pyNext (.ref a) >>= _) _ _ s
    refine wpAny_bind (next_truth hh hd hgo h (fun σ1 H1 s1 s2 I q e1 e2 e3 => ?_) (fun n' s2 e h2 => ?_) fun σ1 H1 s1 s2 I q e1 e2 e3 => ?_)
    · refine wpAny_bind (wpAny_holding (wpAny_truthy_bool ?_))
      refine wpAny_bind (wpAny_letGo ?_)
      simp only [Bool.false_eq_true, if_false]
      exact wpAny_bind (wpAny_rule (wpAny_pure (fin false σ1 H1 s1 I q s2 e1 e2 fun b o e => by rw [e3]; exact e)))
    · refine wpAny_bind (wpAny_holding (wpAny_truthy_bool ?_))
      refine wpAny_bind (wpAny_letGo ?_)
      simp only [Bool.not_false, if_true]
      have en : n' = n := by omega
      rw [en] at h2
      exact wpAny_pure ⟨plainId_quiet F.plain_all_loop _, ih s2 h2⟩
    · exact wpAny_bind (wpAny_rule (wpAny_pure (fin true σ1 H1 s1 I q s2 e1 e2 e3)))
theorem any_turns (hh : X.A.handled = none) (hd : X.A.depth < recursionLimit) (hgo : ∀ h : Heap, h.get? a = some go → h.IsGen a gi) {R : Result → Shared → Prop} (fin : Fin' X s0 H0 sc C code fp Q a go R) :
    ∀ (n : Nat) (s : Shared), Awake X s0 H0 sc C code fp true Q a go gi n s → codeAny (model X.prog X.w) X.A (.builtin "any.loop" ⟨[.ref a], []⟩) R s := by
  intro n
  induction n with
  | zero =>
    intro s h
    refine codeAny_builtin F.entry_any_loop ?_
    rw [Around.under_plainId F.plain_any_loop _]
    show wpAny _ X.A.in1 (pyNext (.ref a) >>= _) _ _ s
    refine wpAny_bind (next_truth hh hd hgo h (fun σ1 H1 s1 s2 I q e1 e2 e3 => ?_) (fun n' s2 e _ => by omega) fun σ1 H1 s1 s2 I q e1 e2 e3 => ?_)
    · refine wpAny_bind (wpAny_holding (wpAny_truthy_bool ?_))
      refine wpAny_bind (wpAny_letGo ?_)
      simp only [if_true]
      exact wpAny_bind (wpAny_rule (wpAny_pure (fin true σ1 H1 s1 I q s2 e1 e2 fun b o e => by rw [e3]; exact e)))
    · exact wpAny_bind (wpAny_rule (wpAny_pure (fin false σ1 H1 s1 I q s2 e1 e2 e3)))
  | succ n ih =>
    intro s h
    refine codeAny_builtin F.entry_any_loop ?_
    rw [Around.under_plainId F.plain_any_loop _]
    show wpAny _ X.A.in1 (pyNext (.ref a) >>= _) _ _ s
    refine wpAny_bind (next_truth hh hd hgo h (fun σ1 H1 s1 s2 I q e1 e2 e3 => ?_) (fun n' s2 e h2 => ?_) fun σ1 H1 s1 s2 I q e1 e2 e3 => ?_)
    · refine wpAny_bind (wpAny_holding (wpAny_truthy_bool ?_))
      refine wpAny_bind (wpAny_letGo ?_)
      simp only [if_true]
      exact wpAny_bind (wpAny_rule (wpAny_pure (fin true σ1 H1 s1 I q s2 e1 e2 fun b o e => by rw [e3]; exact e)))
    · refine wpAny_bind (wpAny_holding (wpAny_truthy_bool ?_))
      refine wpAny_bind (wpAny_letGo ?_)
      simp only [Bool.not_true, Bool.false_eq_true, if_false]
      have en : n' = n := by omega
      rw [en] at h2
      exact wpAny_pure ⟨plainId_quiet F.plain_any_loop _, ih s2 h2⟩
    · exact wpAny_bind (wpAny_rule (wpAny_pure (fin false σ1 H1 s1 I q s2 e1 e2 e3)))
end
end Gx

namespace Gx
open PySem PySem.Spec PyProof.Rows L2 GxR GenW
section
variable {X : Cx} {pins : List (Addr × Obj)} {σ : L2.St} {H : Hp} {s : Shared}

/-- what stands once the generator has been made, ahead of its first turn -/
structure Made (X : Cx) (pins : List (Addr × Obj)) (σ : L2.St) (P : Addr) (elt tg iter : Expr) (sc : Scope) (pos : Pos) (vs : List Nat) (J : It) (H1 H2 : Hp) (it : Addr) (fp : List Addr) (tn : Nat → Heap → Prop) (s0 : Shared) (C : Addr) (code : Value) (a : Addr) (go : Obj) (gi : Nat) (s5 : Shared) : Prop where
  tab : Tabbed P H1 H2
  turns : Turn X.prog X.w X.K tg J fp it tn
  st : tn 0 s5.heap
  i0 : Inv X pins σ H2 s0
  fpo : ∀ b ∈ fp, FpOk X pins H2 b ∧ b < s0.heap.objs.size
  i5 : Inv (gcx X s0 H2 sc C code fp) [(a, go)] (wipe σ vs) H2 s5
  apart : a ∉ fp
  gens : s5.gens[gi]? = some (.fresh (StartC X elt tg iter sc pos it C code))
  isgen : ∀ h : Heap, h.get? a = some go → h.IsGen a gi

theorem gen_made {c P : Addr} {elt tg iter : Expr} {gpos : Pos} {sc : Scope} {own : List (Str × Nat)} {wi : TI} {k : Nat} {Q' : Value → Shared → Prop} {R : It → Hp → Prop}
    (hr : Room k X.A) (TB : TabB X.base X.mg c P) (hcode : X.env.code = .ref c) (ok : BlkOk X.N X.env.scope sc own) (hN : X.N.Nodup) (hcell : ∀ y ∈ sc.names, y.2 ≠ .cell) (hdot : sc.names.lookup (".0" : Str) = some NameKind.local)
    (hco : sc.isCoroutine = false) (hi : PI X tg iter wi) (hs : ∀ v, genFold iter X.env v = pure v) (I : Inv X pins σ H s) (h : wi σ H fun J H1 => TabG H1 P ∧ R J H1)
    (hQ : ∀ J H1 H2 it fp tn s0 C code a go gi s5, R J H1 → Made X pins σ P elt tg iter sc gpos (own.map (·.2)) J H1 H2 it fp tn s0 C code a go gi s5 → Q' (.ref a) s5) :
    wpAny (model X.prog X.w) X.A (eval (.GeneratorExp elt [⟨tg, iter, [], 0⟩] sc gpos) X.env) Q' X.xe s := by
  have hf : ∀ z ∈ sc.names, z.2 = .free → ∃ c, X.env.cells.lookup z.1 = some c := fun z hz e => by
    rcases ok.free z hz e with k | k
    · exact I.ok.has _ (.inl k)
    · exact I.ok.has _ (.inr k)
  refine wpAny_GeneratorExp_make hco (closure_ok hf) hcell hdot ok.kind (by have := hr.dp; omega) ?_ hs
  refine thn (hi.run pins s σ H _ I h) fun xv s1 h1 => thn h1 fun itv s2 h2 => ?_
  obtain ⟨it, fp, tn, J, H1, e, I1, T, st, f1, ⟨ps, hP, htr⟩, q⟩ := h2
  subst e
  refine ⟨I1.nolimit, ?_⟩
  have hPs : s2.heap.get? P = some { cls := .none, data := .fields ps } := I1.hok P _ hP
  have cd : PySem.W.CodeHd s2.heap c P := TB.code.keeps I1.bk
  -- behind the making of the code object
  have cont : ∀ (cv : Value) (h3 : Heap) (tk : Nat) (more : Array Value), (∀ b o, b ≠ P → s2.heap.get? b = some o → h3.get? b = some o) → h3.get? P = some { cls := .none, data := .fields (ps ++ more) } → TriplesOk (ps ++ more).toList →
      wpAny (model X.prog X.w) X.A (builtinsFor X.env.globals X.env.builtins) (fun bi s4 => ∀ h', h'.Ns s4.heap.objs.size (fun y => if y = ".0" then some (.ref it) else none) → Heap.SameBut s4.heap.objs.size (s4.heap.push { cls := .type "frame", data := .dict #[] }) h' →
        Q' (.ref h'.objs.size) { s4 with
          gens := s4.gens.push (.fresh (.compStart (.GeneratorExp elt [⟨tg, iter, [], 0⟩] sc gpos) 0 (.ref it) .none (genEnv sc (cloFrom X.env.cells sc.names []) s4.heap.objs.size cv bi X.env))),
          toks := s4.toks + 1 + 1 + 1,
          heap := h'.push { cls := .type "generator", data := .fields #[.int s4.gens.size 0, .str "<genexpr>" (s4.toks + 1), .str (X.env.qual ++ "<genexpr>") (s4.toks + 1 + 1)] } }) X.xe { s2 with heap := h3, toks := tk } := by
    intro cv h3 tk more k3 hP3 ht3
    have I3 : Inv X pins σ (upd H1 P (.tbl (ps ++ more))) { s2 with heap := h3, toks := tk } := inv_tab (g' := s2.gens) (d' := s2.drawn) (t' := tk) I1 hP k3 hP3 I1.bare
    have tbd : Tabbed P H1 (upd H1 P (.tbl (ps ++ more))) := ⟨⟨ps ++ more, upd_same, ht3⟩, fun b hb => upd_ne hb⟩
    obtain ⟨bm, ob, e1, e2, e3, e4, e5, e6, e7, e8⟩ := TB.bm
    have gNs := I3.mod.glob.keeps I3.bk
    refine wpAny_builtinsFor (m := X.mg) (by rw [I3.ok.glob]; exact gNs) e1 e2 (I3.bk _ _ e5) e6 e7 e8 ?_
    intro h' hns' hsb
    generalize hH2 : upd H1 P (.tbl (ps ++ more)) = H2 at I3 tbd
    have n2 : ∀ b, H1 b = none → H2 b = none := fun b e => by
      have hne : b ≠ P := fun z => by rw [z, hP] at e; cases e
      rw [tbd.2 b hne]
      exact e
    have f3 : ∀ b ∈ fp, FpOk X pins H2 b ∧ b < h3.objs.size := fun b hb => by
      have hne : b ≠ P := fun z => by
        have := (f1 b hb).1
        rw [z, hP] at this
        cases this
      obtain ⟨o, e, _⟩ := T.obj _ _ st b hb
      exact ⟨⟨n2 b (f1 b hb).1, (f1 b hb).2⟩, Heap.lt_size (k3 b o hne e)⟩
    have hsz : h'.objs.size = h3.objs.size + 1 := by
      have z := hsb.1
      rw [Heap.size_push] at z
      exact z
    have kp : ∀ b o, h3.get? b = some o → h'.get? b = some o := fun b o e => hsb.extBut b o (Nat.ne_of_lt (Heap.lt_size e)) (Heap.get?_push_of_some _ e)
    generalize hgo : ({ cls := .type "generator", data := .fields #[.int s2.gens.size 0, .str "<genexpr>" (tk + 1), .str (X.env.qual ++ "<genexpr>") (tk + 1 + 1)] } : Obj) = go
    have ggo : (h'.push go).get? h'.objs.size = some go := Heap.get?_push_size _ (by rw [← hgo]; rfl)
    have kp5 : ∀ b o, h3.get? b = some o → (h'.push go).get? b = some o := fun b o e => Heap.get?_push_of_some _ (kp b o e)
    have bg : AllBare (s2.gens.push (.fresh (.compStart (.GeneratorExp elt [⟨tg, iter, [], 0⟩] sc gpos) 0 (.ref it) .none (genv X sc h3.objs.size cv)))) := I1.bare.push rfl
    have I5 := gx_start (C := h3.objs.size) (code := cv) (d' := s2.drawn) (t' := tk + 1 + 1 + 1) (h' := h'.push go) (s := { s2 with heap := h3, toks := tk }) I3 hr.hd ok hN hcell f3 rfl ⟨_, hns'.push _⟩ kp5 bg
    have na : h3.objs.size ≤ h'.objs.size := by rw [hsz]; exact Nat.le_succ _
    have I5' := I5.pins_of (pins' := [(h'.objs.size, go)]) fun p hp => by
      have ep : p = (h'.objs.size, go) := by simpa using hp
      subst ep
      refine ⟨ggo, I3.hok.fresh na, ?_, fun z => ?_, fun v z => ?_⟩
      · show h'.objs.size ≠ h3.objs.size
        rw [hsz]
        exact Nat.succ_ne_self _
      · rcases List.mem_cons.mp (I3.stkSub _ z) with y | y
        · have l : X.env.locals < h3.objs.size := I3.lt
          rw [← show h'.objs.size = X.env.locals from y] at l
          exact Nat.lt_irrefl _ (Nat.lt_of_lt_of_le l na)
        · exact I3.nofs (a := h'.objs.size) na y
      · rw [← hgo] at z
        cases z
    refine hQ J H1 H2 it fp tn { s2 with heap := h3, toks := tk } h3.objs.size cv h'.objs.size go s2.gens.size _ q ⟨tbd, T, ?_, I3, f3, I5', fun z => ?_, Array.getElem?_push_size .., fun h e => ⟨go, _, _, e, by rw [← hgo], by rw [← hgo], by rw [← hgo]⟩⟩
    · refine T.keep _ _ _ st fun b hb o e => kp5 b o (k3 b o (fun z => ?_) e)
      have := (f1 b hb).1
      rw [z, hP] at this
      cases this
    · exact Nat.lt_irrefl _ (Nat.lt_of_lt_of_le (f3 _ z).2 na)
  cases hf2 : codeAmong gpos ps.toList with
  | none =>
    refine wpAny_genexprCodeX hcode (cd.code hPs htr) (cd.tab hPs) hf2 fun c' h' tk hx hge hlt hco' _ htab' _ => ?_
    obtain ⟨o1, us, f1', tf, fl, tg', inF, tx, tt, op, _, _, _, _, _, _, _, _, _, htr', _⟩ := hco'
    exact cont _ h' tk _ (fun b o hb e => hx b o hb e) htab'.2 htr'
  | some cv =>
    refine wpAny_genexprCode_hit hcode (cd.code hPs htr) hf2 ?_
    exact cont cv s2.heap s2.toks #[] (fun b o _ e => e) (by rw [Array.append_empty]; exact hPs) (by rw [Array.append_empty]; exact htr)

/-- all( ), any( ) of a generator expression: sb is the truth at which it stops -/
def rTruth (P : Addr) (sb : Bool) (g : TG) (te : TE) (vs : List Nat) (σ : L2.St) (Q : VK) (J : It) (H1 : Hp) : Prop := ∀ H2, Tabbed P H1 H2 → ∃ W : Nat → Nat → Hp → Prop, (∃ m, W 0 m H2) ∧
  ∀ i m H, W i m H → (J.stop i H ∧ Q (.bl (!sb)) H) ∨ (J.go i H ∧ ∃ Nx : Hp → Prop, (∀ H', Nx H' → ∃ m', m' < m ∧ W (i + 1) m' H') ∧
    ∀ x H', J.yld i H x H' → g x (wipe σ vs) H' fun σ2 H2 => wipe σ2 vs = wipe σ vs ∧ te σ2 H2 fun y H4 => ∃ b, y = .bl b ∧ if b = sb then Q (.bl sb) H4 else Nx H4)
def tTruthG (P : Addr) (sb : Bool) (wi : TI) (g : TG) (te : TE) (vs : List Nat) : TE := fun σ H Q => wi σ H fun J H1 => TabG H1 P ∧ rTruth P sb g te vs σ Q J H1
/-- how a run of it is told -/
def Told (X : Cx) (pins : List (Addr × Obj)) (σ : L2.St) (sc : Scope) (sb : Bool) (Q : VK) (a : Addr) (s5 : Shared) : Prop :=
  ∀ R : Result → Shared → Prop, (∀ b s', EP X pins σ Q (.bool b) s' → R (.ok (.ret (.bool b))) s') → ∃ s0 H0 C code fp go gi n, Awake X s0 H0 sc C code fp sb Q a go gi n s5 ∧ (∀ h : Heap, h.get? a = some go → h.IsGen a gi) ∧ Fin' X s0 H0 sc C code fp Q a go R
/-- what the generator expression must have; the two names of it that are the program's -/
structure GxOk (X : Cx) (sc : Scope) (own : List (Str × Nat)) (c P : Addr) : Prop where
  tb : TabB X.base X.mg c P
  code : X.env.code = .ref c
  blk : BlkOk X.N X.env.scope sc own
  nd : X.N.Nodup
  nocell : ∀ y ∈ sc.names, y.2 ≠ .cell
  dot : sc.names.lookup (".0" : Str) = some NameKind.local
  nocor : sc.isCoroutine = false

section
variable {c P : Addr} {elt tg iter : Expr} {gpos p pos : Pos} {sc : Scope} {own : List (Str × Nat)} {wi : TI} {g : TG} {te : TE} {k : Nat}
theorem truth_core {sb : Bool} {Q : VK} (hr : Room k X.A) (G : GxOk X sc own c P) (hi : PI X tg iter wi) (hs : ∀ v, genFold iter X.env v = pure v)
    (hg : ∀ (s : Shared) (H : Hp) (C : Addr) (code : Value) (fp : List Addr), PG (gcx X s H sc C code fp) tg g) (he : ∀ (s : Shared) (H : Hp) (C : Addr) (code : Value) (fp : List Addr), PE (gcx X s H sc C code fp) elt te)
    (I : Inv X pins σ H s) (h : tTruthG P sb wi g te (own.map (·.2)) σ H Q) {Q' : Value → Shared → Prop}
    (hQ : ∀ a s5, s5.heap.NoLimit → (∃ gi, s5.heap.IsGen a gi) →
      Told X pins σ sc sb Q a s5 → Q' (.ref a) s5) :
    wpAny (model X.prog X.w) X.A (eval (.GeneratorExp elt [⟨tg, iter, [], 0⟩] sc gpos) X.env) Q' X.xe s := by
  have h' : wi σ H fun J H1 => TabG H1 P ∧ rTruth P sb g te (own.map (·.2)) σ Q J H1 := h
  refine gen_made (own := own)
    hr G.tb G.code G.blk G.nd G.nocell G.dot G.nocor hi hs I h' fun J H1 H2 it fp tn s0 C code a go gi s5 hR M => ?_
  obtain ⟨W, ⟨m, w0⟩, step⟩ := hR H2 M.tab
  have I5 := M.i5
  have n2 : ∀ b ∈ fp, H2 b = none := fun b hb => (M.fpo b hb).1.1
  have RR : Run X s0 H2 sc C code fp tg elt g te J it tn (own.map (·.2)) (wipe σ (own.map (·.2))) sb W Q := ⟨M.turns, hg _ _ _ _ _, he _ _ _ _ _, G.nocor, step⟩
  refine hQ a s5 I5.nolimit ⟨gi, M.isgen _ (pin_at I5)⟩ fun R hRR => ⟨s0, H2, C, code, fp, go, gi, m + 1, ⟨⟨_, _, I5⟩, _, M.gens, fun s'' e1 e2 e3 => ⟨rfl, seg_begin RR M.apart m s'' s'' (ahead_like ⟨H2, m, I5, M.st, n2, Nat.le_refl _, w0⟩ e1 e2 e3)⟩⟩, M.isgen, ?_⟩
  intro b σ1 H3 s1 I1 q s' ho hgs hk
  refine hRR b s' ⟨.bl b, H3, ?_, rfl, q⟩
  have un := I1.base.trans (Un.kept hk)
  exact M.i0.call' (ch := fp) (ho.trans I1.os) un (I1.hok.kept hk) hgs fun b hb => ⟨(M.fpo b hb).1.2.2.2.1, (M.fpo b hb).1.2.1, (M.fpo b hb).1.2.2.2.2.1, (M.fpo b hb).1.2.2.2.2.2⟩

theorem told_all {Q : VK} {a : Addr} {s5 : Shared} {R : Result → Shared → Prop} (hr : Room k X.A) (h : Told X pins σ sc false Q a s5) (hR : ∀ b s', EP X pins σ Q (.bool b) s' → R (.ok (.ret (.bool b))) s') :
    codeAny (model X.prog X.w) X.A (.builtin "all.loop" ⟨[.ref a], []⟩) R s5 := by
  obtain ⟨s0, H0, C, code, fp, go, gi, n, aw, hgo, fin⟩ := h R hR
  exact all_turns hr.hd (by have := hr.dp; omega) hgo fin n s5 aw
theorem told_any {Q : VK} {a : Addr} {s5 : Shared} {R : Result → Shared → Prop} (hr : Room k X.A) (h : Told X pins σ sc true Q a s5) (hR : ∀ b s', EP X pins σ Q (.bool b) s' → R (.ok (.ret (.bool b))) s') :
    codeAny (model X.prog X.w) X.A (.builtin "any.loop" ⟨[.ref a], []⟩) R s5 := by
  obtain ⟨s0, H0, C, code, fp, go, gi, n, aw, hgo, fin⟩ := h R hR
  exact any_turns hr.hd (by have := hr.dp; omega) hgo fin n s5 aw
theorem pe_allG (hr : Room k X.A) (G : GxOk X sc own c P) (hga : Gl X "all") (hma : X.mg "all" = none) (hb : bootBuiltins "all" = some (.builtin "all")) (hi : PI X tg iter wi)
    (hg : ∀ (s : Shared) (H : Hp) (C : Addr) (code : Value) (fp : List Addr), PG (gcx X s H sc C code fp) tg g) (he : ∀ (s : Shared) (H : Hp) (C : Addr) (code : Value) (fp : List Addr), PE (gcx X s H sc C code fp) elt te)
    (hs : ∀ v, genFold iter X.env v = pure v := by intro _; rfl)
    (hst : starEach [.GeneratorExp elt [⟨tg, iter, [], 0⟩] sc gpos] X.env = (false, eval (.GeneratorExp elt [⟨tg, iter, [], 0⟩] sc gpos) X.env) :: starEach [] X.env := by rfl) :
    PE X (.Call (.Name "all" p) [.GeneratorExp elt [⟨tg, iter, [], 0⟩] sc gpos] [] pos) (tTruthG P false wi g te (own.map (·.2))) := by
  refine ⟨fun pins s σ H Q I h => ?_⟩
  refine wpAny_Call_Name_kw (ld_blt I hga hma hb ?_)
  refine PyProof.Rows.callWith_builtin1 ?_ hst (by rfl)
  rw [hst]
  show wpAny _ _ (spliced ((false, eval (.GeneratorExp elt [⟨tg, iter, [], 0⟩] sc gpos) X.env) :: backTo pos (starEach [] X.env))) _ _ s
  refine Calls.spliced_cons (truth_core hr G hi hs hg he I h fun a s5 hl hgn hall => ?_)
  refine Calls.spliced_nil ?_
  refine call_function_tree F.kind_all F.plain_all F.entry_all (F.args_all1 _) ?_
  unfold Builtin.«all»
  refine wpAny_bind (m := oneArg "all" _) (wpAny_pure ?_)
  obtain ⟨gi, hgn⟩ := hgn
  refine wpAny_bind (wpAny_pyIter_gen hgn ?_)
  exact wpAny_pure ⟨plainId_quiet F.plain_all_loop _, told_all hr hall fun b s' h => h⟩
theorem pe_anyG (hr : Room k X.A) (G : GxOk X sc own c P) (hga : Gl X "any") (hma : X.mg "any" = none) (hb : bootBuiltins "any" = some (.builtin "any")) (hi : PI X tg iter wi)
    (hg : ∀ (s : Shared) (H : Hp) (C : Addr) (code : Value) (fp : List Addr), PG (gcx X s H sc C code fp) tg g) (he : ∀ (s : Shared) (H : Hp) (C : Addr) (code : Value) (fp : List Addr), PE (gcx X s H sc C code fp) elt te)
    (hs : ∀ v, genFold iter X.env v = pure v := by intro _; rfl)
    (hst : starEach [.GeneratorExp elt [⟨tg, iter, [], 0⟩] sc gpos] X.env = (false, eval (.GeneratorExp elt [⟨tg, iter, [], 0⟩] sc gpos) X.env) :: starEach [] X.env := by rfl) :
    PE X (.Call (.Name "any" p) [.GeneratorExp elt [⟨tg, iter, [], 0⟩] sc gpos] [] pos) (tTruthG P true wi g te (own.map (·.2))) := by
  refine ⟨fun pins s σ H Q I h => ?_⟩
  refine wpAny_Call_Name_kw (ld_blt I hga hma hb ?_)
  refine PyProof.Rows.callWith_builtin1 ?_ hst (by rfl)
  rw [hst]
  show wpAny _ _ (spliced ((false, eval (.GeneratorExp elt [⟨tg, iter, [], 0⟩] sc gpos) X.env) :: backTo pos (starEach [] X.env))) _ _ s
  refine Calls.spliced_cons (truth_core hr G hi hs hg he I h fun a s5 hl hgn hall => ?_)
  refine Calls.spliced_nil ?_
  refine call_function_tree F.kind_any F.plain_any F.entry_any (F.args_any1 _) ?_
  unfold Builtin.«any»
  refine wpAny_bind (m := oneArg "any" _) (wpAny_pure ?_)
  obtain ⟨gi, hgn⟩ := hgn
  refine wpAny_bind (wpAny_pyIter_gen hgn ?_)
  exact wpAny_pure ⟨plainId_quiet F.plain_any_loop _, told_any hr hall fun b s' h => h⟩
end
end
end Gx

/-! Defs whose callers run no repr; how they are called; repr and sorted of data; the end of a law. -/
namespace Gx
open PySem PySem.Spec PyProof.Rows L2 GxR GenW

/-- a def's promise where no repr is running around -/
structure FnG (P : Program) (w : World) (K : PySem.W.Frag) (mg : Str → Option Value) (base : Heap) (CX : CXT) (k : Nat) (f : Addr) (fd : FuncData) (ps : List Str) (sp : Sp) : Prop where
  many : ∀ vs H Q E, sp vs H Q E → vs.length = ps.length
  runs : ∀ (A : Around) (outer : List Env) (s : Shared) (H : Hp) (args : Args) (us : List Value) (vs : List V) (Q : VK) (E : XK), A.guards = some [] → Room k A →
    Env0 P w K mg base A outer s H → BindsTo s fd args (ps.zip us) → Vals vs us → sp vs H Q E → codeAny (model P w) A (.call (.ref f) args) (CR CX outer P w H s Q E) s
/-- a def of the text, with its code object's value -/
structure DefIs (K : PySem.W.Frag) (x qual : Str) (st : Stmt) (f : Addr) (fd : FuncData) (cdv : Value) : Prop where
  at_ : ∃ (oc : Value) (od : Option Addr) (kV doc pm : Value) (an : Option Addr) (ct : Value) (osl : Array (Option Value)),
    fd = PySem.W.fnOf x qual (defArgs st) (defBody st) (defScope st) .none kV doc pm an cdv ct ∧ K.lookup f = some ⟨oc, od, .func fd, osl⟩
  code : PySem.W.codeIn K cdv qual = true
  keep : PySem.W.keepIn K (.ref f) = true
theorem defIs_mk {K : PySem.W.Frag} {x qual : Str} {st : Stmt} {f : Addr} {oc : Value} {od an : Option Addr} {osl : Array (Option Value)} {kV doc pm cdv ct : Value}
    (l : K.lookup f = some ⟨oc, od, .func (PySem.W.fnOf x qual (defArgs st) (defBody st) (defScope st) .none kV doc pm an cdv ct), osl⟩) (c : PySem.W.codeIn K cdv qual = true) (kp : PySem.W.keepIn K (.ref f) = true) :
    DefIs K x qual st f (PySem.W.fnOf x qual (defArgs st) (defBody st) (defScope st) .none kV doc pm an cdv ct) cdv := ⟨⟨oc, od, kV, doc, pm, an, ct, osl, rfl, l⟩, c, kp⟩

section
variable {P : Program} {w : World} {K : PySem.W.Frag} {mg : Str → Option Value} {base : Heap} {CX : CXT}
theorem FnG.less {j k : Nat} {f : Addr} {fd : FuncData} {ps : List Str} {sp : Sp} (F : FnG P w K mg base CX j f fd ps sp) (h : j ≤ k) : FnG P w K mg base CX k f fd ps sp :=
  ⟨F.many, fun A outer s H args us vs Q E g r => F.runs A outer s H args us vs Q E g (r.mono h)⟩
/-- by its body -/
theorem DefIs.ok {x qual : Str} {st : Stmt} {f : Addr} {fd : FuncData} {cdv : Value} {N ps : List Str} {k : Nat} {sp : Sp} (D : DefIs K x qual st f fd cdv) (S : FnScope N ps (defScope st)) (len : ∀ vs H Q E, sp vs H Q E → vs.length = ps.length)
    (body : ∀ (A : Around) (outer : List Env) (s : Shared) (H : Hp) (vs : List V) (Q : VK) (E : XK), A.guards = some [] → Room k (A.deeper (envOfC qual (defScope st) s.heap.objs.size f cdv)) → sp vs H Q E →
      ∃ t, PSs (cxOf CX P w K mg base N qual (defScope st) f cdv A outer s H E) (defBody st) t ∧ t { nx := fun _ H' => Q .non H', rt := Q } (start N vs) H) : FnG P w K mg base CX (k + 1) f fd ps sp := by
  obtain ⟨oc, od, kV, doc, pm, an, ct, osl, rfl, lk⟩ := D.at_
  refine ⟨len, fun A outer s H args us vs Q E g hr e0 hb r hsp => ?_⟩
  have KX : K.In s.heap := e0.mod.kin.keeps fun b o e => (e0.bs b o e).1
  have inits : ∀ y ∈ ps.zip us, (defScope st).names.lookup y.1 = some .local ∨ ((defScope st).names.lookup y.1 = some .cell ∧ ((cellsFrom (s.heap.objs.size + 1) (defScope st).names []).lookup y.1).isSome = true) := by
    rintro ⟨n, v⟩ hy
    exact (S.par n (List.of_mem_zip hy).1).elim .inl fun q => .inr ⟨q, PySem.W.cellsFrom_some _ _ _ (.inl q)⟩
  refine codeAny_call_function hr.depth (KX _ _ lk) rfl S.co S.gen rfl (PySem.W.codeRec_of KX D.code) (hb _ _ _ _ (wpAny_newFunctionEnv_cells S.kind inits fun env he s1 x => ?_))
  subst he
  refine ⟨(e0.mod.nolimit.keeps fun b o e => (e0.bs b o e).1).keeps x.toInCall.keep, codeAny_func ?_⟩
  obtain ⟨t, ht, hq⟩ := body A outer s H vs Q E g (hr.deeper _) hsp
  refine wpAny_mono (ht.run [] s1 (start N vs) H _ (inv_start S hr.hd e0 (len _ _ _ _ hsp) r x) hq) (fun fl s' hs => ?_) fun e s' hs => hs
  cases fl with
  | ret u =>
    obtain ⟨v, σ', H', J, rv, q⟩ := hs
    exact ⟨v, H', J.os, J.bare, J.base, J.hok, rv, q⟩
  | next =>
    obtain ⟨σ', H', J, q⟩ := hs
    exact ⟨V.non, H', J.os, J.bare, J.base, J.hok, rfl, q⟩
  | brk => exact hs.elim fun _ z => z.elim fun _ y => False.elim y.2
  | cont => exact hs.elim fun _ z => z.elim fun _ y => False.elim y.2
/-- .. that nothing raised leaves -/
theorem DefIs.ok0 {x qual : Str} {st : Stmt} {f : Addr} {fd : FuncData} {cdv : Value} {N ps : List Str} {k : Nat} {sp : Sp} (D : DefIs K x qual st f fd cdv) (S : FnScope N ps (defScope st)) (len : ∀ vs H Q E, sp vs H Q E → vs.length = ps.length)
    (body : ∀ (A : Around) (outer : List Env) (s : Shared) (H : Hp) (vs : List V) (Q : VK) (E : XK), A.guards = some [] → Room k (A.deeper (envOfC qual (defScope st) s.heap.objs.size f cdv)) → sp vs H Q E →
      ∃ t, PSs (cxOf CX P w K mg base N qual (defScope st) f cdv A outer s H E).nox (defBody st) t ∧ t { nx := fun _ H' => Q .non H', rt := Q } (start N vs) H) : FnG P w K mg base CX (k + 1) f fd ps sp :=
  D.ok S len fun A outer s H vs Q E g hr hsp => let ⟨t, ht, q⟩ := body A outer s H vs Q E g hr hsp; ⟨t, ht.nox, q⟩
theorem DefIs.binds {x qual : Str} {st : Stmt} {f : Addr} {fd : FuncData} {cdv : Value} {ps : List Str} (D : DefIs K x qual st f fd cdv)
    (h : ∀ (kV doc pm : Value) (an : Option Addr) (ct : Value) (us : List Value), us.length = ps.length → bindArgs (PySem.W.fnOf x qual (defArgs st) (defBody st) (defScope st) .none kV doc pm an cdv ct) ⟨us, []⟩ = pure (ps.zip us)) : Binds K fd ps [] := by
  obtain ⟨oc, od, kV, doc, pm, an, ct, osl, rfl, lk⟩ := D.at_
  exact .all (h kV doc pm an ct)
end

/-- a def that can be called by its name: its promise, its place, how it binds -/
structure Callee (P : Program) (w : World) (K : PySem.W.Frag) (mg : Str → Option Value) (base : Heap) (CX : CXT) (k : Nat) (x : Str) (ps : List Str) (sp : Sp) : Prop where
  is : ∃ f fd, FnG P w K mg base CX k f fd ps sp ∧ mg x = some (.ref f) ∧ PySem.W.keepIn K (.ref f) = true ∧ Binds K fd ps []

section
variable {X : Cx} {CX : CXT} {k : Nat} {x : Str} {ps : List Str} {sp : Sp} {E : XK} {p pos : Pos} {e : Expr} {es : List Expr} {t : TA}
theorem run_g {pins : List (Addr × Obj)} {σ : L2.St} {H : Hp} {s : Shared} {Q : VK} {us : List Value} {vs : List V} {f : Addr} {fd : FuncData} (F : FnG X.prog X.w X.K X.mg X.base CX k f fd ps sp) (g : X.A.guards = some []) (hr : Room k X.A) (hb : Binds X.K fd ps []) (hx : Passes CX X E)
    (I : Inv X pins σ H s) (r : Vals vs us) (h : sp vs H Q E) : wpAny (model X.prog X.w) X.A (call (.ref f) us) (EP X pins σ Q) X.xe s := by
  have hl : (us ++ ([] : List Value)).length = ps.length := by rw [List.append_nil, ← r.length]; exact F.many _ _ _ _ h
  have hB := hb s us I.kIn hl
  rw [List.append_nil] at hB
  refine wpAny_call (codeAny_mono (F.runs X.A X.stack s H ⟨us, []⟩ us vs Q E g hr I.env0 hB r h) fun q s' hq => ?_)
  match q, hq with
  | .error e, hq => exact hx pins σ H s e s' I hq
  | .ok (.ret u), hq => exact I.after hq
/-- f(e, ..) -/
theorem pe_g (C : Callee X.prog X.w X.K X.mg X.base CX k x ps sp) (g : X.A.guards = some []) (hr : Room k X.A) (hx : Passes CX X E) (ha : PA X (e :: es) t) (hg : Gl X x := by rfl)
    (hdb : (x == ("__debug__" : Str)) = false := by decide) (he : starEach (e :: es) X.env = (false, eval e X.env) :: starEach es X.env := by rfl) (hpl : (backTo pos (starEach es X.env)).any (·.1) = false := by rfl) :
    PE X (.Call (.Name x p) (e :: es) [] pos) (tCall sp [] E t) := by
  obtain ⟨f, fd, F, hm, hk, hb⟩ := C.is
  refine ⟨fun pins s σ H Q I h => wpAny_Call_Name_kw (ld_glob I hg hm (PySem.W.callWith_K (h₀ := X.base) I.ok.mod.kin hk (thn (ha.run pos pins s σ H _ I h) fun us s1 h1 => ?_) he hpl) hdb)⟩
  obtain ⟨vs, H1, I1, r, q⟩ := h1
  rw [List.append_nil] at q
  exact ⟨I1.kIn, run_g F g hr hb hx I1 r q⟩
theorem pe_g0 (C : Callee X.prog X.w X.K X.mg X.base CX k x ps sp) (g : X.A.guards = some []) (hr : Room k X.A) (hx : Passes CX X E) (hg : Gl X x := by rfl) (hdb : (x == ("__debug__" : Str)) = false := by decide) :
    PE X (.Call (.Name x p) [] [] pos) (tCall sp [] E tNil) := by
  obtain ⟨f, fd, F, hm, hk, hb⟩ := C.is
  exact ⟨fun pins s σ H Q I h => wpAny_Call_Name_kw (ld_glob I hg hm (PySem.W.callWith_K0 I.kIn hk (run_g (us := []) F g hr hb hx I .nil h)) hdb)⟩
/-- a statement, a block that is never come to -/
theorem ps_dead {st : Stmt} : PS X st (fun _ _ _ => False) := ⟨fun _ _ _ _ _ _ h => h.elim⟩
theorem pss_dead {st : List Stmt} : PSs X st (fun _ _ _ => False) := ⟨fun _ _ _ _ _ _ h => h.elim⟩
theorem pe_dead {e : Expr} : PE X e (fun _ _ _ => False) := ⟨fun _ _ _ _ _ _ h => h.elim⟩
end
end Gx

namespace Gx
open PySem PySem.Spec PyProof.Rows L2 GxR GenW

/-! ### repr and sorted of data -/
section
variable {X : Cx}
def rRepr (K : PySem.W.Frag) : List V → Hp → VK → Prop := fun xs H Q => ∃ x d, xs = [x] ∧ Dp K H x d ∧ d.showable = true ∧ d.hasDict = false ∧ d.depth ≤ 60 ∧ d.shown.length ≤ sizeLine ∧ Q (.str d.shown) H
theorem cr_repr (g : X.A.guards = some []) (hu : X.A.units + 64 < cLine) : CallR X (.builtin "repr") (rRepr X.K) := by
  intro pins s σ H xs us Q I r h
  obtain ⟨x, d, rfl, hD, hs, hd, hp, hz, q⟩ := h
  obtain ⟨u, rfl, rx⟩ : ∃ u, us = [u] ∧ RelV x u := by
    cases r with
    | cons r1 r2 => cases r2; exact ⟨_, rfl, r1⟩
  obtain ⟨as, rd⟩ := Dp.reads I d x u hD rx
  have refs : ∀ a, x = .ref a → wpAny (model X.prog X.w) X.A (call (.builtin "repr") [u]) (EP X pins σ Q) X.xe s := fun a e => by
    subst e
    have e2 : u = .ref a := rx
    subst e2
    exact repr_of_reads' rd hs (PyData.noDict_hsm hd) g (by omega) (fun _ _ e => e) (fun h' v tk hk => ⟨.str _, H, I.kept hk, ⟨_, rfl⟩, q⟩) hz
  cases hD with
  | non =>
    have e2 : u = .none := rx
    subst e2
    exact PySem.P.repr_of_none ⟨.str _, H, I.tok _, ⟨_, rfl⟩, q⟩
  | bl b =>
    have e2 : u = .bool b := rx
    subst e2
    refine PySem.P.repr_of_bool ⟨.str _, H, I.tok _, ⟨_, rfl⟩, ?_⟩
    cases b <;> exact q
  | int i =>
    obtain ⟨t, rfl⟩ := rx
    exact PySem.P.repr_of_int (of_decide_eq_true hs) ⟨.str _, H, I.tok _, ⟨_, rfl⟩, q⟩
  | str z =>
    obtain ⟨t, rfl⟩ := rx
    exact PySem.P.repr_of_str ⟨.str _, H, I.tok _, ⟨_, rfl⟩, q⟩ hz
  | lst h1 h2 => exact refs _ rfl
  | tup h1 h2 => exact refs _ rfl

/-- sorted of a list of data, all of one shape -/
def rSortG (K : PySem.W.Frag) {β : Type} (val : β → V) (enc : β → PyData) : List V → Hp → VK → Prop := fun vs H Q => ∃ (a : Addr) (bs : List β), vs = [V.ref a] ∧ SqL K H a (bs.map val) ∧
  (∀ b ∈ bs, Dp K H (val b) (enc b) ∧ (enc b).depth ≤ 60) ∧ PySem.W.AllAlike (bs.map enc) ∧ PySem.W.Sortable (bs.map enc) ∧ bs.length ≤ sizeLine ∧
  ∀ p, H p = none → Q (.ref p) (upd H p (.lst ((bs.mergeSort (PySem.W.dataLe false enc)).map val)))
theorem each_vals {β : Type} {val : β → V} : ∀ {bs : List β} {us : List Value}, Vals (bs.map val) us → PySem.W.EachIs (fun u b => RelV (val b) u) us bs
  | [], _, .nil => .nil
  | _ :: _, _, .cons r t => .cons r (each_vals t)
theorem vals_each {β : Type} {val : β → V} : ∀ {bs : List β} {us : List Value}, PySem.W.EachIs (fun u b => RelV (val b) u) us bs → Vals (bs.map val) us
  | _, _, .nil => .nil
  | _, _, .cons r t => .cons r (vals_each t)
theorem each_mem {α β : Type} {R S : α → β → Prop} : ∀ {as : List α} {bs : List β}, PySem.W.EachIs R as bs → (∀ a b, b ∈ bs → R a b → S a b) → PySem.W.EachIs S as bs
  | _, _, .nil, _ => .nil
  | _, _, .cons r t, f => .cons (f _ _ List.mem_cons_self r) (each_mem t fun a b hb => f a b (List.mem_cons_of_mem _ hb))
theorem cr_sortG {β : Type} {val : β → V} {enc : β → PyData} (hu : X.A.units + 64 < cLine) : CallR X (.builtin "sorted") (rSortG X.K val enc) := by
  intro pins s σ H xs us Q I r h
  obtain ⟨a, bs, rfl, hL, hD, hal, hk, hz, q⟩ := h
  obtain ⟨u, rfl, rx⟩ : ∃ u, us = [u] ∧ RelV (.ref a) u := by
    cases r with
    | cons r1 r2 => cases r2; exact ⟨_, rfl, r1⟩
  have e2 : u = .ref a := rx
  subst e2
  obtain ⟨its, rv, pl, hz'⟩ := I.list hL
  have ev := each_vals rv
  have er : PySem.W.EachIs (fun v b => ∃ as, Reads s.heap v (enc b) as) its bs := each_mem ev fun v b hb rb => Dp.reads I (enc b) (val b) v (hD b hb).1 rb
  refine PySem.W.sorted_data pl.isList ev er hal hk hz (fun b hb => by have := (hD b hb).2; omega) fun out ho eo => ?_
  obtain ⟨n, hat⟩ := sortedAll_at s.heap its out.toArray
  have rout : Vals ((bs.mergeSort (PySem.W.dataLe false enc)).map val) out := vals_each eo
  have hlen : ((bs.mergeSort (PySem.W.dataLe false enc)).map val).length ≤ sizeLine := by rw [rout.length, ho]; exact hz
  have hf : H (s.heap.objs.size + 1) = none := I.hok.fresh (Nat.le_succ _)
  exact ⟨.ref (s.heap.objs.size + 1), upd H (s.heap.objs.size + 1) (.lst _), I.laid (t' := s.toks) (fun b o e => sortedAll_old e) (Nat.le_succ _) ⟨hlen, out, n, rout, hat⟩, rfl, q _ hf⟩
end

/-! ### the end of a law -/
section
variable {P : Program} {w : World} {K : PySem.W.Frag} {mg mb : Str → Option Value} {k : Nat} {fa a : Addr} {cs : List (Addr × Addr)} {fd : FuncData} {x : Str} {sp : Sp} {s₁ : Shared} {vs : List Value} {ns : List Int}
abbrev scriptObj (vs : List Value) : Obj := { cls := .type "list", data := .seq vs.toArray }
abbrev tabObj : Obj := { cls := .none, data := .fields #[] }
/-- the law's call from a heap in which the script and the tables alone are told -/
theorem law_from (H : Hp) (hT : ∀ p ∈ cs, H p.2 = some (.tbl #[])) (hall : ∀ b u, H b = some u → (b ∈ cs.map Prod.snd ∧ u = .tbl #[]) ∨ (b = a ∧ K.lookup a = none ∧ u = .frz (scriptObj vs) (.lst (ns.map V.int))))
    (KX : K.In s₁.heap) (hns : s₁.heap.Ns mainGlobals mg) (hb : s₁.heap.Ns builtinsNs mb) (hbb : ∀ x : Str, x ≠ "__name__" → mb x = bootBuiltins x) (hlim : s₁.heap.NoLimit) (hg : s₁.gens = #[])
    (tabs : ∀ p ∈ cs, s₁.heap.get? p.2 = some tabObj ∧ K.lookup p.2 = none ∧ PySem.W.CodeHd s₁.heap p.1 p.2)
    (hbm : ∃ (bm : Addr) (ob : Obj), mg "__builtins__" = some (.ref bm) ∧ bm ≠ builtinsNs ∧ s₁.heap.get? bm = some ob ∧ ob.cls = .type "module" ∧ ob.dict = some builtinsNs ∧ ob.data = .plain)
    (ha : s₁.heap.get? a = some (scriptObj vs)) (rv : Vals (ns.map V.int) vs) (hl : ns.length ≤ sizeLine) (hS : SqL K H a (ns.map V.int)) (hr : Room k callerA)
    (F : ∀ base : Heap, K.In base → base.Ns mainGlobals mg → (∀ p ∈ cs, TabB base mg p.1 p.2) → FnG P w K mg base CX0 k fa fd [x] sp) (hbind : ∀ (s : Shared) (u : Value), BindsTo s fd ⟨[u], []⟩ [(x, u)])
    (hsp : sp [.ref a] H (fun v _ => v = .bl true) E0) :
    codeAny (model P w) callerA (.call (.ref fa) ⟨[.ref a], []⟩) (fun r s' => r = .ok (.ret (.bool true)) ∧ OldK s₁.heap s'.heap ∧ s'.os = s₁.os ∧ AllBare s'.gens) s₁ := by
  have isT : ∀ b ∈ cs.map Prod.snd, s₁.heap.get? b = some tabObj := fun b h => by
    obtain ⟨p, hp, rfl⟩ := List.mem_map.mp h
    exact (tabs p hp).1
  -- what is of another kind is not told of
  have un : ∀ {b : Addr} {o : Obj}, s₁.heap.get? b = some o → o.data ≠ (scriptObj vs).data → o.data ≠ tabObj.data → H b = none := fun {b o} e n1 n2 => by
    cases q : H b with
    | none => rfl
    | some u =>
      rcases hall b u q with ⟨hm, _⟩ | ⟨rfl, _, _⟩
      · rw [isT b hm] at e
        exact (n2 (by rw [← Option.some.inj e])).elim
      · rw [ha] at e
        exact (n1 (by rw [← Option.some.inj e])).elim
  have unD : ∀ {b : Addr} {o : Obj} {es : Array DictEntry} {ep : Nat}, s₁.heap.get? b = some o → o.data = .dict es ep → H b = none := fun e d => un e (fun z => by rw [d] at z; cases z) fun z => by rw [d] at z; cases z
  have nsK : ∀ {b : Addr} {m : Str → Option Value}, s₁.heap.Ns b m → (hidT s₁.heap H).Ns b m := fun ⟨o, es, ep, e, d, r⟩ => ⟨o, es, ep, hidT_get e (unD e d), d, r⟩
  have hKb : K.In (hidT s₁.heap H) := fun b o e => hidT_get (KX b o e) (by
    cases q : H b with
    | none => rfl
    | some u =>
      rcases hall b u q with ⟨hm, _⟩ | ⟨rfl, hk, _⟩
      · obtain ⟨p, hp, rfl⟩ := List.mem_map.mp hm
        rw [(tabs p hp).2.1] at e
        cases e
      · rw [hk] at e
        cases e)
  have hok : HOk P w H s₁.heap := fun b u q => by
    rcases hall b u q with ⟨hm, rfl⟩ | ⟨rfl, _, rfl⟩
    · exact isT b hm
    · exact ⟨ha, by rw [List.length_map]; exact hl, vs, _, rv, ha⟩
  have TB : ∀ p ∈ cs, TabB (hidT s₁.heap H) mg p.1 p.2 := fun p hp => by
    obtain ⟨t1, t2, o, us, file, tf, flags, tg, inF, text, tt, e1, r1, r2, r3, rr⟩ := tabs p hp
    have nMain : mainGlobals ≠ p.2 := fun z => by
      obtain ⟨o, es, ep, e, d, _⟩ := hns
      rw [z, t1] at e
      cases e
      cases d
    refine ⟨⟨o, us, file, tf, flags, tg, inF, text, tt, hidT_get e1 (un e1 (fun z => ?_) fun z => ?_), r1, r2, r3, rr⟩, ?_, nMain⟩
    · rw [r2] at z
      cases z
    · rw [r2] at z
      cases z
      simp at r3
    · obtain ⟨bm, ob, b1, b2, b3, b4, b5, b6⟩ := hbm
      refine ⟨bm, ob, b1, b2, fun z => ?_, fun z => ?_, hidT_get b3 (un b3 (fun z => ?_) fun z => ?_), b4, b5, b6⟩
      · obtain ⟨o, es, ep, e, d, _⟩ := hns
        rw [z, e] at b3
        cases b3
        rw [d] at b6
        cases b6
      · rw [z, t1] at b3
        cases b3
        cases b6
      · rw [b6] at z
        cases z
      · rw [b6] at z
        cases z
  have lim2 : (hidT s₁.heap H).NoLimit := hlim.elim fun mc h => ⟨mc, nsK h.1, h.2⟩
  have e0 : Env0 P w K mg (hidT s₁.heap H) callerA [] s₁ H :=
    { frames := rfl, mod := ⟨hKb, nsK hns, ⟨mb, nsK hb, hbb⟩, lim2⟩, bs := fun b o e => of_hidT e, bsz := Nat.le_of_eq (hidT_size _ _), funs := trivial, frf := fun b hb => absurd (show b ∈ ([] : List Addr) from hb) (by simp), hok := hok, bare := .of_eq hg }
  refine codeAny_mono ((F _ hKb (nsK hns) TB).runs callerA [] s₁ H ⟨[.ref a], []⟩ [.ref a] [.ref a] _ _ rfl hr e0 (hbind s₁ (.ref a)) (.cons rfl .nil) hsp) fun r s' h => ?_
  match r, h with
  | .ok (.ret u), h =>
    obtain ⟨v, H', os, bare, U, hok', ru, ev⟩ := h
    subst ev
    have eu : u = .bool true := ru
    subst eu
    have kept : ∀ b o, b ∉ cs.map Prod.snd → s₁.heap.get? b = some o → s'.heap.get? b = some o := fun b o nb e => by
      cases q : H b with
      | none => exact U.keep b o e q (fun z => absurd (show b ∈ ([] : List Addr) from z) (by simp)) (by simp)
      | some u =>
        rcases hall b u q with ⟨hm, _⟩ | ⟨rfl, _, rfl⟩
        · exact (nb hm).elim
        · obtain ⟨e1, _⟩ := hok b _ q
          obtain ⟨e2, _⟩ := hok' b _ (U.frzs b _ _ q)
          rw [e] at e1
          rw [e1]
          exact e2
    have grown : ∀ p ∈ cs, ∃ more : Array Value, s'.heap.get? p.2 = some { cls := .none, data := .fields more } := fun p hp => by
      obtain ⟨more, z⟩ := U.tbls p.2 #[] (hT p hp)
      exact ⟨_, hok' p.2 _ z⟩
    refine ⟨rfl, ⟨fun b o e => ?_, fun b o e => ?_⟩, os, bare⟩
    · by_cases hm : b ∈ cs.map Prod.snd
      · obtain ⟨p, hp, rfl⟩ := List.mem_map.mp hm
        obtain ⟨more, hmore⟩ := grown p hp
        rw [(tabs p hp).1] at e
        cases e
        exact .inr (.inl ⟨((tabs p hp).2.2.tab (tabs p hp).1).isCodeTable, rfl, #[], more, rfl, by rw [Array.empty_append]; exact hmore⟩)
      · exact .inl (kept b o hm e)
    · by_cases hm : b ∈ cs.map Prod.snd
      · obtain ⟨p, hp, rfl⟩ := List.mem_map.mp hm
        exact (grown p hp).elim fun more h => ⟨_, h⟩
      · exact ⟨o, kept b o hm e⟩
/-- what is known of the law's promise at the heap h behind the top -/
def LawG (l : PySem.W.OpenLaw) (w : World) (K : PySem.W.Frag) (k n : Nat) (x : Str) (mg : Str → Option Value) (fa : Addr) (h : Heap) : Prop :=
  ∃ (fd : FuncData) (cs : List (Addr × Addr)) (sp : Sp), (∀ p ∈ cs, h.get? p.2 = some tabObj ∧ K.lookup p.2 = none ∧ PySem.W.CodeHd h p.1 p.2) ∧ (∀ (s : Shared) (u : Value), BindsTo s fd ⟨[u], []⟩ [(x, u)]) ∧
    (∀ (H : Hp) (a : Addr) (ns : List Int), ns.length ≤ n → (∀ z ∈ ns, Builtin.Int.intBits z ≤ 1048576) → (∀ p ∈ cs, H p.2 = some (.tbl #[])) → SqL K H a (ns.map V.int) → sp [.ref a] H (fun v _ => v = .bl true) E0) ∧
    ∀ base : Heap, K.In base → base.Ns mainGlobals mg → (∀ p ∈ cs, TabB base mg p.1 p.2) → FnG l.prog w K mg base CX0 k fa fd [x] sp
theorem walk_G {l : PySem.W.OpenLaw} {n k : Nat} {q : Program} {loose : List Str} {XP : (Str → Option Value) → Heap → Prop} {YP : World → Heap → Prop} {d : DefRec} {K : Params → PySem.W.Frag} {x : Str}
    (hn : l.most = some n) (hn2 : n ≤ sizeLine) (hdf : d.params.defaults = []) (hr : Room k callerA) (hY : ∀ (w : World) (h : Heap), YP w h → (K w.params).In h)
    (F : ∀ (w : World) (mg : Str → Option Value) (fa : Addr) (h : Heap), YP w h → (K w.params).In h → h.Ns mainGlobals mg → mg d.name = some (.ref fa) → LawG l w (K w.params) k n x mg fa h) :
    PySem.W.WalkO q loose XP YP l.row.toRowW d [] (fun f vs => PySem.call f vs) := by
  refine Att.attach_callB hn hdf fun w s₀ s₁ mg mb fa o pm cd doc a vs ns G Y ho hd hcd hmg hobj hints hlen hbits hg => ?_
  have KX := hY w _ Y
  obtain ⟨fd, cs, sp, hT, hb, hsp, hF⟩ := F w mg fa _ Y KX G.T.g hmg
  have aT : a ∉ cs.map Prod.snd := fun z => by
    obtain ⟨p, hp, e⟩ := List.mem_map.mp z
    have q := (hT p hp).1
    rw [e, hobj] at q
    have z' : Data.seq vs.toArray _ = Data.fields #[] := congrArg Obj.data (Option.some.inj q)
    cases z'
  have rv := vals_ints hints
  cases hk : (K w.params).lookup a with
  | some o2 =>
    have e := KX a o2 hk
    rw [hobj] at e
    cases e
    have sl : SqL (K w.params) (fun b => if b ∈ cs.map Prod.snd then some (.tbl #[]) else none) a (ns.map V.int) :=
      .inr ⟨_, vs.toArray, _, hk, rfl, rfl, rfl, by rw [List.size_toArray, hints.length]; exact Nat.le_trans hlen hn2, by simpa using rv⟩
    have hT' : ∀ p ∈ cs, (fun b => if b ∈ cs.map Prod.snd then some (HO.tbl #[]) else none) p.2 = some (.tbl #[]) := fun p hp => if_pos (List.mem_map.mpr ⟨p, hp, rfl⟩)
    refine law_from _ hT' (fun b u z => ?_) KX G.T.g G.T.b G.T.builtins G.T.nolimit hg hT G.T.bmain hobj rv (Nat.le_trans hlen hn2) sl hr hF hb (hsp _ a ns hlen hbits hT' sl)
    by_cases hm : b ∈ cs.map Prod.snd
    · exact .inl ⟨hm, Option.some.inj (z.symm.trans (if_pos hm))⟩
    · have z' := z.symm.trans (if_neg hm)
      cases z'
  | none =>
    have sl : SqL (K w.params) (fun b => if b = a then some (.frz (scriptObj vs) (.lst (ns.map V.int))) else if b ∈ cs.map Prod.snd then some (.tbl #[]) else none) a (ns.map V.int) := .inl (.inr ⟨scriptObj vs, if_pos rfl⟩)
    have hT' : ∀ p ∈ cs, (fun b => if b = a then some (HO.frz (scriptObj vs) (.lst (ns.map V.int))) else if b ∈ cs.map Prod.snd then some (.tbl #[]) else none) p.2 = some (.tbl #[]) := fun p hp =>
      (if_neg (show ¬ p.2 = a from fun z => aT (by rw [← z]; exact List.mem_map.mpr ⟨p, hp, rfl⟩))).trans (if_pos (List.mem_map.mpr ⟨p, hp, rfl⟩))
    refine law_from _ hT' (fun b u z => ?_) KX G.T.g G.T.b G.T.builtins G.T.nolimit hg hT G.T.bmain hobj rv (Nat.le_trans hlen hn2) sl hr hF hb (hsp _ a ns hlen hbits hT' sl)
    by_cases hm : b = a
    · exact .inr ⟨hm, hk, Option.some.inj (z.symm.trans (if_pos hm))⟩
    · have z1 := z.symm.trans (if_neg hm)
      by_cases hm2 : b ∈ cs.map Prod.snd
      · exact .inl ⟨hm2, Option.some.inj (z1.trans (if_pos hm2))⟩
      · have z' := z1.trans (if_neg hm2)
        cases z'
end
end Gx

/-! set( ) of a list of keys of any kind, fewer than 4,000; len(set( )) of a list of texts -/
namespace Gx
open PySem PySem.Spec PyProof.Rows L2 GxR GenW
/-- the unlike ones, in their order -/
def uq {κ : Type} [DecidableEq κ] : List κ → List κ → List κ
  | acc, [] => acc
  | acc, x :: r => uq (if x ∈ acc then acc else acc ++ [x]) r
theorem uq_append {κ : Type} [DecidableEq κ] : ∀ (l acc : List κ) (x : κ), uq acc (l ++ [x]) = if x ∈ uq acc l then uq acc l else uq acc l ++ [x]
  | [], acc, x => rfl
  | y :: r, acc, x => uq_append r _ x
theorem uq_len {κ : Type} [DecidableEq κ] : ∀ (l acc : List κ), (uq acc l).length ≤ acc.length + l.length
  | [], acc => Nat.le_refl _
  | x :: r, acc => by
    have h := uq_len r (if x ∈ acc then acc else acc ++ [x])
    have e : (if x ∈ acc then acc else acc ++ [x]).length ≤ acc.length + 1 := by split <;> simp
    show (uq _ r).length ≤ acc.length + (r.length + 1)
    omega
theorem uq_mem {κ : Type} [DecidableEq κ] : ∀ (l acc : List κ) (k : κ), k ∈ uq acc l ↔ k ∈ acc ∨ k ∈ l
  | [], acc, k => by simp [uq]
  | x :: r, acc, k => by
    show k ∈ uq (if x ∈ acc then acc else acc ++ [x]) r ↔ _
    rw [uq_mem r]
    by_cases h : x ∈ acc
    · rw [if_pos h]
      constructor
      · rintro (h1 | h1)
        · exact .inl h1
        · exact .inr (List.mem_cons_of_mem _ h1)
      · rintro (h1 | h1)
        · exact .inl h1
        · rcases List.mem_cons.mp h1 with e | h2
          · exact .inl (e ▸ h)
          · exact .inr h2
    · rw [if_neg h]
      simp only [List.mem_append, List.mem_cons, List.not_mem_nil, or_false]
      constructor
      · rintro ((h1 | h1) | h1)
        · exact .inl h1
        · exact .inr (.inl h1)
        · exact .inr (.inr h1)
      · rintro (h1 | h1 | h1)
        · exact .inl (.inl h1)
        · exact .inl (.inr h1)
        · exact .inr h1
theorem uq_nodup {κ : Type} [DecidableEq κ] : ∀ (l acc : List κ), (acc ++ l).Nodup → uq acc l = acc ++ l
  | [], acc, _ => by simp [uq]
  | x :: r, acc, h => by
    have hx : x ∉ acc := fun hm => by
      rw [List.nodup_append] at h
      exact h.2.2 x hm x List.mem_cons_self rfl
    show uq (if x ∈ acc then acc else acc ++ [x]) r = _
    rw [if_neg hx]
    have e : acc ++ x :: r = (acc ++ [x]) ++ r := by simp
    rw [e] at h ⊢
    exact uq_nodup r _ h
theorem uq_short {κ : Type} [DecidableEq κ] : ∀ (l acc : List κ), acc.Nodup → ¬ (acc ++ l).Nodup → (uq acc l).length < acc.length + l.length
  | [], acc, h, h2 => absurd (by simpa using h) h2
  | x :: r, acc, h, h2 => by
    show (uq (if x ∈ acc then acc else acc ++ [x]) r).length < acc.length + (r.length + 1)
    by_cases hx : x ∈ acc
    · rw [if_pos hx]
      have := uq_len r acc
      omega
    · rw [if_neg hx]
      have hn : (acc ++ [x]).Nodup := by
        rw [List.nodup_append]
        refine ⟨h, by simp, fun a ha b hb => ?_⟩
        have e : b = x := by simpa using hb
        rw [e]
        exact fun z => hx (z ▸ ha)
      have e : acc ++ x :: r = (acc ++ [x]) ++ r := by simp
      rw [e] at h2
      have := uq_short r (acc ++ [x]) hn h2
      rw [List.length_append, List.length_singleton] at this
      omega

section
variable {prog : Program} {w : World} {A : Around} {κ : Type} [DecidableEq κ] {knd : PySem.KeyKind prog w κ}
/-- the loop that fills it -/
theorem fill_set {R : Result → Shared → Prop} {it : Addr} {fp wr : List Addr} {G : Array GenState → Array GenState → Prop} {n : Nat} {P : Nat → Value → Prop} {St : Nat → Shared → Prop} (W : WalksS prog w A.in1 it fp wr G n P St) {Z : Addr} (zf : Z ∉ fp)
    (ks : List κ) (hn : ks.length = n) (hv : ∀ (i : Nat) (v : Value), P i v → v.scannable = true ∧ ∃ k, ks[i]? = some k ∧ knd.is k v = true) (hb : n + 1 < scanBound) :
    ∀ (m i : Nat) (s : Shared), n = i + m → St i s → s.heap.SetOf knd Z (fun k => decide (k ∈ ks.take i)) (uq [] (ks.take i)).length →
      (∀ s', Moved (Z :: wr) G s s' → s'.heap.SetOf knd Z (fun k => decide (k ∈ ks)) (uq [] ks).length → R (.ok (.ret .none)) s') →
      codeAny (model prog w) A (.builtin "set.update.loop" ⟨[.ref Z, .ref it], []⟩) R s := by
  have zw : Z ∉ wr := fun z => zf (W.sub _ z)
  have more : ∀ b ∈ wr, b ∈ Z :: wr := fun b hb => List.mem_cons_of_mem _ hb
  have stays : ∀ {s s' : Shared} {T : κ → Bool} {c : Nat}, Moved wr G s s' → s.heap.SetOf knd Z T c → s'.heap.SetOf knd Z T c := fun mv ⟨o, es, ep, tb, ho, r⟩ => ⟨o, es, ep, tb, mv.heap Z _ zw ho, r⟩
  intro m
  induction m with
  | zero =>
    intro i s hi hst hS hR
    have e1 : i = n := by omega
    subst e1
    have e2 : ks.take ks.length = ks := List.take_length
    refine codeAny_builtin PyProof.Rows.F.entry_set_update_loop ?_
    rw [Around.under_plainId PyProof.Rows.F.plain_set_update_loop _]
    show wpAny (model prog w) A.in1 (pyNext (.ref it) >>= _) _ _ s
    refine wpAny_bind (W.done s _ _ hst fun s' mv => ?_)
    show wpAny (model prog w) A.in1 (ret Value.none) _ _ s'
    refine wpAny_pure (hR s' (mv.mono more) ?_)
    have q := stays mv hS
    rw [← hn, e2] at q
    exact q
  | succ m ih =>
    intro i s hi hst hS hR
    have il : i < n := by omega
    refine codeAny_builtin PyProof.Rows.F.entry_set_update_loop ?_
    rw [Around.under_plainId PyProof.Rows.F.plain_set_update_loop _]
    show wpAny (model prog w) A.in1 (pyNext (.ref it) >>= _) _ _ s
    refine wpAny_bind (W.item i s _ _ il hst fun v s' hP hst' mv => ?_)
    obtain ⟨hsc, k, hk, his⟩ := hv i v hP
    have hS' := stays mv hS
    show wpAny (model prog w) A.in1 (holding [v] (setAdd Z v) >>= _) _ _ s'
    refine wpAny_bind (wpAny_holding ?_)
    unfold setAdd
    refine wpAny_holding (wpAny_bind (knd.pyHash his ?_))
    have room : (uq [] (ks.take i)).length + 1 < scanBound := by
      have h1 := uq_len (ks.take i) ([] : List κ)
      have h2 : (ks.take i).length ≤ i := by rw [List.length_take]; omega
      simp only [List.length_nil] at h1
      omega
    refine wpAny_setAddHashed_of (knd := knd) (s := { s' with toks := s'.toks + 1 }) his hsc hS' room fun h' sb hS2 => ?_
    have et : ks.take (i + 1) = ks.take i ++ [k] := by rw [List.take_add_one, hk]; rfl
    have hS3 : h'.SetOf knd Z (fun k => decide (k ∈ ks.take (i + 1))) (uq [] (ks.take (i + 1))).length := by
      have e1 : (fun k' => decide (k' ∈ ks.take i) || decide (k' = k)) = fun k' => decide (k' ∈ ks.take (i + 1)) := by
        funext k'
        rw [et]
        by_cases c1 : k' ∈ ks.take i <;> by_cases c2 : k' = k <;> simp [c1, c2]
      have e2 : (if decide (k ∈ ks.take i) = true then (uq [] (ks.take i)).length else (uq [] (ks.take i)).length + 1) = (uq [] (ks.take (i + 1))).length := by
        rw [et, uq_append]
        by_cases c : k ∈ ks.take i
        · have c2 : k ∈ uq [] (ks.take i) := (uq_mem _ _ _).mpr (.inr c)
          rw [if_pos c2, if_pos (decide_eq_true c)]
        · have c2 : k ∉ uq [] (ks.take i) := fun z => by
            rcases (uq_mem _ _ _).mp z with y | y
            · cases y
            · exact c y
          rw [if_neg c2, if_neg (by simpa using c), List.length_append, List.length_singleton]
      rw [← e1, ← e2]
      exact hS2
    have same : ∀ b o, b ≠ Z → s'.heap.get? b = some o → h'.get? b = some o := fun b o hb e => by rw [sb.2 b hb]; exact e
    refine wpAny_pure ⟨plainId_quiet PyProof.Rows.F.plain_set_update_loop _, ih (i + 1) _ (by omega) (W.frame _ s' _ _ hst' (Nat.le_succ _) fun b hb o e => same b o (fun z => zf (z ▸ hb)) e) hS3 fun s'' mv2 hS4 => ?_⟩
    exact hR s'' (Moved.trans W.gtrans ((mv.mono more).then_heap (Nat.le_succ _) fun b o hb e => same b o (fun z => hb (by rw [z]; exact List.mem_cons_self)) e) mv2) hS4

/-- set(l), l a list of keys -/
theorem set_of_list {E : Value → Shared → Prop} {s : Shared} {l : Addr} {items : Array Value} {ks : List κ} {Q : Value → Shared → Prop} (hh : A.handled = none) (hl : s.heap.IsList l items) (hn : ks.length = items.size)
    (hv : ∀ (i : Nat) (v : Value), items[i]? = some v → v.scannable = true ∧ ∃ k, ks[i]? = some k ∧ knd.is k v = true) (hb : items.size + 1 < scanBound)
    (h : ∀ (h' : Heap) (tk : Nat), h'.SetOf knd s.heap.objs.size (fun k => decide (k ∈ ks)) (uq [] ks).length → (∀ b o, s.heap.get? b = some o → h'.get? b = some o) → Q (.ref s.heap.objs.size) { s with heap := h', toks := tk }) :
    wpAny (model prog w) A (call (.type "set") [.ref l]) Q E s := by
  obtain ⟨c0, tl0, mro0⟩ := PySem.F.called_set.mro
  have made0 := PySem.F.called_set.made; have sub0 := PySem.F.called_set.sub
  have nt0 := PySem.F.called_set.notType; have cc0 := PySem.F.called_set.canCreate
  have tc0 := PySem.F.typeCall_set_1 (.ref l)
  refine wpAny_call (codeAny_of_tree ?_)
  show wpAny (model prog w) _ (callAny (.type "set") _) _ _ _
  refine wpAny_pure ⟨Code.quiet_builtin _ (by decide +kernel), codeAny_builtin PySem.F.entry_type_call ?_⟩
  rw [Around.under_plain (weight_type_call_type "set" [.ref l] []) rfl]
  repeat any_goals first | assumption | wp_step
  refine codeAny_mono (code_set_new_1 (.ref l) (E := E) (Q₁ := fun z t => ∃ led : Bool, z = .ref s.heap.objs.size ∧ t = { s with heap := s.heap.push { cls := .type "set", dict := none, data := .set #[] 0 (.fresh 0 0 led) } }) fun led => ⟨led, rfl, rfl⟩) fun r1 t1 q1 => ?_
  match r1, q1 with
  | .error e, q1 => exact q1
  | .ok (.ret z), q1 =>
    obtain ⟨led, rfl, rfl⟩ := q1
    have gS : (s.heap.push { cls := .type "set", dict := none, data := .set #[] 0 (.fresh 0 0 led) }).get? s.heap.objs.size = some { cls := .type "set", dict := none, data := .set #[] 0 (.fresh 0 0 led) } := Heap.get?_push_size _ rfl
    have tS : Shared.TypeIs { s with heap := s.heap.push { cls := .type "set", dict := none, data := .set #[] 0 (.fresh 0 0 led) } } (.ref s.heap.objs.size) "set" := ⟨_, gS, rfl⟩
    have li := PySem.F.called_set.init.lookup; have bi := PySem.F.called_set.init.bind (.ref s.heap.objs.size)
    repeat any_goals first | assumption | wp_step
    refine codeAny_mono (codeAny_call_builtin (R := wants (fun r t => r = .none ∧ ∃ h' tk, t = { s with heap := h', toks := tk } ∧ h'.SetOf knd s.heap.objs.size (fun k => decide (k ∈ ks)) (uq [] ks).length ∧
        ∀ b o, s.heap.get? b = some o → h'.get? b = some o) E) PySem.F.called_set.init.plain PySem.F.entry_set_init (check_set_init_1 tS ?_)) fun r2 t2 q2 => ?_
    · obtain ⟨ol, gl, cl, nl, dl⟩ := hl
      obtain ⟨oc, od, ot, os⟩ := ol
      simp only at cl dl
      subst cl; subst dl
      have ll : l < s.heap.objs.size := Heap.lt_size gl
      have gl' : (s.heap.push { cls := .type "set", dict := none, data := .set #[] 0 (.fresh 0 0 led) }).get? l = some { cls := .type "list", dict := od, data := .seq items nl, slots := os } := Heap.get?_push_of_some _ gl
      have il : (s.heap.push { cls := .type "set", dict := none, data := .set #[] 0 (.fresh 0 0 led) }).IsList l items := ⟨_, gl', rfl, nl, rfl⟩
      have s1 := PySem.F.sub_list_set; have s2 := PySem.F.sub_list_frozenset
      have nd : (Value.type "list" == Value.type "dict") = false := by decide
      unfold Builtin.«set.__init__» noKeywords Builtin.Frozenset.updateFrom
      generalize hp : pyIter = pI
      wp_walk
      subst hp
      refine wpAny_pyIter_list il (wpAny_bind (wpAny_runValue ?_))
      have h3 : A.in1.in1.in1.handled = none := by simp [hh]
      have ni : l ≠ (s.heap.push { cls := .type "set", dict := none, data := .set #[] 0 (.fresh 0 0 led) }).objs.size := by rw [Heap.size_push]; exact Nat.ne_of_lt (Nat.lt_succ_of_lt ll)
      have zf : s.heap.objs.size ∉ [(s.heap.push { cls := .type "set", dict := none, data := .set #[] 0 (.fresh 0 0 led) }).objs.size, l] := by
        rw [Heap.size_push]; simp only [List.mem_cons, List.mem_singleton, List.not_mem_nil, or_false, not_or]
        exact ⟨Nat.ne_of_lt (Nat.lt_succ_self _), Nat.ne_of_gt ll⟩
      refine fill_set ((Walks.list h3 _ l ni items).toS) zf ks hn hv hb items.size 0 _ (by omega) ⟨⟨_, Heap.get?_push_size _ rfl, rfl, rfl⟩, il.push _⟩ ?_ fun t mv hS => ?_
      · have g2 : ((s.heap.push { cls := .type "set", dict := none, data := .set #[] 0 (.fresh 0 0 led) }).push { cls := .type "list_iterator", data := .fields #[.ref l, .int 0 0] }).get? s.heap.objs.size =
            some { cls := .type "set", dict := none, data := .set #[] 0 (.fresh 0 0 led) } := Heap.get?_push_of_some _ gS
        have q := (PyProof.Rows.setObjOf_fresh (knd := knd) led).setOf g2 (by unfold scanBound; omega)
        have e : (fun k => decide (k ∈ ks.take 0)) = fun _ : κ => false := by funext k; simp
        rw [e]
        exact q
      · obtain ⟨h', g', d', tk', os'⟩ := t
        obtain rfl : g' = s.gens := mv.gens
        obtain rfl : d' = s.drawn := mv.drawn
        obtain rfl : os' = s.os := mv.os
        show wpAny (model prog w) _ _ _ _ _
        refine wpAny_pure ?_
        show wpAny (model prog w) _ (ret Value.none) _ _ _
        refine wpAny_pure ⟨rfl, h', tk', rfl, hS, fun b o e => ?_⟩
        have lb := Heap.lt_size e
        refine mv.heap b o (fun z => ?_) (Heap.get?_push_of_some _ (Heap.get?_push_of_some _ e))
        rcases List.mem_cons.mp z with y | y
        · exact Nat.ne_of_lt lb y
        · rcases List.mem_cons.mp y with y | y
          · rw [Heap.size_push] at y
            exact Nat.ne_of_lt (Nat.lt_succ_of_lt lb) y
          · cases y
    · match r2, q2 with
      | .error e, q2 => exact q2
      | .ok (.ret r), q2 =>
        obtain ⟨rfl, h', tk, rfl, hS, hk⟩ := q2
        repeat any_goals first | assumption | wp_step
        exact h _ _ hS hk
end
end Gx
namespace Gx
open PySem PySem.Spec PyProof.Rows L2 GxR GenW
section
variable {X : Cx}
/-- len(set(xs)) of a list of texts -/
def tLenSetS (K : PySem.W.Frag) (ta : TE) : TE := fun σ H Q => ta σ H fun x H1 => ∃ (l : Addr) (xs : List Str), x = .ref l ∧ SqL K H1 l (xs.map V.str) ∧ xs.length ≤ 4000 ∧ Q (.int ((uq [] xs).length : Nat)) H1
theorem pe_lenSetS {a : Expr} {ta : TE} {p p2 q pos : Pos} (hg : Gl X "len") (hm : X.mg "len" = none) (hg2 : Gl X "set") (hm2 : X.mg "set" = none) (hh : X.A.handled = none) (ha : PE X a ta)
    (na : starEach [a] X.env = (false, eval a X.env) :: starEach [] X.env := by rfl) : PE X (.Call (.Name "len" p) [.Call (.Name "set" p2) [a] [] q] [] pos) (tLenSetS X.K ta) := by
  refine ⟨fun pins s σ H Q I h => Call_ (ld_blt I hg hm boot_len (PyProof.Rows.callWith_builtin1 (PyProof.Rows.args_cons (Call_ (ld_blt I hg2 hm2 boot_set ?_)) rfl) rfl rfl))⟩
  refine PyProof.Rows.callWith_type1 (PyProof.Rows.args_cons (thn (ha.run pins s σ H _ I h) fun v s1 h1 => PyProof.Rows.args_nil ?_) na) na rfl
  obtain ⟨x, H1, I1, r1, l, xs, rfl, hq, hz, q1⟩ := h1
  have e : v = .ref l := r1
  subst e
  obtain ⟨its, rv, pl, _⟩ := I1.list hq
  have hlen : xs.length = its.length := by have := rv.length; rw [List.length_map] at this; exact this
  refine set_of_list (knd := PySem.strKind X.prog X.w) hh pl.isList (ks := xs) (by rw [List.size_toArray]; exact hlen) (fun i v hv => ?_) (by rw [List.size_toArray, ← hlen]; unfold scanBound; omega) fun h' tk hS hk => ?_
  · have hv' : its[i]? = some v := by simpa using hv
    have hi : i < xs.length := by rw [hlen]; exact (List.getElem?_eq_some_iff.mp hv').1
    have e1 : (xs.map V.str)[i]? = some (V.str xs[i]) := by rw [List.getElem?_map, List.getElem?_eq_getElem hi]; rfl
    obtain ⟨u, hu, t, rfl⟩ := rv.get e1
    rw [hv'] at hu
    obtain rfl := Option.some.inj hu
    exact ⟨rfl, xs[i], List.getElem?_eq_getElem hi, PySem.strKind_is _ _ _ _⟩
  · obtain ⟨o, es, ep, t, ho, hex, hd, _, _, _, hf, hn⟩ := hS
    have I2 : Inv X pins σ H1 { s1 with heap := h', toks := tk } := I1.kept hk
    have hle : (uq ([] : List Str) xs).length ≤ 4000 := by have := uq_len xs ([] : List Str); simp only [List.length_nil] at this; omega
    exact PyProof.Rows.args_nil (call_len_set ho hex hd hf (by rw [hn]; omega) ⟨.int _, H1, I2.tok _, ⟨_, by rw [hn]⟩, q1⟩)
end
end Gx

/-! What else the programs want: powers, generator expressions by their scopes, what stays of a heap. -/
namespace Gx
open PySem PySem.Spec PyProof.Rows L2 GxR GenW
theorem bits_le {x : Int} {n : Nat} (h0 : 0 < n) (h : x.natAbs < 2 ^ n) : Builtin.Int.intBits x ≤ n := by
  have l := PySem.Flt.log2_lt_of h0 h
  unfold Builtin.Int.intBits
  split <;> omega
section
variable {X : Cx}
/-- ** of any base, together below 2 ^ 27 bits -/
def CPowX (i j : Int) : Prop := 0 ≤ j ∧ (Builtin.Int.intBits i : Int) * j ≤ 2 ^ 27
theorem op_powX : OpR X (binaryOp .Pow) (rI CPowX fun i j => .int (i ^ j.toNat)) := opI fun _ _ _ _ _ _ _ hc q => pow_int hc.1 hc.2 q
theorem room_gx {k : Nat} {s : Shared} {H : Hp} {sc : Scope} {C : Addr} {code : Value} {fp : List Addr} (r : Room (k + 3) X.A) : Room k (gcx X s H sc C code fp).A := r.in1.in1.deeper _
def gxC (sc : Scope) : Bool := (sc.names.all fun y => match y.2 with | .cell => false | _ => true) && (match sc.names.lookup (".0" : Str) with | some .local => true | _ => false) && !sc.isCoroutine
theorem gx_ok {gsc dsc : Scope} {own : List (Str × Nat)} {c P : Addr} {N : List Str} (tb : TabB X.base X.mg c P) (nd : N.Nodup) (b : blkC N dsc gsc own = true) (h2 : gxC gsc = true)
    (e1 : X.N = N := by rfl) (e2 : X.env.scope = dsc := by rfl) (e3 : X.env.code = .ref c := by rfl) : GxOk X gsc own c P := by
  unfold gxC at h2
  rw [Bool.and_eq_true, Bool.and_eq_true, List.all_eq_true] at h2
  refine ⟨tb, e3, ?_, by rw [e1]; exact nd, fun y hy e => ?_, ?_, ?_⟩
  · rw [e1, e2]
    exact blkOk_by b
  · have := h2.1.1 y hy
    rw [e] at this
    cases this
  · have := h2.1.2
    split at this
    · assumption
    · cases this
  · simpa using h2.2
end

/-! ### what stays -/
/-- all but tables and what stands at ex is as it was; tables may have grown -/
structure Grow (ex : List Addr) (H H' : Hp) : Prop where
  keep : ∀ b o, b ∉ ex → H b = some o → (∀ ps, o ≠ .tbl ps) → H' b = some o
  tabs : ∀ b, TabG H b → TabG H' b
theorem Grow.refl (ex : List Addr) (H : Hp) : Grow ex H H := ⟨fun _ _ _ e _ => e, fun _ t => t⟩
theorem Grow.trans {ex : List Addr} {H H1 H2 : Hp} (a : Grow ex H H1) (b : Grow ex H1 H2) : Grow ex H H2 := ⟨fun c o h e t => b.keep c o h (a.keep c o h e t) t, fun c t => b.tabs c (a.tabs c t)⟩
theorem Grow.mono {ex ex' : List Addr} {H H1 : Hp} (a : Grow ex H H1) (h : ∀ b ∈ ex, b ∈ ex') : Grow ex' H H1 := ⟨fun c o n e t => a.keep c o (fun z => n (h c z)) e t, a.tabs⟩
theorem Grow.any {ex : List Addr} {H H1 : Hp} (a : Grow [] H H1) : Grow ex H H1 := a.mono fun _ z => by cases z
theorem Grow.lst {ex : List Addr} {H H' : Hp} (a : Grow ex H H') {p : Addr} {xs : List V} (n : p ∉ ex) (h : H p = some (.lst xs)) : H' p = some (.lst xs) := a.keep p _ n h fun ps z => by cases z
theorem Grow.tup {ex : List Addr} {H H' : Hp} (a : Grow ex H H') {p : Addr} {xs : List V} (n : p ∉ ex) (h : H p = some (.tup xs)) : H' p = some (.tup xs) := a.keep p _ n h fun ps z => by cases z
theorem Grow.seq {K : PySem.W.Frag} {ex : List Addr} {H H' : Hp} (a : Grow ex H H') {p : Addr} {xs : List V} (n : p ∉ ex) (h : SqL K H p xs) : SqL K H' p xs := by
  rcases h with (h | ⟨o, h⟩) | h
  · exact .inl (.inl (a.lst n h))
  · exact .inl (.inr ⟨o, a.keep p _ n h fun ps z => by cases z⟩)
  · exact .inr h
theorem Grow.seq0 {K : PySem.W.Frag} {H H' : Hp} (a : Grow [] H H') {p : Addr} {xs : List V} (h : SqL K H p xs) : SqL K H' p xs := a.seq (by simp) h
/-- a new object -/
theorem grow_new {ex : List Addr} {H : Hp} {p : Addr} {o : HO} (h : H p = none) : Grow ex H (upd H p o) :=
  ⟨fun b u _ e _ => by rw [upd_ne (ne_of_none e h)]; exact e, fun b ⟨ps, e, t⟩ => ⟨ps, by rw [upd_ne (ne_of_none e h)]; exact e, t⟩⟩
/-- what stands at p, no table, is changed -/
theorem grow_at {ex : List Addr} {H : Hp} {p : Addr} {o u : HO} (h : H p = some u) (hu : ∀ ps, u ≠ .tbl ps) (hp : p ∈ ex) : Grow ex H (upd H p o) :=
  ⟨fun b v n e _ => by rw [upd_ne (show b ≠ p from fun z => n (by rw [z]; exact hp))]; exact e, fun b ⟨ps, e, t⟩ => ⟨ps, by rw [upd_ne (show b ≠ p from fun z => by rw [z, h] at e; exact hu ps (Option.some.inj e))]; exact e, t⟩⟩
theorem grow_tab {ex : List Addr} {P : Addr} {H H' : Hp} (h : TabG H P) (t : Tabbed P H H') : Grow ex H H' :=
  ⟨fun b o _ e no => by
    have n : b ≠ P := fun z => by
      obtain ⟨ps, e2, _⟩ := h
      rw [z, e2] at e
      exact no ps (Option.some.inj e).symm
    rw [t.2 b n]
    exact e, fun b ht => by
    by_cases z : b = P
    · rw [z]
      exact t.1
    · obtain ⟨ps, e, q⟩ := ht
      exact ⟨ps, by rw [t.2 b z]; exact e, q⟩⟩
/-- what was not told of before may be dropped from ex -/
theorem Grow.less {ex : List Addr} {p : Addr} {H H' : Hp} (a : Grow (p :: ex) H H') (h : H p = none) : Grow ex H H' :=
  ⟨fun b o n e t => a.keep b o (fun z => by
    rcases List.mem_cons.mp z with y | y
    · rw [y, h] at e
      cases e
    · exact n y) e t, a.tabs⟩
/-- nothing stood there, or a table did -/
def Fresh (H : Hp) (p : Addr) : Prop := ∀ o, H p = some o → ∃ ps, o = .tbl ps
theorem fresh_none {H : Hp} {p : Addr} (h : H p = none) : Fresh H p := fun o e => by
  rw [h] at e
  cases e
theorem Grow.fresh {ex : List Addr} {H H' : Hp} (a : Grow ex H H') {p : Addr} (n : p ∉ ex) (h : Fresh H' p) : Fresh H p := fun o e => by
  cases o with
  | tbl ps => exact ⟨ps, rfl⟩
  | _ => exact h _ (a.keep p _ n e (fun ps z => by cases z))
theorem Grow.fresh0 {H H' : Hp} (a : Grow [] H H') {p : Addr} (h : H' p = none) : Fresh H p := a.fresh (by simp) (fresh_none h)
theorem Fresh.ne {H : Hp} {p b : Addr} {o : HO} (n : Fresh H p) (h : H b = some o) (ho : ∀ ps, o ≠ .tbl ps) : b ≠ p := fun z => by
  rw [z] at h
  obtain ⟨ps, e⟩ := n o h
  exact ho ps e
/-- what is new may be changed -/
theorem Grow.put {ex : List Addr} {p : Addr} {o u : HO} {H H' : Hp} (a : Grow ex H H') (n : Fresh H p) (h : H' p = some u) (hu : ∀ ps, u ≠ .tbl ps) : Grow ex H (upd H' p o) :=
  ⟨fun b v z e t => by
    rw [upd_ne (n.ne e t)]
    exact a.keep b v z e t, fun b t => by
    obtain ⟨ps, e, q⟩ := a.tabs b t
    exact ⟨ps, by rw [upd_ne (show b ≠ p from fun z => by rw [z, h] at e; exact hu ps (Option.some.inj e))]; exact e, q⟩⟩
theorem Grow.drop {ex : List Addr} {p : Addr} {H H' : Hp} (a : Grow (p :: ex) H H') (n : Fresh H p) : Grow ex H H' :=
  ⟨fun b o nb e t => a.keep b o (fun z => by
    rcases List.mem_cons.mp z with y | y
    · exact n.ne e t y
    · exact nb y) e t, a.tabs⟩
theorem Grow.new {ex : List Addr} {p : Addr} {o : HO} {H H' : Hp} (a : Grow ex H H') (h : H' p = none) : Grow ex H (upd H' p o) := a.trans (grow_new h)
/-! ### data -/
mutual
theorem Dp.grow {K : PySem.W.Frag} {H H' : Hp} (a : Grow [] H H') : ∀ {x : V} {d : PyData}, Dp K H x d → Dp K H' x d
  | _, _, .non => .non
  | _, _, .bl b => .bl b
  | _, _, .int i => .int i
  | _, _, .str x => .str x
  | _, _, .lst h1 h2 => .lst (a.seq0 h1) (DpAll.grow a h2)
  | _, _, .tup h1 h2 => .tup (by
      rcases h1 with (h | ⟨o, h⟩) | h
      · exact .inl (.inl (a.keep _ _ (by simp) h fun ps z => by cases z))
      · exact .inl (.inr ⟨o, a.keep _ _ (by simp) h fun ps z => by cases z⟩)
      · exact .inr h) (DpAll.grow a h2)
theorem DpAll.grow {K : PySem.W.Frag} {H H' : Hp} (a : Grow [] H H') : ∀ {x : List V} {d : List PyData}, DpAll K H x d → DpAll K H' x d
  | _, _, .nil => .nil
  | _, _, .cons h t => .cons (Dp.grow a h) (DpAll.grow a t)
end
theorem dp_strs {K : PySem.W.Frag} {H : Hp} : ∀ xs : List Str, DpAll K H (xs.map V.str) (xs.map PyData.str)
  | [] => .nil
  | x :: r => .cons (.str x) (dp_strs r)
theorem dp_book {K : PySem.W.Frag} {H : Hp} {p : Addr} {xs : List Str} (h : SqL K H p (xs.map V.str)) : Dp K H (.ref p) (.list (xs.map PyData.str)) := .lst h (dp_strs xs)

theorem tyB_str {K : PySem.W.Frag} {H : Hp} {z : Str} {p : String → Prop} : (∃ U, TyB K H (.str z) U ∧ p U) ↔ p "str" := by
  constructor
  · rintro ⟨U, t, h⟩
    cases t
    exact h
  · exact fun h => ⟨_, .str z, h⟩
theorem tyB_int {K : PySem.W.Frag} {H : Hp} {z : Int} {p : String → Prop} : (∃ U, TyB K H (.int z) U ∧ p U) ↔ p "int" := by
  constructor
  · rintro ⟨U, t, h⟩
    cases t
    exact h
  · exact fun h => ⟨_, .int z, h⟩

/-! ### all( ), any( ) over items that are known -/
section
variable {sb : Bool} {g : TG} {te : TE} {vs : List Nat} {σ : L2.St} {Q : VK} {P : Addr} {J : It} {H1 : Hp}
theorem truth_by {items : List V} (Pv : Nat → Hp → Prop) (h0 : ∀ H2, Tabbed P H1 H2 → Pv 0 H2) (yld : ∀ i H x H', Pv i H → J.yld i H x H' → H' = H ∧ items[i]? = some x) (go : ∀ i H, i < items.length → Pv i H → J.go i H)
    (stop : ∀ H, Pv items.length H → J.stop items.length H) (step : ∀ i x H, items[i]? = some x → Pv i H → g x (wipe σ vs) H fun σ2 H2 => wipe σ2 vs = wipe σ vs ∧ te σ2 H2 fun y H4 => ∃ b, y = .bl b ∧ if b = sb then Q (.bl sb) H4 else Pv (i + 1) H4)
    (fin : ∀ H, Pv items.length H → Q (.bl (!sb)) H) : rTruth P sb g te vs σ Q J H1 := by
  refine fun H2 t => ⟨fun i m H => m = items.length - i ∧ i ≤ items.length ∧ Pv i H, ⟨_, rfl, Nat.zero_le _, h0 H2 t⟩, fun i m H hw => ?_⟩
  obtain ⟨rfl, hi, hp⟩ := hw
  by_cases hl : i < items.length
  · refine .inr ⟨go i H hl hp, Pv (i + 1), fun H' h' => ⟨items.length - (i + 1), by omega, rfl, hl, h'⟩, fun x H' hy => ?_⟩
    obtain ⟨rfl, hx⟩ := yld i H x H' hp hy
    exact step i x _ hx hp
  · have e : i = items.length := by omega
    subst e
    exact .inl ⟨stop H hp, fin H hp⟩
theorem truth_list {K : PySem.W.Frag} {a : Addr} {xs : List V} (Pv : Nat → Hp → Prop) (h0 : ∀ H2, Tabbed P H1 H2 → Pv 0 H2) (hl : ∀ i H, Pv i H → SqL K H a xs)
    (step : ∀ i x H, xs[i]? = some x → Pv i H → g x (wipe σ vs) H fun σ2 H2 => wipe σ2 vs = wipe σ vs ∧ te σ2 H2 fun y H4 => ∃ b, y = .bl b ∧ if b = sb then Q (.bl sb) H4 else Pv (i + 1) H4)
    (fin : ∀ H, Pv xs.length H → Q (.bl (!sb)) H) : rTruth P sb g te vs σ Q (Itl K a) H1 :=
  truth_by (items := xs) Pv h0 (fun i H x H' hp hy => ⟨hy.1, hy.2 xs (hl i H hp)⟩) (fun i H hi hp => ⟨xs, xs[i], hl i H hp, List.getElem?_eq_getElem hi⟩) (fun H hp => ⟨xs, hl _ H hp, Nat.le_refl _⟩) step fin
theorem truth_text {z : Str} (Pv : Nat → Hp → Prop) (h0 : ∀ H2, Tabbed P H1 H2 → Pv 0 H2)
    (step : ∀ (i : Nat) (c : Nat) H, z.cps.toList[i]? = some c → Pv i H → g (.str ⟨#[c]⟩) (wipe σ vs) H fun σ2 H2 => wipe σ2 vs = wipe σ vs ∧ te σ2 H2 fun y H4 => ∃ b, y = .bl b ∧ if b = sb then Q (.bl sb) H4 else Pv (i + 1) H4)
    (fin : ∀ H, Pv z.cps.toList.length H → Q (.bl (!sb)) H) : rTruth P sb g te vs σ Q (Its z) H1 := by
  have el : (z.cps.toList.map fun c => V.str ⟨#[c]⟩).length = z.cps.toList.length := by rw [List.length_map]
  refine truth_by (items := z.cps.toList.map fun c => V.str ⟨#[c]⟩) Pv h0 (fun i H x H' hp hy => ?_) (fun i H hi hp => ?_) (fun H hp => ?_) (fun i x H hx hp => ?_) fun H hp => fin H (by rw [← el]; exact hp)
  · obtain ⟨e, c, hc, rfl⟩ := hy
    refine ⟨e, ?_⟩
    rw [List.getElem?_map, Array.getElem?_toList, hc]
    rfl
  · rw [el] at hi
    show i < z.cps.size
    simpa using hi
  · show z.cps.size ≤ _
    rw [el]
    simp
  · rw [List.getElem?_map] at hx
    cases hc : z.cps.toList[i]? with
    | none => rw [hc] at hx; cases hx
    | some c =>
      rw [hc] at hx
      cases hx
      exact step i c H hc hp
end

theorem put_len {κ : Type} [DecidableEq κ] (c : List (κ × V)) (k : κ) (x : V) : (putK c k x).length ≤ c.length + 1 := by
  unfold putK
  split
  · rw [List.length_map]
    omega
  · rw [List.length_append]
    exact Nat.le_refl _
/-! ### readings within a block -/
section
variable {X : Cx}
theorem blk_K {s : Shared} {H : Hp} {sc : Scope} {ce : Env} {fp : List Addr} : (X.blk s H sc ce fp).K = X.K := rfl
theorem gcx_K {s : Shared} {H : Hp} {sc : Scope} {C : Addr} {code : Value} {fp : List Addr} : (gcx X s H sc C code fp).K = X.K := rfl
theorem pe_to {e : Expr} {t t' : TE} (p : PE X e t) (h : t = t' := by first | exact rfl | (simp only [Gx.blk_K, Gx.gcx_K]; exact rfl)) : PE X e t' := h ▸ p
theorem pg_to {e : Expr} {t t' : TG} (p : PG X e t) (h : t = t' := by first | exact rfl | (simp only [Gx.blk_K, Gx.gcx_K]; exact rfl)) : PG X e t' := h ▸ p
theorem pts_to {e : List Expr} {t t' : TT} (p : PTs X e t) (h : t = t' := by first | exact rfl | (simp only [Gx.blk_K, Gx.gcx_K]; exact rfl)) : PTs X e t' := h ▸ p
theorem pi_to {tg e : Expr} {t t' : TI} (p : PI X tg e t) (h : t = t' := by first | exact rfl | (simp only [Gx.blk_K, Gx.gcx_K]; exact rfl)) : PI X tg e t' := h ▸ p
end
/-! ### things that are known, lists that are names -/
theorem _root_.L2.TyB.grow {K : PySem.W.Frag} {H H' : Hp} {x : V} {U : String} (g : Grow [] H H') (t : TyB K H x U) : TyB K H' x U := by
  cases t with
  | non => exact .non
  | bl b => exact .bl b
  | int i => exact .int i
  | str z => exact .str z
  | byt b => exact .byt b
  | lst h => exact .lst (g.seq0 h)
  | @tup p xs h =>
    refine .tup (xs := xs) ?_
    rcases h with (h | ⟨o, h⟩) | h
    · exact .inl (.inl (g.keep _ _ (by simp) h fun ps z => by cases z))
    · exact .inl (.inr ⟨o, g.keep _ _ (by simp) h fun ps z => by cases z⟩)
    · exact .inr h
  | dK h => exact .dK (g.keep _ _ (by simp) h fun ps z => by cases z)
/-- a text of no great length, or of a kind that is told -/
def Known (K : PySem.W.Frag) (H : Hp) (x : V) : Prop := (∃ z : Str, x = .str z ∧ z.length ≤ sizeLine) ∨ ∃ U, U ≠ "str" ∧ TyB K H x U
theorem Known.grow {K : PySem.W.Frag} {H H' : Hp} {x : V} (g : Grow [] H H') : Known K H x → Known K H' x
  | .inl h => .inl h
  | .inr ⟨U, n, t⟩ => .inr ⟨U, n, t.grow g⟩
/-- a text's own -/
def theStr : V → Str
  | .str z => z
  | _ => Str.empty
theorem strs_of {p : V → Bool} (hp : ∀ x, p x = true → ∃ z, x = .str z) : ∀ {xs : List V}, xs.all p = true → xs = (xs.map theStr).map V.str
  | [], _ => rfl
  | x :: r, h => by
    rw [List.all_cons, Bool.and_eq_true] at h
    obtain ⟨z, rfl⟩ := hp x h.1
    show V.str z :: r = V.str z :: (r.map theStr).map V.str
    rw [← strs_of hp h.2]
theorem nodup_str {zs : List Str} : (zs.map V.str).Nodup ↔ zs.Nodup := by
  constructor
  · exact fun h => (List.pairwise_map.mp h).imp fun q e => q (congrArg V.str e)
  · exact fun h => List.pairwise_map.mpr (h.imp fun q e => q (V.str.inj e))
theorem uq_same {κ : Type} [DecidableEq κ] (l : List κ) : decide (((uq [] l).length : Int) = (l.length : Int)) = decide l.Nodup := by
  by_cases h : l.Nodup
  · rw [decide_eq_true h, uq_nodup l [] (by simpa using h)]
    exact decide_eq_true rfl
  · rw [decide_eq_false h]
    have := uq_short l [] List.nodup_nil (by simpa using h)
    simp only [List.length_nil] at this
    exact decide_eq_false (by omega)
end Gx

/-! Dict comprehensions and comprehensions of two clauses over walks; data that no list is in. -/
namespace Gx
open PySem PySem.Spec PyProof.Rows L2 GxR
section
variable {J J1 : It} {n : Nat} {G : Hp → Prop} {Y : Nat → Hp → V → Hp → Prop}
theorem dc_it (w : Walk J n G Y) {g : TG} {tt : TT} {tk tv : TE} {vs : List Nat} {σ : L2.St} {H1 : Hp} {D : Addr} {Qd : Hp → Prop} (Pv : Nat → Hp → Prop) (h0 : Pv 0 (upd H1 D (.dK []))) (hG : ∀ i H, i ≤ n → Pv i H → G H)
    (hs : ∀ i x H H', i < n → Pv i H → Y i H x H' → g x (wipe σ vs) H' fun σ2 H2 => wipe σ2 vs = wipe σ vs ∧ tt σ2 H2 fun b H3 =>
      if b = true then tk σ2 H3 fun y H4 => tv σ2 H4 fun z H5 => ∃ kvs k, y = kV k ∧ H5 D = some (.dK kvs) ∧ kvs.length < sizeLine ∧ Pv (i + 1) (upd H5 D (.dK (putK kvs k z))) else Pv (i + 1) H3) (hd : ∀ H, Pv n H → Qd H) :
    ∃ W : Nat → Nat → Hp → Prop, (∃ m, W 0 m (upd H1 D (.dK []))) ∧ ∀ i m H, W i m H →
      (J.stop i H ∧ Qd H) ∨ (J.go i H ∧ ∃ Nx : Hp → Prop, (∀ H', Nx H' → ∃ m', m' < m ∧ W (i + 1) m' H') ∧ ∀ x H', J.yld i H x H' → g x (wipe σ vs) H' fun σ2 H2 => wipe σ2 vs = wipe σ vs ∧ tt σ2 H2 fun b H3 =>
        if b = true then tk σ2 H3 fun y H4 => tv σ2 H4 fun z H5 => ∃ kvs k, y = kV k ∧ H5 D = some (.dK kvs) ∧ kvs.length < sizeLine ∧ Nx (upd H5 D (.dK (putK kvs k z))) else Nx H3) := by
  refine ⟨fun i m H => m = n - i ∧ i ≤ n ∧ Pv i H, ⟨n, by simp, Nat.zero_le _, h0⟩, ?_⟩
  rintro i m H ⟨rfl, hi, p⟩
  by_cases hlt : i < n
  · exact .inr ⟨w.goes i H hlt (hG i H hi p), Pv (i + 1), fun H' p' => ⟨n - (i + 1), by omega, rfl, hlt, p'⟩, fun x H' y => hs i x H H' hlt p (w.yields i H x H' hlt (hG i H hi p) y)⟩
  · have e : i = n := by omega
    subst e
    exact .inl ⟨w.stops H (hG _ H hi p), hd H p⟩
/-- the loop of the second clause -/
abbrev In1 (D : Addr) (g1 : TG) (tt1 : TT) (te : TE) (vs1 : List Nat) (σ2 : L2.St) (Nx : Hp → Prop) (J1 : It) (H4 : Hp) : Prop := ∃ W1 : Nat → Nat → Hp → Prop, (∃ m, W1 0 m H4) ∧ ∀ j k H, W1 j k H →
  (J1.stop j H ∧ Nx H) ∨ (J1.go j H ∧ ∃ Nx1 : Hp → Prop, (∀ H', Nx1 H' → ∃ k', k' < k ∧ W1 (j + 1) k' H') ∧ ∀ x H', J1.yld j H x H' → g1 x (wipe σ2 vs1) H' fun σ3 H5 => wipe σ3 vs1 = wipe σ2 vs1 ∧ tt1 σ3 H5 fun b H6 =>
    if b = true then te σ3 H6 fun y H7 => ∃ acc, H7 D = some (.lst acc) ∧ acc.length < sizeLine ∧ Nx1 (upd H7 D (.lst (acc ++ [y]))) else Nx1 H6)
theorem lc2_it (w : Walk J n G Y) {g g1 : TG} {tt tt1 : TT} {wi1 : TI} {te : TE} {vs vs1 : List Nat} {σ : L2.St} {H1 : Hp} {D : Addr} {Qd : Hp → Prop} (Pv : Nat → Hp → Prop) (h0 : Pv 0 (upd H1 D (.lst []))) (hG : ∀ i H, i ≤ n → Pv i H → G H)
    (hs : ∀ i x H H', i < n → Pv i H → Y i H x H' → g x (wipe σ vs) H' fun σ2 H2 => wipe σ2 vs = wipe σ vs ∧ tt σ2 H2 fun b H3 =>
      if b = true then wi1 σ2 H3 fun J1 H4 => In1 D g1 tt1 te vs1 σ2 (Pv (i + 1)) J1 H4 else Pv (i + 1) H3) (hd : ∀ H, Pv n H → Qd H) :
    ∃ W : Nat → Nat → Hp → Prop, (∃ m, W 0 m (upd H1 D (.lst []))) ∧ ∀ i m H, W i m H →
      (J.stop i H ∧ Qd H) ∨ (J.go i H ∧ ∃ Nx : Hp → Prop, (∀ H', Nx H' → ∃ m', m' < m ∧ W (i + 1) m' H') ∧ ∀ x H', J.yld i H x H' → g x (wipe σ vs) H' fun σ2 H2 => wipe σ2 vs = wipe σ vs ∧ tt σ2 H2 fun b H3 =>
        if b = true then wi1 σ2 H3 fun J1 H4 => In1 D g1 tt1 te vs1 σ2 Nx J1 H4 else Nx H3) := by
  refine ⟨fun i m H => m = n - i ∧ i ≤ n ∧ Pv i H, ⟨n, by simp, Nat.zero_le _, h0⟩, ?_⟩
  rintro i m H ⟨rfl, hi, p⟩
  by_cases hlt : i < n
  · exact .inr ⟨w.goes i H hlt (hG i H hi p), Pv (i + 1), fun H' p' => ⟨n - (i + 1), by omega, rfl, hlt, p'⟩, fun x H' y => hs i x H H' hlt p (w.yields i H x H' hlt (hG i H hi p) y)⟩
  · have e : i = n := by omega
    subst e
    exact .inl ⟨w.stops H (hG _ H hi p), hd H p⟩
theorem in1_it (w : Walk J1 n G Y) {g1 : TG} {tt1 : TT} {te : TE} {vs1 : List Nat} {σ2 : L2.St} {H4 : Hp} {D : Addr} {Nx : Hp → Prop} (Pw : Nat → Hp → Prop) (h0 : Pw 0 H4) (hG : ∀ i H, i ≤ n → Pw i H → G H)
    (hs : ∀ i x H H', i < n → Pw i H → Y i H x H' → g1 x (wipe σ2 vs1) H' fun σ3 H5 => wipe σ3 vs1 = wipe σ2 vs1 ∧ tt1 σ3 H5 fun b H6 =>
      if b = true then te σ3 H6 fun y H7 => ∃ acc, H7 D = some (.lst acc) ∧ acc.length < sizeLine ∧ Pw (i + 1) (upd H7 D (.lst (acc ++ [y]))) else Pw (i + 1) H6) (hd : ∀ H, Pw n H → Nx H) :
    In1 D g1 tt1 te vs1 σ2 Nx J1 H4 := by
  refine ⟨fun i m H => m = n - i ∧ i ≤ n ∧ Pw i H, ⟨n, by simp, Nat.zero_le _, h0⟩, ?_⟩
  rintro i m H ⟨rfl, hi, p⟩
  by_cases hlt : i < n
  · exact .inr ⟨w.goes i H hlt (hG i H hi p), Pw (i + 1), fun H' p' => ⟨n - (i + 1), by omega, rfl, hlt, p'⟩, fun x H' y => hs i x H H' hlt p (w.yields i H x H' hlt (hG i H hi p) y)⟩
  · have e : i = n := by omega
    subst e
    exact .inl ⟨w.stops H (hG _ H hi p), hd H p⟩
end

theorem yes_if {σ : L2.St} {H : Hp} {A B : Hp → Prop} (h : A H) : tYes σ H fun b H3 => if b = true then A H3 else B H3 := by
  show if true = true then A H else B H
  rw [if_pos rfl]
  exact h
theorem if_yes {A B : Hp → Prop} {H : Hp} (h : A H) : (fun (b : Bool) H3 => if b = true then A H3 else B H3) true H := by
  show if true = true then A H else B H
  rw [if_pos rfl]
  exact h
theorem if_no {A B : Hp → Prop} {H : Hp} (h : B H) : (fun (b : Bool) H3 => if b = true then A H3 else B H3) false H := by
  show if false = true then A H else B H
  rw [if_neg Bool.false_ne_true]
  exact h
theorem tyl {K : PySem.W.Frag} {H : Hp} {p : Addr} {xs : List V} (h : H p = some (.lst xs)) : tyV K "list" (.ref p) H := .inl ⟨rfl, xs, .inl (.inl h)⟩
theorem erase_map {α β} (f : α → β) (l : List α) (i : Nat) : (l.map f).eraseIdx i = (l.eraseIdx i).map f := by
  simp [List.eraseIdx_eq_take_drop_succ, List.map_take, List.map_drop]
theorem erase_perm {α} : ∀ (l : List α) (i : Nat) (h : i < l.length), (l[i] :: l.eraseIdx i).Perm l
  | x :: r, 0, _ => .refl _
  | x :: r, i + 1, h => (List.Perm.swap x _ _).trans ((erase_perm r i (Nat.lt_of_succ_lt_succ h)).cons x)
theorem cut_lo (xs : List V) (k : Nat) : cutV xs (some (k : Int)) none = xs.drop k := by
  unfold cutV
  rw [HT.sIx_none, HT.sIx_nat]
  by_cases h : k ≤ xs.length
  · rw [Nat.min_eq_left h]
    exact List.take_of_length_le (by rw [List.length_drop]; exact Nat.le_refl _)
  · rw [Nat.min_eq_right (by omega), Nat.sub_self, List.take_zero, List.drop_of_length_le (by omega)]
theorem cut_hi (xs : List V) (k : Nat) : cutV xs none (some (k : Int)) = xs.take k := by
  unfold cutV
  rw [HT.sIx_none, HT.sIx_nat, List.drop_zero, Nat.sub_zero]
  by_cases h : k ≤ xs.length
  · rw [Nat.min_eq_left h]
  · rw [Nat.min_eq_right (by omega), List.take_length, List.take_of_length_le (by omega)]
theorem swap_perm {α : Type} (xs : List α) (a : Nat) (h : a + 1 < xs.length) : (xs.take a ++ [xs[a + 1], xs[a]] ++ xs.drop (a + 2)).Perm xs := by
  have e : xs = xs.take a ++ [xs[a], xs[a + 1]] ++ xs.drop (a + 2) := by
    have h1 : xs.drop a = xs[a] :: xs[a + 1] :: xs.drop (a + 2) := by rw [List.drop_eq_getElem_cons (by omega), List.drop_eq_getElem_cons h]
    conv => lhs; rw [← List.take_append_drop a xs, h1]
    simp
  conv => rhs; rw [e]
  exact List.Perm.append_right _ (List.Perm.append_left _ (List.Perm.swap _ _ _))
theorem turn_perm {α : Type} (xs : List α) (a : Nat) : (xs.drop a ++ xs.take a).Perm xs := List.perm_append_comm.trans (by rw [List.take_append_drop])
theorem cut_from (xs : List V) (k : Nat) : cutV xs (some ((k : Int) + 1)) none = xs.drop (k + 1) := by
  unfold cutV
  have e : ((k : Int) + 1) = ((k + 1 : Nat) : Int) := by omega
  rw [e, HT.sIx_none, HT.sIx_nat]
  by_cases h : k + 1 ≤ xs.length
  · rw [Nat.min_eq_left h]
    exact List.take_of_length_le (by rw [List.length_drop]; exact Nat.le_refl _)
  · rw [Nat.min_eq_right (by omega), Nat.sub_self, List.take_zero, List.drop_of_length_le (by omega)]
/-- a cut: what holds behind the statement, and from there the rest -/
def tCut (I : L2.St → Hp → Prop) (t u : TS) : TS := fun D σ H => t { D with nx := I } σ H ∧ ∀ σ' H', I σ' H' → u D σ' H'
theorem pss_cut {X : Cx} {st : Stmt} {rest : List Stmt} {t u : TS} (I : L2.St → Hp → Prop) (h1 : PS X st t) (h2 : PSs X rest u) : PSs X (st :: rest) (tCut I t u) := by
  refine ⟨fun pins s σ H D J h => ?_⟩
  refine wpAny_execs_cons (thn (h1.run pins s σ H { D with nx := I } J h.1) fun f s1 q => ?_)
  cases f with
  | next =>
    obtain ⟨σ', H', I', q⟩ := q
    exact h2.run pins s1 σ' H' D I' (h.2 σ' H' q)
  | ret v => exact q
  | brk => exact q
  | cont => exact q
theorem valV_none {κ : Type} [DecidableEq κ] {k : κ} : ∀ {kvs : List (κ × V)}, k ∉ kvs.map Prod.fst → valV kvs k = none
  | [], _ => rfl
  | p :: r, h => by
    rw [valV_neg fun e => h (by rw [← e]; exact List.mem_cons_self)]
    exact valV_none fun z => h (List.mem_cons_of_mem _ z)
theorem valV_some {κ : Type} [DecidableEq κ] {k : κ} {v : V} : ∀ {kvs : List (κ × V)} {j : Nat}, (kvs.map Prod.fst).Nodup → kvs[j]? = some (k, v) → valV kvs k = some v
  | p :: r, 0, _, e => by
    cases e
    exact valV_pos rfl
  | p :: r, j + 1, nd, e => by
    obtain ⟨h1, h2⟩ := List.nodup_cons.mp nd
    have hk : k ∈ r.map Prod.fst := List.mem_map.mpr ⟨(k, v), List.mem_of_getElem? (i := j) e, rfl⟩
    rw [valV_neg fun q => h1 (by rw [q]; exact hk)]
    exact valV_some (j := j) h2 e
/-! ### data that no list is in -/
mutual
inductive DpT (K : PySem.W.Frag) (H : Hp) : V → PyData → Prop
  | non : DpT K H .non .none
  | bl (b : Bool) : DpT K H (.bl b) (.bool b)
  | int (i : Int) : DpT K H (.int i) (.int i)
  | str (z : Str) : DpT K H (.str z) (.str z)
  | tup {a : Addr} {xs : List V} {ds : List PyData} : H a = some (.tup xs) → DpTs K H xs ds → DpT K H (.ref a) (.tuple ds)
inductive DpTs (K : PySem.W.Frag) (H : Hp) : List V → List PyData → Prop
  | nil : DpTs K H [] []
  | cons {x : V} {d : PyData} {xs : List V} {ds : List PyData} : DpT K H x d → DpTs K H xs ds → DpTs K H (x :: xs) (d :: ds)
end
mutual
theorem DpT.dp {K : PySem.W.Frag} {H : Hp} : ∀ {x : V} {d : PyData}, DpT K H x d → Dp K H x d
  | _, _, .non => .non
  | _, _, .bl b => .bl b
  | _, _, .int i => .int i
  | _, _, .str z => .str z
  | _, _, .tup h t => .tup (.inl (.inl h)) (DpTs.dp t)
theorem DpTs.dp {K : PySem.W.Frag} {H : Hp} : ∀ {x : List V} {d : List PyData}, DpTs K H x d → DpAll K H x d
  | _, _, .nil => .nil
  | _, _, .cons h t => .cons (DpT.dp h) (DpTs.dp t)
end
/-- where only lists (or nothing) stood, they stay -/
def Lists (ex : List Addr) (H : Hp) : Prop := ∀ b ∈ ex, ∀ xs, H b ≠ some (.tup xs)
theorem lists_none (H : Hp) : Lists [] H := fun b h => by cases h
theorem lists_one {H : Hp} {a : Addr} {xs : List V} (h : H a = some (.lst xs)) : Lists [a] H := fun b hb ys e => by
  rw [List.mem_singleton.mp hb, h] at e
  cases e
mutual
theorem DpT.grow {K : PySem.W.Frag} {ex : List Addr} {H H' : Hp} (a : Grow ex H H') (l : Lists ex H) : ∀ {x : V} {d : PyData}, DpT K H x d → DpT K H' x d
  | _, _, .non => .non
  | _, _, .bl b => .bl b
  | _, _, .int i => .int i
  | _, _, .str z => .str z
  | _, _, .tup (a := p) (xs := xs) h t => .tup (a.keep p _ (fun z => l p z xs h) h fun ps z => by cases z) (DpTs.grow a l t)
theorem DpTs.grow {K : PySem.W.Frag} {ex : List Addr} {H H' : Hp} (a : Grow ex H H') (l : Lists ex H) : ∀ {x : List V} {d : List PyData}, DpTs K H x d → DpTs K H' x d
  | _, _, .nil => .nil
  | _, _, .cons h t => .cons (DpT.grow a l h) (DpTs.grow a l t)
end
theorem dpT_str {K : PySem.W.Frag} {H : Hp} (z : Str) : DpT K H (.str z) (.str z) := .str z
theorem dpT_int {K : PySem.W.Frag} {H : Hp} (z : Int) : DpT K H (.int z) (.int z) := .int z
theorem dpT_strs {K : PySem.W.Frag} {H : Hp} : ∀ xs : List Str, DpTs K H (xs.map V.str) (xs.map PyData.str)
  | [] => .nil
  | x :: r => .cons (dpT_str x) (dpT_strs r)
theorem DpTs.snoc {K : PySem.W.Frag} {H : Hp} : ∀ {xs : List V} {ds : List PyData} {x : V} {d : PyData}, DpTs K H xs ds → DpT K H x d → DpTs K H (xs ++ [x]) (ds ++ [d])
  | _, _, _, _, .nil, q => .cons q .nil
  | _, _, _, _, .cons h t, q => .cons h (t.snoc q)
theorem DpTs.app {K : PySem.W.Frag} {H : Hp} : ∀ {xs ys : List V} {ds es : List PyData}, DpTs K H xs ds → DpTs K H ys es → DpTs K H (xs ++ ys) (ds ++ es)
  | _, _, _, _, .nil, q => q
  | _, _, _, _, .cons h t, q => .cons h (t.app q)
theorem DpTs.get {K : PySem.W.Frag} {H : Hp} : ∀ {xs : List V} {ds : List PyData} {i : Nat} {x : V}, DpTs K H xs ds → xs[i]? = some x → ∃ d, ds[i]? = some d ∧ DpT K H x d
  | _, _, 0, _, .cons h _, e => ⟨_, rfl, by cases e; exact h⟩
  | _, _, _ + 1, _, .cons _ t, e => t.get e
theorem DpTs.zip {K : PySem.W.Frag} {H : Hp} : ∀ {xs : List V} {ds : List PyData}, DpTs K H xs ds → ∀ b ∈ xs.zip ds, DpT K H b.1 b.2
  | _, _, .nil, b, hb => by cases hb
  | _, _, .cons h t, b, hb => by
    rcases List.mem_cons.mp hb with rfl | hb
    · exact h
    · exact t.zip b hb
theorem dpTs_of {K : PySem.W.Frag} {H : Hp} : ∀ {bs : List (V × PyData)}, (∀ b ∈ bs, DpT K H b.1 b.2) → DpTs K H (bs.map Prod.fst) (bs.map Prod.snd)
  | [], _ => .nil
  | b :: r, h => .cons (h b List.mem_cons_self) (dpTs_of fun c hc => h c (List.mem_cons_of_mem _ hc))
theorem DpTs.length {K : PySem.W.Frag} {H : Hp} : ∀ {xs : List V} {ds : List PyData}, DpTs K H xs ds → xs.length = ds.length
  | _, _, .nil => rfl
  | _, _, .cons _ t => congrArg (· + 1) t.length
/-- a list of such data -/
def LstT (K : PySem.W.Frag) (H : Hp) (D : Addr) (ds : List PyData) : Prop := ∃ xs, H D = some (.lst xs) ∧ DpTs K H xs ds
theorem LstT.dp {K : PySem.W.Frag} {H : Hp} {D : Addr} {ds : List PyData} (h : LstT K H D ds) : Dp K H (.ref D) (.list ds) := by
  obtain ⟨xs, h1, h2⟩ := h
  exact .lst (.inl (.inl h1)) h2.dp
theorem LstT.grow {K : PySem.W.Frag} {ex : List Addr} {H H' : Hp} {D : Addr} {ds : List PyData} (h : LstT K H D ds) (a : Grow ex H H') (l : Lists ex H) (n : D ∉ ex) : LstT K H' D ds := by
  obtain ⟨xs, h1, h2⟩ := h
  exact ⟨xs, a.lst n h1, h2.grow a l⟩
/-- one more at the end -/
theorem LstT.push {K : PySem.W.Frag} {H H' : Hp} {D : Addr} {ds : List PyData} {x : V} {d : PyData} (h : LstT K H D ds) (g : Grow [] H H') (q : DpT K H' x d) :
    ∃ acc, H' D = some (.lst acc) ∧ acc.length = ds.length ∧ LstT K (upd H' D (.lst (acc ++ [x]))) D (ds ++ [d]) := by
  obtain ⟨xs, h1, h2⟩ := h
  have e := g.lst (p := D) (by simp) h1
  have gr : Grow [D] H' (upd H' D (.lst (xs ++ [x]))) := grow_at e (fun ps z => by cases z) (by simp)
  exact ⟨xs, e, h2.length, _, upd_same, ((h2.grow g (lists_none H)).snoc q).grow gr (lists_one e)⟩
/-- the items of another such list behind them -/
theorem LstT.ext {K : PySem.W.Frag} {H : Hp} {D F : Addr} {ds es : List PyData} (h : LstT K H D ds) (k : LstT K H F es) :
    ∃ xs zs, H D = some (.lst xs) ∧ H F = some (.lst zs) ∧ xs.length = ds.length ∧ zs.length = es.length ∧ LstT K (upd H D (.lst (xs ++ zs))) D (ds ++ es) := by
  obtain ⟨xs, h1, h2⟩ := h
  obtain ⟨zs, k1, k2⟩ := k
  have gr : Grow [D] H (upd H D (.lst (xs ++ zs))) := grow_at h1 (fun ps z => by cases z) (by simp)
  exact ⟨xs, zs, h1, k1, h2.length, k2.length, _, upd_same, (h2.app k2).grow gr (lists_one h1)⟩
/-- list.index of a text that is in -/
theorem index_str {K : PySem.W.Frag} {H : Hp} {m : Addr} {ws : List Str} {b : Str} {Q : VK} (h : SqL K H m (ws.map V.str)) (hb : b ∈ ws) (q : Q (.int (ws.idxOf b : Nat)) H) : rIndex K (.ref m) [.str b] H Q := by
  have h1 := List.idxOf_lt_length_of_mem hb
  refine ⟨m, ws.map V.str, .str b, ws.idxOf b, .str b, rfl, rfl, h, rfl, ?_, ?_, by simp [eqV], fun j z' hj hz => ?_, q⟩
  · rw [List.all_map, List.all_eq_true]
    exact fun x _ => rfl
  · rw [List.getElem?_map, List.getElem?_eq_getElem h1, List.getElem_idxOf h1]
    rfl
  · rw [List.getElem?_map] at hz
    cases hw : ws[j]? with
    | none => rw [hw] at hz; cases hz
    | some z =>
      rw [hw] at hz
      cases hz
      have : z ≠ b := fun e => by
        subst e
        have h2 := List.not_of_lt_findIdx (p := (· == z)) (xs := ws) hj
        obtain ⟨h3, h4⟩ := List.getElem?_eq_some_iff.mp hw
        rw [h4] at h2
        simp at h2
      simp [eqV, this]
end Gx

/-! Sorted rows of data: what is a rearrangement of another sorts alike. -/
namespace Gx
open PySem PySem.Spec PyProof.Rows L2 GxR
open PySem.W in
theorem sort_same {β : Type} {enc : β → PyData} {xs ys : List β} (p : xs.Perm ys) (inj : ∀ a b, keyToks (enc a) = keyToks (enc b) → a = b) : xs.mergeSort (dataLe false enc) = ys.mergeSort (dataLe false enc) := by
  have tot := sortLe_total (listOrd itemOrd) false fun b => keyToks (enc b)
  refine List.Perm.eq_of_pairwise (le := fun a b => dataLe false enc a b = true) (fun a b _ _ h h' => ?_) (sort_pairwise tot xs) (sort_pairwise tot ys) ((List.mergeSort_perm xs _).trans (p.trans (List.mergeSort_perm ys _).symm))
  have h1 : (listOrd itemOrd).blt (keyToks (enc b)) (keyToks (enc a)) = false := by simpa [dataLe, sortLe] using h
  have h2 : (listOrd itemOrd).blt (keyToks (enc a)) (keyToks (enc b)) = false := by simpa [dataLe, sortLe] using h'
  exact inj a b ((listOrd itemOrd).total _ _ h2 h1)
theorem str_cps {x y : Str} (h : x.cps.toList = y.cps.toList) : x = y := by
  cases x; cases y
  congr 1
  exact Array.ext' h
theorem toks_str {a b : Str} (h : PySem.W.keyToks (.str a) = PySem.W.keyToks (.str b)) : a = b := by
  simp only [PySem.W.keyToks] at h
  exact str_cps (by simpa using h)
/-- a pair of texts -/
def encP (p : Str × Str) : PyData := .tuple [.str p.1, .str p.2]
theorem toks_pair {a b : Str × Str} (h : PySem.W.keyToks (encP a) = PySem.W.keyToks (encP b)) : a = b := by
  unfold encP at h
  simp only [PySem.W.keyToks, PySem.W.keyToksAll] at h
  simp at h
  exact Prod.ext (by have := h.1; exact str_cps (by simpa using this)) (by have := h.2; exact str_cps (by simpa using this))
theorem alike_strs (zs : List Str) : PySem.W.AllAlike (zs.map PyData.str) := PySem.W.AllAlike.of fun b b' => by simp [PySem.W.alike]
theorem sortable_strs (zs : List Str) : PySem.W.Sortable (zs.map PyData.str) := PySem.W.Sortable.others (enc := PyData.str) fun b => ⟨(nomatch ·), fun xs => (nomatch ·)⟩
theorem alike_pairs (ps : List (Str × Str)) : PySem.W.AllAlike (ps.map encP) := PySem.W.AllAlike.of fun b b' => by simp [encP, PySem.W.alike, PySem.W.alikeAll]
theorem sortable_pairs (ps : List (Str × Str)) : PySem.W.Sortable (ps.map encP) := PySem.W.Sortable.tuples fun b => ⟨_, _, rfl⟩

/-- of a pair of texts -/
theorem pair_inv {K : PySem.W.Frag} {H : Hp} {x : V} {p : Str × Str} (h : DpT K H x (encP p)) : ∃ r, x = .ref r ∧ H r = some (.tup [.str p.1, .str p.2]) := by
  unfold encP at h
  cases h with
  | tup e t =>
    cases t with
    | cons a t =>
      cases t with
      | cons b t =>
        cases t
        cases a
        cases b
        exact ⟨_, rfl, e⟩
/-- sorted of a list of pairs of texts -/
theorem sort_pairs {K : PySem.W.Frag} {H : Hp} {D : Addr} {ps : List (Str × Str)} {Q : VK} (h : LstT K H D (ps.map encP)) (hl : ps.length ≤ 1000000)
    (q : ∀ p o, H p = none → LstT K (upd H p o) p ((ps.mergeSort (PySem.W.dataLe false encP)).map encP) → Q (.ref p) (upd H p o)) : rSortG K Prod.fst Prod.snd [.ref D] H Q := by
  obtain ⟨xs, e, t⟩ := h
  have hlen := t.length
  have m1 : (xs.zip (ps.map encP)).map Prod.fst = xs := List.map_fst_zip (Nat.le_of_eq hlen)
  have m2 : (xs.zip (ps.map encP)).map Prod.snd = ps.map encP := List.map_snd_zip (Nat.le_of_eq hlen.symm)
  refine ⟨D, xs.zip (ps.map encP), rfl, .inl (.inl (by rw [m1]; exact e)), fun b hb => ⟨(t.zip b hb).dp, ?_⟩, by rw [m2]; exact alike_pairs ps, by rw [m2]; exact sortable_pairs ps, ?_, fun p np => q p _ np ⟨_, upd_same, ?_⟩⟩
  · have := List.mem_map_of_mem (f := Prod.snd) hb
    rw [m2] at this
    obtain ⟨y, _, hy⟩ := List.mem_map.mp this
    rw [← hy]
    simp [encP, PyData.depth, PyData.depthAll]
  · rw [List.length_zip, hlen, Nat.min_self, List.length_map]
    unfold sizeLine
    omega
  · have k : ((xs.zip (ps.map encP)).mergeSort (PySem.W.dataLe false Prod.snd)).map Prod.snd = (ps.mergeSort (PySem.W.dataLe false encP)).map encP := by
      rw [List.map_mergeSort (f := Prod.snd) (r := PySem.W.dataLe false Prod.snd) (s := PySem.W.dataLe false id) fun a _ b _ => rfl, m2,
        ← List.map_mergeSort (f := encP) (r := PySem.W.dataLe false encP) (s := PySem.W.dataLe false id) fun a _ b _ => rfl]
    rw [← k]
    exact (dpTs_of fun b hb => t.zip b ((List.mergeSort_perm _ _).mem_iff.mp hb)).grow (grow_new (ex := []) np) (lists_none _)
/-- data that can be shown, compared, sorted: no deeper than n, no more than m -/
structure Fine (d : PyData) (n m : Nat) : Prop where
  lay : d.canLay0 = true
  show_ : d.showable = true
  nod : d.hasDict = false
  leaves : d.leavesShort 8 = true
  deep : d.depth ≤ n
  bulk : d.bulk ≤ m
structure Fines (ds : List PyData) (n m : Nat) : Prop where
  lay : PyData.canLayAll0 ds = true
  show_ : PyData.showableAll ds = true
  nod : PyData.hasDictAll ds = false
  leaves : PyData.leavesShortAll 8 ds = true
  deep : PyData.depthAll ds ≤ n
  bulk : PyData.bulkAll ds ≤ ds.length * (m + 1)
theorem fines {n m : Nat} : ∀ {ds : List PyData}, (∀ d ∈ ds, Fine d n m) → Fines ds n m
  | [], _ => ⟨rfl, rfl, rfl, rfl, Nat.zero_le _, by simp [PyData.bulkAll]⟩
  | d :: r, h => by
    have h1 := h d List.mem_cons_self
    have h2 := fines (ds := r) fun d q => h d (List.mem_cons_of_mem _ q)
    refine ⟨?_, ?_, ?_, ?_, ?_, ?_⟩
    · rw [PyData.canLayAll0, h1.lay, h2.lay]; rfl
    · rw [PyData.showableAll, h1.show_, h2.show_]; rfl
    · rw [PyData.hasDictAll, h1.nod, h2.nod]; rfl
    · rw [PyData.leavesShortAll, h1.leaves, h2.leaves]; rfl
    · rw [PyData.depthAll]
      exact Nat.max_le.mpr ⟨h1.deep, h2.deep⟩
    · rw [PyData.bulkAll, List.length_cons, Nat.succ_mul]
      have := h1.bulk
      have := h2.bulk
      omega
theorem Fine.list {n m k : Nat} {ds : List PyData} (h : ∀ d ∈ ds, Fine d n m) (hk : ds.length * (m + 1) ≤ k) : Fine (.list ds) (n + 1) k := by
  have f := fines h
  exact ⟨by rw [PyData.canLay0]; exact f.lay, by rw [PyData.showable]; exact f.show_, by rw [PyData.hasDict]; exact f.nod, by rw [PyData.leavesShort]; exact f.leaves, by rw [PyData.depth]; exact Nat.succ_le_succ f.deep, by rw [PyData.bulk]; exact Nat.le_trans f.bulk hk⟩
theorem Fine.tuple {n m k : Nat} {ds : List PyData} (h : ∀ d ∈ ds, Fine d n m) (hk : ds.length * (m + 1) ≤ k) : Fine (.tuple ds) (n + 1) k := by
  have f := fines h
  exact ⟨by rw [PyData.canLay0]; exact f.lay, by rw [PyData.showable]; exact f.show_, by rw [PyData.hasDict]; exact f.nod, by rw [PyData.leavesShort]; exact f.leaves, by rw [PyData.depth]; exact Nat.succ_le_succ f.deep, by rw [PyData.bulk]; exact Nat.le_trans f.bulk hk⟩
theorem Fine.str {z : Str} {m : Nat} (h : ∀ c ∈ z.cps.toList, c < 0x110000) (l : z.length ≤ m) : Fine (.str z) 0 m := by
  refine ⟨?_, rfl, rfl, ?_, Nat.le_refl _, l⟩
  · show PyData.strOk z = true
    unfold PyData.strOk
    rw [← Array.all_toList, List.all_eq_true]
    exact fun c hc => decide_eq_true (h c hc)
  · show (z.cps.toList.all fun c => decide (c < 16 ^ 8)) = true
    rw [List.all_eq_true]
    exact fun c hc => decide_eq_true (Nat.lt_of_lt_of_le (h c hc) (by decide))
theorem Fine.shaped {d : PyData} {n m : Nat} (f : Fine d n m) (hn : n ≤ 60) : SeqAt.shaped d = true := by
  unfold SeqAt.shaped
  rw [f.lay, decide_eq_true (by have := f.deep; omega)]
  rfl
theorem Fine.shown {d : PyData} {n m : Nat} (f : Fine d n m) (h : 10 * m + 8 ≤ sizeLine) : d.shown.length ≤ sizeLine := by
  have := PyData.shown_le_bulk 8 (by decide) d f.leaves
  have := f.bulk
  omega
theorem Fine.eqv {d : PyData} {n m : Nat} (f : Fine d n m) : PyData.eqv d d = true := PySem.SeqAt.eqv_refl d f.lay
end Gx

/-! The end of a law over a head whose facts are told by names. -/
namespace Gx
open PySem PySem.Spec PyProof.Rows L2 GxR GenW
/-- a def without defaults, from the head's word of it -/
theorem DefIs.of {K : PySem.W.Frag} {x qual : Str} {st : Stmt} {fd : FuncData} {p : He.Defn} (F : FunD K x qual (defArgs st) (defBody st) (defScope st) [] [] (He.fAd K p) fd) : DefIs K x qual st (He.fAd K p) fd (.ref (He.cT K p).1) := by
  obtain ⟨oc, od, dV, kV, doc, pm, an, cdv, ct, osl, rfl, lk, hcd, hd, _⟩ := F.ex
  obtain ⟨c, rfl⟩ := He.codeIn_ref hcd
  rcases hd with ⟨_, rfl⟩ | ⟨h, _⟩
  · have e : He.codeOf K p = c := He.codeOf_eq lk rfl
    show DefIs K x qual st (He.fAd K p) _ (.ref (He.codeOf K p))
    rw [e]
    exact ⟨⟨oc, od, kV, doc, pm, an, ct, osl, rfl, lk⟩, hcd, F.kp⟩
  · exact absurd rfl h
section
theorem walk_GE {l : PySem.W.OpenLaw} {n k : Nat} {q : Program} {loose : List Str} {XP : (Str → Option Value) → Heap → Prop} {YP : World → Heap → Prop} {d : DefRec} {x : Str}
    (hn : l.most = some n) (hn2 : n ≤ sizeLine) (hdf : d.params.defaults = []) (hr : Room k callerA)
    (F : ∀ (w : World) (mg : Str → Option Value) (fa : Addr) (h : Heap), YP w h → h.Ns mainGlobals mg → mg d.name = some (.ref fa) → ∃ K : PySem.W.Frag, K.In h ∧ LawG l w K k n x mg fa h) :
    PySem.W.WalkO q loose XP YP l.row.toRowW d [] (fun f vs => PySem.call f vs) := by
  refine Att.attach_callB hn hdf fun w s₀ s₁ mg mb fa o pm cd doc a vs ns G Y ho hd hcd hmg hobj hints hlen hbits hg => ?_
  obtain ⟨K, KX, fd, cs, sp, hT, hb, hsp, hF⟩ := F w mg fa _ Y G.T.g hmg
  have aT : a ∉ cs.map Prod.snd := fun z => by
    obtain ⟨p, hp, e⟩ := List.mem_map.mp z
    have q := (hT p hp).1
    rw [e, hobj] at q
    have z' : Data.seq vs.toArray _ = Data.fields #[] := congrArg Obj.data (Option.some.inj q)
    cases z'
  have rv := vals_ints hints
  cases hk : K.lookup a with
  | some o2 =>
    have e := KX a o2 hk
    rw [hobj] at e
    cases e
    have sl : SqL K (fun b => if b ∈ cs.map Prod.snd then some (.tbl #[]) else none) a (ns.map V.int) :=
      .inr ⟨_, vs.toArray, _, hk, rfl, rfl, rfl, by rw [List.size_toArray, hints.length]; exact Nat.le_trans hlen hn2, by simpa using rv⟩
    have hT' : ∀ p ∈ cs, (fun b => if b ∈ cs.map Prod.snd then some (HO.tbl #[]) else none) p.2 = some (.tbl #[]) := fun p hp => if_pos (List.mem_map.mpr ⟨p, hp, rfl⟩)
    refine law_from _ hT' (fun b u z => ?_) KX G.T.g G.T.b G.T.builtins G.T.nolimit hg hT G.T.bmain hobj rv (Nat.le_trans hlen hn2) sl hr hF hb (hsp _ a ns hlen hbits hT' sl)
    by_cases hm : b ∈ cs.map Prod.snd
    · exact .inl ⟨hm, Option.some.inj (z.symm.trans (if_pos hm))⟩
    · have z' := z.symm.trans (if_neg hm)
      cases z'
  | none =>
    have sl : SqL K (fun b => if b = a then some (.frz (scriptObj vs) (.lst (ns.map V.int))) else if b ∈ cs.map Prod.snd then some (.tbl #[]) else none) a (ns.map V.int) := .inl (.inr ⟨scriptObj vs, if_pos rfl⟩)
    have hT' : ∀ p ∈ cs, (fun b => if b = a then some (HO.frz (scriptObj vs) (.lst (ns.map V.int))) else if b ∈ cs.map Prod.snd then some (.tbl #[]) else none) p.2 = some (.tbl #[]) := fun p hp =>
      (if_neg (show ¬ p.2 = a from fun z => aT (by rw [← z]; exact List.mem_map.mpr ⟨p, hp, rfl⟩))).trans (if_pos (List.mem_map.mpr ⟨p, hp, rfl⟩))
    refine law_from _ hT' (fun b u z => ?_) KX G.T.g G.T.b G.T.builtins G.T.nolimit hg hT G.T.bmain hobj rv (Nat.le_trans hlen hn2) sl hr hF hb (hsp _ a ns hlen hbits hT' sl)
    by_cases hm : b = a
    · exact .inr ⟨hm, hk, Option.some.inj (z.symm.trans (if_pos hm))⟩
    · have z1 := z.symm.trans (if_neg hm)
      by_cases hm2 : b ∈ cs.map Prod.snd
      · exact .inl ⟨hm2, Option.some.inj (z1.trans (if_pos hm2))⟩
      · have z' := z1.trans (if_neg hm2)
        cases z'
end
end Gx

/-! max( ) of whole numbers with a default. -/
namespace Gx
open PySem PySem.Spec PyProof.Rows L2
def MaxA (a d : Value) : Args := ⟨[a], [(Str.ofString "default", d)]⟩
theorem maxA_ok (a d : Value) : argsOk "max" (MaxA a d) := by
  unfold argsOk MaxA
  kernel_rfl
section
variable {prog : Program} {w : World} {A : Around} {R : Result → Shared → Prop} {I : Addr} {fp wr : List Addr} {n : Nat} {P : Nat → Value → Prop} {St : Nat → Heap → Prop}
/-- what the loop holds: nothing yet, or the best so far -/
def MaxHeld (P : Nat → Value → Prop) (bt : Nat → Nat → Bool) (j : Nat) (vs : Array Value) : Prop := (j = 0 ∧ vs = #[]) ∨ ∃ v, vs = #[v, v] ∧ 0 < j ∧ P (argBest bt (j - 1)) v
def MaxOut (P : Nat → Value → Prop) (bt : Nat → Nat → Bool) (n : Nat) (d v : Value) : Prop := (n = 0 ∧ v = d) ∨ (0 < n ∧ P (argBest bt (n - 1)) v)
theorem max_rounds (W : Walks prog w A.in1 I fp wr n P St) (bt : Nat → Nat → Bool) (hcmp : CmpOf prog w A.in1 .Gt P bt) (S : Addr) (hS0 : S ∉ fp) (d : Value) :
    ∀ (k j : Nat) (s : Shared) (vs : Array Value) (c : Nat), n - j = k → j ≤ n → St j s.heap → MaxHeld P bt j vs → s.heap.get? S = some { cls := .type "list", dict := none, data := .seq vs c, slots := #[] } →
    (∀ v h2 tk, MaxOut P bt n d v → (∀ b o, b ∉ wr → b ≠ S → s.heap.get? b = some o → h2.get? b = some o) → R (.ok (.ret v)) { s with heap := h2, toks := tk }) →
    codeAny (model prog w) A (.builtin "max.loop" ⟨[.ref I, .none, .ref S], [(Str.ofString "default", d)]⟩) R s := by
  have sw : S ∉ wr := fun h => hS0 (W.sub _ h)
  have nm : (toString "max" ++ toString ".loop" : String) = "max.loop" := by decide
  intro k
  induction k with
  | zero =>
    intro j s vs c e hj st held hS fin
    have ej : j = n := by omega
    subst ej
    refine codeAny_builtin F.entry_max_loop (by
      rw [Around.under_plainId F.plain_max_loop _]
      show wpAny _ A.in1 (seqItems? (.ref S) >>= _) _ _ s
      refine wpAny_bind (wpAny_seqItems hS rfl ?_)
      show wpAny _ A.in1 (tryCatch (pyNext (.ref I)) _ >>= _) _ _ s
      refine wpAny_bind (wpAny_tryCatch (W.done s _ _ st fun h2 tk keep => ?_))
      have hS2 := keep S _ sw hS
      rcases held with ⟨e0, rfl⟩ | ⟨v, rfl, j0, hv⟩
      · show wpAny _ A.in1 (rule _ >>= _) _ _ _
        refine wpAny_bind (wpAny_rule ?_)
        refine wpAny_pure ?_
        exact fin d h2 tk (.inl ⟨e0, rfl⟩) fun b o hw _ q => keep b o hw q
      · show wpAny _ A.in1 (updateSeq S (fun _ => #[]) >>= _) _ _ _
        refine wpAny_bind (wpAny_updateSeq hS2 rfl (wpAny_bind (wpAny_letGo (wpAny_pure ?_))))
        exact fin v _ tk (.inr ⟨j0, hv⟩) fun b o hw hb q => (Heap.get?_update_other _ _ (Ne.symm hb)).trans (keep b o hw q))
  | succ k ih =>
    intro j s vs c e hj st held hS fin
    have hlt : j < n := by omega
    refine codeAny_builtin F.entry_max_loop (by
      rw [Around.under_plainId F.plain_max_loop _]
      show wpAny _ A.in1 (seqItems? (.ref S) >>= _) _ _ s
      refine wpAny_bind (wpAny_seqItems hS rfl ?_)
      show wpAny _ A.in1 (tryCatch (pyNext (.ref I)) _ >>= _) _ _ s
      refine wpAny_bind (wpAny_tryCatch (W.item j s _ _ hlt st fun v h2 tk hP st2 keep => ?_))
      have hS2 := keep S _ sw hS
      rcases held with ⟨rfl, rfl⟩ | ⟨b0, rfl, j0, hb0⟩
      · show wpAny _ A.in1 (updateSeq S (fun _ => #[v, v]) >>= _) _ _ _
        refine wpAny_bind (wpAny_updateSeq hS2 rfl ?_)
        rw [nm]
        refine wpAny_pure ⟨plainId_quiet F.plain_max_loop _, ih 1 _ #[v, v] _ (by omega) (by omega) (W.frame _ _ _ st2 fun b hb o q => (Heap.get?_update_other _ _ (fun h : S = b => hS0 (by rw [h]; exact hb))).trans q) (.inr ⟨v, rfl, Nat.one_pos, hP⟩) (Heap.get?_update_self _ hS2 rfl) fun v3 h3 tk3 out keep3 => ?_⟩
        exact fin v3 h3 tk3 out fun b o hw hb q => keep3 b o hw hb ((Heap.get?_update_other _ _ (Ne.symm hb)).trans (keep b o hw q))
      · show wpAny _ A.in1 (tryCatch (holding [v, v] (richCompare .Gt v b0 >>= _)) _ >>= _) _ _ _
        refine wpAny_bind (wpAny_tryCatch (wpAny_holding (wpAny_bind (hcmp j (argBest bt (j - 1)) v b0 _ _ _ hP hb0 ?_))))
        refine wpAny_bind (wpAny_holding (wpAny_truthy_bool (wpAny_bind (wpAny_letGo (wpAny_pure ?_)))))
        have ea : ∀ q, bt j (argBest bt (j - 1)) = q → argBest bt j = if q = true then j else argBest bt (j - 1) := fun q hq => by
          obtain ⟨i, rfl⟩ : ∃ i, j = i + 1 := ⟨j - 1, by omega⟩
          rw [argBest]
          rw [show i + 1 - 1 = i from rfl] at hq ⊢
          rw [hq]
        cases hb : bt j (argBest bt (j - 1)) with
        | true =>
          have eb := ea true hb
          rw [if_pos rfl] at eb ⊢
          refine wpAny_bind (wpAny_updateSeq hS2 rfl (wpAny_bind (wpAny_letGo ?_)))
          rw [nm]
          refine wpAny_pure ⟨plainId_quiet F.plain_max_loop _, ih (j + 1) _ #[v, v] _ (by omega) (by omega) (W.frame _ _ _ st2 fun b hb o q => (Heap.get?_update_other _ _ (fun h : S = b => hS0 (by rw [h]; exact hb))).trans q) (.inr ⟨v, rfl, Nat.succ_pos _, by rw [Nat.add_sub_cancel, eb]; exact hP⟩) (Heap.get?_update_self _ hS2 rfl) fun v3 h3 tk3 out keep3 => ?_⟩
          exact fin v3 h3 tk3 out fun b o hw hb q => keep3 b o hw hb ((Heap.get?_update_other _ _ (Ne.symm hb)).trans (keep b o hw q))
        | false =>
          have eb := ea false hb
          rw [if_neg Bool.false_ne_true] at eb ⊢
          refine wpAny_bind (wpAny_letGo ?_)
          rw [nm]
          refine wpAny_pure ⟨plainId_quiet F.plain_max_loop _, ih (j + 1) _ #[b0, b0] c (by omega) (by omega) st2 (.inr ⟨b0, rfl, Nat.succ_pos _, by rw [Nat.add_sub_cancel, eb]; exact hb0⟩) hS2 fun v3 h3 tk3 out keep3 => ?_⟩
          exact fin v3 h3 tk3 out fun b o hw hb q => keep3 b o hw hb (keep b o hw q))
end
end Gx
namespace Gx
open PySem PySem.Spec PyProof.Rows L2
section
variable {prog : Program} {w : World} {A : Around} {E : Value → Shared → Prop} {s : Shared}
theorem max_def_walk {x d : Value} {Q : Value → Shared → Prop}
    (h : wpAny (model prog w) A.in1 (pyIter x) (fun it s2 => ∃ I fp wr n P St bt, it = .ref I ∧ Walks prog w A.in1 I fp wr n P St ∧ St 0 s2.heap ∧ (∀ b ∈ fp, b < s2.heap.objs.size) ∧ CmpOf prog w A.in1 .Gt P bt ∧
      ∀ v h2 tk, MaxOut P bt n d v → (∀ b o, b ∉ wr → s2.heap.get? b = some o → h2.get? b = some o) → Q v { s2 with heap := h2, toks := tk }) E s) :
    wpAny (model prog w) A (call (.builtin "max") [x] [(Str.ofString "default", d)]) Q E s := by
  have nm : (toString "max" ++ toString ".loop" : String) = "max.loop" := by decide
  refine wpAny_call (codeAny_call_builtin F.plain_max F.entry_max ?_)
  simp only [checkBuiltinCall, F.kind_max]
  have body : wpAny (model prog w) A.in1 (Builtin.«max» (MaxA x d)) (fun fin s' => match fin with
      | .done f => (match (Except.ok f : Result) with | .ok (.ret v) => Q v s' | .ok _ => False | .error e => E e s')
      | .again c' => c'.quiet = true ∧ codeAny (model prog w) A c' (fun r s' => match r with | .ok (.ret v) => Q v s' | .ok _ => False | .error e => E e s') s') E s := by
    show wpAny _ A.in1 (Builtin.Builtins.bindParams "max" ["key", "default"] 0 ⟨[], [(Str.ofString "default", d)]⟩ >>= _) _ _ s
    refine wpAny_bind (wpAny_of_eq (show Builtin.Builtins.bindParams "max" ["key", "default"] 0 ⟨[], [(Str.ofString "default", d)]⟩ = pure [none, some d] from rfl) ?_)
    refine wpAny_bind (wpAny_pure ?_)
    refine wpAny_bind (wpAny_mono h (fun it s2 h2 => ?_) fun _ _ e => e)
    obtain ⟨I, fp, wr, n, P, St, bt, rfl, W, hst, hfp, hcmp, hQ⟩ := h2
    refine wpAny_bind (wpAny_newObj_type ?_)
    have sf : s2.heap.objs.size ∉ fp := fun hm => Nat.lt_irrefl _ (hfp _ hm)
    rw [nm]
    refine wpAny_pure ⟨plainId_quiet F.plain_max_loop _, max_rounds W bt hcmp s2.heap.objs.size sf d n 0 _ #[] _ rfl (Nat.zero_le _) (W.frame _ _ _ hst fun b _ o e => Heap.get?_push_of_some _ e) (.inl ⟨rfl, rfl⟩) (Heap.get?_push_size _ rfl) fun v h3 tk out keep => ?_⟩
    exact hQ v h3 tk out fun b o hbw e => keep b o hbw (Nat.ne_of_lt (Heap.lt_size e)) (Heap.get?_push_of_some _ e)
  cases hsig : Manifest.signature? "max" with
  | none => exact wpAny_pure body
  | some sig =>
    have ok := maxA_ok x d
    simp only [argsOk, hsig] at ok
    have h2 : Bind.checkArgs "max" sig (MaxA x d) = pure () := ok
    show wpAny _ A.in1 (Bind.checkArgs "max" sig (MaxA x d)) _ _ s
    rw [h2]
    exact wpAny_pure body
end
end Gx
namespace Gx
open PySem PySem.Spec PyProof.Rows L2
/-- what max(ns, default=d) is -/
def TopOf (d : Int) (ns : List Int) (m : Int) : Prop := (ns = [] ∧ m = d) ∨ (m ∈ ns ∧ ∀ y ∈ ns, y ≤ m)
section
variable {prog : Program} {w : World} {A : Around} {E : Value → Shared → Prop} {s : Shared}
theorem max_def_ints {l : Addr} {its : List Value} {ns : List Int} {d : Int} {dt : Tok} {Q : Value → Shared → Prop} (hh : A.handled = none) (hl : s.heap.IsList l its.toArray) (hi : IntsAre its ns)
    (h : ∀ h2 tk m t2, (∀ b o, s.heap.get? b = some o → h2.get? b = some o) → TopOf d ns m → Q (.int m t2) { s with heap := h2, toks := tk }) : wpAny (model prog w) A (call (.builtin "max") [.ref l] [(Str.ofString "default", .int d dt)]) Q E s := by
  obtain ⟨xs, e⟩ := hi.allInts.items
  have hn : numsOf (intItems xs).toList = ns := by rw [← e]; exact hi.numsOf
  rw [nums_intItems] at hn
  subst hn
  rw [e] at hl
  refine max_def_walk (iter_intList hl fun s2 e2 st hfp hlI => ?_)
  subst e2
  refine ⟨_, _, _, _, _, _, _, rfl, Walks.list (A := A.in1) hh _ l hlI (intItems xs), st, hfp, CmpOf.ints_gt (numAt xs) (fun _ _ => intItems_at), fun v h2 tk out keep => ?_⟩
  rcases out with ⟨e0, rfl⟩ | ⟨n0, hv⟩
  · refine h h2 tk d dt (old_kept keep) (.inl ⟨?_, rfl⟩)
    have : xs.toList = [] := List.eq_nil_of_length_eq_zero (by simpa [intItems] using e0)
    rw [this]
    rfl
  · obtain ⟨t, rfl⟩ := intItems_at hv
    obtain ⟨h1, h2'⟩ := argBest_gt (numAt xs) ((intItems xs).size - 1)
    have hs : (intItems xs).size = xs.size := by simp [intItems]
    rw [hs] at h1 h2' n0
    rw [hs]
    refine h h2 tk _ t (old_kept keep) (.inr ⟨?_, fun a ha => ?_⟩)
    · rw [numAt_eq]
      exact PySem.getD_mem (by rw [List.length_map, Array.length_toList]; omega)
    · obtain ⟨j, hj, rfl⟩ := mem_getD ha
      rw [List.length_map, Array.length_toList] at hj
      rw [← numAt_eq]
      exact h2' j (by omega)
end
section
variable {X : Cx}
def rMaxDef (K : PySem.W.Frag) : List V → List V → Hp → VK → Prop := fun vs zs H Q => ∃ (a : Addr) (ns : List Int) (d : Int), vs = [V.ref a] ∧ zs = [V.int d] ∧ SqL K H a (ns.map V.int) ∧ ∀ m, TopOf d ns m → Q (.int m) H
theorem cr_maxDef (hc : X.calm = true) : CallRK X (.builtin "max") [Str.ofString "default"] (rMaxDef X.K) := by
  intro pins s σ H xs zs us ws Q I r1 r2 h
  obtain ⟨a, ns, d, rfl, rfl, hs, q⟩ := h
  obtain ⟨its, rv, hl, _⟩ := I.list hs
  rw [Vals.ref1 r1]
  cases r2 with
  | cons r rr =>
    cases rr
    obtain ⟨t, rfl⟩ := r
    exact max_def_ints (I.ok.hd hc) hl.isList rv.ints fun h2 tk m t2 keep top => ⟨.int m, H, I.kept keep, ⟨_, rfl⟩, q m top⟩
end
end Gx

/-! max(d.values(), default=k) of whole numbers. -/
namespace Gx
open PySem PySem.Spec PyProof.Rows L2
theorem topOf_out {ns : List Int} {d : Int} {n : Nat} (hn : n = ns.length) {P : Nat → Value → Prop} (hP : ∀ i v, P i v → i < n ∧ ∃ t, v = .int (ns.getD i 0) t) {dv v : Value} {dt : Tok} (hd : dv = .int d dt)
    (out : MaxOut P (fun i j => decide (ns.getD i 0 > ns.getD j 0)) n dv v) : ∃ m t, v = .int m t ∧ TopOf d ns m := by
  rcases out with ⟨e0, rfl⟩ | ⟨n0, hv⟩
  · exact ⟨d, dt, hd, .inl ⟨List.eq_nil_of_length_eq_zero (by omega), rfl⟩⟩
  · obtain ⟨hi, t, rfl⟩ := hP _ _ hv
    obtain ⟨h1, h2⟩ := argBest_gt (fun i => ns.getD i 0) (n - 1)
    refine ⟨_, t, rfl, .inr ⟨PySem.getD_mem (by omega), fun a ha => ?_⟩⟩
    obtain ⟨j, hj, rfl⟩ := mem_getD ha
    exact h2 j (by omega)
section
variable {X : Cx}
def tMaxVals (td : TE) (k : Int) : TE := fun σ H Q => td σ H fun x H1 => ∃ (d : Addr) (kvs : List (Key × V)) (ns : List Int), x = .ref d ∧ H1 d = some (.dK kvs) ∧ kvs.map Prod.snd = ns.map V.int ∧ ∀ m, TopOf k ns m → Q (.int m) H1
theorem pe_maxVals {e : Expr} {td : TE} {p apos cpos kpos kp pos : Pos} {k : Int} {kk : Nat} (hc : X.calm = true) (hg : Gl X "max") (hm : X.mg "max" = none) (he : PE X e td)
    (hbase : attributeBase e "values" X.env (eval e X.env) = eval e X.env := by rfl) (hline : (apos.endLine == cpos.line) = true := by rfl) :
    PE X (.Call (.Name "max" p) [.Call (.Attribute e "values" apos) [] [] cpos] [⟨some "default", .Constant (.int k) kk kp, kpos⟩] pos) (tMaxVals td k) := by
  refine ⟨fun pins s σ H Q I h => ?_⟩
  refine wpAny_Call_Name_kw (ld_blt I hg hm (show bootBuiltins "max" = some (.builtin "max") by decide +kernel) ?_)
  refine PyProof.Rows.callWith_kw ?_
  refine Calls.spliced_cons ?_
  refine wpAny_Call_method (T := "dict") (id := "dict.values") hbase rfl hline F.plainAttrs_dict F.slot_dict_values F.type_dict_values (thn (he.run pins s σ H _ I h) fun u s1 h1 => ?_)
  obtain ⟨x, H1, I1, rx, d, kvs, ns, rfl, hd, hv, q⟩ := h1
  obtain rfl : u = Value.ref d := rx
  obtain ⟨hz, hs, vs, kv, o1, es, ep, ho, hx, hdt, r⟩ := I1.hok d _ hd
  have hD : s1.heap.DictAt (mixKind X.prog X.w) d vs ep := ⟨o1, es, ho, hx, hdt, r⟩
  have hl : kvs.length = vs.length := Paired.length kv
  have hln : kvs.length = ns.length := by have := congrArg List.length hv; rwa [List.length_map, List.length_map] at this
  refine ⟨hD.dictOf.typeIs, hD.dictOf.mapOf.noDict, ?_⟩
  refine method_meetsIn F.slot_dict_values F.entry_dict_values rfl (PySem.evalArgs_none ⟨rfl, hD.dictOf.typeIs, F.args_dict_values_1 _, _, meets_dict_values (mixKind X.prog X.w) d hs, ⟨vs, hD.dictOf⟩, ?_⟩)
  have I2 : L2.Inv X pins σ H1 { s1 with heap := s1.heap.push { cls := .type "dict_values", data := .fields #[.ref d] } } := I1.kept (t' := s1.toks) fun b ob z => Heap.get?_push_of_some _ z
  have nb : H1 s1.heap.objs.size = none := I1.hok.fresh (Nat.le_refl _)
  have I3 := I2.pinned (fp := [s1.heap.objs.size]) (fun b hb => by
    rw [List.mem_singleton.mp hb]
    exact I1.fpOk (Nat.le_refl _) nb) (fun b hb => by
    rw [List.mem_singleton.mp hb]
    exact ⟨_, Heap.get?_push_size _ rfl, fun v z => by cases z⟩)
  show wpAny _ _ (spliced []) _ _ _
  refine Calls.spliced_nil ?_
  refine thn ((pk_cons pe_int pk_nil).run pos _ _ σ H1 _ I3 (show tCons (tC (.int k)) tNil σ H1 (fun zs H2 => zs = [V.int k] ∧ H2 = H1) from ⟨rfl, rfl⟩)) fun ws s4 h4 => ?_
  obtain ⟨zs, H2, I4, rz, rfl, rfl⟩ := h4
  obtain ⟨t, rfl⟩ : ∃ t, ws = [Value.int k t] := by
    cases rz with
    | cons r0 rr =>
      cases rr
      obtain ⟨t, rfl⟩ := r0
      exact ⟨t, rfl⟩
  obtain ⟨_, _, us, ku, o4, es4, ep4, ho4, hx4, hdt4, r4⟩ := I4.hok d _ hd
  have hD4 : s4.heap.DictAt (mixKind X.prog X.w) d us ep4 := ⟨o4, es4, ho4, hx4, hdt4, r4⟩
  have hlu : kvs.length = us.length := Paired.length ku
  have view : s4.heap.get? s1.heap.objs.size = some { cls := .type "dict_values", data := .fields #[.ref d] } :=
    (I4.pin (s1.heap.objs.size, { cls := .type "dict_values", data := .fields #[.ref d] }) (List.mem_append_right _ (List.mem_append_right _ (mem_pinsAt (List.mem_singleton.mpr rfl) (Heap.get?_push_size _ rfl))))).1
  show wpAny _ _ (call (.builtin "max") [.ref s1.heap.objs.size] [(Str.ofString "default", .int k t)]) _ _ _
  have vals : ∀ i v, (∃ key, us[i]? = some (key, v)) → i < us.length ∧ ∃ t, v = .int (ns.getD i 0) t := fun i v hk => by
    obtain ⟨key, hk⟩ := hk
    have hi := (List.getElem?_eq_some_iff.mp hk).1
    obtain ⟨⟨k2, x2⟩, hk2⟩ : ∃ q, kvs[i]? = some q := ⟨kvs[i]'(by omega), List.getElem?_eq_getElem (by omega)⟩
    obtain ⟨u2, hu2, ru2⟩ := kv_get ku hk2
    rw [hk] at hu2
    cases hu2
    have e1 := congrArg (fun l => l[i]?) hv
    simp only [List.getElem?_map, hk2] at e1
    have hni : i < ns.length := by omega
    rw [List.getElem?_eq_getElem hni] at e1
    have e2 : x2 = V.int ns[i] := Option.some.inj e1
    subst e2
    obtain ⟨t2, rfl⟩ := ru2
    exact ⟨hi, t2, by rw [List.getD_eq_getElem?_getD, List.getElem?_eq_getElem hni]; rfl⟩
  refine max_def_walk (wpAny_pyIter_values (d := d) (knd := mixKind X.prog X.w) ⟨_, view, rfl, rfl⟩ hD4 ?_)
  have hlt : d < s4.heap.objs.size := by
    obtain ⟨_, _, e, _⟩ := hD4
    exact Heap.lt_size e
  refine ⟨s4.heap.objs.size, _, _, _, _, _, fun i j => decide (ns.getD i 0 > ns.getD j 0), rfl, Walks.dictValues (A := X.A.in1) (knd := mixKind X.prog X.w) (I.ok.hd hc) s4.heap.objs.size d (Nat.ne_of_lt hlt) us ep4, ⟨⟨_, Heap.get?_push_size _ rfl, rfl, rfl⟩, hD4.push _⟩, fun b hb => ?_, CmpOf.ints_gt (fun i => ns.getD i 0) (fun i v hk => (vals i v hk).2), fun v h2 tk out keep => ?_⟩
  · show b < (s4.heap.push _).objs.size
    rw [Heap.size_push]
    rcases List.mem_cons.mp hb with rfl | hb
    · exact Nat.lt_succ_self _
    · rw [List.mem_singleton.mp hb]
      exact Nat.lt_succ_of_lt hlt
  · obtain ⟨m, t3, rfl, top⟩ := topOf_out (by omega) vals rfl out
    refine ⟨.int m, H2, (I4.unpinned.kept fun b o e => ?_), ⟨_, rfl⟩, q m top⟩
    exact keep b o (fun z => by rw [List.mem_singleton.mp z] at e; exact absurd (Heap.lt_size e) (Nat.lt_irrefl _)) (Heap.get?_push_of_some _ e)
end
end Gx
namespace Gx
open PySem PySem.Spec PyProof.Rows L2
theorem kv_vals {κ : Type} : ∀ {kvs : List (κ × V)} {us : List (κ × Value)} {vs : List Value}, KV kvs us → vs = us.map Prod.snd → Vals (kvs.map Prod.snd) vs
  | _, _, _, .nil, rfl => .nil
  | _, _, _, .cons h t, rfl => .cons h.2 (kv_vals t rfl)
section
variable {X : Cx}
/-- list(d.values()) -/
def tListVals (td : TE) : TE := fun σ H Q => td σ H fun x H1 => ∃ (d : Addr) (kvs : List (Key × V)), x = .ref d ∧ H1 d = some (.dK kvs) ∧ ∀ l, H1 l = none → Q (.ref l) (upd H1 l (.lst (kvs.map Prod.snd)))
theorem pe_listVals {e : Expr} {td : TE} {p apos cpos pos : Pos} (hc : X.calm = true) (hg : Gl X "list") (hm : X.mg "list" = none) (he : PE X e td)
    (hbase : attributeBase e "values" X.env (eval e X.env) = eval e X.env := by rfl) (hline : (apos.endLine == cpos.line) = true := by rfl) (na : starEach [(.Call (.Attribute e "values" apos) [] [] cpos : Expr)] X.env = (false, eval (.Call (.Attribute e "values" apos) [] [] cpos) X.env) :: starEach [] X.env := by rfl) :
    PE X (.Call (.Name "list" p) [.Call (.Attribute e "values" apos) [] [] cpos] [] pos) (tListVals td) := by
  refine ⟨fun pins s σ H Q I h => Call_ (ld_blt I hg hm (show bootBuiltins "list" = some (.type "list") by decide +kernel) ?_)⟩
  refine PyProof.Rows.callWith_type1 (PyProof.Rows.args_cons ?_ na) na rfl
  refine wpAny_Call_method (T := "dict") (id := "dict.values") hbase rfl hline F.plainAttrs_dict F.slot_dict_values F.type_dict_values (thn (he.run pins s σ H _ I h) fun u s1 h1 => ?_)
  obtain ⟨x, H1, I1, rx, d, kvs, rfl, hd, q⟩ := h1
  obtain rfl : u = Value.ref d := rx
  obtain ⟨hz, hs, vs, kv, o1, es, ep, ho, hx, hdt, r⟩ := I1.hok d _ hd
  have hD : s1.heap.DictAt (mixKind X.prog X.w) d vs ep := ⟨o1, es, ho, hx, hdt, r⟩
  have hl : kvs.length = vs.length := Paired.length kv
  refine ⟨hD.dictOf.typeIs, hD.dictOf.mapOf.noDict, ?_⟩
  refine method_meetsIn F.slot_dict_values F.entry_dict_values rfl (PySem.evalArgs_none ⟨rfl, hD.dictOf.typeIs, F.args_dict_values_1 _, _, meets_dict_values (mixKind X.prog X.w) d hs, ⟨vs, hD.dictOf⟩, PyProof.Rows.args_nil ?_⟩)
  have I2 : L2.Inv X pins σ H1 { s1 with heap := s1.heap.push { cls := .type "dict_values", data := .fields #[.ref d] } } := I1.kept (t' := s1.toks) fun b ob z => Heap.get?_push_of_some _ z
  refine PySem.W.kdl_call (PySem.W.kdl_values (knd := mixKind X.prog X.w) (d := d) (r := s1.heap.objs.size) (kvs := vs) (ep := ep)) (I.ok.hd hc) ⟨⟨_, Heap.get?_push_size _ rfl, rfl, rfl⟩, hD.push _⟩ (by omega) fun h2 tk acc c keep new items => ?_
  have ev : acc.toList = vs.map Prod.snd := PySem.W.kdl_vals_eq acc.toList (by rw [Array.length_toList]; exact items.1) fun j v e => items.2 j v (by rw [← Array.getElem?_toList]; exact e)
  refine ⟨.ref _, _, I2.laid (t' := tk) (h' := h2) keep (Nat.le_refl _) (show ObjOk X.prog X.w _ h2 _ (.lst (kvs.map Prod.snd)) from ⟨by rw [List.length_map]; exact hz, acc.toList, c, kv_vals kv ev, ?_⟩), rfl, q _ (I2.hok.fresh (Nat.le_refl _))⟩
  rw [Array.toArray_toList]
  exact new
end
end Gx

/-! sorted(set(xs)) of a list of whole numbers -/
namespace Gx
open PySem PySem.Spec PyProof.Rows L2
section
variable {prog : Program} {w : World} {A : Around}
/-- set(l), l a list of whole numbers, with the order of its members -/
theorem set_of_ints {E : Value → Shared → Prop} {s : Shared} {l : Addr} {items : Array Value} {ns : List Int} {Q : Value → Shared → Prop} (hh : A.handled = none) (hl : s.heap.IsList l items) (hi : IntsAre items.toList ns) (hb : ns.length + 1 < scanBound)
    (h : ∀ (h' : Heap) (tk c : Nat), SetR w h' s.heap.objs.size (fun j => decide (j ∈ ns)) c → c ≤ ns.length → (∀ b o, s.heap.get? b = some o → h'.get? b = some o) → Q (.ref s.heap.objs.size) { s with heap := h', toks := tk }) :
    wpAny (model prog w) A (call (.type "set") [.ref l]) Q E s := by
  have hn : ns.length = items.size := by have q := IntsAre.length hi; rw [Array.length_toList] at q; exact q.symm
  obtain ⟨led, hled⟩ : ∃ led : Bool, (!w.params.followText "set-order") = led := ⟨_, rfl⟩
  obtain ⟨c0, tl0, mro0⟩ := PySem.F.called_set.mro
  have made0 := PySem.F.called_set.made; have sub0 := PySem.F.called_set.sub
  have nt0 := PySem.F.called_set.notType; have cc0 := PySem.F.called_set.canCreate
  have tc0 := PySem.F.typeCall_set_1 (.ref l)
  refine wpAny_call (codeAny_of_tree ?_)
  show wpAny (model prog w) _ (callAny (.type "set") _) _ _ _
  refine wpAny_pure ⟨Code.quiet_builtin _ (by decide +kernel), codeAny_builtin PySem.F.entry_type_call ?_⟩
  rw [Around.under_plain (weight_type_call_type "set" [.ref l] []) rfl]
  repeat any_goals first | assumption | wp_step
  refine codeAny_mono (code_set_led1 (.ref l) (E := E) (Q₁ := fun z t => z = .ref s.heap.objs.size ∧ t = { s with heap := s.heap.push { cls := .type "set", dict := none, data := .set #[] 0 (.fresh 0 0 (!w.params.followText "set-order")) } }) ⟨rfl, rfl⟩) fun r1 t1 q1 => ?_
  match r1, q1 with
  | .error e, q1 => exact q1
  | .ok (.ret z), q1 =>
    obtain ⟨rfl, rfl⟩ := q1
    have gS : (s.heap.push { cls := .type "set", dict := none, data := .set #[] 0 (.fresh 0 0 (!w.params.followText "set-order")) }).get? s.heap.objs.size = some { cls := .type "set", dict := none, data := .set #[] 0 (.fresh 0 0 (!w.params.followText "set-order")) } := Heap.get?_push_size _ rfl
    have tS : Shared.TypeIs { s with heap := s.heap.push { cls := .type "set", dict := none, data := .set #[] 0 (.fresh 0 0 (!w.params.followText "set-order")) } } (.ref s.heap.objs.size) "set" := ⟨_, gS, rfl⟩
    have li := PySem.F.called_set.init.lookup; have bi := PySem.F.called_set.init.bind (.ref s.heap.objs.size)
    repeat any_goals first | assumption | wp_step
    refine codeAny_mono (codeAny_call_builtin (R := wants (fun r t => r = .none ∧ ∃ h' tk c, t = { s with heap := h', toks := tk } ∧ SetR w h' s.heap.objs.size (fun j => decide (j ∈ ns)) c ∧ c ≤ ns.length ∧
        ∀ b o, s.heap.get? b = some o → h'.get? b = some o) E) PySem.F.called_set.init.plain PySem.F.entry_set_init (check_set_init_1 tS ?_)) fun r2 t2 q2 => ?_
    · obtain ⟨ol, gl, cl, nl, dl⟩ := hl
      obtain ⟨oc, od, ot, os⟩ := ol
      simp only at cl dl
      subst cl; subst dl
      have ll : l < s.heap.objs.size := Heap.lt_size gl
      have gl' : (s.heap.push { cls := .type "set", dict := none, data := .set #[] 0 (.fresh 0 0 (!w.params.followText "set-order")) }).get? l = some { cls := .type "list", dict := od, data := .seq items nl, slots := os } := Heap.get?_push_of_some _ gl
      have il : (s.heap.push { cls := .type "set", dict := none, data := .set #[] 0 (.fresh 0 0 (!w.params.followText "set-order")) }).IsList l items := ⟨_, gl', rfl, nl, rfl⟩
      have s1 := PySem.F.sub_list_set; have s2 := PySem.F.sub_list_frozenset
      have nd : (Value.type "list" == Value.type "dict") = false := by decide
      unfold Builtin.«set.__init__» noKeywords Builtin.Frozenset.updateFrom
      generalize hp : pyIter = pI
      wp_walk
      subst hp
      refine wpAny_pyIter_list il ?_
      refine wpAny_bind (wpAny_runValue ?_)
      have h3 : A.in1.in1.in1.handled = none := by simp [hh]
      have ni : l ≠ (s.heap.push { cls := .type "set", dict := none, data := .set #[] 0 (.fresh 0 0 (!w.params.followText "set-order")) }).objs.size := by rw [Heap.size_push]; exact Nat.ne_of_lt (Nat.lt_succ_of_lt ll)
      have zf : s.heap.objs.size ∉ [(s.heap.push { cls := .type "set", dict := none, data := .set #[] 0 (.fresh 0 0 (!w.params.followText "set-order")) }).objs.size, l] := by
        rw [Heap.size_push]; simp only [List.mem_cons, List.mem_singleton, List.not_mem_nil, or_false, not_or]
        exact ⟨Nat.ne_of_lt (Nat.lt_succ_self _), Nat.ne_of_gt ll⟩
      have hv : ∀ (i : Nat) (v : Value), items[i]? = some v → ∃ k t, ns[i]? = some k ∧ v = .int k t := fun i v q => by
        have il2 : i < ns.length := by rw [hn]; exact (Array.getElem?_eq_some_iff.mp q).1
        obtain ⟨t, e⟩ := PyProof.Rows.IntsAre.int_at hi i v (by rw [Array.getElem?_toList]; exact q)
        refine ⟨ns[i], t, List.getElem?_eq_getElem il2, ?_⟩
        rw [e, List.getD_eq_getElem?_getD, List.getElem?_eq_getElem il2] <;> rfl
      refine set_update_ints ((Walks.list h3 _ l ni items).toS) s.heap.objs.size zf ns hn.symm hb hv (items.size - 0) 0 _ (by omega) (Nat.zero_le _) ⟨⟨_, Heap.get?_push_size _ rfl, rfl, rfl⟩, il.push _⟩ ?_ fun t c mv hc hS => ?_
      · refine ⟨0, Nat.le_refl 0, setR_new_at ?_⟩
        exact Heap.get?_push_of_some _ gS
      · obtain ⟨h', g', d', tk', os'⟩ := t
        obtain rfl : g' = s.gens := mv.gens
        obtain rfl : d' = s.drawn := mv.drawn
        obtain rfl : os' = s.os := mv.os
        show wpAny (model prog w) _ _ _ _ _
        refine wpAny_pure ?_
        show wpAny (model prog w) _ (ret Value.none) _ _ _
        refine wpAny_pure ⟨rfl, h', tk', c, rfl, hS, by omega, fun b o e => ?_⟩
        have lb := Heap.lt_size e
        refine mv.heap b o (fun z => ?_) (Heap.get?_push_of_some _ (Heap.get?_push_of_some _ e))
        rcases List.mem_cons.mp z with y | y
        · exact Nat.ne_of_lt lb y
        · rcases List.mem_cons.mp y with y | y
          · rw [Heap.size_push] at y
            exact Nat.ne_of_lt (Nat.lt_succ_of_lt lb) y
          · cases y
    · match r2, q2 with
      | .error e, q2 => exact q2
      | .ok (.ret r), q2 =>
        obtain ⟨rfl, h', tk, c, rfl, hS, hc, hk⟩ := q2
        repeat any_goals first | assumption | wp_step
        exact h _ _ _ hS hc hk
/-- sorted(s), s a set of whole numbers, any number of them -/
theorem sorted_setN {E : Value → Shared → Prop} {s : Shared} {a : Addr} {S : Int → Bool} {n : Nat} {Q : Value → Shared → Prop} (R : SetR w s.heap a S n) (hh : A.handled = none)
    (hQ : ∀ s' p (out : Array Value) (c : Nat) (ns : List Int), (∀ b o, s.heap.get? b = some o → s'.heap.get? b = some o) → s'.gens = s.gens → s'.os = s.os → s.heap.objs.size ≤ p →
      s'.heap.get? p = some (seqObj "list" out c) → IntsAre out.toList ns → ns.Pairwise (· < ·) → (∀ k, k ∈ ns ↔ S k = true) → ns.length = n → Q (.ref p) s') :
    wpAny (model prog w) A (call (.builtin "sorted") [.ref a]) Q E s := by
  obtain ⟨o, es, ep, t, ho, hex, hd, g, nd, hm, hb, hf, hn, hr, hl⟩ := R
  refine Calls.call_function_entry kind_sorted plain_sorted entry_sorted (args_sorted1 _) ?_
  unfold Builtin.«sorted»
  refine wpAny_bind (m := checkCount "sorted" 1 1 _) (wpAny_pure (wpAny_bind (collect_set (A := A.in1) hh ⟨o, ho, hex.1, hd⟩ hf hb hr hl fun s1 vs keep le g1 o1 pm => ?_)))
  have lv : vs.length = n := by rw [pm.length_eq, List.length_map, Array.length_toList]; exact hn
  have lz : vs.length ≤ sizeLine := by rw [lv, ← hn]; unfold scanBound at hb; unfold sizeLine; omega
  have hI : IntsAre vs (vs.map Builtin.Re.reRawOf) := ints_of vs fun v hv => by
    obtain ⟨e, he, q⟩ := List.mem_map.mp (pm.mem_iff.mp hv)
    obtain ⟨k, tk, h1, _⟩ := g e he
    exact ⟨k, tk, q.symm.trans h1⟩
  have pk : (vs.map Builtin.Re.reRawOf).Perm (es.toList.map keyOf) := by
    have q := pm.map Builtin.Re.reRawOf
    rwa [List.map_map] at q
  refine wpAny_bind (wpAny_newList ?_ lz)
  have gL : (s1.heap.push (seqObj "list" vs.toArray 0)).get? s1.heap.objs.size = some (seqObj "list" vs.toArray 0) := Heap.get?_push_size _ rfl
  refine wpAny_bind (wpAny_holding (wpAny_call_entry slot_list_sort ⟨_, gL, rfl⟩ entry_list_sort (SrtO.list_sort_ord SrtO.swo_int gL lz (fun h2 => SrtO.ints_sortable hI h2) fun out a1 a2 => ⟨_, rfl, ?_⟩) (args_list_sort _)))
  obtain ⟨k1, k2, k3⟩ := SrtO.ints_out hI a1 a2
  obtain ⟨c, hc⟩ := sortedHeap_at (vs := vs) (out := out.toArray) gL
  have pn : (out.map SrtO.iv).Perm (es.toList.map keyOf) := k2.trans pk
  refine wpAny_pure ⟨_, rfl, hQ _ s1.heap.objs.size out.toArray c _ (fun b u e => ?_) g1 o1 le hc k1 (lt_of_le_nodup _ k3 (pn.nodup_iff.mpr nd)) (fun k => by rw [pn.mem_iff, ← hm k]) ?_⟩
  · have q := keep b u e
    have hlt := Heap.lt_size q
    show (sortedHeap (s1.heap.push (seqObj "list" vs.toArray 0)) s1.heap.objs.size vs out.toArray).get? b = some u
    rw [sortedHeap_old (Nat.ne_of_lt hlt) (by rw [size_push']; exact Nat.lt_succ_of_lt hlt)]
    exact Heap.get?_push_of_some _ q
  · rw [pn.length_eq, List.length_map, Array.length_toList]; exact hn
end
section
variable {X : Cx}
/-- sorted(set(xs)) of a list of whole numbers -/
def tSortedSetI (K : PySem.W.Frag) (ta : TE) : TE := fun σ H Q => ta σ H fun x H1 => ∃ (l : Addr) (ns : List Int), x = .ref l ∧ SqL K H1 l (ns.map V.int) ∧ ns.length ≤ 4000 ∧
  ∀ (ms : List Int) p, ms.Pairwise (· < ·) → (∀ k, k ∈ ms ↔ k ∈ ns) → H1 p = none → Q (.ref p) (upd H1 p (.lst (ms.map V.int)))
theorem pe_sortedSetI {a : Expr} {ta : TE} {p p2 q pos : Pos} (hg : Gl X "sorted") (hm : X.mg "sorted" = none) (hg2 : Gl X "set") (hm2 : X.mg "set" = none) (hh : X.A.handled = none) (ha : PE X a ta)
    (na : starEach [a] X.env = (false, eval a X.env) :: starEach [] X.env := by rfl) : PE X (.Call (.Name "sorted" p) [.Call (.Name "set" p2) [a] [] q] [] pos) (tSortedSetI X.K ta) := by
  refine ⟨fun pins s σ H Q I h => Call_ (ld_blt I hg hm (show bootBuiltins "sorted" = some (.builtin "sorted") by decide +kernel) (PyProof.Rows.callWith_builtin1 (PyProof.Rows.args_cons (Call_ (ld_blt I hg2 hm2 boot_set ?_)) rfl) rfl rfl))⟩
  refine PyProof.Rows.callWith_type1 (PyProof.Rows.args_cons (thn (ha.run pins s σ H _ I h) fun v s1 h1 => PyProof.Rows.args_nil ?_) na) na rfl
  obtain ⟨x, H1, I1, r1, l, ns, rfl, hq, hz, q1⟩ := h1
  have e : v = .ref l := r1
  subst e
  obtain ⟨its, rv, pl, _⟩ := I1.list hq
  refine set_of_ints hh pl.isList (ns := ns) (by simpa using rv.ints) (by unfold scanBound; omega) fun h' tk c hS hc hk => ?_
  have I2 : Inv X pins σ H1 { s1 with heap := h', toks := tk } := I1.kept hk
  refine PyProof.Rows.args_nil ?_
  obtain ⟨s2, hs2⟩ : ∃ s2 : Shared, s2 = { s1 with heap := h', toks := tk } := ⟨_, rfl⟩
  rw [← hs2] at I2 ⊢
  refine sorted_setN (by rw [hs2]; exact hS) hh fun s' p out c ms k g o hp hgp hi hs hm hl => ?_
  have hlen : (ms.map V.int).length ≤ sizeLine := by rw [List.length_map, hl]; unfold sizeLine; omega
  have hn : H1 p = none := I2.hok.fresh hp
  have J : Inv X pins σ (upd H1 p (.lst (ms.map V.int))) { s2 with heap := s'.heap, gens := s'.gens, drawn := s'.drawn, toks := s'.toks } :=
    I2.call (ch := []) (Un.laid k hp hn) (I2.hok.laid k hp ⟨hlen, out.toList, c, vals_of_ints hi, hgp⟩) (by rw [g]; exact I2.bare) (fun _ z => nomatch z)
  have e : s' = { s2 with heap := s'.heap, gens := s'.gens, drawn := s'.drawn, toks := s'.toks } := by
    cases s'
    cases s2
    cases o
    rfl
  rw [e]
  exact ⟨.ref p, _, J, rfl, q1 ms p hs (fun k => by rw [hm k]; exact decide_eq_true_iff) hn⟩
end
end Gx
namespace Gx
open L2
theorem room65 {A : PySem.Around} {k : Nat} (r : Room k A) : A.units + 65 < PySem.cLine := by have := r.un; omega
end Gx

/-! name = {key: value for ..}, the name a local of its def -/
namespace Gx
open PySem PySem.Spec PyProof.Rows L2 GxR
section
variable {X : Cx}
theorem swD_true {k v : Expr} {gs : List Comprehension} {sc : Scope} {p q : Pos} {n : Str} {ln : Nat} {en : Env} (k1 : en.scope.kind = .function) (k2 : en.scope.names.lookup n = some .local) (k3 : (q.line == p.line) = true)
    (k4 : (sc.names.any fun (z, y) => z == n && (y == .local || y == .cell)) = false) : swapsWith (.DictComp k v gs sc p) (some (.Name n q)) ln en = pure true := by
  have e1 : en.kindOf n = some .local := k2
  have e2 : en.blockKind = .function := by
    unfold Env.blockKind
    rw [k1]
    rfl
  unfold swapsWith
  simp only [e2, e1, k4, Expr.pos, k3]
  rfl
theorem ps_setDc {n : Nat} {x : Str} {px p sp : Pos} {ke ve tg it : Expr} {ifs : List Expr} {sc : Scope} {own : List (Str × Nat)} {w : TI} {g : TG} {tt : TT} {tk tv : TE}
    (calm : X.calm = true) (nd : X.N.Nodup) (at_ : X.N[n]? = some x) (loc : X.env.scope.names.lookup x = some .local) (used : swapsWith (.DictComp ke ve [⟨tg, it, ifs, 0⟩] sc p) (some (.Name x px)) sp.line X.env = pure true)
    (hw : PI X tg it w) (ok : BlkOk X.N X.env.scope sc own)
    (hg : ∀ (s : Shared) (H : Hp) (C : Addr) (cl : List (Str × Addr)) (fp : List Addr),
      PG (X.blk s H sc (compEnvC sc cl C X.env) fp) tg g)
    (ht : ∀ (s : Shared) (H : Hp) (C : Addr) (cl : List (Str × Addr)) (fp : List Addr),
      PTs (X.blk s H sc (compEnvC sc cl C X.env) fp) ifs tt)
    (hk : ∀ (s : Shared) (H : Hp) (C : Addr) (cl : List (Str × Addr)) (fp : List Addr),
      PE (X.blk s H sc (compEnvC sc cl C X.env) fp) ke tk)
    (hv : ∀ (s : Shared) (H : Hp) (C : Addr) (cl : List (Str × Addr)) (fp : List Addr),
      PE (X.blk s H sc (compEnvC sc cl C X.env) fp) ve tv)
    (fold : ∀ z, foldedSetIterable it X.env z = pure z := by intro _; rfl) :
    PS X (.Assign [.Name x px] (.DictComp ke ve [⟨tg, it, ifs, 0⟩] sc p) sp) (tAsg (tDc w g tt tk tv (own.map (·.2))) (gName n)) := by
  refine ⟨fun pins s σ H J I h => ?_⟩
  rw [exec_Assign_Name_used _ _ _ _ used]
  refine wpAny_bind (wpAny_standAt (wpAny_bind ?_))
  show wpAny _ X.A (do
    let _ ← comprehension (.DictComp ke ve [⟨tg, it, ifs, 0⟩] sc p) sc X.env (firstIterPos [⟨tg, it, ifs, 0⟩] p) newDict false (eval it X.env) (some (assign (.Name x px) X.env))) _ _ s
  have h2 : tDc w g tt tk tv (own.map (·.2)) σ H (fun y H1 => gName n y σ H1 J.nx) := h
  refine wpAny_bind (thn (dc_core (Qf := fun _ s' => SP X pins J .next s') calm nd I hw ok hg ht hk hv fold h2 fun L C t m H' I' q ns fr => ?_) fun _ t hq => wpAny_pure (wpAny_pure hq))
  show wpAny _ _ (assign (.Name x px) X.env (.ref L)) _ _ _
  refine wpAny_assign_Name (store_ok2 (v := V.ref L) I' nd at_ (.inl loc) rfl (fun t2 I2 hb => ?_) (.inr loc))
  obtain ⟨b, sb, hb⟩ := hb
  obtain ⟨r0, r1, r2, r3, r4, r5⟩ := fr
  have ne : C ≠ b := by
    rcases hb with z | z
    · rw [z]
      exact r1
    · exact fun e => r4 x b z e.symm
  refine ⟨m, ns.sameBut sb ne, fun h3 sb3 => ⟨_, H', I2.turned (t' := t2.toks) (fun c o hc e => ?_) r0 r1 r3 r4 r5, q⟩⟩
  exact (sb3.2 c hc).trans e
end
end Gx

/-! Tuples whose objects are known to have no names of their own: made by tuple( ), and their methods. -/
namespace Gx
open PySem PySem.Spec PyProof.Rows L2 GxR
section
variable {X : Cx}
def rTupF (K : PySem.W.Frag) : List V → Hp → VK → Prop := fun xs H Q => ∃ (p : Addr) (ys : List V), xs = [.ref p] ∧ SqL K H p ys ∧ ∀ (l : Addr) (o : Obj), H l = none → o.dict = none → Q (.ref l) (upd H l (.frz o (.tup ys)))
theorem call_tupleF : CallR X (.type "tuple") (rTupF X.K) := by
  intro pins s σ H xs us Q I r h
  obtain ⟨p, ys, rfl, hq, q⟩ := h
  obtain ⟨u, rfl, rx⟩ := vals1 r
  obtain rfl : u = Value.ref p := rx
  obtain ⟨its, rv, pl, hz⟩ := I.list hq
  have hlen := rv.length
  refine call_tuple_list pl.isList (fun g keep => ?_) (by rw [List.size_toArray]; omega)
  have J : Inv X pins σ H { s with heap := g } := I.kept (t' := s.toks) keep
  have J2 : Inv X pins σ (upd H g.objs.size (.frz { cls := .type "tuple", data := .seq its.toArray } (.tup ys))) { s with heap := g.push { cls := .type "tuple", data := .seq its.toArray } } :=
    J.laid (t' := s.toks) (fun b o e => Heap.get?_push_of_some _ e) (Nat.le_refl _)
      (show ObjOk X.prog X.w _ _ _ (.frz _ (.tup ys)) from ⟨Heap.get?_push_size _ rfl, hz, its, rv, IsTup.new _ _⟩)
  exact ⟨.ref g.objs.size, _, J2, rfl, q _ _ (J.hok.fresh (Nat.le_refl _)) rfl⟩
/-- t.name(..), t such a tuple -/
def tBMF (r : V → List V → Hp → VK → Prop) (to : TE) (t : TA) : TE := fun σ H Q => to σ H fun x H1 => (∃ (p : Addr) (o : Obj) (ys : List V), x = .ref p ∧ H1 p = some (.frz o (.tup ys)) ∧ o.dict = none) ∧ t σ H1 fun xs H2 => r x xs H2 Q
variable {o e : Expr} {es : List Expr} {to : TE} {t : TA} {name : Str} {apos cpos : Pos} {id : String} {r : V → List V → Hp → VK → Prop}
theorem pe_bmF (slot : Slot "tuple" name id) (hty : typeOf (.builtin id) = pure (.type "method_descriptor")) (hm : MtR X id r) (ho : PE X o to) (ha : PA X (e :: es) t)
    (base : attributeBase o name X.env (eval o X.env) = eval o X.env := by rfl)
    (few : ((backTo cpos (starEach (e :: es) X.env)).all (fun x => !x.1) && (backToKw cpos (keywordEach [] X.env)).all (fun x => x.1.isSome) && decide ((e :: es).length + ([] : List Keyword).length + (if ([] : List Keyword).isEmpty then 0 else 1) < 30)) = true := by rfl)
    (line : (apos.endLine == cpos.line) = true := by rfl) (star : starEach (e :: es) X.env = (false, eval e X.env) :: starEach es X.env := by rfl)
    (plain : (backTo cpos (starEach es X.env)).any (·.1) = false := by rfl) :
    PE X (.Call (.Attribute o name apos) (e :: es) [] cpos) (tBMF r to t) := by
  refine ⟨fun pins s σ H Q I h => ?_⟩
  refine wpAny_Call_method_late base few line rfl (thn (ho.run pins s σ H _ I h) fun v s1 hx => ?_)
  obtain ⟨x, H1, I1, r1, ⟨p, ob, ys, rfl, hp, hd⟩, q1⟩ := hx
  obtain rfl : v = Value.ref p := r1
  obtain ⟨g, _, its, _, o2, g2, c2, _⟩ := I1.hok p _ hp
  have ty : s1.TypeIs (.ref p) "tuple" := ⟨o2, g2, c2⟩
  refine ⟨"tuple", id, PySem.F.plainAttrs_tuple, slot, hty, ty, fun a ea => ?_, ?_⟩
  · cases ea
    exact ⟨ob, g, hd⟩
  · have hA := ha.run cpos pins s1 σ H1 _ I1 q1
    rw [star] at hA ⊢
    refine Calls.callWith_builtin (by show (false || (backTo cpos (starEach es X.env)).any (·.1)) = false; rw [plain] <;> rfl) (Calls.evalArgs_plain ?_)
    exact thn hA fun us s2 hu => by
      obtain ⟨vs, H2, I2, r2, q2⟩ := hu
      exact hm pins s2 σ H2 (.ref p) vs (.ref p) us Q I2 rfl r2 q2
end
end Gx

/-! ### repr of a list in which dicts from texts to whole numbers stand -/
namespace Gx
open PySem PySem.Spec PyProof.Rows L2 GxR GenW
def encN (ps : List (Str × Int)) : PyData := .dict (ps.map fun p => (.str p.1, .int p.2))
inductive Dm (K : PySem.W.Frag) (H : Hp) : V → PyData → Prop
  | p {v : V} {d : PyData} : Dp K H v d → d.hasDict = false → Dm K H v d
  | k {a : Addr} {ps : List (Str × Int)} : H a = some (.dK (ps.map fun p => ((Sum.inr p.1 : Key), V.int p.2))) → Dm K H (.ref a) (encN ps)
inductive Dms (K : PySem.W.Frag) (H : Hp) : List V → List PyData → Prop
  | nil : Dms K H [] []
  | cons {v : V} {d : PyData} {vs : List V} {ds : List PyData} : Dm K H v d → Dms K H vs ds → Dms K H (v :: vs) (d :: ds)
section
variable {X : Cx} {pins : List (Addr × Obj)} {σ : L2.St} {H : Hp} {s : Shared}
theorem pairs_read {h : Heap} : ∀ {ps : List (Str × Int)} {vs : List (Key × Value)}, KV (ps.map fun p => ((Sum.inr p.1 : Key), V.int p.2)) vs →
    PyProof.V.PairsRead h (fun k : Key => match k with | .inl i => PyData.int i | .inr x => PyData.str x) vs (ps.map fun p => (.str p.1, .int p.2)) []
  | [], _, h => by
    unfold KV at h
    rw [List.map_nil] at h
    cases h
    exact .nil
  | p :: ps, _, h => by
    unfold KV at h
    rw [List.map_cons] at h
    cases h with
    | @cons a b as bs r t =>
      obtain ⟨k, u⟩ := b
      obtain ⟨e, t2, eu⟩ := r
      have e : Sum.inr p.1 = k := e
      have eu : u = Value.int p.2 t2 := eu
      subst e eu
      exact PyProof.V.PairsRead.cons (as := []) (bs := []) (Reads.int _ _) (pairs_read t)
theorem Dm.shows (I : Inv X pins σ H s) {v : V} {u : Value} {d : PyData} (h : Dm X.K H v d) (r : RelV v u) (hs : d.showable = true) (hz : d.shown.length ≤ sizeLine) :
    ∃ as bs, Reads s.heap u d as ∧ ReadAtMost s.heap d.depth bs ∧ ReprK X.prog X.w bs s.heap d.depth u d.shown := by
  cases h with
  | p hd nod =>
    obtain ⟨as, rd⟩ := Dp.reads I d v u hd r
    obtain ⟨bs, h1, h2⟩ := ReprK.of_reads (prog := X.prog) (w := X.w) rd hs (PyData.noDict_hsm nod) hz
    exact ⟨as, bs, rd, h1, h2⟩
  | @k a ps e =>
    cases r
    obtain ⟨_, lo, vs, rel, dd⟩ := dk_of I.hok e
    have rd : Reads s.heap (.ref a) (encN ps) [a] := PyProof.V.reads_dictOf (fun k key hk => by
      rcases keyIs_shape hk with ⟨i, t, rfl, rfl⟩ | ⟨x, t, rfl, rfl⟩
      · exact Reads.int i t
      · exact Reads.str x t) dd (pairs_read rel)
    obtain ⟨bs, h1, h2⟩ := ReprK.of_reads (prog := X.prog) (w := X.w) rd hs (fun _ hm => by
      rw [List.mem_singleton.mp hm] at lo
      exact absurd lo (by simp)) hz
    exact ⟨_, bs, rd, h1, h2⟩
theorem Dms.shows (I : Inv X pins σ H s) : ∀ {vs : List V} {us : List Value} {ds : List PyData}, Dms X.K H vs ds → Vals vs us → PyData.showableAll ds = true → (∀ t ∈ PyData.shownAll ds, t.length ≤ sizeLine) →
    ∃ as bs, ReadsAll s.heap us ds as ∧ ReadAtMost s.heap (PyData.depthAll ds) bs ∧ ReprAllK X.prog X.w bs s.heap (PyData.depthAll ds) us (PyData.shownAll ds)
  | _, _, _, .nil, r, _, _ => by
    cases r
    exact ⟨[], [], .nil, (fun _ h => nomatch h), by simp only [PyData.shownAll]; exact .nil⟩
  | _, _, _, .cons (d := d) (ds := ds) h t, r, hs, hz => by
    cases r with
    | cons r1 r2 =>
      rw [PyData.showableAll, Bool.and_eq_true] at hs
      obtain ⟨as, bs, a1, a2, a3⟩ := h.shows I r1 hs.1 (hz _ (by rw [PyData.shownAll]; exact List.mem_cons_self))
      obtain ⟨cs, ds', b1, b2, b3⟩ := t.shows I r2 hs.2 fun t ht => hz t (by rw [PyData.shownAll]; exact List.mem_cons_of_mem _ ht)
      refine ⟨_, bs ++ ds', .cons a1 b1, (a2.mono ?_).append (b2.mono ?_), ?_⟩
      · rw [PyData.depthAll]
        exact Nat.le_max_left _ _
      · rw [PyData.depthAll]
        exact Nat.le_max_right _ _
      · rw [PyData.shownAll, PyData.depthAll]
        exact .cons ((a3.more fun b hb => List.mem_append_left _ hb).level_le (Nat.le_max_left _ _)) (b3.more_le (fun b hb => List.mem_append_right _ hb) (Nat.le_max_right _ _))
end
section
variable {X : Cx}
def rReprM (K : PySem.W.Frag) : List V → Hp → VK → Prop := fun xs H Q => ∃ (L : Addr) (v : V) (vs : List V) (ds : List PyData), xs = [.ref L] ∧ H L = some (.lst (v :: vs)) ∧ Dms K H (v :: vs) ds ∧ PyData.showableAll ds = true ∧
  PyData.depthAll ds ≤ 60 ∧ (PyData.list ds).shown.length ≤ sizeLine ∧ Q (.str (PyData.list ds).shown) H
theorem cr_reprM (g : X.A.guards = some []) (hu : X.A.units + 64 < cLine) : CallR X (.builtin "repr") (rReprM X.K) := by
  intro pins s σ H xs us Q I r h
  obtain ⟨L, v, vs, ds, rfl, hL, hD, hs, hd, hz, q⟩ := h
  obtain ⟨u, rfl, rx⟩ : ∃ u, us = [u] ∧ RelV (.ref L) u := by
    cases r with
    | cons r1 r2 => cases r2; exact ⟨_, rfl, r1⟩
  cases rx
  obtain ⟨z, its, n, ri, hl, e⟩ := I.lstM hL
  have hz2 : (listText (PyData.shownAll ds)).length ≤ sizeLine := by simpa only [PyData.shown] using hz
  obtain ⟨as, bs, a1, a2, a3⟩ := hD.shows I ri hs fun t ht => Nat.le_trans (listText_mem_le ht) hz2
  have rd : Reads s.heap (.ref L) (.list ds) (L :: as) := Reads.list e rfl rfl (by simpa using a1)
  have hna : L ∉ bs := not_mem_of_deeper rd (by simp only [PyData.depth]; omega) a2
  cases ri with
  | @cons _ y _ ys r1 r2 =>
    refine call_repr_slot (T := "list") (by omega) ⟨_, e, rfl⟩ F.slot_list_repr.toG ?_
    refine call_list_reprK e rfl rfl hna (by simpa using a3.length_eq) (fun i y e => a3.item i y (by simpa using e)) g (fun b _ => Clear.nil b) (by show X.A.units + 1 + (_ + 1) < cLine; omega) (fun _ _ e => e) (fun h' u tk hk => ?_) hz2
    refine ⟨_, _, rfl, .str _, H, I.kept hk, ⟨_, rfl⟩, ?_⟩
    have : (PyData.list ds).shown = listText (PyData.shownAll ds) := by simp only [PyData.shown]
    rw [this] at q
    exact q
end
end Gx

/-! ### tuples in which dicts with text keys stand: repr, == -/
namespace Gx
open PySem PySem.Spec PyProof.Rows L2 GxR GenW
inductive KvD (K : PySem.W.Frag) (H : Hp) : List (Key × V) → List (Str × PyData) → Prop
  | nil : KvD K H [] []
  | cons {x : Str} {v : V} {d : PyData} {r : List (Key × V)} {t : List (Str × PyData)} : Dp K H v d → d.hasDict = false → KvD K H r t → KvD K H ((Sum.inr x, v) :: r) ((x, d) :: t)
def dicD (ps : List (Str × PyData)) : PyData := .dict (ps.map fun p => (.str p.1, p.2))
/-- data, or a dict of data -/
inductive Di (K : PySem.W.Frag) (H : Hp) : V → PyData → Prop
  | p {v : V} {d : PyData} : Dp K H v d → d.hasDict = false → Di K H v d
  | k {a : Addr} {kvs : List (Key × V)} {ps : List (Str × PyData)} : H a = some (.dK kvs) → KvD K H kvs ps → Di K H (.ref a) (dicD ps)
inductive Dis (K : PySem.W.Frag) (H : Hp) : List V → List PyData → Prop
  | nil : Dis K H [] []
  | cons {v : V} {d : PyData} {vs : List V} {ds : List PyData} : Di K H v d → Dis K H vs ds → Dis K H (v :: vs) (d :: ds)
theorem kvd_plain {K : PySem.W.Frag} {H : Hp} {kvs : List (Key × V)} {ps : List (Str × PyData)} (h : KvD K H kvs ps) : PyData.hasDictAll ((ps.map fun p => ((.str p.1 : PyData), p.2)).map (·.2)) = false ∧ PyData.hasDictAll ((ps.map fun p => ((.str p.1 : PyData), p.2)).map (·.1)) = false := by
  induction h with
  | nil => exact ⟨rfl, rfl⟩
  | cons h1 h2 _ ih =>
    refine ⟨?_, ?_⟩
    · rw [List.map_cons, List.map_cons, PyData.hasDictAll, ih.1, h2]
      rfl
    · rw [List.map_cons, List.map_cons, PyData.hasDictAll, ih.2]
      rfl
section
variable {X : Cx} {pins : List (Addr × Obj)} {σ : L2.St} {H : Hp} {s : Shared}
theorem kvd_read (I : Inv X pins σ H s) {kvs : List (Key × V)} {ps : List (Str × PyData)} (h : KvD X.K H kvs ps) : ∀ {vs : List (Key × Value)}, KV kvs vs →
    ∃ bs, PyProof.V.PairsRead s.heap (fun k : Key => match k with | .inl i => PyData.int i | .inr x => PyData.str x) vs (ps.map fun p => (.str p.1, p.2)) bs := by
  induction h with
  | nil =>
    intro vs r
    cases r
    exact ⟨[], .nil⟩
  | cons h1 h2 _ ih =>
    intro vs r
    cases r with
    | @cons a b as bs r t =>
      obtain ⟨k, u⟩ := b
      obtain ⟨e, ru⟩ := r
      have e : Sum.inr _ = k := e
      subst e
      obtain ⟨as, rd⟩ := Dp.reads I _ _ u h1 ru
      obtain ⟨bs, pb⟩ := ih t
      exact ⟨_, .cons rd pb⟩
theorem Di.shows (I : Inv X pins σ H s) {v : V} {u : Value} {d : PyData} (h : Di X.K H v d) (r : RelV v u) (hs : d.showable = true) (hz : d.shown.length ≤ sizeLine) :
    ∃ as bs, Reads s.heap u d as ∧ ReadAtMost s.heap d.depth bs ∧ ReprK X.prog X.w bs s.heap d.depth u d.shown := by
  cases h with
  | p hd nod =>
    obtain ⟨as, rd⟩ := Dp.reads I d v u hd r
    obtain ⟨bs, h1, h2⟩ := ReprK.of_reads (prog := X.prog) (w := X.w) rd hs (PyData.noDict_hsm nod) hz
    exact ⟨as, bs, rd, h1, h2⟩
  | @k a kvs ps e kd =>
    cases r
    obtain ⟨_, lo, vs, rel, o, es, ep, ho, hx, hdat, c1, hp, c2⟩ := dk_of I.hok e
    obtain ⟨bs0, pr⟩ := kvd_read I kd rel
    obtain ⟨r1, r2⟩ := PyProof.V.readsAll_of_pairs (fun k key hk => by
      rcases keyIs_shape hk with ⟨i, t, rfl, rfl⟩ | ⟨x, t, rfl, rfl⟩
      · exact Reads.int i t
      · exact Reads.str x t) hp pr
    have rd : Reads s.heap (.ref a) (dicD ps) _ := Reads.dict ho hx.1 hdat r1 r2
    have big : (dictText (PyData.shownKv (ps.map fun p => ((.str p.1 : PyData), p.2)))).length ≤ sizeLine := by
      have e2 : (dicD ps).shown = dictText (PyData.shownKv (ps.map fun p => ((.str p.1 : PyData), p.2))) := by
        unfold dicD
        rw [PyData.shown]
      rw [← e2]
      exact hz
    obtain ⟨s1, s2⟩ := PyData.showableKv_split (ps.map fun p => ((.str p.1 : PyData), p.2)) (by
      unfold dicD at hs
      rwa [PyData.showable] at hs)
    obtain ⟨n2, n1⟩ := kvd_plain kd
    obtain ⟨b1, m1, k1⟩ := ReprAllK.of_readsAll (prog := X.prog) (w := X.w) r1 s1 (fun q => by rw [n1] at q; cases q) (fun t ht => by
      obtain ⟨q, hq, l⟩ := PyData.shownKv_key_le _ t ht
      exact Nat.le_trans (Nat.le_trans l (dictText_mem_le hq)) big)
    obtain ⟨b2, m2, k2⟩ := ReprAllK.of_readsAll (prog := X.prog) (w := X.w) r2 s2 (fun q => by rw [n2] at q; cases q) (fun t ht => by
      obtain ⟨q, hq, l⟩ := PyData.shownKv_val_le _ t ht
      exact Nat.le_trans (Nat.le_trans l (dictText_mem_le hq)) big)
    have dd : (dicD ps).depth = PyData.depthKv (ps.map fun p => ((.str p.1 : PyData), p.2)) + 1 := by
      unfold dicD
      rw [PyData.depth]
    have both : ReadAtMost s.heap (PyData.depthKv (ps.map fun p => ((.str p.1 : PyData), p.2))) (b1 ++ b2) := (m1.mono (PyData.depthAll_keys_le _)).append (m2.mono (PyData.depthAll_vals_le _))
    have out : a ∉ b1 ++ b2 := not_mem_of_deeper rd (by rw [dd]; omega) both
    refine ⟨_, a :: (b1 ++ b2), rd, ReadAtMost.cons rd (by rw [dd]; omega) both, ?_⟩
    rw [dd]
    unfold dicD
    rw [PyData.shown, PyData.shownKv_eq]
    exact ReprK.dict ho hx.1 hdat lo out (ReprEntriesK.of_two es.toList _ _ (k1.more_le (fun b hb => List.mem_append_left b2 hb) (PyData.depthAll_keys_le _)) (k2.more_le (fun b hb => List.mem_append_right b1 hb) (PyData.depthAll_vals_le _)))
theorem Dis.shows (I : Inv X pins σ H s) {vs : List V} {ds : List PyData} (h : Dis X.K H vs ds) : ∀ {us : List Value}, Vals vs us → PyData.showableAll ds = true → (∀ t ∈ PyData.shownAll ds, t.length ≤ sizeLine) →
    ∃ as bs, ReadsAll s.heap us ds as ∧ ReadAtMost s.heap (PyData.depthAll ds) bs ∧ ReprAllK X.prog X.w bs s.heap (PyData.depthAll ds) us (PyData.shownAll ds) := by
  induction h with
  | nil =>
    intro us r _ _
    cases r
    exact ⟨[], [], .nil, (fun _ h => nomatch h), by simp only [PyData.shownAll]; exact .nil⟩
  | @cons v d vs ds h t ih =>
    intro us r hs hz
    cases r with
    | cons r1 r2 =>
      rw [PyData.showableAll, Bool.and_eq_true] at hs
      obtain ⟨as, bs, a1, a2, a3⟩ := h.shows I r1 hs.1 (hz _ (by rw [PyData.shownAll]; exact List.mem_cons_self))
      obtain ⟨cs, ds', b1, b2, b3⟩ := ih r2 hs.2 fun t ht => hz t (by rw [PyData.shownAll]; exact List.mem_cons_of_mem _ ht)
      refine ⟨_, bs ++ ds', .cons a1 b1, (a2.mono ?_).append (b2.mono ?_), ?_⟩
      · rw [PyData.depthAll]
        exact Nat.le_max_left _ _
      · rw [PyData.depthAll]
        exact Nat.le_max_right _ _
      · rw [PyData.shownAll, PyData.depthAll]
        exact .cons ((a3.more fun b hb => List.mem_append_left _ hb).level_le (Nat.le_max_left _ _)) (b3.more_le (fun b hb => List.mem_append_right _ hb) (Nat.le_max_right _ _))
end
section
variable {X : Cx}
def rReprT (K : PySem.W.Frag) : List V → Hp → VK → Prop := fun xs H Q => ∃ (T : Addr) (vs : List V) (ds : List PyData), xs = [.ref T] ∧ SqT K H T vs ∧ Dis K H vs ds ∧ PyData.showableAll ds = true ∧
  PyData.depthAll ds ≤ 60 ∧ (PyData.tuple ds).shown.length ≤ sizeLine ∧ Q (.str (PyData.tuple ds).shown) H
theorem cr_reprT (g : X.A.guards = some []) (hu : X.A.units + 64 < cLine) : CallR X (.builtin "repr") (rReprT X.K) := by
  intro pins s σ H xs us Q I r h
  obtain ⟨T, vs, ds, rfl, hT, hD, hs, hd, hz, q⟩ := h
  obtain ⟨u, rfl, rx⟩ : ∃ u, us = [u] ∧ RelV (.ref T) u := by
    cases r with
    | cons r1 r2 => cases r2; exact ⟨_, rfl, r1⟩
  cases rx
  obtain ⟨its, ri, ⟨o, ho, hc, n, hdat⟩, hl⟩ := I.tuple hT
  have e0 : (PyData.tuple ds).shown = tupleText (PyData.shownAll ds) := by rw [PyData.shown]
  have hz2 : (tupleText (PyData.shownAll ds)).length ≤ sizeLine := by rw [← e0]; exact hz
  obtain ⟨as, bs, a1, a2, a3⟩ := hD.shows I ri hs fun t ht => Nat.le_trans (tupleText_mem_le ht) hz2
  have rd : Reads s.heap (.ref T) (.tuple ds) as := Reads.tuple ho hc hdat (by simpa using a1)
  have hna : T ∉ bs := not_mem_of_deeper rd (by simp only [PyData.depth]; omega) a2
  refine call_repr_slot (T := "tuple") (by omega) ⟨_, ho, hc⟩ F.slot_tuple_repr ?_
  refine call_tuple_reprK ho hc hdat hna (by simpa using a3) g (fun b _ => Clear.nil b) (by show X.A.units + 1 + (_ + 1) < cLine; omega) (fun _ _ e => e) (fun h' u tk hk => ?_) hz2
  refine ⟨_, _, rfl, .str _, H, I.kept hk, ⟨_, rfl⟩, ?_⟩
  rw [e0] at q
  exact q
end
/-! ### == -/
/-- the values of two dicts, key by key -/
def Hits (K : PySem.W.Frag) (H : Hp) (kvs lvs : List (Key × V)) (e : Key → Bool) : Prop := ∀ k v w, (k, v) ∈ kvs → valV lvs k = some w → ∃ d d', Dp K H v d ∧ Dp K H w d' ∧ SeqAt.shaped d = true ∧ SeqAt.shaped d' = true ∧ e k = PyData.eqv d d'
def dicE (kvs lvs : List (Key × V)) (e : Key → Bool) : Bool := kvs.length == lvs.length && kvs.all fun p => (valV lvs p.1).isSome && e p.1
inductive EqV (K : PySem.W.Frag) (H : Hp) : V → V → Bool → Prop
  | p {v w : V} {d d' : PyData} : Dp K H v d → Dp K H w d' → SeqAt.shaped d = true → SeqAt.shaped d' = true → EqV K H v w (PyData.eqv d d')
  | k {a b : Addr} {kvs lvs : List (Key × V)} {e : Key → Bool} : a ≠ b → H a = some (.dK kvs) → H b = some (.dK lvs) → Hits K H kvs lvs e → EqV K H (.ref a) (.ref b) (dicE kvs lvs e)
inductive EqVs (K : PySem.W.Frag) (H : Hp) : List V → List V → List Bool → Prop
  | nil : EqVs K H [] [] []
  | cons {v w : V} {b : Bool} {vs ws : List V} {bs : List Bool} : EqV K H v w b → EqVs K H vs ws bs → EqVs K H (v :: vs) (w :: ws) (b :: bs)
section
variable {X : Cx} {pins : List (Addr × Obj)} {σ : L2.St} {H : Hp} {s : Shared}
theorem dp_leaf (I : Inv X pins σ H s) {v w : V} {u y : Value} {d d' : PyData} (h : Dp X.K H v d) (k : Dp X.K H w d') (sd : SeqAt.shaped d = true) (se : SeqAt.shaped d' = true) (ru : RelV v u) (ry : RelV w y) :
    PySem.W.EqTree X.prog X.w s 64 u y (PyData.eqv d d') := by
  obtain ⟨as, r1⟩ := Dp.reads I d v u h ru
  obtain ⟨bs, r2⟩ := Dp.reads I d' w y k ry
  refine .leaf fun A hu => SeqAt.eqAt_reads d d' A s u y as bs r1 r2 (SeqAt.canLay_of_shaped sd) (SeqAt.canLay_of_shaped se) ?_
  have := SeqAt.depth_of_shaped sd
  have : min d.depth d'.depth ≤ d.depth := Nat.min_le_left _ _
  omega
theorem paired_mem {α β : Type} {F : α → β → Prop} : ∀ {xs : List α} {ys : List β}, Paired F xs ys → ∀ {y : β}, y ∈ ys → ∃ x, x ∈ xs ∧ F x y
  | _, _, .nil, _, h => by cases h
  | _, _, .cons r t, y, h => by
    rcases List.mem_cons.mp h with rfl | h
    · exact ⟨_, List.mem_cons_self, r⟩
    · obtain ⟨x, hx, fx⟩ := paired_mem t h
      exact ⟨x, List.mem_cons_of_mem _ hx, fx⟩
theorem EqV.tree (I : Inv X pins σ H s) {v w : V} {b : Bool} (h : EqV X.K H v w b) {u y : Value} (ru : RelV v u) (ry : RelV w y) : PySem.W.EqTree X.prog X.w s 65 u y b := by
  cases h with
  | @p _ _ d d' h1 h2 s1 s2 =>
    obtain ⟨as, r1⟩ := Dp.reads I _ v u h1 ru
    obtain ⟨bs, r2⟩ := Dp.reads I _ w y h2 ry
    refine .leaf fun A hu => SeqAt.eqAt_reads _ _ A s u y as bs r1 r2 (SeqAt.canLay_of_shaped s1) (SeqAt.canLay_of_shaped s2) ?_
    have := SeqAt.depth_of_shaped s1
    have : min d.depth d'.depth ≤ d.depth := Nat.min_le_left _ _
    omega
  | @k a b kvs lvs e ne ha hb hit =>
    cases ru
    cases ry
    obtain ⟨_, la, va, ra, da⟩ := dk_of I.hok ha
    obtain ⟨_, lb, vb, rb, db⟩ := dk_of I.hok hb
    have t := PySem.W.EqTree.dicts (prog := X.prog) (w := X.w) (s := s) (n := 64) (knd := mixKind X.prog X.w) (e := e) ne la lb da db fun k u y hm hv => by
      obtain ⟨⟨k', v⟩, hv', e1, r1⟩ := paired_mem ra hm
      have e1 : k' = k := e1
      subst e1
      have rv := rb.val k'
      rw [hv] at rv
      obtain ⟨w, hw, rw_⟩ : ∃ w, valV lvs k' = some w ∧ RelV w y := by
        cases z : valV lvs k' with
        | none =>
          rw [z] at rv
          exact absurd rv (by intro q; cases q)
        | some w =>
          rw [z] at rv
          exact ⟨w, rfl, rv⟩
      obtain ⟨d, d', p1, p2, s1, s2, ee⟩ := hit k' v w hv' hw
      rw [ee]
      exact dp_leaf I p1 p2 s1 s2 r1 rw_
    have e3 : (va.length == vb.length && va.all fun p => (valueAt vb p.1).isSome && e p.1) = dicE kvs lvs e := by
      unfold dicE
      rw [← ra.length, ← rb.length]
      congr 1
      have some_ : ∀ k, (valueAt vb k).isSome = (valV lvs k).isSome := fun k => by
        have rv := rb.val k
        cases z1 : valV lvs k with
        | none =>
          rw [z1] at rv
          cases z2 : valueAt vb k with
          | none => rfl
          | some q =>
            rw [z2] at rv
            exact absurd rv (by intro q; cases q)
        | some w =>
          rw [z1] at rv
          cases z2 : valueAt vb k with
          | none =>
            rw [z2] at rv
            exact absurd rv (by intro q; cases q)
          | some q => rfl
      have a1 : ∀ (l : List (Key × Value)), (l.all fun p => (valueAt vb p.1).isSome && e p.1) = (l.map (·.1)).all fun k => (valV lvs k).isSome && e k := fun l => by
        rw [List.all_map]
        congr 1
        funext p
        show ((valueAt vb p.1).isSome && e p.1) = ((valV lvs p.1).isSome && e p.1)
        rw [some_]
      rw [a1, ← ra.keys, List.all_map]
      rfl
    rw [← e3]
    exact t
theorem EqVs.trees (I : Inv X pins σ H s) {vs ws : List V} {bs : List Bool} (h : EqVs X.K H vs ws bs) : ∀ {us ys : List Value}, Vals vs us → Vals ws ys → us.length = bs.length ∧ ys.length = bs.length ∧
    ∀ j (h1 : j < us.length) (h2 : j < ys.length), PySem.W.EqTree X.prog X.w s 65 us[j] ys[j] (bs.getD j false) := by
  induction h with
  | nil =>
    intro us ys r1 r2
    cases r1
    cases r2
    exact ⟨rfl, rfl, fun j h1 => absurd h1 (Nat.not_lt_zero _)⟩
  | cons hb _ ih =>
    intro us ys r1 r2
    cases r1 with
    | cons a1 t1 =>
      cases r2 with
      | cons a2 t2 =>
        obtain ⟨l1, l2, t⟩ := ih t1 t2
        refine ⟨congrArg (· + 1) l1, congrArg (· + 1) l2, fun j h1 h2 => ?_⟩
        cases j with
        | zero => exact hb.tree I a1 a2
        | succ j => exact t j (Nat.lt_of_succ_lt_succ h1) (Nat.lt_of_succ_lt_succ h2)
end
section
open AutoSeq1 SeqRoads2 MeetsSeq MeetsSeq2 MeetsSeq3 SeqAt
variable {prog : Program} {w : World}
/-- tuple.__ne__ of two of one length, item by item -/
theorem ne_meets (p q : Addr) (us ys : List Value) (bs : List Bool) (n m : Nat) (od oe : Option Addr) (so sp : Array (Option Value)) (lu : us.length = bs.length) (ly : ys.length = bs.length) :
    MeetsIn prog w (Builtin.«tuple.__ne__» ⟨[.ref p, .ref q], []⟩) (fun A R s =>
      s.heap.get? p = some { cls := .type "tuple", dict := od, data := .seq us.toArray n, slots := so } ∧
      s.heap.get? q = some { cls := .type "tuple", dict := oe, data := .seq ys.toArray m, slots := sp } ∧
      (∀ (j : Nat) (u y : Value) (b : Bool), us[j]? = some u → ys[j]? = some y → bs[j]? = some b → EqIn prog w A.in1 s u y b) ∧ R (.ok (.ret (.bool (!bs.all id)))) s) := .of_wp fun A R s h => by
  obtain ⟨hp, g, d, tk, os⟩ := s
  obtain ⟨e1, e2, each, fin⟩ := h
  have sub := AutoSeq1.sub_tuple_tuple
  have zl : (us.zip ys).length = bs.length := by rw [List.length_zip, lu, ly, Nat.min_self]
  wp_walk using wpAny_loadPart' e1, wpAny_loadPart' e2, wpAny_forIn_list _ (fun left acc st => acc.1 = none ∧ st = ⟨hp, g, d, tk, os⟩ ∧ ∃ i, left = (us.zip ys).drop i ∧ R (.ok (.ret (.bool (!(bs.drop i).all id)))) ⟨hp, g, d, tk, os⟩) _
  case turn =>
    rintro ⟨u, y⟩ left acc st ⟨ha, rfl, i, hz, hr⟩
    have hi : i < (us.zip ys).length := Nat.lt_of_not_le fun z => by
      rw [List.drop_of_length_le z] at hz
      cases hz
    have hb : i < bs.length := by omega
    have at_ : (us.zip ys)[i]? = some (u, y) := by
      have := congrArg List.head? hz
      rw [List.head?_cons, List.head?_drop] at this
      exact this.symm
    have tl : left = (us.zip ys).drop (i + 1) := by
      have := congrArg List.tail hz
      rw [List.tail_cons, List.tail_drop] at this
      exact this
    obtain ⟨a1, a2⟩ := List.getElem?_zip_eq_some.mp at_
    have bd : bs.drop i = bs[i] :: bs.drop (i + 1) := List.drop_eq_getElem_cons hb
    rw [bd, List.all_cons] at hr
    refine wpAny_bind (each i u y bs[i] a1 a2 (List.getElem?_eq_getElem hb) _ _ ?_)
    cases cb : bs[i] with
    | true =>
      rw [cb] at hr
      wp_walk
      exact ⟨rfl, rfl, i + 1, tl, by simpa using hr⟩
    | false =>
      rw [cb] at hr
      wp_walk
      exact ⟨_, rfl, by simpa using hr⟩
  case fin =>
    rintro ⟨c1, c2⟩ st ⟨hc, rfl, i, hz, hr⟩
    have hc : c1 = none := hc
    subst hc
    have hi : bs.length ≤ i := Nat.le_of_not_lt fun z => by
      rw [List.drop_eq_getElem_cons (by omega : i < (us.zip ys).length)] at hz
      cases hz
    rw [List.drop_of_length_le hi] at hr
    wp_walk
    refine ⟨_, rfl, ?_⟩
    simpa [Builtin.Tuple.tupleCompareSizes, bne, lu, ly] using hr
  case h =>
    exact ⟨rfl, rfl, 0, by simp, by simpa using fin⟩
end
section
variable {X : Cx}
def rEqT (K : PySem.W.Frag) : R2 := fun x y H Q => ∃ (a b : Addr) (vs ws : List V) (bs : List Bool), x = .ref a ∧ y = .ref b ∧ SqT K H a vs ∧ SqT K H b ws ∧ EqVs K H vs ws bs ∧ Q (.bl (bs.all id)) H
def rNeT (K : PySem.W.Frag) : R2 := fun x y H Q => ∃ (a b : Addr) (vs ws : List V) (bs : List Bool), x = .ref a ∧ y = .ref b ∧ SqT K H a vs ∧ SqT K H b ws ∧ EqVs K H vs ws bs ∧ Q (.bl (!bs.all id)) H
theorem all_range {bs : List Bool} : ((List.range bs.length).all fun j => bs.getD j false) = bs.all id := by
  induction bs with
  | nil => rfl
  | cons b r ih =>
    rw [List.length_cons, List.range_succ_eq_map, List.all_cons, List.all_cons, ← ih, List.all_map]
    rfl
theorem op_eqT (hu : X.A.units + 128 < cLine) : OpR X (compareOp .Eq) (rEqT X.K) := by
  intro pins s σ H x y v u Q I rx ry h
  obtain ⟨a, b, vs, ws, bs, rfl, rfl, ha, hb, he, q⟩ := h
  cases rx
  cases ry
  obtain ⟨i1, r1, ⟨o1, x1, x2, n1, x3⟩, _⟩ := I.tuple ha
  obtain ⟨i2, r2, ⟨o2, y1, y2, n2, y3⟩, _⟩ := I.tuple hb
  obtain ⟨l1, l2, t⟩ := he.trees I r1 r2
  refine PySem.W.eq_tuplesT (n := 65) (e := fun j => bs.getD j false) ⟨o1, x1, x2, n1, x3⟩ ⟨o2, y1, y2, n2, y3⟩ (fun j h1 h2 => by simpa using t j (by simpa using h1) (by simpa using h2)) (by omega) ?_
  have e1 : ((List.range (min i1.toArray.size i2.toArray.size)).all (fun j => bs.getD j false) && i1.toArray.size == i2.toArray.size) = bs.all id := by
    rw [List.size_toArray, List.size_toArray, l1, l2, Nat.min_self, all_range, beq_self_eq_true, Bool.and_true]
  rw [e1]
  exact ⟨.bl _, H, I, rfl, q⟩
theorem op_neT (hu : X.A.units + 128 < cLine) : OpR X (compareOp .NotEq) (rNeT X.K) := by
  intro pins s σ H x y v u Q I rx ry h
  obtain ⟨a, b, vs, ws, bs, rfl, rfl, ha, hb, he, q⟩ := h
  cases rx
  cases ry
  obtain ⟨i1, r1, ⟨⟨c1, d1, t1, s1⟩, x1, x2, n1, x3⟩, _⟩ := I.tuple ha
  obtain ⟨i2, r2, ⟨⟨c2, d2, t2, s2⟩, y1, y2, n2, y3⟩, _⟩ := I.tuple hb
  have x2 : c1 = .type "tuple" := x2
  have x3 : t1 = .seq i1.toArray n1 := x3
  have y2 : c2 = .type "tuple" := y2
  have y3 : t2 = .seq i2.toArray n2 := y3
  subst x2 x3 y2 y3
  obtain ⟨l1, l2, t⟩ := he.trees I r1 r2
  show wpAny (model X.prog X.w) X.A (richCompare .NotEq (.ref a) (.ref b)) _ _ s
  refine wpAny_richCompare_same_room (T := "tuple") (op := .NotEq) ⟨_, x1, rfl⟩ ⟨_, y1, rfl⟩ F.slot_tuple_ne (call_meetsIn F.slot_tuple_ne ⟨_, x1, rfl⟩ F.entry_tuple_ne (F.args_tuple_ne_2 _ _) (ne_meets a b i1 i2 bs n1 n2 d1 d2 s1 s2 l1 l2)
    ⟨x1, y1, fun j u y b e1 e2 e3 => ?_, show Value.bool (!bs.all id) ≠ Value.notImplemented ∧ _ from ⟨(fun x => nomatch x), ⟨.bl _, H, I, rfl, q⟩⟩⟩) (by omega)
  obtain ⟨h1, rfl⟩ := List.getElem?_eq_some_iff.mp e1
  obtain ⟨h2, rfl⟩ := List.getElem?_eq_some_iff.mp e2
  have t2 := t j h1 h2
  rw [List.getD_eq_getElem?_getD, e3] at t2
  exact t2.at _ (by show X.A.units + 1 + 65 < cLine; omega)
/-- d != {} -/
def rNeD0 : R2 := fun x y H Q => ∃ (a b : Addr) (kvs : List (Key × V)), x = .ref a ∧ y = .ref b ∧ H a = some (.dK kvs) ∧ H b = some (.dK []) ∧ Q (.bl (decide (kvs ≠ []))) H
theorem op_neD0 (hu : X.A.units < cLine) : OpR X (compareOp .NotEq) rNeD0 := by
  intro pins s σ H x y v u Q I rx ry h
  obtain ⟨a, b, kvs, rfl, rfl, ha, hb, q⟩ := h
  cases rx
  cases ry
  obtain ⟨_, la, va, ra, da⟩ := dk_of I.hok ha
  obtain ⟨_, lb, vb, rb, db⟩ := dk_of I.hok hb
  cases rb
  have e : (!(va.length == ([] : List (Key × Value)).length && true)) = decide (kvs ≠ []) := by
    rw [← ra.length, Bool.and_true]
    cases kvs <;> rfl
  refine PySem.W.keq_ne (knd := mixKind X.prog X.w) (r := true) la lb da db hu (fun z => ?_) ?_
  · rw [List.length_nil] at z
    rw [List.eq_nil_of_length_eq_zero z]
    exact .nil
  · rw [e]
    exact ⟨.bl _, H, I, rfl, q⟩
theorem room128 {A : PySem.Around} {k : Nat} (r : Room k A) : A.units + 128 < PySem.cLine := by
  have := r.un
  omega
end
end Gx

/-! ### repr of lists in which lists and dicts stand; x == [] for a list of anything; list.remove of a text -/
namespace Gx
open PySem PySem.Spec PyProof.Rows L2 GxR GenW
mutual
inductive Dn (K : PySem.W.Frag) (H : Hp) : V → PyData → Prop
  | d {v : V} {d : PyData} : Di K H v d → Dn K H v d
  | l {a : Addr} {xs : List V} {ds : List PyData} : H a = some (.lst xs) → Dns K H xs ds → Dn K H (.ref a) (.list ds)
inductive Dns (K : PySem.W.Frag) (H : Hp) : List V → List PyData → Prop
  | nil : Dns K H [] []
  | cons {v : V} {d : PyData} {vs : List V} {ds : List PyData} : Dn K H v d → Dns K H vs ds → Dns K H (v :: vs) (d :: ds)
end
section
variable {X : Cx} {pins : List (Addr × Obj)} {σ : L2.St} {H : Hp} {s : Shared}
mutual
theorem Dn.shows (I : Inv X pins σ H s) : ∀ {v : V} {u : Value} {d : PyData}, Dn X.K H v d → RelV v u → d.showable = true → d.shown.length ≤ sizeLine →
    ∃ as bs, Reads s.heap u d as ∧ ReadAtMost s.heap d.depth bs ∧ ReprK X.prog X.w bs s.heap d.depth u d.shown
  | _, _, _, .d h, r, hs, hz => h.shows I r hs hz
  | _, u, _, .l (a := a) (xs := xs) (ds := ds) e h, r, hs, hz => by
    cases r
    obtain ⟨z, its, n, ri, hl, e1⟩ := I.lstM e
    have hz2 : (listText (PyData.shownAll ds)).length ≤ sizeLine := by simpa only [PyData.shown] using hz
    obtain ⟨as, bs, a1, a2, a3⟩ := Dns.shows I h ri (by rwa [PyData.showable] at hs) fun t ht => Nat.le_trans (listText_mem_le ht) hz2
    have rd : Reads s.heap (.ref a) (.list ds) (a :: as) := Reads.list e1 rfl rfl (by simpa using a1)
    have hna : a ∉ bs := not_mem_of_deeper rd (by simp only [PyData.depth]; omega) a2
    refine ⟨_, a :: bs, rd, ReadAtMost.cons rd (Nat.le_refl _) (a2.mono (by rw [PyData.depth]; omega)), ?_⟩
    cases ri with
    | nil =>
      cases h
      simp only [PyData.shown, PyData.shownAll]
      exact ReprK.listEmpty e1 rfl rfl
    | @cons _ y _ ys r1 r2 =>
      rw [PyData.depth]
      have : (PyData.list ds).shown = listText (PyData.shownAll ds) := by simp only [PyData.shown]
      rw [this]
      exact ReprK.list e1 rfl rfl hna (by simpa using a3.length_eq) (fun i y e => a3.item i y (by simpa using e))
theorem Dns.shows (I : Inv X pins σ H s) : ∀ {vs : List V} {us : List Value} {ds : List PyData}, Dns X.K H vs ds → Vals vs us → PyData.showableAll ds = true → (∀ t ∈ PyData.shownAll ds, t.length ≤ sizeLine) →
    ∃ as bs, ReadsAll s.heap us ds as ∧ ReadAtMost s.heap (PyData.depthAll ds) bs ∧ ReprAllK X.prog X.w bs s.heap (PyData.depthAll ds) us (PyData.shownAll ds)
  | _, _, _, .nil, r, _, _ => by
    cases r
    exact ⟨[], [], .nil, (fun _ h => nomatch h), by simp only [PyData.shownAll]; exact .nil⟩
  | _, _, _, .cons (d := d) (ds := ds) h t, r, hs, hz => by
    cases r with
    | cons r1 r2 =>
      rw [PyData.showableAll, Bool.and_eq_true] at hs
      obtain ⟨as, bs, a1, a2, a3⟩ := Dn.shows I h r1 hs.1 (hz _ (by rw [PyData.shownAll]; exact List.mem_cons_self))
      obtain ⟨cs, ds', b1, b2, b3⟩ := Dns.shows I t r2 hs.2 fun t ht => hz t (by rw [PyData.shownAll]; exact List.mem_cons_of_mem _ ht)
      refine ⟨_, bs ++ ds', .cons a1 b1, (a2.mono ?_).append (b2.mono ?_), ?_⟩
      · rw [PyData.depthAll]
        exact Nat.le_max_left _ _
      · rw [PyData.depthAll]
        exact Nat.le_max_right _ _
      · rw [PyData.shownAll, PyData.depthAll]
        exact .cons ((a3.more fun b hb => List.mem_append_left _ hb).level_le (Nat.le_max_left _ _)) (b3.more_le (fun b hb => List.mem_append_right _ hb) (Nat.le_max_right _ _))
end
end
section
variable {X : Cx}
def rReprN (K : PySem.W.Frag) : List V → Hp → VK → Prop := fun xs H Q => ∃ (L : Addr) (v : V) (vs : List V) (ds : List PyData), xs = [.ref L] ∧ H L = some (.lst (v :: vs)) ∧ Dns K H (v :: vs) ds ∧ PyData.showableAll ds = true ∧
  PyData.depthAll ds ≤ 60 ∧ (PyData.list ds).shown.length ≤ sizeLine ∧ Q (.str (PyData.list ds).shown) H
theorem cr_reprN (g : X.A.guards = some []) (hu : X.A.units + 64 < cLine) : CallR X (.builtin "repr") (rReprN X.K) := by
  intro pins s σ H xs us Q I r h
  obtain ⟨L, v, vs, ds, rfl, hL, hD, hs, hd, hz, q⟩ := h
  obtain ⟨u, rfl, rx⟩ : ∃ u, us = [u] ∧ RelV (.ref L) u := by
    cases r with
    | cons r1 r2 => cases r2; exact ⟨_, rfl, r1⟩
  cases rx
  obtain ⟨z, its, n, ri, hl, e⟩ := I.lstM hL
  have e0 : (PyData.list ds).shown = listText (PyData.shownAll ds) := by simp only [PyData.shown]
  rw [e0] at hz q
  obtain ⟨as, bs, a1, a2, a3⟩ := hD.shows I ri hs fun t ht => Nat.le_trans (listText_mem_le ht) hz
  have rd : Reads s.heap (.ref L) (.list ds) (L :: as) := Reads.list e rfl rfl (by simpa using a1)
  have hna : L ∉ bs := not_mem_of_deeper rd (by simp only [PyData.depth]; omega) a2
  cases ri with
  | @cons _ y _ ys r1 r2 =>
    refine call_repr_slot (T := "list") (by omega) ⟨_, e, rfl⟩ F.slot_list_repr.toG ?_
    exact call_list_reprK e rfl rfl hna (by simpa using a3.length_eq) (fun i y e => a3.item i y (by simpa using e)) g (fun b _ => Clear.nil b) (by show X.A.units + 1 + (_ + 1) < cLine; omega) (fun _ _ e => e) (fun h' u tk hk => ⟨_, _, rfl, .str _, H, I.kept hk, ⟨_, rfl⟩, q⟩) hz
/-- x == [], x != [] -/
def rEqE : R2 := fun x y H Q => ∃ (a b : Addr) (xs : List V), x = .ref a ∧ y = .ref b ∧ H a = some (.lst xs) ∧ H b = some (.lst []) ∧ Q (.bl (decide (xs = []))) H
def rNeE : R2 := fun x y H Q => ∃ (a b : Addr) (xs : List V), x = .ref a ∧ y = .ref b ∧ H a = some (.lst xs) ∧ H b = some (.lst []) ∧ Q (.bl (!decide (xs = []))) H
theorem op_eqE (hu : X.A.units + 64 < cLine) : OpR X (compareOp .Eq) rEqE := by
  intro pins s σ H x y v u Q I rx ry h
  obtain ⟨a, b, xs, rfl, rfl, ha, hb, q⟩ := h
  cases xs with
  | nil => exact op_eqD hu pins s σ H _ _ v u Q I rx ry ⟨_, _, .lst (.inl (.inl ha)) .nil, .lst (.inl (.inl hb)) .nil, rfl, rfl, q⟩
  | cons z zs =>
    cases rx
    cases ry
    obtain ⟨_, i1, n1, r1, l1, e1⟩ := I.lstM ha
    obtain ⟨_, i2, n2, r2, l2, e2⟩ := I.lstM hb
    cases r2
    refine SeqAt.eq_list_lengthsAt ⟨_, e1, rfl, _, rfl⟩ ⟨_, e2, rfl, _, rfl⟩ ?_ (by omega) ⟨.bl _, H, I, rfl, q⟩
    rw [List.size_toArray, ← l1]
    rfl
theorem op_neE (hu : X.A.units + 64 < cLine) : OpR X (compareOp .NotEq) rNeE := by
  intro pins s σ H x y v u Q I rx ry h
  obtain ⟨a, b, xs, rfl, rfl, ha, hb, q⟩ := h
  cases xs with
  | nil => exact op_neD hu pins s σ H _ _ v u Q I rx ry ⟨_, _, .lst (.inl (.inl ha)) .nil, .lst (.inl (.inl hb)) .nil, rfl, rfl, q⟩
  | cons z zs =>
    cases rx
    cases ry
    obtain ⟨_, i1, n1, r1, l1, e1⟩ := I.lstM ha
    obtain ⟨_, i2, n2, r2, l2, e2⟩ := I.lstM hb
    cases r2
    refine SeqAt.RcNeAt.lists_lengths ⟨_, e1, rfl, _, rfl⟩ ⟨_, e2, rfl, _, rfl⟩ ?_ (by omega) X.prog X.w _ _ ⟨.bl _, H, I, rfl, q⟩
    rw [List.size_toArray, ← l1]
    rfl
/-- xs.remove(k), a text that stands there -/
def rRemS : V → List V → Hp → VK → Prop := fun x xs H Q => ∃ (l : Addr) (ys : List Str) (k : Str) (j : Nat), x = .ref l ∧ xs = [.str k] ∧ H l = some (.lst (ys.map V.str)) ∧ ys[j]? = some k ∧ (∀ m : Nat, m < j → ys[m]? ≠ some k) ∧ Q .non (upd H l (.lst ((ys.eraseIdx j).map V.str)))
theorem mt_removeS : MtM X "list.remove" rRemS := by
  intro pins s σ H x xs v us Q I rx rxs h
  obtain ⟨l, ys, k, j, rfl, rfl, hH, hj, hno, q⟩ := h
  cases rx
  obtain ⟨u, rfl, ru⟩ := rxs.one
  obtain ⟨t, rfl⟩ := ru
  obtain ⟨z, its, n, r, hl, e⟩ := I.lstM hH
  have hi := strs_of_vals r
  rw [List.length_map] at hl z
  have hjn : j < ys.length := (List.getElem?_eq_some_iff.mp hj).1
  have at_ : ∀ {m : Nat} (hm : m < its.toArray.size), ∃ tm, its.toArray[m] = .str (ys[m]'(by rw [List.size_toArray] at hm; omega)) tm := fun {m} hm => by
    have hm2 : m < ys.length := by rw [List.size_toArray] at hm; omega
    obtain ⟨tm, e2⟩ := hi.get m _ (List.getElem?_eq_getElem hm2)
    obtain ⟨h1, h2⟩ := List.getElem?_eq_some_iff.mp e2
    exact ⟨tm, by simpa using h2⟩
  have hjl : j < its.toArray.size := by rw [List.size_toArray]; omega
  refine call_meets PySem.F.slot_list_remove ⟨_, e, rfl⟩ PySem.F.entry_list_remove (PySem.F.args_list_remove_2 _ _)
    (MeetsSeq.list_remove l its.toArray n (.str k t) (isStrOf k) (fun y hy => eq_isStrOf k t hi y (by simpa using hy)) j hjl ?_ ?_ (by rw [List.size_toArray]; omega)) ⟨e, ?_⟩
  · obtain ⟨tm, e2⟩ := at_ hjl
    rw [e2]
    show (ys[j] == k) = true
    rw [List.getElem?_eq_getElem hjn] at hj
    rw [Option.some.inj hj]
    exact beq_self_eq_true k
  · intro m hm hmj
    obtain ⟨tm, e2⟩ := at_ hm
    rw [e2]
    have hmn : m < ys.length := by omega
    refine beq_eq_false_iff_ne.mpr fun e3 => hno m hmj ?_
    rw [List.getElem?_eq_getElem hmn, e3]
  · have rr := r.eraseIdx j
    rw [erase_map] at rr
    refine ⟨.non, _, I.lset (its' := its.eraseIdx j) (t' := s.toks) hH e ?_ rr ?_, rfl, q⟩
    · show its.toArray.eraseIdxIfInBounds j = (its.eraseIdx j).toArray
      rw [List.eraseIdxIfInBounds_toArray]
    · rw [List.length_map, List.length_eraseIdx]
      split <;> omega
end
end Gx

/-! ### {None: 0}: a dict that no program of the layer tells; its type, its length, its one key, its text -/
namespace Gx
open PySem PySem.Spec PyProof.Rows L2 GxR GenW
/-- what stands at a -/
def NdH (a : Addr) (h : Heap) : Prop := (a == sysModules) = false ∧ ∃ (od : Obj) (e : DictEntry) (ep : Nat) (t : Nat), h.get? a = some od ∧ od.ExactDict ∧ od.data = .dict #[e] ep ∧ e.key = .none ∧ e.val = .int 0 t ∧ e.hash = reduceHash 0xFCA86420
def ndo (a : Addr) : HO := .ext (NdH a)
theorem NdH.stays {a : Addr} {h1 h2 : Heap} (x : NdH a h1) (k : ∀ o, h1.get? a = some o → h2.get? a = some o) : NdH a h2 := by
  obtain ⟨n, od, e, ep, t, h, r⟩ := x
  exact ⟨n, od, e, ep, t, k _ h, r⟩
theorem NdH.ok {P : Program} {w : World} {H : Hp} {a : Addr} {h : Heap} (x : NdH a h) : ObjOk P w H h a (ndo a) := by
  refine ⟨x, ?_, fun _ _ p k => p.stays k⟩
  obtain ⟨n, od, e, ep, t, h, r⟩ := x
  exact ⟨od, h⟩
theorem nd_pairs {P : Program} {w : World} {e : DictEntry} {t : Nat} (h1 : e.key = .none) (h2 : e.val = .int 0 t) (h3 : e.hash = reduceHash 0xFCA86420) :
    KeysOf (noneKind P w) #[e] ∧ Pairs (noneKind P w) [e] [((none : Option Key), Value.int 0 t)] := by
  have k : (noneKind P w).is none e.key = true := by rw [h1]; rfl
  refine ⟨fun x hx => ?_, ?_⟩
  · have : x = e := by simpa using hx
    rw [this]
    exact ⟨none, k, h3⟩
  · exact .cons k h2 .nil
theorem NdH.at {P : Program} {w : World} {a : Addr} {h : Heap} (x : NdH a h) : ∃ t ep, h.DictAt (noneKind P w) a [((none : Option Key), Value.int 0 t)] ep := by
  obtain ⟨n, od, e, ep, t, h, hx, hd, k1, k2, k3⟩ := x
  obtain ⟨p1, p2⟩ := nd_pairs (P := P) (w := w) k1 k2 k3
  exact ⟨t, ep, od, #[e], h, hx, hd, p1, p2, by simp⟩
section
variable {X : Cx} {pins : List (Addr × Obj)} {σ : L2.St} {H : Hp} {s : Shared} {d : Addr} {o : Obj}
theorem Inv.nd (I : Inv X pins σ H s) (h : H d = some (ndo d)) : NdH d s.heap := (show ObjOk X.prog X.w H s.heap d (ndo d) from I.hok d _ h).1
theorem Inv.frzN (I : Inv X pins σ H s) (h : H d = some (.frz o (ndo d))) :
    (d == sysModules) = false ∧ s.heap.get? d = some o ∧ o.ExactDict ∧ ∃ (es : Array DictEntry) (ep t : Nat), o.data = .dict es ep ∧ es.size = 1 ∧ s.heap.DictAt (noneKind X.prog X.w) d [((none : Option Key), Value.int 0 t)] ep := by
  obtain ⟨e1, e2, _⟩ := (show ObjOk X.prog X.w H s.heap d (.frz o (ndo d)) from I.hok d _ h)
  obtain ⟨n, od, e, ep, t, g, hx, hd, k1, k2, k3⟩ := e2
  rw [e1] at g
  cases g
  obtain ⟨p1, p2⟩ := nd_pairs (P := X.prog) (w := X.w) k1 k2 k3
  exact ⟨n, e1, hx, #[e], ep, t, hd, rfl, o, #[e], e1, hx, hd, p1, p2, by simp⟩
/-- its one key, None -/
def ItN (d : Addr) (o : Obj) : It :=
  ⟨fun i H => H d = some (.frz o (ndo d)) ∧ i < 1, fun i H x H' => H' = H ∧ x = .non ∧ i < 1, fun i H => H d = some (.frz o (ndo d)) ∧ 1 ≤ i⟩
theorem turn_none {P : Program} {w : World} {K : PySem.W.Frag} {tg : Expr} {es : Array DictEntry} {ep : Nat} (it : Addr) (hod : o.data = .dict es ep) : Turn P w K tg (ItN d o) [it] it (fun i h => h.IsKeyIter it d i 1 ep) := by
  refine ⟨by simp, fun i h st b hb => ?_, fun i h h' st k => ?_, ?_, ?_, fun A i s Q E st h => wpAny_pyIter_keyiter st h⟩
  · obtain ⟨oi, e, c, dd⟩ := st
    rw [List.mem_singleton.mp hb]
    exact ⟨oi, e, fun v z => by rw [dd] at z; cases z⟩
  · obtain ⟨oi, e, r⟩ := st
    exact ⟨oi, k it (by simp) oi e, r⟩
  · rintro X rfl rfl rfl hc i pins s σ H E I hf st ⟨hd, hi⟩
    obtain ⟨f0, f1, f2, f3, f4, f5⟩ := hf it (by simp)
    obtain ⟨hs, hgd, hx, es', ep', t, hdt, hsz, hm⟩ := Inv.frzN I hd
    obtain ⟨rfl, rfl⟩ := dict_ep hod hdt
    obtain rfl : i = 0 := by omega
    refine wpAny_pyNext_dict_item (kvs := [((none : Option Key), Value.int 0 t)]) st hm rfl fun key h' hkey st' sb => ?_
    have I1 : Inv X pins σ H { s with heap := h' } := I.turned (t' := s.toks) (fun b ob hb e => (sb.2 b hb).trans e) f0 f1 f3 f4 f5
    obtain ⟨oi, e, c, dd⟩ := id st'
    exact ⟨key, rfl, go_of (s := { s with heap := h' }) e c dd (by decide) ⟨.non, H, I1, nk_none hkey, ⟨rfl, rfl, by decide⟩, st', fun b hb => (hf b hb).1⟩⟩
  · rintro X rfl rfl rfl hc i pins s σ H E I hf st ⟨hd, hi⟩
    obtain ⟨f0, f1, f2, f3, f4, f5⟩ := hf it (by simp)
    obtain ⟨hs, hgd, hx, es', ep', t, hdt, hsz, hm⟩ := Inv.frzN I hd
    obtain ⟨rfl, rfl⟩ := dict_ep hod hdt
    exact next_key_end (I.ok.hd hc) st hgd hdt hsz hi fun h' eb => ⟨rfl, I.turned (t' := s.toks) (fun b ob hb e => eb b ob hb e) f0 f1 f3 f4 f5⟩
/-- for k in d: a dict of texts, or {None: 0} -/
def iKeysN (td : TE) : TI := fun σ H R => td σ H fun x H1 => ∃ d o, x = .ref d ∧ ((∃ kvs, H1 d = some (.frz o (.dK kvs)) ∧ R (Itk d o kvs) H1) ∨ (H1 d = some (.frz o (ndo d)) ∧ R (ItN d o) H1))
theorem pi_keysN {tg e : Expr} {td : TE} (he : PE X e td) : PI X tg e (iKeysN td) := by
  refine ⟨fun pins s σ H R I h => thn (he.run pins s σ H _ I h) fun u s1 ⟨x, H1, I1, rx, d, o, ex, q⟩ => ?_⟩
  subst ex
  cases rx
  have go : ∀ {es : Array DictEntry} {ep n : Nat} {J : It}, (d == sysModules) = false → s1.heap.get? d = some o → o.ExactDict → o.data = .dict es ep → es.size = n → R J H1 →
      (∀ it, Turn X.prog X.w X.K tg J [it] it (fun i h => h.IsKeyIter it d i n ep)) → wpAny (model X.prog X.w) X.A (pyIter (.ref d)) (PIE X pins σ tg R) X.xe s1 := by
    intro es ep n J g1 g2 g3 g4 g5 r T
    subst g5
    exact iter_keys g1 g2 g3 g4 (pi_one (tk := s1.toks) I1 _ (T _) ⟨_, Heap.get?_push_size _ rfl, rfl, rfl⟩ r)
  rcases q with ⟨kvs, hk, q⟩ | ⟨hk, q⟩
  · obtain ⟨g1, g2, g3, _, _, _, g4, g5, _⟩ := I1.frzK hk
    exact go g1 g2 g3 g4 g5 q fun it => turn_keys it g4
  · obtain ⟨g1, g2, g3, _, _, _, g4, g5, _⟩ := Inv.frzN I1 hk
    exact go g1 g2 g3 g4 g5 q fun it => turn_none it g4
/-- type(x), len(x), isinstance(x, c): as ever, or of {None: 0} -/
def rTypN (K : PySem.W.Frag) : List V → Hp → VK → Prop := fun xs H Q => rTyp K xs H Q ∨ ∃ a, xs = [.ref a] ∧ H a = some (ndo a) ∧ Q (.ty "dict") H
theorem call_typN : CallR X (.type "type") (rTypN X.K) := by
  intro pins s σ H xs us Q I r h
  rcases h with h | ⟨a, rfl, ha, q⟩
  · exact call_type1 pins s σ H xs us Q I r h
  · obtain ⟨u, rfl, rx⟩ := vals1 r
    cases rx
    obtain ⟨n, od, e, ep, t, g, hx, _⟩ := Inv.nd I ha
    exact call_type_of (Tx := "dict") ⟨od, g, hx.1⟩ (by decide +kernel) ⟨.ty "dict", H, I, rfl, q⟩
def rLenN (K : PySem.W.Frag) : List V → Hp → VK → Prop := fun xs H Q => ∃ a, xs = [.ref a] ∧ ((∃ kvs, H a = some (.dK kvs) ∧ Q (.int kvs.length) H) ∨ (H a = some (ndo a) ∧ Q (.int 1) H))
theorem call_lenN (hu : X.A.units + 1 < cLine) : CallR X (.builtin "len") (rLenN X.K) := by
  intro pins s σ H xs us Q I r h
  obtain ⟨a, rfl, h⟩ := h
  obtain ⟨u, rfl, rx⟩ := vals1 r
  cases rx
  rcases h with ⟨kvs, ha, q⟩ | ⟨ha, q⟩
  · obtain ⟨z, hd, vs, kv, dd⟩ := dk_of I.hok ha
    have hl : kvs.length = vs.length := Paired.length kv
    exact call_len_dict hd dd (by rw [sizeLine_eq] at z; omega) ⟨.int kvs.length, H, I.tok _, ⟨s.toks + 1, by rw [hl]⟩, q⟩
  · obtain ⟨t, ep, dd⟩ := (Inv.nd I ha).at (P := X.prog) (w := X.w)
    exact call_len_dict (Inv.nd I ha).1 dd.dictOf (by simp) ⟨.int 1, H, I.tok _, ⟨_, rfl⟩, q⟩
def rIsiN (K : PySem.W.Frag) : List V → Hp → VK → Prop := fun xs H Q => rIsi K xs H Q ∨ ∃ (a : Addr) (n : String) (b : Bool), xs = [.ref a, .ty n] ∧ H a = some (ndo a) ∧ PySem.W.kitOne K (.type "dict") (.type n) = some b ∧ Q (.bl b) H
theorem call_isiN : CallR X (.builtin "isinstance") (rIsiN X.K) := by
  intro pins s σ H xs us Q I r h
  rcases h with h | ⟨a, n, b, rfl, ha, e, q⟩
  · exact call_isi pins s σ H xs us Q I r h
  · obtain ⟨u1, u2, rfl, r1, r2⟩ := vals2 r
    cases r1
    cases r2
    obtain ⟨_, od, _, _, _, g, hx, _⟩ := Inv.nd I ha
    exact PySem.W.kia_one PySem.W.kitx_dict I.kIn ⟨od, g, hx.1⟩ e (fun z => nomatch z) fun tk => ⟨.bl b, H, I.tok tk, rfl, q⟩
/-- {None: 0} -/
def tNd (tk tv : TE) : TE := fun σ H Q => tk σ H fun x _ => x = .non ∧ tv σ H fun y _ => y = .int 0 ∧ ∀ p, H p = none → Q (.ref p) (upd H p (ndo p))
theorem NdH.of {P : Program} {w : World} {a : Addr} {h : Heap} {t : Nat} (n : (a == sysModules) = false) (x : h.DictOf (noneKind P w) a [((none : Option Key), Value.int 0 t)]) : NdH a h := by
  obtain ⟨o, es, ep, g, hx, hd, hk, hp, _⟩ := x
  obtain ⟨l⟩ := es
  cases hp with
  | @cons e _ _ _ k1 k2 r =>
    cases r
    obtain ⟨k, c1, c2⟩ := hk e (by simp)
    have e0 := nk_none k1
    refine ⟨n, o, e, ep, t, g, hx, hd, e0, k2, ?_⟩
    rw [e0] at c1
    cases k with
    | none => exact c2
    | some k => exact absurd c1 (keyIs_none k)
theorem pe_nd {k v : Expr} {pos : Pos} (hk : PE X k (tC .non)) (hv : PE X v (tC (.int 0))) : PE X (.Dict [some k] [v] pos) (tNd (tC .non) (tC (.int 0))) := by
  refine ⟨fun pins s σ H Q I q => ?_⟩
  obtain ⟨_, _, q⟩ := q
  have n := I.hok.fresh (Nat.le_refl s.heap.objs.size)
  have I1 := I.laid (a := s.heap.objs.size) (o := .dK []) (h' := s.heap.push { cls := .type "dict", data := .dict #[] }) (t' := s.toks) (fun _ _ z => Heap.get?_push_of_some _ z) (Nat.le_refl _) (dk_empty s.heap I.big)
  refine wpAny_Dict_walk (knd := noneKind X.prog X.w) rfl rfl (by simp) (by simp) ?_
  refine pairTrees_cons_walk (thn (hk.run pins _ σ _ (fun x H1 => x = .non ∧ H1 = upd H s.heap.objs.size (.dK [])) I1 ⟨rfl, rfl⟩) fun u s1 ⟨x, H1, I2, r1, ex, e1⟩ => thn (hv.run pins s1 σ H1 (fun y H2 => y = .int 0 ∧ H2 = H1) I2 ⟨rfl, rfl⟩) fun v2 s2 ⟨y, H2, I3, r2, ey, e2⟩ => pairTrees_nil_walk ?_)
  subst ex ey e1 e2
  cases r1
  obtain ⟨t, rfl⟩ := r2
  obtain ⟨z, hd, vs0, r0, dd⟩ := dk_of I3.hok (upd_same (H := H))
  cases r0
  refine ⟨[(none, .int 0 t)], ⟨rfl, rfl, trivial⟩, ?_, fun h' d2 sb => ?_⟩
  · obtain ⟨o, es, ep, g, hx, hdt, hk', hp, nd⟩ := dd
    cases es with | mk l =>
    cases hp
    exact ⟨o, #[], ep, g, hx, hdt, fun e he => by simp at he, .nil, by simp⟩
  · obtain ⟨o, es, ep, g, _⟩ := id d2
    have I4 := d_write (t' := s2.toks + 1) (ob := ndo s.heap.objs.size) I3 (by rw [upd_same]; exact True.intro) sb ⟨o, g⟩ (NdH.ok (NdH.of hd d2))
    rw [upd_upd] at I4
    exact ⟨.ref s.heap.objs.size, _, I4, rfl, q _ n⟩
end
end Gx

/-! ### repr of a list of things that can be shown, whatever they are: also dicts with whole numbers as keys, {None: 0} -/
namespace Gx
open PySem PySem.Spec PyProof.Rows L2 GxR GenW
/-- v can be shown as the data d -/
def Sq (K : PySem.W.Frag) (H : Hp) (v : V) (d : PyData) : Prop := ∀ (X : Cx) (pins : List (Addr × Obj)) (σ : L2.St) (s : Shared) (u : Value), X.K = K → L2.Inv X pins σ H s → RelV v u → d.showable = true → d.shown.length ≤ sizeLine →
  ∃ as bs, Reads s.heap u d as ∧ ReadAtMost s.heap d.depth bs ∧ ReprK X.prog X.w bs s.heap d.depth u d.shown
theorem Dn.sq {K : PySem.W.Frag} {H : Hp} {v : V} {d : PyData} (h : Dn K H v d) : Sq K H v d := by
  rintro X pins σ s u rfl I r hs hz
  exact h.shows I r hs hz
/-- a dict of the heap, shown -/
theorem dict_sq {κ : Type} [DecidableEq κ] {P : Program} {w : World} {knd : KeyKind P w κ} {enc : κ → PyData} {h : Heap} {a : Addr} {vs : List (κ × Value)} {D : List (PyData × PyData)} {bs0 : List Addr} (lo : (a == sysModules) = false)
    (dd : h.DictOf knd a vs) (hk : ∀ k key, knd.is k key = true → Reads h key (enc k) []) (pr : PyProof.V.PairsRead h enc vs D bs0) (n1 : PyData.hasDictAll (D.map (·.1)) = false) (n2 : PyData.hasDictAll (D.map (·.2)) = false)
    (hs : (PyData.dict D).showable = true) (hz : (PyData.dict D).shown.length ≤ sizeLine) :
    ∃ as bs, Reads h (.ref a) (.dict D) as ∧ ReadAtMost h (PyData.dict D).depth bs ∧ ReprK P w bs h (PyData.dict D).depth (.ref a) (PyData.dict D).shown := by
  obtain ⟨o, es, ep, ho, hx, hdat, _, hp, _⟩ := dd
  obtain ⟨r1, r2⟩ := PyProof.V.readsAll_of_pairs hk hp pr
  have rd : Reads h (.ref a) (.dict D) (a :: ([] ++ bs0)) := Reads.dict ho hx.1 hdat r1 r2
  have ed : (PyData.dict D).depth = PyData.depthKv D + 1 := by rw [PyData.depth]
  have et : (PyData.dict D).shown = dictText (PyData.shownKv D) := by rw [PyData.shown]
  rw [PyData.showable] at hs
  rw [et] at hz
  obtain ⟨s1, s2⟩ := PyData.showableKv_split D hs
  obtain ⟨b1, m1, k1⟩ := ReprAllK.of_readsAll (prog := P) (w := w) r1 s1 (fun q => by rw [n1] at q; cases q) (fun t ht => by
    obtain ⟨q, hq, l⟩ := PyData.shownKv_key_le _ t ht
    exact Nat.le_trans (Nat.le_trans l (dictText_mem_le hq)) hz)
  obtain ⟨b2, m2, k2⟩ := ReprAllK.of_readsAll (prog := P) (w := w) r2 s2 (fun q => by rw [n2] at q; cases q) (fun t ht => by
    obtain ⟨q, hq, l⟩ := PyData.shownKv_val_le _ t ht
    exact Nat.le_trans (Nat.le_trans l (dictText_mem_le hq)) hz)
  have le1 : PyData.depthAll (D.map (·.1)) ≤ PyData.depthKv D := PyData.depthAll_keys_le _
  have le2 : PyData.depthAll (D.map (·.2)) ≤ PyData.depthKv D := PyData.depthAll_vals_le _
  have both : ReadAtMost h (PyData.depthKv D) (b1 ++ b2) := (m1.mono le1).append (m2.mono le2)
  have out : a ∉ b1 ++ b2 := not_mem_of_deeper rd (by omega) both
  refine ⟨_, a :: (b1 ++ b2), rd, ReadAtMost.cons rd (Nat.le_refl _) (both.mono (by rw [ed]; omega)), ?_⟩
  rw [et, ed, PyData.shownKv_eq]
  exact ReprK.dict ho hx.1 hdat lo out (ReprEntriesK.of_two es.toList _ _ (k1.more_le (fun b hb => List.mem_append_left b2 hb) le1) (k2.more_le (fun b hb => List.mem_append_right b1 hb) le2))
def keyD : Key → PyData
  | .inl i => .int i
  | .inr x => .str x
/-- the data of a dict's pairs, f the data of its values -/
def kvsD (f : V → PyData) (kvs : List (Key × V)) : List (PyData × PyData) := kvs.map fun kv => (keyD kv.1, f kv.2)
theorem kvsD_plain {f : V → PyData} : ∀ {kvs : List (Key × V)}, (∀ kv ∈ kvs, (f kv.2).hasDict = false) → PyData.hasDictAll ((kvsD f kvs).map (·.1)) = false ∧ PyData.hasDictAll ((kvsD f kvs).map (·.2)) = false
  | [], _ => ⟨rfl, rfl⟩
  | (k, v) :: r, h => by
    obtain ⟨h1, h2⟩ := kvsD_plain (kvs := r) fun kv hk => h kv (List.mem_cons_of_mem _ hk)
    have h3 := h _ List.mem_cons_self
    refine ⟨?_, ?_⟩
    · show PyData.hasDictAll (keyD k :: (kvsD f r).map (·.1)) = false
      rw [PyData.hasDictAll, h1]
      cases k <;> rfl
    · show PyData.hasDictAll (f v :: (kvsD f r).map (·.2)) = false
      rw [PyData.hasDictAll, h2, h3]
      rfl
theorem kvs_read {X : Cx} {pins : List (Addr × Obj)} {σ : L2.St} {H : Hp} {s : Shared} {f : V → PyData} (I : L2.Inv X pins σ H s) : ∀ {kvs : List (Key × V)} {vs : List (Key × Value)}, (∀ kv ∈ kvs, Dp X.K H kv.2 (f kv.2)) → KV kvs vs →
    ∃ bs, PyProof.V.PairsRead s.heap keyD vs (kvsD f kvs) bs
  | [], _, _, r => by
    cases r
    exact ⟨[], .nil⟩
  | (k, v) :: q, _, h, r => by
    cases r with
    | @cons _ b _ bs r t =>
      obtain ⟨k2, u⟩ := b
      obtain ⟨e, ru⟩ := r
      have e : k = k2 := e
      subst e
      obtain ⟨as, rd⟩ := Dp.reads I _ v u (h _ List.mem_cons_self) ru
      obtain ⟨bs, pb⟩ := kvs_read I (kvs := q) (fun kv hk => h kv (List.mem_cons_of_mem _ hk)) t
      exact ⟨_, .cons rd pb⟩
theorem dk_sq {K : PySem.W.Frag} {H : Hp} {a : Addr} {kvs : List (Key × V)} {f : V → PyData} (e : H a = some (.dK kvs)) (h : ∀ kv ∈ kvs, Dp K H kv.2 (f kv.2) ∧ (f kv.2).hasDict = false) : Sq K H (.ref a) (.dict (kvsD f kvs)) := by
  rintro X pins σ s u rfl I r hs hz
  cases r
  obtain ⟨_, lo, vs, rel, dd⟩ := dk_of I.hok e
  obtain ⟨bs, pr⟩ := kvs_read I (fun kv hk => (h kv hk).1) rel
  obtain ⟨n1, n2⟩ := kvsD_plain fun kv hk => (h kv hk).2
  refine dict_sq lo dd (fun k key hk => ?_) pr n1 n2 hs hz
  rcases keyIs_shape hk with ⟨i, t, rfl, rfl⟩ | ⟨x, t, rfl, rfl⟩
  · exact Reads.int i t
  · exact Reads.str x t
theorem nd_sq {K : PySem.W.Frag} {H : Hp} {a : Addr} (e : H a = some (ndo a)) : Sq K H (.ref a) (.dict [(.none, .int 0)]) := by
  rintro X pins σ s u rfl I r hs hz
  cases r
  have x := Inv.nd I e
  obtain ⟨t, ep, dd⟩ := x.at (P := X.prog) (w := X.w)
  refine dict_sq (knd := noneKind X.prog X.w) (enc := fun k => match k with | none => PyData.none | some k => keyD k) x.1 dd.dictOf (fun k key hk => ?_) (.cons (Reads.int 0 t) .nil) rfl rfl hs hz
  cases k with
  | none =>
    rw [nk_none hk]
    exact Reads.none
  | some k =>
    rcases keyIs_shape (show keyIs k key = true from hk) with ⟨i, t, rfl, rfl⟩ | ⟨x, t, rfl, rfl⟩
    · exact Reads.int i t
    · exact Reads.str x t
theorem sqs_shows {X : Cx} {pins : List (Addr × Obj)} {σ : L2.St} {H : Hp} {s : Shared} (I : L2.Inv X pins σ H s) : ∀ {vs : List V} {us : List Value} {ds : List PyData}, Paired (Sq X.K H) vs ds → Vals vs us → PyData.showableAll ds = true → (∀ t ∈ PyData.shownAll ds, t.length ≤ sizeLine) →
    ∃ as bs, ReadsAll s.heap us ds as ∧ ReadAtMost s.heap (PyData.depthAll ds) bs ∧ ReprAllK X.prog X.w bs s.heap (PyData.depthAll ds) us (PyData.shownAll ds)
  | _, _, _, .nil, r, _, _ => by
    cases r
    exact ⟨[], [], .nil, (fun _ h => nomatch h), by simp only [PyData.shownAll]; exact .nil⟩
  | _, _, _, .cons (b := d) (l₂ := ds) h t, r, hs, hz => by
    cases r with
    | cons r1 r2 =>
      rw [PyData.showableAll, Bool.and_eq_true] at hs
      obtain ⟨as, bs, a1, a2, a3⟩ := h X pins σ s _ rfl I r1 hs.1 (hz _ (by rw [PyData.shownAll]; exact List.mem_cons_self))
      obtain ⟨cs, ds', b1, b2, b3⟩ := sqs_shows I t r2 hs.2 fun t ht => hz t (by rw [PyData.shownAll]; exact List.mem_cons_of_mem _ ht)
      refine ⟨_, bs ++ ds', .cons a1 b1, (a2.mono ?_).append (b2.mono ?_), ?_⟩
      · rw [PyData.depthAll]
        exact Nat.le_max_left _ _
      · rw [PyData.depthAll]
        exact Nat.le_max_right _ _
      · rw [PyData.shownAll, PyData.depthAll]
        exact .cons ((a3.more fun b hb => List.mem_append_left _ hb).level_le (Nat.le_max_left _ _)) (b3.more_le (fun b hb => List.mem_append_right _ hb) (Nat.le_max_right _ _))
def rReprQ (K : PySem.W.Frag) : List V → Hp → VK → Prop := fun xs H Q => ∃ (L : Addr) (v : V) (vs : List V) (ds : List PyData), xs = [.ref L] ∧ H L = some (.lst (v :: vs)) ∧ Paired (Sq K H) (v :: vs) ds ∧ PyData.showableAll ds = true ∧
  PyData.depthAll ds ≤ 60 ∧ (PyData.list ds).shown.length ≤ sizeLine ∧ Q (.str (PyData.list ds).shown) H
theorem cr_reprQ {X : Cx} (g : X.A.guards = some []) (hu : X.A.units + 64 < cLine) : CallR X (.builtin "repr") (rReprQ X.K) := by
  intro pins s σ H xs us Q I r h
  obtain ⟨L, v, vs, ds, rfl, hL, hD, hs, hd, hz, q⟩ := h
  obtain ⟨u, rfl, rx⟩ : ∃ u, us = [u] ∧ RelV (.ref L) u := by
    cases r with
    | cons r1 r2 => cases r2; exact ⟨_, rfl, r1⟩
  cases rx
  obtain ⟨z, its, n, ri, hl, e⟩ := I.lstM hL
  have e0 : (PyData.list ds).shown = listText (PyData.shownAll ds) := by simp only [PyData.shown]
  rw [e0] at hz q
  obtain ⟨as, bs, a1, a2, a3⟩ := sqs_shows I hD ri hs fun t ht => Nat.le_trans (listText_mem_le ht) hz
  have rd : Reads s.heap (.ref L) (.list ds) (L :: as) := Reads.list e rfl rfl (by simpa using a1)
  have hna : L ∉ bs := not_mem_of_deeper rd (by simp only [PyData.depth]; omega) a2
  cases ri with
  | @cons _ y _ ys r1 r2 =>
    refine call_repr_slot (T := "list") (by omega) ⟨_, e, rfl⟩ F.slot_list_repr.toG ?_
    exact call_list_reprK e rfl rfl hna (by simpa using a3.length_eq) (fun i y e => a3.item i y (by simpa using e)) g (fun b _ => Clear.nil b) (by show X.A.units + 1 + (_ + 1) < cLine; omega) (fun _ _ e => e) (fun h' u tk hk => ⟨_, _, rfl, .str _, H, I.kept hk, ⟨_, rfl⟩, q⟩) hz
end Gx

/-! A caught exception that outlives its suite: try/except that keeps it in the told heap; isinstance of it; a def whose callees raise. -/
namespace Gx
open PySem PySem.Spec PyProof.Rows L2 GxR GenW

/-- a caught exception of the class cls, its dict d -/
def ExcAt (a : Addr) (cls : Value) (d : Option Addr) (h : Heap) : Prop := ∃ oe vs, h.get? a = some oe ∧ oe.cls = cls ∧ oe.dict = d ∧ oe.data = .fields vs
def excO (a : Addr) (cls : Value) (d : Option Addr) : HO := .ext (ExcAt a cls d)
theorem excO_ok {P : Program} {w : World} {H : Hp} {h : Heap} {a : Addr} {cls : Value} {d : Option Addr} {oe : Obj} {vs : Array Value} (he : h.get? a = some oe) (hz : Zc cls d oe) (hd : oe.data = .fields vs) : ObjOk P w H h a (excO a cls d) :=
  ⟨⟨oe, vs, he, hz.1, hz.2, hd⟩, ⟨oe, he⟩, fun _ _ ⟨o, vs, e, r⟩ k => ⟨o, vs, k o e, r⟩⟩

section
variable {X : Cx} {pins : List (Addr × Obj)} {σ : L2.St} {H : Hp} {s : Shared}
/-- what stands in the heap, new to the def, is told from here on -/
theorem Inv_told (I : Inv X pins σ H s) {a : Addr} {o : HO} (na : H a = none) (nL : a ≠ X.env.locals) (nC : ∀ x c, X.env.cells.lookup x = some c → c ≠ a) (n0 : X.s_0.heap.get? a = none)
    (nP : ∀ p ∈ X.pn ++ pins, p.1 ≠ a) (ho : ObjOk X.prog X.w (upd H a o) s.heap a o) : Inv X pins σ (upd H a o) s where
  ok := I.ok
  os := I.os
  bare := I.bare
  base :=
    { keep := I.base.keep
      slot := I.base.slot
      free := fun b ob e n hx => by
        rw [upd_ne (fun z => by rw [z, n0] at e; cases e)]
        exact I.base.free b ob e n hx
      there := I.base.there
      tups := fun b xs e => by
        have q := I.base.tups b xs e
        rw [upd_ne (fun z => by rw [z, na] at q; cases q)]
        exact q
      frzs := fun b ob u e => by
        have q := I.base.frzs b ob u e
        rw [upd_ne (fun z => by rw [z, na] at q; cases q)]
        exact q
      tbls := fun b ps e => by
        obtain ⟨more, q⟩ := I.base.tbls b ps e
        exact ⟨more, by rw [upd_ne (fun z => by rw [z, na] at q; cases q)]; exact q⟩ }
  loc := I.loc
  cell := I.cell
  free := by rw [upd_ne (Ne.symm nL)]; exact I.free
  freeC := fun x c e => by rw [upd_ne (nC x c e)]; exact I.freeC x c e
  pin := fun p hp => by
    obtain ⟨e, n, r⟩ := I.pin p hp
    exact ⟨e, by rw [upd_ne (nP p hp)]; exact n, r⟩
  hok := fun b u e => by
    by_cases hb : b = a
    · subst hb
      rw [upd_same] at e
      cases e
      exact ho
    · rw [upd_ne hb] at e
      exact (I.hok b u e).stay (fun _ _ _ q => q) (fun c q => by rw [upd_ne (ne_of_none q na)]; exact q) fun c xs q => by rw [upd_ne (ne_of_none q na)]; exact q
  len := I.len
end

/-- what the clause wishes of an exception: its class is caught; the suite, with the exception told and in slot i, goes on to what follows -/
def wKeep (K : PySem.W.Frag) (c : Value) (i : Nat) (ts : TS) (D : Ends) : WX := fun cls d σ H =>
  PySem.W.exmOne K cls c = some true ∧ ∀ a, H a = none → ts { nx := fun τ H' => D.nx (τ.set i none) H', rt := fun _ _ => False, bk := fun _ _ => False, ct := fun _ _ => False } (σ.set i (some (.ref a))) (upd H a (excO a cls d))

section
variable {X : Cx} {c : Value} {i : Nat} {ts : TS}
/-- an exception that has come down to this def: from here on the heap tells of it -/
theorem sky_told (hs : X.stack = X.env :: X.outer) (hf : X.env.frame = some X.env.locals) (hex : X.ex = []) {ps : List (Addr × Obj)} {τ : L2.St} {H : Hp} {s0 s1 : Shared} {G h : Heap} {a : Addr} {cls : Value} {d : Option Addr}
    (J : Inv X ps τ H s0) (ground : ∀ b o, s0.heap.get? b = some o → b ∉ frs X.stack → G.get? b = some o) (fly : HandSPX.FlyingZ G (X.env :: X.outer) a (Zc cls d) h) (slots : s0.heap.UpToSlots h) (os : s1.os = s0.os) (bare : AllBare s1.gens) (na : H a = none) :
    Inv X ps τ (upd H a (excO a cls d)) { s1 with heap := h } ∧ ∃ oe, h.get? a = some oe ∧ oe.cls = cls := by
  obtain ⟨stay, noG, funs, oe, vs, _, _, _, he, hz, hd, _⟩ := fly
  have L := J.landed (s' := { s1 with heap := h }) ground stay slots os bare
  have out : a ∉ frs X.stack := by
    intro hm
    rw [hs] at hm
    obtain ⟨_, o2, e2, nf⟩ := funs.mem hm
    cases he.symm.trans e2
    exact nf vs hd
  have gone : s0.heap.get? a = none := by
    cases q : s0.heap.get? a with
    | none => rfl
    | some o =>
      have z := ground a o q out
      rw [noG] at z
      cases z
  refine ⟨Inv_told L na (fun z => out ?_) (fun y k q z => ?_) ?_ (fun p hp z => ?_) (excO_ok he hz hd), oe, he, hz.1⟩
  · rw [hs, z]
    exact List.mem_filterMap.mpr ⟨X.env, List.mem_cons_self, hf⟩
  · obtain ⟨v, o2, e2, dk⟩ := L.cell y k q
    rw [z] at e2
    cases he.symm.trans e2
    rw [hd] at dk
    cases dk
  · cases q : X.s_0.heap.get? a with
    | none => rfl
    | some o =>
      obtain ⟨o2, e2⟩ := J.base.there a o q (by rw [hex]; simp)
      rw [gone] at e2
      cases e2
  · have z2 := (J.pin p hp).1
    rw [z, gone] at z2
    cases z2
theorem Inv_suite0 {ps : List (Addr × Obj)} {τ : L2.St} {H : Hp} {s : Shared} (I : Inv X ps τ H s) (a : Addr) : Inv (X.suite a (X.pn ++ ps)) [] τ H s := by
  have p0 := I.pin
  obtain ⟨k1, k2, k3, k4, k5, k6, k7, k8, _, k9, k10⟩ := I
  refine ⟨k1.suite _ _, k2, k3, k4, k5, k6, k7, k8, fun z hz => p0 z ?_, k9, k10⟩
  rwa [List.append_nil] at hz
theorem Inv_unsuite0 {ps qs : List (Addr × Obj)} {a : Addr} {τ : L2.St} {H : Hp} {s : Shared} (I : Inv (X.suite a (X.pn ++ ps)) qs τ H s) (ok : X.Ok) : Inv X ps τ H s := by
  have p0 := I.pin
  obtain ⟨_, k2, k3, k4, k5, k6, k7, k8, _, k9, k10⟩ := I
  exact ⟨ok, k2, k3, k4, k5, k6, k7, k8, fun z hz => p0 z (List.mem_append.mpr (.inl hz)), k9, k10⟩
/-- try: body, except x as n: suite, where all that the body lets out is of the class x and the suite goes on to what follows -/
theorem ps_try_keep {x n : Str} {t0 : Stmt} {body rest : List Stmt} {q1 q2 q3 : Pos} {tb : WX → TS} (hs : X.stack = X.env :: X.outer) (hf : X.env.frame = some X.env.locals) (hex : X.ex = []) (hN : X.N.Nodup) (hi : X.N[i]? = some n) (hl : X.env.kindOf n = some .local)
    (hg : Gl X x) (hx : X.mg x = some c) (hb : ∀ (W : WX) (ps : List (Addr × Obj)) (xe : Value → Shared → Prop), Takes (X.tr ps xe) W → PSs (X.tr ps xe) body (tb W)) (hsu : ∀ (a : Addr) (ps : List (Addr × Obj)), PSs (X.suite a ps) (t0 :: rest) ts)
    (hdb : (x == ("__debug__" : Str)) = false := by decide) :
    PS X (.Try body [.ExceptHandler (some (.Name x q1)) (some n) (t0 :: rest) q2] [] [] q3) (fun D τ H => tb (wKeep X.K c i ts D) D τ H) := by
  refine ⟨fun ps s τ H D I h => wpAny_Try_except ?_⟩
  have ok := I.ok
  refine wpAny_mono ((hb (wKeep X.K c i ts D) (X.pn ++ ps) _ ?_).run [] s τ H D (I.toTry _) h) (fun fl s1 r => ?_) fun _ _ z => z
  · rintro u s1 ⟨a, G, s0, _, τ1, H1, cls, d, rfl, J0, ground, slots, sky, na, os, bare, yes, go⟩
    have J := J0.ofTry ok
    refine Sky.land Zc.steady (ok.frames.trans (congrArg some hs)) hf (hs ▸ sky) fun h3 f3 u3 => ?_
    obtain ⟨I3, oe, he, hc⟩ := sky_told (s1 := s1) hs hf hex J ground f3 (slots.trans u3) os bare na
    have ask : PySem.W.Looks (model X.prog X.w) h3 (typeOf (.ref a)) cls := fun _ _ _ _ kept r => wpAny_typeOf_ref (kept _ _ he) (hc ▸ r)
    refine wpAny_handleBy_cons (codeAny_handlers_test (ld_glob (X := X.suite a (X.pn ++ ps)) (Inv_suite0 I3 a) hg hx ?_ hdb)) (fun z => nomatch z)
    refine (PySem.W.exm_one (M := model X.prog X.w) I3.kIn ask yes).here (codeAny_handlers_suite_as (HandSPX.lands_againZ f3 fun h4 f4 u4 => ?_))
    have I4 := (sky_told (s1 := s1) hs hf hex J ground f4 ((slots.trans u3).trans u4) os bare na).1
    refine store_ok (X := X.suite a (X.pn ++ ps)) (v := .ref a) (Inv_suite0 I4 a) hN hi (.inl hl) rfl (fun s5 I5 => wpAny_mono ((hsu a (X.pn ++ ps)).run [] s5 _ _ _ I5 (go a na)) (fun fl s6 r => ?_) fun _ _ z => z.elim) (.inr hl)
    match fl, r with
    | .next, ⟨τ6, H6, I6, r6⟩ => exact gone_ok (Inv_unsuite0 I6 ok) hN hi hl fun s7 I7 => ⟨_, _, I7, r6⟩
    | .brk, ⟨_, _, _, r6⟩ => exact r6.elim
    | .cont, ⟨_, _, _, r6⟩ => exact r6.elim
    | .ret _, ⟨_, _, _, _, _, r6⟩ => exact r6.elim
  · match fl, r with
    | .next, ⟨τ1, H1, I1, r1⟩ => exact wpAny_execs_nil ⟨τ1, H1, I1.ofTry ok, r1⟩
    | .brk, ⟨τ1, H1, I1, r1⟩ => exact ⟨τ1, H1, I1.ofTry ok, r1⟩
    | .cont, ⟨τ1, H1, I1, r1⟩ => exact ⟨τ1, H1, I1.ofTry ok, r1⟩
    | .ret _, ⟨v, τ1, H1, I1, rv, r1⟩ => exact ⟨v, τ1, H1, I1.ofTry ok, rv, r1⟩
end

/-- isinstance(e, c), e a caught exception that the heap tells of -/
def rIsX (K : PySem.W.Frag) : List V → Hp → VK → Prop := fun xs H Q => ∃ (a D : Addr) (c : V) (cv : Value) (b : Bool), xs = [.ref a, c] ∧ H a = some (excO a (.ref D) none) ∧ ExcC K D ∧ (∀ u, RelV c u → u = cv) ∧ PySem.W.kitOne K (.ref D) cv = some b ∧ Q (.bl b) H
theorem call_isX {X : Cx} : CallR X (.builtin "isinstance") (rIsX X.K) := by
  rintro ps s τ H _ us Q I r ⟨a, D, c, cv, b, rfl, told, C, hcv, yes, q⟩
  match us, r with
  | [u, w], .cons r1 (.cons r2 .nil) =>
    cases r1
    cases hcv _ r2
    obtain ⟨⟨⟨oc, od, dt, sl⟩, vs, at_, k1, k2, k3⟩, _⟩ := I.hok a _ told
    cases k1
    cases k2
    cases k3
    exact PySem.W.kia_one (PySem.W.handS_kitx_exc C.hg C.hk C.hs C.hd C.ha C.hn C.ht C.hm) I.kIn ⟨at_, rfl, rfl, trivial⟩ yes (fun z => nomatch z) fun k => ⟨.bl b, H, I.kept (t' := k) (fun _ _ z => z), rfl, q⟩

/-! ### defs that raise -/
section
variable {P : Program} {w : World} {K : PySem.W.Frag} {mg : Str → Option Value} {base : Heap} {CX : CXT} {k : Nat} {f : Addr} {fd : FuncData} {x : Str} {ps : List Str} {sp : Sp}
theorem FnG.toCX (F : FnG P w K mg base CX0 k f fd ps sp) : FnG P w K mg base CX k f fd ps sp :=
  ⟨F.many, fun A outer s H args us vs Q E g hr e0 hb r h => codeAny_mono (F.runs A outer s H args us vs Q E g hr e0 hb r h) fun q s' hq => by
    match q, hq with
    | .error e, hq => exact hq.elim
    | .ok (.ret u), hq => exact hq⟩
theorem Callee.toCX (C : Callee P w K mg base CX0 k x ps sp) : Callee P w K mg base CX k x ps sp :=
  let ⟨f, fd, F, r⟩ := C.is
  ⟨f, fd, F.toCX, r⟩
end
end Gx

/-! Own classes of error: what the head says of them, raise, calls that may raise, the one class by its name. -/
namespace Gx
open PySem PySem.Spec PyProof.Rows L2 GxR GenW

/-! ### a call that may raise, within try -/
section
variable {X : Cx} {CX : CXT} {k : Nat} {x : Str} {ps : List Str} {sp : Sp} {E : L2.St → XK} {p pos : Pos} {e : Expr} {es : List Expr} {t : TA}
theorem run_gS {pins : List (Addr × Obj)} {σ : L2.St} {H : Hp} {s : Shared} {Q : VK} {us : List Value} {vs : List V} {f : Addr} {fd : FuncData} (F : FnG X.prog X.w X.K X.mg X.base CX k f fd ps sp) (g : X.A.guards = some []) (hr : Room k X.A) (hb : Binds X.K fd ps []) (hx : PassesAt CX X σ (E σ))
    (I : Inv X pins σ H s) (r : Vals vs us) (h : sp vs H Q (E σ)) : wpAny (model X.prog X.w) X.A (call (.ref f) us) (EP X pins σ Q) X.xe s := by
  have hl : (us ++ ([] : List Value)).length = ps.length := by rw [List.append_nil, ← r.length]; exact F.many _ _ _ _ h
  have hB := hb s us I.kIn hl
  rw [List.append_nil] at hB
  refine wpAny_call (codeAny_mono (F.runs X.A X.stack s H ⟨us, []⟩ us vs Q (E σ) g hr I.env0 hB r h) fun q s' hq => ?_)
  match q, hq with
  | .error e, hq => exact hx pins H s e s' I hq
  | .ok (.ret u), hq => exact I.after hq
/-- f(e, ..), which may raise -/
theorem pe_gS (C : Callee X.prog X.w X.K X.mg X.base CX k x ps sp) (g : X.A.guards = some []) (hr : Room k X.A) (hx : ∀ σ, PassesAt CX X σ (E σ)) (ha : PA X (e :: es) t) (hg : Gl X x := by rfl)
    (hdb : (x == ("__debug__" : Str)) = false := by decide) (he : starEach (e :: es) X.env = (false, eval e X.env) :: starEach es X.env := by rfl) (hpl : (backTo pos (starEach es X.env)).any (·.1) = false := by rfl) :
    PE X (.Call (.Name x p) (e :: es) [] pos) (tCallS sp E t) := by
  obtain ⟨f, fd, F, hm, hk, hb⟩ := C.is
  refine ⟨fun pins s σ H Q I h => wpAny_Call_Name_kw (ld_glob I hg hm (PySem.W.callWith_K (h₀ := X.base) I.ok.mod.kin hk (thn (ha.run pos pins s σ H _ I h) fun us s1 h1 => ?_) he hpl) hdb)⟩
  obtain ⟨vs, H1, I1, r, q⟩ := h1
  exact ⟨I1.kIn, run_gS F g hr hb (hx σ) I1 r q⟩
end

/-! ### the classes -/
/-- what the head asks of a class of error that the law's defs raise, over all classes -/
def xsOne (K : PySem.W.Frag) (names : List Str) (x : Str) : Bool :=
  (He.Fa.exc x).ok K && ((He.Fa.exm x "ApartError" true).ok K && (
  decide (PySem.W.findIn K (.ref (He.ga K x)) "__getattribute__" = some (some (.builtin "BaseException.__getattribute__"))) && (
  decide (PySem.W.findIn K (.ref (He.ga K x)) "__getattr__" = some none) && (
  PySem.W.hasDictIn K (He.ga K x) && (
  decide (PySem.W.findIn K (.ref (He.ga K x)) "__class__" = some (some (.builtin "object.__class__"))) && (
  decide (PySem.W.specialIn K (.builtin "object.__class__") "__get__" = some (some (.builtin "getset_descriptor.__get__"))) && (
  decide (PySem.W.takesIn K (.builtin "object.__class__") = some true) && (
  decide (PySem.W.mroIn K (He.ga K x) (.type "object") = some true) && (
  decide (PySem.W.kitOne K (.ref (He.ga K x)) (.type "ValueError") = some true) &&
  names.all fun y => decide (PySem.W.kitOne K (.ref (He.ga K x)) (.ref (He.ga K y)) = some (decide (y = x))))))))))))
def xsB (K : PySem.W.Frag) (names rs : List Str) : Bool := names.all (fun x => He.eqO (PySem.W.nsIn K mainGlobals x) (some (some (.ref (He.ga K x))))) && (He.eqO (PySem.W.nsIn K mainGlobals "ApartError") (some (some (.ref (He.ga K "ApartError")))) && rs.all (xsOne K names))
structure XOne (K : PySem.W.Frag) (names : List Str) (x : Str) : Prop where
  made : PySem.W.excIn K (He.ga K x) He.veBase "ValueError.__new__" = true
  kept : PySem.W.keepIn K (.ref (He.ga K x)) = true
  sub : PySem.W.subIn K (.ref (He.ga K x)) (.type "BaseException") = some true
  ty : PySem.W.typeIn K (.ref (He.ga K x)) = some (.type "type")
  apart : PySem.W.exmOne K (.ref (He.ga K x)) (.ref (He.ga K "ApartError")) = some true
  is : ExcC K (He.ga K x)
  ve : PySem.W.kitOne K (.ref (He.ga K x)) (.type "ValueError") = some true
  kit : ∀ y ∈ names, PySem.W.kitOne K (.ref (He.ga K x)) (.ref (He.ga K y)) = some (decide (y = x))
structure Xs (K : PySem.W.Frag) (mg : Str → Option Value) (names rs : List Str) : Prop where
  glo : ∀ x ∈ names, mg x = some (.ref (He.ga K x))
  top : mg "ApartError" = some (.ref (He.ga K "ApartError"))
  one : ∀ x ∈ rs, XOne K names x
theorem xs_of {K : PySem.W.Frag} {h : Heap} {mg : Str → Option Value} {names rs : List Str} (X : K.In h) (G : h.Ns mainGlobals mg) (c : xsB K names rs = true) : Xs K mg names rs := by
  obtain ⟨c1, c⟩ := He.ba c
  obtain ⟨c2, c3⟩ := He.ba c
  refine ⟨fun x hx => PySem.W.mg_of X G (He.eqO_ok (List.all_eq_true.mp c1 x hx)), PySem.W.mg_of X G (He.eqO_ok c2), fun x hx => ?_⟩
  obtain ⟨d1, d⟩ := He.ba (List.all_eq_true.mp c3 x hx)
  obtain ⟨d2, d⟩ := He.ba d
  obtain ⟨d3, d⟩ := He.ba d
  obtain ⟨d4, d⟩ := He.ba d
  obtain ⟨d5, d⟩ := He.ba d
  obtain ⟨d6, d⟩ := He.ba d
  obtain ⟨d7, d⟩ := He.ba d
  obtain ⟨d8, d⟩ := He.ba d
  obtain ⟨d9, d⟩ := He.ba d
  obtain ⟨d10, d11⟩ := He.ba d
  obtain ⟨e1, e2, e3, e4⟩ := He.exc_ok d1
  exact ⟨e1, e2, e3, e4, He.exm_ok d2, ⟨of_decide_eq_true d3, of_decide_eq_true d4, e3, d5, of_decide_eq_true d6, of_decide_eq_true d7, of_decide_eq_true d8, of_decide_eq_true d9⟩, of_decide_eq_true d10, fun y hy => of_decide_eq_true (List.all_eq_true.mp d11 y hy)⟩

section
variable {X : Cx} {names rs : List Str} {x m : Str} {p p2 pos pos' : Pos} {j : Nat} {W : WX}
/-- raise C('..') -/
theorem ps_raiseX (hc : X.calm = true) (tk : Takes X W) (Z : Xs X.K X.mg names rs) (hx : x ∈ rs) (hn : x ∈ names) (hg : Gl X x) (hdb : (x == ("__debug__" : Str)) = false := by decide) :
    PS X (.Raise (some (.Call (.Name x p) [.Constant (.str m) j p2] [] pos)) none pos') (fun _ σ H => W (.ref (He.ga X.K x)) none σ H) :=
  ps_raise hc tk (pmk_own PySem.F.excBase_ValueError (Z.one x hx).made (Z.glo x hn) (Z.one x hx).kept (raises_own (Z.one x hx).sub (Z.one x hx).ty) hg hdb)
end

/-! ### [("A", isinstance(e, A)), ..] -/
def tKinds (K : PySem.W.Frag) : List (Str × Addr) → TA
  | [] => tNil
  | (w, c) :: r => tCons (tTup (tCons (tC (.str w)) (tCons (tCB (rIsX K) (tCons (tVar 0) (tCons (tC (.ref c)) tNil))) tNil))) (tKinds K r)
/-- tuples of a word and whether -/
def KsAt (H : Hp) (zs : List (Addr × (Str × Bool))) : Prop := ∀ z ∈ zs, H z.1 = some (.tup [.str z.2.1, .bl z.2.2])
theorem KsAt.grow {H H' : Hp} {zs : List (Addr × (Str × Bool))} (k : KsAt H zs) (g : Grow [] H H') : KsAt H' zs := fun z hz => g.tup (by simp) (k z hz)
theorem kinds_go {K : PySem.W.Frag} {a D : Addr} {b : Str × Addr → Bool} (E : ExcC K D) {σ : L2.St} (e0 : σ[0]? = some (some (.ref a))) : ∀ (ks : List (Str × Addr)) (H : Hp) (Q : List V → Hp → Prop), H a = some (excO a (.ref D) none) →
    (∀ p ∈ ks, PySem.W.kitOne K (.ref D) (.ref p.2) = some (b p)) → (∀ zs H', Grow [] H H' → KsAt H' zs → zs.map Prod.snd = ks.map (fun p => (p.1, b p)) → Q (zs.map fun z => V.ref z.1) H') → tKinds K ks σ H Q
  | [], H, Q, _, _, q => q [] H (Grow.refl _ _) (fun _ z => by cases z) rfl
  | (w, c) :: r, H, Q, ha, hk, q => by
    refine ⟨.ref a, e0, a, D, .ref c, .ref c, b (w, c), rfl, ha, E, fun u r => r, hk _ List.mem_cons_self, by show 2 ≤ sizeLine; decide, fun t nt => ?_⟩
    have gt : Grow [] H (upd H t (.tup [.str w, .bl (b (w, c))])) := grow_new nt
    have et : upd H t (.tup [.str w, .bl (b (w, c))]) t = some (.tup [.str w, .bl (b (w, c))]) := upd_same
    generalize upd H t (.tup [.str w, .bl (b (w, c))]) = H1 at gt et ⊢
    refine kinds_go E e0 r H1 _ (gt.keep a _ (by simp) ha fun ps z => by cases z) (fun p hp => hk p (List.mem_cons_of_mem _ hp)) fun zs H' g' k' m' => ?_
    refine q ((t, (w, b (w, c))) :: zs) H' (gt.trans g') (fun z hz => ?_) ?_
    · rcases List.mem_cons.mp hz with rfl | h
      · exact g'.tup (by simp) et
      · exact k' z h
    · rw [List.map_cons, List.map_cons, m']
end Gx
namespace Gx
open PySem PySem.Spec PyProof.Rows L2 GxR GenW
theorem takes_no {X : Cx} : Takes X (fun _ _ _ _ => False) := fun _ _ ⟨_, _, _, _, _, _, _, _, _, _, _, _, _, _, _, _, w⟩ => w.elim
/-- a def that may raise, where it does not -/
theorem passX0 {X : Cx} : Passes (L2.CX X.prog X.w) X E0 := fun _ _ _ _ _ _ _ h => by
  obtain ⟨_, _, _, _, _, _, _, _, _, _, _, _, z⟩ := h
  exact z.elim
/-- all classes of refusal, by name -/
def excNames : List Str := ["NoName", "NoWeb", "NoHand", "NoRoad", "NoBook", "Unlike", "NoNumber", "NoNumbering", "NoSpot", "TooMany", "Twice", "Empty", "NoWord", "Alike", "NoMoment", "Faulty", "NoBooks", "NoParting", "Cross", "Common", "NoLine", "NoHeap", "NoText", "NoRow", "NoNet", "Unfinished"]
end Gx
namespace Gx
open PySem PySem.Spec PyProof.Rows L2 GxR GenW
def ksOf (K : PySem.W.Frag) (names : List Str) : List (Str × Addr) := names.map fun y => (y, He.ga K y)
section
variable {K : PySem.W.Frag} {a : Addr} {x : Str} {σ : L2.St} {H : Hp} {R : TS} {D : Ends}
theorem ks_go (XO : XOne K excNames x) (names : List Str) (hs : ∀ y ∈ names, y ∈ excNames) (e0 : σ[0]? = some (some (.ref a))) (ha : H a = some (excO a (.ref (He.ga K x)) none)) {Q : List V → Hp → Prop}
    (q : ∀ zs H', Grow [] H H' → KsAt H' zs → zs.map Prod.snd = names.map (fun y => (y, decide (y = x))) → Q (zs.map fun z => V.ref z.1) H') : tKinds K (ksOf K names) σ H Q := by
  refine kinds_go (b := fun p => decide (p.1 = x)) XO.is e0 (ksOf K names) H Q ha (fun p hp => ?_) fun zs H' g k m => q zs H' g k ?_
  · obtain ⟨y, hy, rfl⟩ := List.mem_map.mp hp
    exact XO.kit y (hs y hy)
  · rw [m, ksOf, List.map_map]
    rfl
theorem ks_first (XO : XOne K excNames x) {o0 o1 o2 o3 o4 : Option V} (names : List Str) (hs : ∀ y ∈ names, y ∈ excNames) (hl : names.length ≤ 30) (e0 : o0 = some (.ref a)) (ha : H a = some (excO a (.ref (He.ga K x)) none))
    (q : ∀ L zs H', Grow [] H H' → H' L = some (.lst (zs.map fun z => V.ref z.1)) → KsAt H' zs → zs.map Prod.snd = names.map (fun y => (y, decide (y = x))) → R D [o0, some (.ref L), o2, o3, o4] H') :
    tSeq (tAsg (tLst (tKinds K (ksOf K names))) (gName 1)) R D [o0, o1, o2, o3, o4] H := by
  refine ks_go (σ := [o0, o1, o2, o3, o4]) XO names hs (by rw [e0]; rfl) ha fun zs H' g k m => ?_
  have l : zs.length = names.length := by rw [← List.length_map (f := Prod.snd) (as := zs), m, List.length_map]
  refine ⟨by rw [List.length_map]; unfold sizeLine; omega, fun L nL => ?_⟩
  exact q L zs _ (g.trans (grow_new nL)) upd_same (k.grow (grow_new nL)) m
theorem ks_cat (XO : XOne K excNames x) {old : List Str} {L : Addr} {zs : List (Addr × (Str × Bool))} (names : List Str) (hs : ∀ y ∈ names, y ∈ excNames) (hl : old.length + names.length ≤ 30) (e0 : σ[0]? = some (some (.ref a))) (e1 : σ[1]? = some (some (.ref L)))
    (ha : H a = some (excO a (.ref (He.ga K x)) none)) (eL : H L = some (.lst (zs.map fun z => V.ref z.1))) (k0 : KsAt H zs) (m0 : zs.map Prod.snd = old.map (fun y => (y, decide (y = x)))) {Q : VK}
    (q : ∀ L' zs' H', Grow [] H H' → H' L' = some (.lst (zs'.map fun z => V.ref z.1)) → KsAt H' zs' → zs'.map Prod.snd = (old ++ names).map (fun y => (y, decide (y = x))) → Q (.ref L') H') :
    tOp rCat (tVar 1) (tLst (tKinds K (ksOf K names))) σ H Q := by
  refine ⟨.ref L, e1, ?_⟩
  refine ks_go XO names hs e0 ha fun zs1 H1 g1 k1 m1 => ?_
  have l0 : zs.length = old.length := by rw [← List.length_map (f := Prod.snd) (as := zs), m0, List.length_map]
  have l : zs1.length = names.length := by rw [← List.length_map (f := Prod.snd) (as := zs1), m1, List.length_map]
  refine ⟨by rw [List.length_map]; unfold sizeLine; omega, fun b nb => ?_⟩
  have g2 : Grow [] H1 (upd H1 b (.lst (zs1.map fun z => V.ref z.1))) := grow_new nb
  have eb : upd H1 b (.lst (zs1.map fun z => V.ref z.1)) b = some (.lst (zs1.map fun z => V.ref z.1)) := upd_same
  generalize upd H1 b (.lst (zs1.map fun z => V.ref z.1)) = H2 at g2 eb ⊢
  refine ⟨L, b, _, _, rfl, rfl, (g1.trans g2).lst (by simp) eL, eb, by rw [List.length_map, List.length_map]; unfold sizeLine; omega, fun p np => ?_⟩
  have g3 : Grow [] H2 (upd H2 p (.lst ((zs.map fun z => V.ref z.1) ++ zs1.map fun z => V.ref z.1))) := grow_new np
  refine q p (zs ++ zs1) _ ((g1.trans g2).trans g3) (by rw [List.map_append]; exact upd_same) (fun z hz => ?_) (by rw [List.map_append, List.map_append, m0, m1])
  rcases List.mem_append.mp hz with h | h
  · exact ((k0.grow g1).grow g2).grow g3 z h
  · exact (k1.grow g2).grow g3 z h
theorem ks_more (XO : XOne K excNames x) {old : List Str} {L : Addr} {zs : List (Addr × (Str × Bool))} {o0 o2 o3 o4 : Option V} (names : List Str) (hs : ∀ y ∈ names, y ∈ excNames) (hl : old.length + names.length ≤ 30) (e0 : o0 = some (.ref a))
    (ha : H a = some (excO a (.ref (He.ga K x)) none)) (eL : H L = some (.lst (zs.map fun z => V.ref z.1))) (k0 : KsAt H zs) (m0 : zs.map Prod.snd = old.map (fun y => (y, decide (y = x))))
    (q : ∀ L' zs' H', Grow [] H H' → H' L' = some (.lst (zs'.map fun z => V.ref z.1)) → KsAt H' zs' → zs'.map Prod.snd = (old ++ names).map (fun y => (y, decide (y = x))) → R D [o0, some (.ref L'), o2, o3, o4] H') :
    tSeq (tAsg (tOp rCat (tVar 1) (tLst (tKinds K (ksOf K names)))) (gName 1)) R D [o0, some (.ref L), o2, o3, o4] H :=
  ks_cat (σ := [o0, some (.ref L), o2, o3, o4]) XO names hs hl (by rw [e0]; rfl) rfl ha eL k0 m0 q
end
end Gx
namespace Gx
open PySem PySem.Spec PyProof.Rows L2 GxR GenW
theorem filter_one {α : Type} [DecidableEq α] {x : α} : ∀ {l : List α}, l.Nodup → x ∈ l → (l.filter fun y => decide (y = x)) = [x]
  | y :: l, nd, h => by
    obtain ⟨h1, h2⟩ := List.nodup_cons.mp nd
    by_cases e : y = x
    · subst e
      rw [List.filter_cons_of_pos (by simp), List.filter_eq_nil_iff.mpr]
      intro z hz
      simp only [decide_eq_true_eq]
      exact fun q => h1 (q ▸ hz)
    · rw [List.filter_cons_of_neg (by simpa using e)]
      rcases List.mem_cons.mp h with q | q
      · exact absurd q.symm e
      · exact filter_one h2 q
theorem exc_nd : excNames.Nodup := by unfold excNames; decide +kernel
end Gx
namespace Gx
open PySem PySem.Spec PyProof.Rows L2 GxR GenW
section
variable {sb : Bool} {g : TG} {te : TE} {vs : List Nat} {σ : L2.St} {Q : VK} {P : Addr} {H1 : Hp}
theorem truth_tup {K : PySem.W.Frag} {a : Addr} {xs : List V} (Pv : Nat → Hp → Prop) (h0 : ∀ H2, Tabbed P H1 H2 → Pv 0 H2) (hl : ∀ i H, Pv i H → SqT K H a xs)
    (step : ∀ i x H, xs[i]? = some x → Pv i H → g x (wipe σ vs) H fun σ2 H2 => wipe σ2 vs = wipe σ vs ∧ te σ2 H2 fun y H4 => ∃ b, y = .bl b ∧ if b = sb then Q (.bl sb) H4 else Pv (i + 1) H4)
    (fin : ∀ H, Pv xs.length H → Q (.bl (!sb)) H) : rTruth P sb g te vs σ Q (Itt K a) H1 :=
  truth_by (items := xs) Pv h0 (fun i H x H' hp hy => ⟨hy.1, hy.2 xs (hl i H hp)⟩) (fun i H hi hp => ⟨xs, xs[i], hl i H hp, List.getElem?_eq_getElem hi⟩) (fun H hp => ⟨xs, hl _ H hp, Nat.le_refl _⟩) step fin
end
end Gx
namespace Gx
open PySem PySem.Spec PyProof.Rows L2 GxR GenW
theorem Grow.sqt {K : PySem.W.Frag} {H H' : Hp} (g : Grow [] H H') {p : Addr} {xs : List V} (h : SqT K H p xs) : SqT K H' p xs := by
  rcases h with (h | ⟨o, h⟩) | h
  · exact .inl (.inl (g.tup (by simp) h))
  · exact .inl (.inr ⟨o, g.keep p _ (by simp) h fun ps z => by cases z⟩)
  · exact .inr h
end Gx

/-! ### data of any shape: lists, tuples, dicts at any depth; none of its objects among ex -/
namespace Gx
open PySem PySem.Spec PyProof.Rows L2 GxR GenW
theorem Grow.sqx {K : PySem.W.Frag} {ex : List Addr} {H H' : Hp} (g : Grow ex H H') {p : Addr} {xs : List V} (n : p ∉ ex) (h : SqT K H p xs) : SqT K H' p xs := by
  rcases h with (h | ⟨o, h⟩) | h
  · exact .inl (.inl (g.tup n h))
  · exact .inl (.inr ⟨o, g.keep p _ n h fun ps z => by cases z⟩)
  · exact .inr h
mutual
inductive Db (K : PySem.W.Frag) (ex : List Addr) (H : Hp) : V → PyData → Prop
  | non : Db K ex H .non .none
  | bl (b : Bool) : Db K ex H (.bl b) (.bool b)
  | int (i : Int) : Db K ex H (.int i) (.int i)
  | str (x : Str) : Db K ex H (.str x) (.str x)
  | lst {a : Addr} {xs : List V} {ds : List PyData} : a ∉ ex → H a = some (.lst xs) → Dbs K ex H xs ds → Db K ex H (.ref a) (.list ds)
  | tup {a : Addr} {xs : List V} {ds : List PyData} : a ∉ ex → SqT K H a xs → Dbs K ex H xs ds → Db K ex H (.ref a) (.tuple ds)
  | dic {a : Addr} {kvs : List (Key × V)} {ps : List (PyData × PyData)} : a ∉ ex → H a = some (.dK kvs) → Dbk K ex H kvs ps → Db K ex H (.ref a) (.dict ps)
inductive Dbs (K : PySem.W.Frag) (ex : List Addr) (H : Hp) : List V → List PyData → Prop
  | nil : Dbs K ex H [] []
  | cons {v : V} {d : PyData} {vs : List V} {ds : List PyData} : Db K ex H v d → Dbs K ex H vs ds → Dbs K ex H (v :: vs) (d :: ds)
inductive Dbk (K : PySem.W.Frag) (ex : List Addr) (H : Hp) : List (Key × V) → List (PyData × PyData) → Prop
  | nil : Dbk K ex H [] []
  | cons {k : Key} {v : V} {d : PyData} {r : List (Key × V)} {t : List (PyData × PyData)} : Db K ex H v d → d.hasDict = false → Dbk K ex H r t → Dbk K ex H ((k, v) :: r) ((keyD k, d) :: t)
end
section
variable {K : PySem.W.Frag} {ex : List Addr} {H H' : Hp}
mutual
theorem Db.grow (g : Grow ex H H') : ∀ {v : V} {d : PyData}, Db K ex H v d → Db K ex H' v d
  | _, _, .non => .non
  | _, _, .bl b => .bl b
  | _, _, .int i => .int i
  | _, _, .str x => .str x
  | _, _, .lst n e h => .lst n (g.lst n e) (Dbs.grow g h)
  | _, _, .tup n e h => .tup n (g.sqx n e) (Dbs.grow g h)
  | _, _, .dic n e h => .dic n (g.keep _ _ n e fun ps z => by cases z) (Dbk.grow g h)
theorem Dbs.grow (g : Grow ex H H') : ∀ {vs : List V} {ds : List PyData}, Dbs K ex H vs ds → Dbs K ex H' vs ds
  | _, _, .nil => .nil
  | _, _, .cons h t => .cons (Db.grow g h) (Dbs.grow g t)
theorem Dbk.grow (g : Grow ex H H') : ∀ {vs : List (Key × V)} {ds : List (PyData × PyData)}, Dbk K ex H vs ds → Dbk K ex H' vs ds
  | _, _, .nil => .nil
  | _, _, .cons h n t => .cons (Db.grow g h) n (Dbk.grow g t)
end
mutual
/-- without dicts: data as the library tells it -/
theorem Db.dp : ∀ {v : V} {d : PyData}, Db K ex H v d → d.hasDict = false → Dp K H v d
  | _, _, .non, _ => .non
  | _, _, .bl b, _ => .bl b
  | _, _, .int i, _ => .int i
  | _, _, .str x, _ => .str x
  | _, _, .lst n e h, q => .lst (.inl (.inl e)) (Dbs.dp h (by rwa [PyData.hasDict] at q))
  | _, _, .tup n e h, q => .tup e (Dbs.dp h (by rwa [PyData.hasDict] at q))
  | _, _, .dic n e h, q => by rw [PyData.hasDict] at q; cases q
theorem Dbs.dp : ∀ {vs : List V} {ds : List PyData}, Dbs K ex H vs ds → PyData.hasDictAll ds = false → DpAll K H vs ds
  | _, _, .nil, _ => .nil
  | _, _, .cons h t, q => by
    rw [PyData.hasDictAll, Bool.or_eq_false_iff] at q
    exact .cons (Db.dp h q.1) (Dbs.dp t q.2)
end
def tyD : PyData → String
  | .none => "NoneType"
  | .bool _ => "bool"
  | .int _ => "int"
  | .str _ => "str"
  | .list _ => "list"
  | .tuple _ => "tuple"
  | .dict _ => "dict"
theorem Db.ty {v : V} {d : PyData} (h : Db K ex H v d) : TyB K H v (tyD d) := by
  cases h with
  | non => exact .non
  | bl b => exact .bl b
  | int i => exact .int i
  | str x => exact .str x
  | lst n e h => exact .lst (.inl (.inl e))
  | tup n e h => exact .tup e
  | dic n e h => exact .dK e
theorem Db.tx {v : V} {d : PyData} (h : Db K ex H v d) : TyX K H v (.type (tyD d)) := by
  cases h with
  | non => exact .base .non
  | bl b => exact .base (.bl b)
  | int i => exact .base (.int i)
  | str x => exact .base (.str x)
  | lst n e h => exact .base (.lst e)
  | tup n e h =>
    rcases e with (e | ⟨o, e⟩) | ⟨o, its, m, e, c, _⟩
    · exact .base (.tup e)
    · exact .fTuple e
    · exact .kTuple e c
  | dic n e h => exact .base (.dK e)
theorem Dbs.len : ∀ {vs : List V} {ds : List PyData}, Dbs K ex H vs ds → vs.length = ds.length
  | _, _, .nil => rfl
  | _, _, .cons _ t => congrArg (· + 1) (Dbs.len t)
theorem Dbs.get : ∀ {vs : List V} {ds : List PyData} {i : Nat} {v : V}, Dbs K ex H vs ds → vs[i]? = some v → ∃ d, ds[i]? = some d ∧ Db K ex H v d
  | _, _, 0, _, .cons h _, e => by
    cases e
    exact ⟨_, rfl, h⟩
  | _, _, i + 1, _, .cons _ t, e => Dbs.get (i := i) t e
theorem Dbs.app : ∀ {vs ws : List V} {ds es : List PyData}, Dbs K ex H vs ds → Dbs K ex H ws es → Dbs K ex H (vs ++ ws) (ds ++ es)
  | _, _, _, _, .nil, q => q
  | _, _, _, _, .cons h t, q => .cons h (t.app q)
theorem Dbs.take : ∀ {vs : List V} {ds : List PyData} (n : Nat), Dbs K ex H vs ds → Dbs K ex H (vs.take n) (ds.take n)
  | _, _, 0, _ => by rw [List.take_zero, List.take_zero]; exact .nil
  | _, _, n + 1, .nil => by rw [List.take_nil, List.take_nil]; exact .nil
  | _, _, n + 1, .cons h t => .cons h (Dbs.take n t)
theorem Dbs.drop : ∀ {vs : List V} {ds : List PyData} (n : Nat), Dbs K ex H vs ds → Dbs K ex H (vs.drop n) (ds.drop n)
  | _, _, 0, h => by rw [List.drop_zero, List.drop_zero]; exact h
  | _, _, n + 1, .nil => by rw [List.drop_nil, List.drop_nil]; exact .nil
  | _, _, n + 1, .cons h t => Dbs.drop n t
theorem Dbs.rev : ∀ {vs : List V} {ds : List PyData}, Dbs K ex H vs ds → Dbs K ex H vs.reverse ds.reverse
  | _, _, .nil => .nil
  | _, _, .cons h t => by
    rw [List.reverse_cons, List.reverse_cons]
    exact t.rev.app (.cons h .nil)
theorem Dbs.set : ∀ {vs : List V} {ds : List PyData} {v : V} {d : PyData} (n : Nat), Dbs K ex H vs ds → Db K ex H v d → Dbs K ex H (vs.set n v) (ds.set n d)
  | _, _, _, _, _, .nil, _ => .nil
  | _, _, _, _, 0, .cons _ t, h => .cons h t
  | _, _, _, _, n + 1, .cons h t, q => .cons h (Dbs.set n t q)
theorem Dbs.strs : ∀ (zs : List Str), Dbs K ex H (zs.map V.str) (zs.map PyData.str)
  | [] => .nil
  | z :: r => .cons (.str z) (Dbs.strs r)
theorem Db.str_inv {v : V} {z : Str} (h : Db K ex H v (.str z)) : v = .str z := by
  cases h
  rfl
theorem Dbs.strs_inv : ∀ {zs : List Str} {vs : List V}, Dbs K ex H vs (zs.map PyData.str) → vs = zs.map V.str
  | [], _, h => by cases h; rfl
  | z :: r, _, h => by
    cases h with
    | cons h t => rw [h.str_inv, Dbs.strs_inv t]; rfl
theorem Dbs.of_strs : ∀ {zs : List Str} {ds : List PyData}, Dbs K ex H (zs.map V.str) ds → ds = zs.map PyData.str
  | [], _, h => by cases h; rfl
  | z :: r, _, h => by
    cases h with
    | cons h t =>
      rw [Dbs.of_strs t]
      cases h
      rfl
end
/-! ### shown -/
section
variable {X : Cx} {ex : List Addr} {pins : List (Addr × Obj)} {σ : L2.St} {H : Hp} {s : Shared}
theorem Dbk.read (I : L2.Inv X pins σ H s) : ∀ {kvs : List (Key × V)} {vs : List (Key × Value)} {ps : List (PyData × PyData)}, Dbk X.K ex H kvs ps → KV kvs vs → ∃ bs, PyProof.V.PairsRead s.heap keyD vs ps bs
  | _, _, _, .nil, r => by
    cases r
    exact ⟨[], .nil⟩
  | (k, v) :: q, _, _, .cons h n t, r => by
    cases r with
    | @cons _ b _ bs r2 t2 =>
      obtain ⟨k2, u⟩ := b
      obtain ⟨e, ru⟩ := r2
      have e : k = k2 := e
      subst e
      obtain ⟨as, rd⟩ := Dp.reads I _ v u (h.dp n) ru
      obtain ⟨bs, pb⟩ := Dbk.read I t t2
      exact ⟨_, .cons rd pb⟩
theorem Dbk.plain {K : PySem.W.Frag} : ∀ {kvs : List (Key × V)} {ps : List (PyData × PyData)}, Dbk K ex H kvs ps → PyData.hasDictAll (ps.map (·.1)) = false ∧ PyData.hasDictAll (ps.map (·.2)) = false
  | _, _, .nil => ⟨rfl, rfl⟩
  | _, _, .cons (k := k) (d := d) (t := t) h n r => by
    obtain ⟨h1, h2⟩ := Dbk.plain r
    refine ⟨?_, ?_⟩
    · show PyData.hasDictAll (keyD k :: t.map (·.1)) = false
      rw [PyData.hasDictAll, h1]
      cases k <;> rfl
    · show PyData.hasDictAll (d :: t.map (·.2)) = false
      rw [PyData.hasDictAll, h2, n]
      rfl
theorem key_reads {h : Heap} : ∀ (k : Key) (key : Value), (mixKind X.prog X.w).is k key = true → Reads h key (keyD k) [] := fun k key hk => by
  rcases keyIs_shape hk with ⟨i, t, rfl, rfl⟩ | ⟨x, t, rfl, rfl⟩
  · exact Reads.int i t
  · exact Reads.str x t
mutual
theorem Db.shows (I : L2.Inv X pins σ H s) : ∀ {v : V} {u : Value} {d : PyData}, Db X.K ex H v d → RelV v u → d.showable = true → d.shown.length ≤ sizeLine →
    ∃ as bs, Reads s.heap u d as ∧ ReadAtMost s.heap d.depth bs ∧ ReprK X.prog X.w bs s.heap d.depth u d.shown
  | _, _, _, .non, r, hs, hz => (Di.p .non rfl).shows I r hs hz
  | _, _, _, .bl b, r, hs, hz => (Di.p (.bl b) rfl).shows I r hs hz
  | _, _, _, .int i, r, hs, hz => (Di.p (.int i) rfl).shows I r hs hz
  | _, _, _, .str x, r, hs, hz => (Di.p (.str x) rfl).shows I r hs hz
  | _, u, _, .lst (a := a) (xs := xs) (ds := ds) na e h, r, hs, hz => by
    cases r
    obtain ⟨z, its, n, ri, hl, e1⟩ := I.lstM e
    have hz2 : (listText (PyData.shownAll ds)).length ≤ sizeLine := by simpa only [PyData.shown] using hz
    obtain ⟨as, bs, a1, a2, a3⟩ := Dbs.shows I h ri (by rwa [PyData.showable] at hs) fun t ht => Nat.le_trans (listText_mem_le ht) hz2
    have rd : Reads s.heap (.ref a) (.list ds) (a :: as) := Reads.list e1 rfl rfl (by simpa using a1)
    have hna : a ∉ bs := not_mem_of_deeper rd (by simp only [PyData.depth]; omega) a2
    refine ⟨_, a :: bs, rd, ReadAtMost.cons rd (Nat.le_refl _) (a2.mono (by rw [PyData.depth]; omega)), ?_⟩
    cases ri with
    | nil =>
      cases h
      simp only [PyData.shown, PyData.shownAll]
      exact ReprK.listEmpty e1 rfl rfl
    | @cons _ y _ ys r1 r2 =>
      rw [PyData.depth]
      have : (PyData.list ds).shown = listText (PyData.shownAll ds) := by simp only [PyData.shown]
      rw [this]
      exact ReprK.list e1 rfl rfl hna (by simpa using a3.length_eq) (fun i y e => a3.item i y (by simpa using e))
  | _, u, _, .tup (a := a) (xs := xs) (ds := ds) na e h, r, hs, hz => by
    cases r
    obtain ⟨its, ri, ⟨o, ho, hc, n, hdat⟩, hl⟩ := I.tuple e
    have hz2 : (tupleText (PyData.shownAll ds)).length ≤ sizeLine := by simpa only [PyData.shown] using hz
    obtain ⟨as, bs, a1, a2, a3⟩ := Dbs.shows I h ri (by rwa [PyData.showable] at hs) fun t ht => Nat.le_trans (tupleText_mem_le ht) hz2
    have rd : Reads s.heap (.ref a) (.tuple ds) as := Reads.tuple ho hc hdat (by simpa using a1)
    have hna : a ∉ bs := not_mem_of_deeper rd (by simp only [PyData.depth]; omega) a2
    refine ⟨_, a :: bs, rd, ReadAtMost.cons rd (Nat.le_refl _) (a2.mono (by rw [PyData.depth]; omega)), ?_⟩
    rw [PyData.depth]
    have : (PyData.tuple ds).shown = tupleText (PyData.shownAll ds) := by simp only [PyData.shown]
    rw [this]
    exact ReprK.tuple ho hc hdat hna (by simpa using a3)
  | _, u, _, .dic (a := a) (kvs := kvs) (ps := ps) na e h, r, hs, hz => by
    cases r
    obtain ⟨_, lo, vs, rel, dd⟩ := dk_of I.hok e
    obtain ⟨bs, pr⟩ := Dbk.read I h rel
    obtain ⟨n1, n2⟩ := h.plain
    exact dict_sq lo dd (fun k key hk => key_reads (X := X) k key hk) pr n1 n2 hs hz
theorem Dbs.shows (I : L2.Inv X pins σ H s) : ∀ {vs : List V} {us : List Value} {ds : List PyData}, Dbs X.K ex H vs ds → Vals vs us → PyData.showableAll ds = true → (∀ t ∈ PyData.shownAll ds, t.length ≤ sizeLine) →
    ∃ as bs, ReadsAll s.heap us ds as ∧ ReadAtMost s.heap (PyData.depthAll ds) bs ∧ ReprAllK X.prog X.w bs s.heap (PyData.depthAll ds) us (PyData.shownAll ds)
  | _, _, _, .nil, r, _, _ => by
    cases r
    exact ⟨[], [], .nil, (fun _ h => nomatch h), by simp only [PyData.shownAll]; exact .nil⟩
  | _, _, _, .cons (d := d) (ds := ds) h t, r, hs, hz => by
    cases r with
    | cons r1 r2 =>
      rw [PyData.showableAll, Bool.and_eq_true] at hs
      obtain ⟨as, bs, a1, a2, a3⟩ := Db.shows I h r1 hs.1 (hz _ (by rw [PyData.shownAll]; exact List.mem_cons_self))
      obtain ⟨cs, ds', b1, b2, b3⟩ := Dbs.shows I t r2 hs.2 fun t ht => hz t (by rw [PyData.shownAll]; exact List.mem_cons_of_mem _ ht)
      refine ⟨_, bs ++ ds', .cons a1 b1, (a2.mono ?_).append (b2.mono ?_), ?_⟩
      · rw [PyData.depthAll]
        exact Nat.le_max_left _ _
      · rw [PyData.depthAll]
        exact Nat.le_max_right _ _
      · rw [PyData.shownAll, PyData.depthAll]
        exact .cons ((a3.more fun b hb => List.mem_append_left _ hb).level_le (Nat.le_max_left _ _)) (b3.more_le (fun b hb => List.mem_append_right _ hb) (Nat.le_max_right _ _))
end
end
section
variable {X : Cx}
def rReprA (K : PySem.W.Frag) : List V → Hp → VK → Prop := fun xs H Q => ∃ (ex : List Addr) (v : V) (d : PyData), xs = [v] ∧ Db K ex H v d ∧ d.showable = true ∧ d.depth ≤ 60 ∧ d.shown.length ≤ sizeLine ∧ Q (.str d.shown) H
theorem cr_reprA (g : X.A.guards = some []) (hu : X.A.units + 64 < cLine) : CallR X (.builtin "repr") (rReprA X.K) := by
  intro pins s σ H xs us Q I r h
  obtain ⟨ex, v, d, rfl, hD, hs, hd, hz, q⟩ := h
  have leaf : d.hasDict = false → wpAny (model X.prog X.w) X.A (call (.builtin "repr") us) (EP X pins σ Q) X.xe s := fun n =>
    cr_repr g hu pins s σ H _ us Q I r ⟨v, d, rfl, hD.dp n, hs, n, hd, hz, q⟩
  cases hD with
  | non => exact leaf rfl
  | bl b => exact leaf rfl
  | int i => exact leaf rfl
  | str x => exact leaf rfl
  | @lst a xs ds na e h =>
    cases h with
    | nil => exact leaf rfl
    | @cons v0 d0 vs0 ds0 h0 t0 =>
      refine cr_reprQ g hu pins s σ H _ us Q I r ⟨a, v0, vs0, d0 :: ds0, rfl, e, ?_, by rwa [PyData.showable] at hs, ?_, hz, q⟩
      · have go : ∀ {vs : List V} {ds : List PyData}, Dbs X.K ex H vs ds → Paired (Sq X.K H) vs ds := fun h => by
          have : ∀ (n : Nat) {vs : List V} {ds : List PyData}, vs.length = n → Dbs X.K ex H vs ds → Paired (Sq X.K H) vs ds := fun n => by
            induction n with
            | zero =>
              intro vs ds l h
              cases h with
              | nil => exact .nil
              | cons _ _ => cases l
            | succ n ih =>
              intro vs ds l h
              cases h with
              | nil => cases l
              | cons h t =>
                refine .cons ?_ (ih (Nat.succ.inj l) t)
                rintro X2 pins2 σ2 s2 u2 e2 I2 r2 hs2 hz2
                subst_vars
                rw [← e2] at h
                exact h.shows I2 r2 hs2 hz2
          exact this _ rfl h
        exact go (.cons h0 t0)
      · rw [PyData.depth] at hd
        omega
  | @tup a xs ds na e h =>
    rw [Vals.ref1 r]
    obtain ⟨its, ri, ⟨o, ho, hc, n, hdat⟩, hl⟩ := I.tuple e
    have e0 : (PyData.tuple ds).shown = tupleText (PyData.shownAll ds) := by rw [PyData.shown]
    have hz2 : (tupleText (PyData.shownAll ds)).length ≤ sizeLine := by rw [← e0]; exact hz
    obtain ⟨as, bs, a1, a2, a3⟩ := h.shows I ri (by rwa [PyData.showable] at hs) fun t ht => Nat.le_trans (tupleText_mem_le ht) hz2
    have rd : Reads s.heap (.ref a) (.tuple ds) as := Reads.tuple ho hc hdat (by simpa using a1)
    have hna : a ∉ bs := not_mem_of_deeper rd (by simp only [PyData.depth]; omega) a2
    have hd2 : PyData.depthAll ds + 1 ≤ 60 := by rw [PyData.depth] at hd; omega
    refine call_repr_slot (T := "tuple") (by omega) ⟨_, ho, hc⟩ F.slot_tuple_repr ?_
    refine call_tuple_reprK ho hc hdat hna (by simpa using a3) g (fun b _ => Clear.nil b) (by show X.A.units + 1 + (_ + 1) < cLine; omega) (fun _ _ e => e) (fun h' u tk hk => ?_) hz2
    refine ⟨_, _, rfl, .str _, H, I.kept hk, ⟨_, rfl⟩, ?_⟩
    rw [e0] at q
    exact q
  | @dic a kvs ps na e h =>
    rw [Vals.ref1 r]
    obtain ⟨_, lo, vs, rel, o, es, ep, ho, hx, hdat, c1, hp, c2⟩ := dk_of I.hok e
    obtain ⟨bs0, pr⟩ := Dbk.read I h rel
    obtain ⟨n1, n2⟩ := h.plain
    obtain ⟨r1, r2⟩ := PyProof.V.readsAll_of_pairs (fun k key hk => key_reads (X := X) k key hk) hp pr
    have rd : Reads s.heap (.ref a) (.dict ps) _ := Reads.dict ho hx.1 hdat r1 r2
    have e2 : (PyData.dict ps).shown = dictText (PyData.shownKv ps) := by rw [PyData.shown]
    have big : (dictText (PyData.shownKv ps)).length ≤ sizeLine := by rw [← e2]; exact hz
    obtain ⟨s1, s2⟩ := PyData.showableKv_split ps (by rwa [PyData.showable] at hs)
    obtain ⟨b1, m1, k1⟩ := ReprAllK.of_readsAll (prog := X.prog) (w := X.w) r1 s1 (fun q => by rw [n1] at q; cases q) (fun t ht => by
      obtain ⟨q, hq, l⟩ := PyData.shownKv_key_le _ t ht
      exact Nat.le_trans (Nat.le_trans l (dictText_mem_le hq)) big)
    obtain ⟨b2, m2, k2⟩ := ReprAllK.of_readsAll (prog := X.prog) (w := X.w) r2 s2 (fun q => by rw [n2] at q; cases q) (fun t ht => by
      obtain ⟨q, hq, l⟩ := PyData.shownKv_val_le _ t ht
      exact Nat.le_trans (Nat.le_trans l (dictText_mem_le hq)) big)
    have dd : (PyData.dict ps).depth = PyData.depthKv ps + 1 := by rw [PyData.depth]
    have both : ReadAtMost s.heap (PyData.depthKv ps) (b1 ++ b2) := (m1.mono (PyData.depthAll_keys_le _)).append (m2.mono (PyData.depthAll_vals_le _))
    have out : a ∉ b1 ++ b2 := not_mem_of_deeper rd (by rw [dd]; omega) both
    refine call_repr_slot (T := "dict") (by omega) ⟨o, ho, hx.1⟩ F.slot_dict_repr ?_
    refine call_dict_reprK ho hx.1 hdat lo out (ReprEntriesK.of_two es.toList _ _ (k1.more_le (fun b hb => List.mem_append_left b2 hb) (PyData.depthAll_keys_le _)) (k2.more_le (fun b hb => List.mem_append_right b1 hb) (PyData.depthAll_vals_le _))) g (fun b _ => Clear.nil b) (by show X.A.units + 1 + (_ + 1) < cLine; omega) (fun _ _ e => e) (fun h' u tk hk => ?_) (by rw [← PyData.shownKv_eq]; exact big)
    refine ⟨_, _, rfl, .str _, H, I.kept hk, ⟨_, rfl⟩, ?_⟩
    rw [e2, PyData.shownKv_eq] at q
    exact q
end
/-! ### list.count of a text among anything; of data among data -/
theorem dict_eq_declines_str (l : Addr) (o : Obj) (c : o.cls = .type "dict") (b : Str) (u : Tok) :
    Meets (Builtin.«dict.__eq__» ⟨[.ref l, .str b u], []⟩) (fun _ R s => s.heap.get? l = some o ∧ R (.ok (.ret .notImplemented)) s) :=
  .of_wp fun prog w A R s h => by obtain ⟨hp, g, d, tk, os⟩ := s; obtain ⟨hl, h⟩ := h; have f1 := F.sub_str_dict; wp_walk using wpAny_load hl; exact ⟨_, rfl, h⟩
theorem str_eq_declines_dict (b : Str) (u : Tok) (l : Addr) (c : Value) (es : Array DictEntry) (n : Nat) (dd : Option Addr) (sl : Array (Option Value)) :
    Meets (Builtin.«str.__eq__» ⟨[.str b u, .ref l], []⟩) (fun _ R s => s.heap.get? l = some { cls := c, dict := dd, data := .dict es n, slots := sl } ∧ R (.ok (.ret .notImplemented)) s) :=
  .of_wp fun prog w A R s h => by obtain ⟨hp, g, d, tk, os⟩ := s; obtain ⟨hl, h⟩ := h; wp_walk using wpAny_load hl; exact ⟨_, rfl, h⟩
theorem EqAt.dict_str {A : Around} {s : Shared} {l : Addr} {o : Obj} {es : Array DictEntry} {n : Nat} (b : Str) (u : Tok) (ho : s.heap.get? l = some o) (hc : o.cls = .type "dict") (hd : o.data = .dict es n) (hu : A.units < cLine) : SeqAt.EqAt A s (.ref l) (.str b u) false := fun prog w E Q h => by
  unfold eqBool
  refine wpAny_holding ?_
  refine wpAny_ite_split (fun hab => absurd (eq_of_beq hab) nofun) (fun _ => ?_)
  refine wpAny_bind ?_
  obtain ⟨cls, dd, data, sl⟩ := o
  simp only at hc hd
  subst hc hd
  exact SeqAt.rc_eq_decline_or (k := false) ⟨_, ho, rfl⟩ (typeIs_str s b u) (by decide) F.sub_str_dict F.slot_dict_eq F.slot_str_eq_refl
    (fun _ hq => call_meets F.slot_dict_eq ⟨_, ho, rfl⟩ F.entry_dict_eq (F.args_dict_eq_2 _ _) (dict_eq_declines_str l _ rfl b u) ⟨ho, hq⟩)
    (fun _ hq => call_meets F.slot_str_eq_refl (typeIs_str s b u) F.entry_str_eq (F.args_str_eq_2 _ _) (str_eq_declines_dict b u l (.type "dict") es n dd sl) ⟨ho, hq⟩)
    (fun _ hq => wpAny_of_eq (rfl : isSame (.ref l) (.str b u) = pure false) hq) (.inr hu) (wpAny_truthy_bool h)
section
variable {X : Cx}
def isZ (z : Str) : V → Bool
  | .str y => y == z
  | _ => false
theorem db_eqAt {ex : List Addr} {pins : List (Addr × Obj)} {σ : L2.St} {H : Hp} {s : Shared} (A : Around) (hu : A.units + 8 < cLine) (I : L2.Inv X pins σ H s) {v : V} {d : PyData} {y : Value} (h : Db X.K ex H v d) (r : RelV v y) (z : Str) (t : Tok) : SeqAt.EqAt A s y (.str z t) (isStrOf z y) := by
  have flat : ∀ x : V, flatV v = true → SeqAt.EqAt A s y (.str z t) (eqV v (.str z)) := fun _ f => eqAt_V r (show RelV (.str z) (.str z t) from ⟨t, rfl⟩) f rfl
  cases h with
  | non => cases (show y = .none from r); exact flat .non rfl
  | bl b => cases (show y = .bool b from r); exact flat .non rfl
  | int i => obtain ⟨t2, rfl⟩ := (show ∃ t, y = .int i t from r); exact flat .non rfl
  | str x => obtain ⟨t2, rfl⟩ := (show ∃ t, y = .str x t from r); exact SeqAt.EqAt.str_str x t2 z t
  | lst n e h =>
    cases (show y = .ref _ from r)
    obtain ⟨_, its, m, ri, hl, e1⟩ := I.lstM e
    exact SeqAt.EqAt.list_str z t ⟨_, e1, rfl, _, rfl⟩ (by omega)
  | tup n e h =>
    cases (show y = .ref _ from r)
    obtain ⟨its, ri, it, hl⟩ := I.tuple e
    exact SeqAt.EqAt.tuple_str z t it (by omega)
  | dic n e h =>
    cases (show y = .ref _ from r)
    obtain ⟨_, lo, vs, rel, o, es, ep, ho, hx, hdat, _⟩ := dk_of I.hok e
    exact EqAt.dict_str z t ho hx.1 hdat (by omega)
theorem isStrOf_V {v : V} {y : Value} (r : RelV v y) (z : Str) : isStrOf z y = isZ z v := by
  cases v with
  | str x => obtain ⟨t2, rfl⟩ := (show ∃ t, y = .str x t from r); rfl
  | non => cases (show y = .none from r); rfl
  | bl b => cases (show y = .bool b from r); rfl
  | int i => obtain ⟨t2, rfl⟩ := (show ∃ t, y = .int i t from r); rfl
  | ref a => cases (show y = .ref _ from r); rfl
  | byt b => obtain ⟨t2, rfl⟩ := (show ∃ t, y = .bytes b t from r); rfl
  | flt b => obtain ⟨t2, rfl⟩ := (show ∃ t, y = .float b t from r); rfl
  | ty n => cases (show y = .type n from r); rfl
theorem count_isZ {z : Str} : ∀ {xs : List V} {us : List Value}, Vals xs us → us.countP (isStrOf z) = xs.countP (isZ z)
  | _, _, .nil => rfl
  | _, _, .cons r t => by rw [List.countP_cons, List.countP_cons, count_isZ t, isStrOf_V r]
def rCntS (K : PySem.W.Frag) : V → List V → Hp → VK → Prop := fun x ys H Q => ∃ (ex : List Addr) (p : Addr) (xs : List V) (ds : List PyData) (z : Str), x = .ref p ∧ ys = [.str z] ∧ H p = some (.lst xs) ∧ Dbs K ex H xs ds ∧ Q (.int (xs.countP (isZ z) : Nat)) H
theorem mt_countS (hu : X.A.units + 64 < cLine) : MtM X "list.count" (rCntS X.K) := by
  intro pins s σ H x xs v us Q I rx rxs h
  obtain ⟨ex, p, xs, ds, z, rfl, rfl, hp, hd, q⟩ := h
  cases rx
  obtain ⟨u, rfl, ru⟩ := rxs.one
  obtain ⟨t, rfl⟩ := ru
  obtain ⟨_, its, n, rv, hlen, ho⟩ := I.lstM hp
  refine call_meets PySem.F.slot_list_count ⟨_, ho, rfl⟩ PySem.F.entry_list_count (PySem.F.args_list_count_2 _ _)
    (SeqAt.list_countAt p its.toArray n _ _ (.str z t) (isStrOf z)) ⟨ho, fun y hy => ?_, ?_⟩
  · have hy : y ∈ its := by simpa using hy
    obtain ⟨j, hj⟩ := List.mem_iff_getElem?.mp hy
    have hl := rv.length
    have jl := (List.getElem?_eq_some_iff.mp hj).1
    obtain ⟨u2, e2, r2⟩ := rv.get (i := j) (x := xs[j]'(by omega)) (List.getElem?_eq_getElem (by omega))
    rw [hj] at e2
    cases e2
    obtain ⟨d, _, hdd⟩ := hd.get (i := j) (v := xs[j]'(by omega)) (List.getElem?_eq_getElem (by omega))
    exact db_eqAt _ (by show X.A.units + 1 + 8 < cLine; omega) I hdd r2 z t
  · refine ⟨.int _, H, I.tok _, ⟨s.toks, ?_⟩, q⟩
    show Value.int ((its.toArray.toList.countP (isStrOf z) : Nat) : Int) s.toks = _
    rw [show its.toArray.toList = its from rfl, count_isZ rv]
def rCntD (K : PySem.W.Frag) : V → List V → Hp → VK → Prop := fun x ys H Q => ∃ (p : Addr) (xs : List V) (ds : List PyData) (y : V) (d : PyData), x = .ref p ∧ ys = [y] ∧ H p = some (.lst xs) ∧ DpAll K H xs ds ∧ Dp K H y d ∧ d.depth ≤ 32 ∧ Q (.int (ds.countP (fun e => PyData.eqv e d) : Nat)) H
mutual
theorem dp_plain {K : PySem.W.Frag} {H : Hp} : ∀ {v : V} {d : PyData}, Dp K H v d → d.plain = true
  | _, _, .non => rfl
  | _, _, .bl b => rfl
  | _, _, .int i => rfl
  | _, _, .str x => rfl
  | _, _, .lst e h => by rw [PyData.plain]; exact dps_plain h
  | _, _, .tup e h => by rw [PyData.plain]; exact dps_plain h
theorem dps_plain {K : PySem.W.Frag} {H : Hp} : ∀ {vs : List V} {ds : List PyData}, DpAll K H vs ds → PyData.plainAll ds = true
  | _, _, .nil => rfl
  | _, _, .cons h t => by rw [PyData.plainAll, dp_plain h, dps_plain t]; rfl
end
theorem mt_countD (hu : X.A.units + 64 < cLine) : MtM X "list.count" (rCntD X.K) := by
  intro pins s σ H x xs v us Q I rx rxs h
  obtain ⟨p, xs, ds, y, d, rfl, rfl, hp, hd, hy, dd, q⟩ := h
  cases rx
  obtain ⟨u, rfl, ru⟩ := rxs.one
  obtain ⟨_, its, n, rv, hlen, ho⟩ := I.lstM hp
  obtain ⟨as, rs⟩ := Dp.readsAll I ds xs its hd rv
  obtain ⟨bs, r1⟩ := Dp.reads I d y u hy ru
  refine SeqAt.count_list_data ⟨_, ho, rfl, _, rfl⟩ (by simpa using rs) r1 (dps_plain hd) (dp_plain hy) ?_ ⟨.int _, H, I.tok _, ⟨s.toks, rfl⟩, q⟩
  have := Nat.min_le_right (PyData.depthAll ds) d.depth
  omega
end
end Gx

/-! ### t[::-1] of a tuple of two -/
namespace Gx
open PySem PySem.Spec PyProof.Rows L2 GxR GenW HT
section
variable {prog : Program} {w : World} {A : Around} {E : Value → Shared → Prop} {s : Shared}
theorem sliceApplied_rev2 {sl : Addr} {k : Tok} {Q : Int × Int × Nat → Shared → Prop} (hs : s.heap.IsSliceOf sl .none .none (.int (-1) k)) (h : Q (1, -1, 2) s) : wpAny (model prog w) A (Builtin.Slice.sliceApplied (.ref sl) (pure (2 : Int))) Q E s := by
  obtain ⟨os, hos, hcs, hds⟩ := id hs
  unfold Builtin.Slice.sliceApplied Builtin.Slice.sliceFields
  refine wpAny_bind (wpAny_bind (wpAny_field hos hds (x := .none) rfl (wpAny_bind (wpAny_field hos hds (x := .none) rfl (wpAny_bind (wpAny_field hos hds (x := .int (-1) k) rfl (wpAny_pure ?_)))))))
  refine wpAny_bind (slicePart_int ?_)
  show wpAny _ _ (if ((-1 : Int) == 0) = true then _ else _) _ _ s
  rw [if_neg (by decide)]
  refine wpAny_bind (slicePart_none (wpAny_bind (slicePart_none (wpAny_bind (wpAny_pure ?_)))))
  exact wpAny_pure h
theorem getItem_pair_rev {t sl : Addr} {x y : Value} {k : Tok} {Q : Value → Shared → Prop} (ht : IsTup s.heap t #[x, y]) (hs : s.heap.IsSliceOf sl .none .none (.int (-1) k))
    (h : Q (.ref s.heap.objs.size) { s with heap := s.heap.push { cls := .type "tuple", data := .seq #[y, x] } }) : wpAny (model prog w) A (getItem (.ref t) (.ref sl)) Q E s := by
  have htake : sizeOk (.seq (#[y, x] : Array Value)) := by
    show (2 : Nat) ≤ sizeLine
    decide
  obtain ⟨os, hos, hcs, hds⟩ := id hs
  have hTs : s.TypeIs (.ref sl) "slice" := ⟨os, hos, hcs⟩
  unfold getItem
  try with_reducible refine wpAny_holding ?_
  first | refine wpAny_bind (wpAny_pure ?_) | skip
  refine wpAny_bind (wpAny_sequenceKey ht.typeIs (by decide) ?_)
  refine wpAny_bind (wpAny_callSpecial?_slot (name := Str.ofString "__getitem__") ht.typeIs PyProof.Rows.slot_tuple_getitem
    (wpAny_call_entry PyProof.Rows.slot_tuple_getitem ht.typeIs entry_tuple_getitem ?_ (args_tuple_getitem _ _)))
  show wpAny _ _ (Builtin.Tuple.tupleItemsOf (.ref t) >>= _) _ _ s
  refine wpAny_bind (tupleItemsOf_ ht ?_)
  refine wpAny_bind (wpAny_typeOf hTs ?_)
  rw [if_pos (by decide)]
  refine wpAny_bind (sliceApplied_rev2 hs ?_)
  show wpAny _ _ (if ((1 : Int) == 0 && (-1 : Int) == 1 && (2 : Nat) == 2) = true then _ else _) _ _ s
  rw [if_neg (by decide)]
  have e : ((List.range 2).filterMap fun (m : Nat) => (#[x, y] : Array Value)[((1 : Int) + (m : Int) * (-1)).toNat]?).toArray = #[y, x] := rfl
  first
    | exact wpAny_bind (m := Builtin.Tuple.tupleExact _) (wpAny_newObj_type (wpAny_pure ⟨_, rfl, wpAny_pure h⟩) htake)
    | exact wpAny_bind (m := Builtin.Tuple.tupleExact _) (wpAny_newObj_type (wpAny_bind (wpAny_pure (wpAny_pure ⟨_, rfl, wpAny_pure h⟩))) htake)
    | exact wpAny_bind (wpAny_bind (m := Builtin.Tuple.tupleExact _) (wpAny_newObj_type (wpAny_pure (wpAny_pure ⟨_, rfl, wpAny_pure h⟩)) htake))
    | exact wpAny_bind (wpAny_bind (m := Builtin.Tuple.tupleExact _) (wpAny_newObj_type (wpAny_pure ⟨_, rfl, wpAny_pure h⟩) htake))
end
section
variable {X : Cx}
def tRevT (K : PySem.W.Frag) (te : TE) : TE := fun σ H Q => te σ H fun x H1 => ∃ a u v, x = .ref a ∧ SqT K H1 a [u, v] ∧ ∀ p, H1 p = none → Q (.ref p) (upd H1 p (.tup [v, u]))
theorem pe_revT {e : Expr} {te : TE} {k : Nat} {p1 p2 p3 pos : Pos} (he : PE X e te) : PE X (.Subscript e (.Slice none none (some (.UnaryOp .USub (.Constant (.int 1) k p1) p2)) p3) pos) (tRevT X.K te) := by
  refine ⟨fun pins s σ H Q I h => ?_⟩
  refine Subscript_ (thn (he.run pins s σ H _ I h) fun v s1 ⟨x, H1, I1, r1, q1⟩ => ?_)
  obtain ⟨a, u0, v0, ex, hx, q⟩ := q1
  subst ex
  cases r1
  have hst : PO X (some (.UnaryOp .USub (.Constant (.int 1) k p1) p2)) (tPart (tUn (rU fun i => .int (-i)) (tC (.int 1)))) := po_some (pe_un un_neg pe_int)
  refine wpAny_Slice (thn (po_none.run pins s1 σ H1 (fun o H2 => o = none ∧ H2 = H1) I1 ⟨rfl, rfl⟩) fun vl s2 ⟨l, H2, I2, pl, el, e2⟩ => ?_)
  subst el e2
  refine thn (po_none.run pins s2 σ H2 (fun o H3 => o = none ∧ H3 = H2) I2 ⟨rfl, rfl⟩) fun vu s3 ⟨u, H3, I3, pu, eu, e3⟩ => ?_
  subst eu e3
  refine thn (hst.run pins s3 σ H3 (fun o H4 => o = some (-1) ∧ H4 = H3) I3 ⟨1, rfl, -1, rfl, rfl, rfl⟩) fun vs s4 ⟨o, H4, I4, ps, eo, e4⟩ => ?_
  subst eo e4
  have I5 : Inv X pins σ H4 { s4 with heap := s4.heap.push { cls := .type "slice", data := .fields #[vl, vu, vs] } } := I4.kept (t' := s4.toks) fun b ob q => Heap.get?_push_of_some _ q
  obtain ⟨its, r, ht, hz⟩ := I5.tuple hx
  cases r with
  | @cons _ y1 _ ys r1 r2 =>
    cases r2 with
    | @cons _ y2 _ ys2 r2 r3 =>
      cases r3
      cases pl
      cases pu
      cases ps
      show wpAny (model X.prog X.w) X.A (subscriptTail e (.Slice none none (some (.UnaryOp .USub (.Constant (.int 1) k p1) p2)) p3) (.ref a) (.ref s4.heap.objs.size)) (EP X pins σ Q) X.xe { s4 with heap := s4.heap.push { cls := .type "slice", data := .fields #[.none, .none, .int (-1) _] } }
      refine tail_any (ops := [.ref a, .ref s4.heap.objs.size]) ht.typeIs (PyProof.Rows.slot_tuple_getitem.lookup) ?_ (by with_unfolding_all rfl)
      refine getItem_pair_rev ht (Heap.IsSliceOf.new _ _ _ _) ?_
      refine ⟨.ref _, _, I5.laid (t' := s4.toks) (o := .tup [v0, u0]) (fun b ob q => Heap.get?_push_of_some _ q) (Nat.le_refl _) ?_, rfl, q _ (I5.hok.fresh (Nat.le_refl _))⟩
      exact ⟨by show 2 ≤ sizeLine; decide, _, .cons r2 (.cons r1 .nil), IsTup.new _ _⟩
end
end Gx

/-! combinations of two of a list: how it is made, what it hands out -/
namespace Gx
open PySem PySem.Spec
open Sem (wp)
theorem cm_mro : mroOf (.type "itertools.combinations") = pure [.type "itertools.combinations", .type "object"] := by rw [mroOf_type]; kernel_rfl
theorem cm_look : typeLookup (.type "itertools.combinations") "__new__" = pure (some (.builtin "itertools.combinations.__new__")) := by rw [typeLookup_type, builtinLookup_eq_fast]; kernel_rfl
theorem cm_sub : isSubtype (.type "itertools.combinations") (.type "itertools.combinations") = pure true := by rw [isSubtype_type]; kernel_rfl
theorem cm_init : Slot "itertools.combinations" "__init__" "object.__init__" := by
  refine Slot.of (owner := "object") (n := "__init__") ?_ (by decide +kernel) (by decide +kernel) (by decide +kernel) ?_ ?_
  · rw [typeLookup_type, builtinLookup_eq_fast]; kernel_rfl
  · first | exact .inl (by decide +kernel) | exact .inr (by decide +kernel)
  · rw [isSubtype_type]; kernel_rfl
theorem cm_iter : Slot "itertools.combinations" "__iter__" "itertools.combinations.__iter__" := by
  refine Slot.of (owner := "itertools.combinations") (n := "__iter__") ?_ (by decide +kernel) (by decide +kernel) (by decide +kernel) ?_ cm_sub
  · rw [typeLookup_type, builtinLookup_eq_fast]; kernel_rfl
  · first | exact .inl (by decide +kernel) | exact .inr (by decide +kernel)
theorem cm_next : Slot "itertools.combinations" "__next__" "itertools.combinations.__next__" := by
  refine Slot.of (owner := "itertools.combinations") (n := "__next__") ?_ (by decide +kernel) (by decide +kernel) (by decide +kernel) ?_ cm_sub
  · rw [typeLookup_type, builtinLookup_eq_fast]; kernel_rfl
  · first | exact .inl (by decide +kernel) | exact .inr (by decide +kernel)
theorem cm_called : TypeCalled "itertools.combinations" "itertools.combinations.__new__" "object.__init__" :=
  ⟨by decide +kernel, by decide +kernel, ⟨_, _, cm_mro⟩, madeBy_type cm_mro cm_look (by decide +kernel), by decide +kernel, cm_sub, cm_init⟩
theorem cm_call2 (a b : Value) : checkTypeCall "itertools.combinations" ⟨[a, b], []⟩ = pure () := by kernel_rfl
theorem cm_new2 (a b : Value) : checkBuiltinCall "itertools.combinations.__new__" ⟨[.type "itertools.combinations", a, b], []⟩ = pure () := by kernel_rfl
theorem cm_entN : entryFor table "itertools.combinations.__new__" = some Builtin.«itertools.combinations.__new__» := entryFor_of_tree (by kernel_rfl)
theorem cm_entI : entryFor table "itertools.combinations.__iter__" = some Builtin.«dict_keyiterator.__iter__» := by
  refine entryFor_alias (id' := "dict_keyiterator.__iter__") (by kernel_rfl) ?_ (by decide +kernel) (by kernel_rfl)
  first | rfl | decide +kernel | (unfold String.splitOn; simp +decide [String.splitOnAux])
theorem cm_entX : entryFor table "itertools.combinations.__next__" = some Builtin.«itertools.combinations.__next__» := entryFor_of_tree (by kernel_rfl)
theorem cm_owner : Manifest.owners.lookup (String.ofList ['s', 'n', 'o', 'i', 't', 'a', 'n', 'i', 'b', 'm', 'o', 'c', '.', 's', 'l', 'o', 'o', 't', 'r', 'e', 't', 'i'].reverse) = some Manifest.sig_itertools_combinations := by kernel_rfl
theorem cm_argI (a : Value) : argsOk "itertools.combinations.__iter__" ⟨[a], []⟩ := by
  unfold argsOk
  rw [signature?_of (id := "itertools.combinations.__iter__") (n := ['_', '_', 'r', 'e', 't', 'i', '_', '_']) (o := ['s', 'n', 'o', 'i', 't', 'a', 'n', 'i', 'b', 'm', 'o', 'c', '.', 's', 'l', 'o', 'o', 't', 'r', 'e', 't', 'i']) (by kernel_rfl) cm_owner]
  kernel_rfl
theorem cm_argX (a : Value) : argsOk "itertools.combinations.__next__" ⟨[a], []⟩ := by
  unfold argsOk
  rw [signature?_of (id := "itertools.combinations.__next__") (n := ['_', '_', 't', 'x', 'e', 'n', '_', '_']) (o := ['s', 'n', 'o', 'i', 't', 'a', 'n', 'i', 'b', 'm', 'o', 'c', '.', 's', 'l', 'o', 'o', 't', 'r', 'e', 't', 'i']) (by kernel_rfl) cm_owner]
  kernel_rfl
theorem cm_noDict : typeHasDict (.type "itertools.combinations") = false := by decide +kernel

/-- such a thing: its pool, how far it is, what it told last, the two places -/
abbrev IsCm (h : Heap) (it p : Addr) (st : Nat) (last : Value) (i j : Nat) : Prop :=
  h.get? it = some { cls := .type "itertools.combinations", dict := none, data := .fields #[.ref p, rawInt st, last, rawInt i, rawInt j], slots := #[] }
abbrev IsPool (h : Heap) (p : Addr) (us : List Value) : Prop := h.get? p = some { cls := .type "tuple", dict := none, data := .seq us.toArray, slots := #[] }
end Gx

namespace Gx
open PySem PySem.Spec
open Sem (wp)
theorem cm_new (l : Addr) (t : Tok) (us : List Value) (hsz : us.length ≤ sizeLine) :
    Meets (Builtin.«itertools.combinations.__new__» ⟨[.type "itertools.combinations", .ref l, .int 2 t], []⟩)
      (fun _ R s => s.heap.IsList l us.toArray ∧ ∀ h' : Heap, (∀ b o', s.heap.get? b = some o' → h'.get? b = some o') →
        R (.ok (.ret (.ref (h'.objs.size + 1)))) { s with heap := (h'.push { cls := .type "tuple", data := .seq us.toArray }).push { cls := .type "itertools.combinations", data := .fields #[.ref h'.objs.size, rawInt (if 2 > us.length then 2 else 0), .none, rawInt 0, rawInt 1] } }) :=
  .of_wp fun prog w A R s h => by
    obtain ⟨hp, g, d, tk, os⟩ := s
    obtain ⟨⟨o, ho, hc, n, hd⟩, h⟩ := h
    have hsub := cm_sub
    have hsub2 : isSubtype (.type "itertools.combinations") (.type ("itertools." ++ "combinations")) = pure true := by rw [show ("itertools." ++ "combinations" : String) = "itertools.combinations" by decide]; exact cm_sub
    have hbn : Builtin.Itertools.itBindNamed "combinations" ["iterable", "r"] 2 2 [.ref l, .int 2 t] [] = pure [some (.ref l), some (.int 2 t)] := by kernel_rfl
    have hnd := cm_noDict
    have hz : us.toArray.size ≤ sizeLine := by simpa using hsz
    wp_walk using wpAny_collect_seq (hsz := hz) l (.inl rfl) ho hc hd
    intro h' k
    have e0 : us.toArray.toList = us := rfl
    rw [e0]
    have hsz' : us.length ≤ sizeLine := hsz
    show wpAny _ _ (newTuple us >>= _) _ _ _
    refine wpAny_bind (wpAny_newTuple ?_ hsz')
    refine wpAny_pure ?_
    show wpAny _ _ (Builtin.Itertools.itNewRecord _ _ >>= _) _ _ _
    refine wpAny_bind ?_
    unfold Builtin.Itertools.itNewRecord
    rw [hnd]
    rw [if_pos (show (!false) = true from rfl)]
    refine wpAny_newObj_type ?_ (by show (5 : Nat) ≤ _; decide)
    refine wpAny_pure ⟨_, rfl, ?_⟩
    have := h h' k
    rw [Heap.size_push]
    exact this
end Gx

namespace Gx
open PySem PySem.Spec
open Sem (wp)
section
variable {prog : Program} {w : World} {A : Around} {E : Value → Shared → Prop} {s : Shared}
theorem cm_self {it p : Addr} {st : Nat} {last : Value} {i j : Nat} {Q : Value → Shared → Prop} (hit : IsCm s.heap it p st last i j) (h : Q (.ref it) s) : wpAny (model prog w) A (pyIter (.ref it)) Q E s := by
  have hT : s.TypeIs (.ref it) "itertools.combinations" := ⟨_, hit, rfl⟩
  refine wpAny_pyIter_slot hT cm_iter (wpAny_call_entry cm_iter hT cm_entI ?_ (cm_argI _))
  show wpAny _ _ (ret (.ref it)) _ _ s
  exact wpAny_pure ⟨_, rfl, "itertools.combinations", _, hT, cm_next.lookup, h⟩
theorem cm_stop {α : Type} {Q : α → Shared → Prop} (hh : A.handled = none)
    (hQ : ∀ e h', (∃ o, h'.get? e = some o ∧ o.cls = .type "StopIteration") → (∀ b o, s.heap.get? b = some o → h'.get? b = some o) → E (.ref e) { s with heap := h' }) :
    wpAny (model prog w) A (Builtin.Itertools.itStop : Sem α) Q E s := by
  unfold Builtin.Itertools.itStop
  refine wpAny_bind ?_
  simp only [newExc, newTuple]
  refine wpAny_bind (wpAny_newObj_type ?_ (by size_fits))
  refine wpAny_bind (m := firstArgMember _ _) (wpAny_of_eq (a := Value.none) (by first | rfl | (simp only [firstArgMember]; rfl)) ?_)
  refine wpAny_newObj_type ?_ (by size_fits)
  simp only [raiseNew]
  refine wpAny_bind (wpAny_handled ?_)
  rw [hh]
  refine wpAny_bind (wpAny_pure (wpAny_throw ?_))
  exact hQ _ _ ⟨_, Heap.get?_push_size _ rfl, rfl⟩ fun b o e => Heap.get?_push_of_some _ (Heap.get?_push_of_some _ e)
/-- the two things at the places are handed out -/
theorem cm_pick {p : Addr} {i j : Nat} {x y : Value} {us : List Value} {Q : Value → Shared → Prop} (hp : IsPool s.heap p us) (hx : us[i]? = some x) (hy : us[j]? = some y)
    (hQ : Q (.ref s.heap.objs.size) { s with heap := s.heap.push { cls := .type "tuple", data := .seq #[x, y] } }) :
    wpAny (model prog w) A (Builtin.Itertools.itPoolItems (.ref p) >>= fun items => newTuple ([i, j].map fun k => items.getD k .none)) Q E s := by
  refine wpAny_bind ?_
  unfold Builtin.Itertools.itPoolItems
  refine wpAny_bind (wpAny_seqItems hp rfl (wpAny_pure ?_))
  have ex : us.toArray.getD i Value.none = x := by simp [Array.getD_eq_getD_getElem?, hx]
  have ey : us.toArray.getD j Value.none = y := by simp [Array.getD_eq_getD_getElem?, hy]
  show wpAny _ _ (newTuple [us.toArray.getD i Value.none, us.toArray.getD j Value.none]) _ _ _
  rw [ex, ey]
  exact wpAny_newTuple hQ (by show 2 ≤ sizeLine; decide)
theorem cm_apart {h : Heap} {it p : Addr} {st : Nat} {last : Value} {i j : Nat} {us : List Value} (hp : IsPool h p us) (hit : IsCm h it p st last i j) : p ≠ it := fun e => by
  rw [e] at hp
  have h1 := Option.some.inj (hp.symm.trans hit)
  have h2 := congrArg Obj.data h1
  exact nomatch h2
theorem cm_hand {it p : Addr} {st : Nat} {last : Value} {i j a b : Nat} {x y : Value} {us : List Value} {Q : Value → Shared → Prop} (hit : IsCm s.heap it p st last a b) (hp : IsPool s.heap p us) (hx : us[i]? = some x) (hy : us[j]? = some y)
    (hQ : ∀ h', IsCm h' it p st (.ref s.heap.objs.size) a b → IsPair h' s.heap.objs.size x y → h'.objs.size = s.heap.objs.size + 1 → (∀ c o, c ≠ it → s.heap.get? c = some o → h'.get? c = some o) → Q (.ref s.heap.objs.size) { s with heap := h' }) :
    wpAny (model prog w) A ((Builtin.Itertools.itPoolItems (.ref p) >>= fun items => newTuple ([i, j].map fun k => items.getD k .none)) >>= fun result => field (.ref it) 2 >>= fun before => setField (.ref it) 2 result >>= fun _ => letGo [before] [result] >>= fun _ => ret result)
      (fun fin s' => ∃ v, fin = .done (.ret v) ∧ Q v s') E s := by
  refine wpAny_bind (cm_pick hp hx hy ?_)
  have hit1 : IsCm (s.heap.push { cls := .type "tuple", data := .seq #[x, y] }) it p st last a b := Heap.get?_push_of_some _ hit
  refine wpAny_bind (wpAny_field hit1 rfl (x := last) rfl ?_)
  refine wpAny_bind (wpAny_setField_rec hit1 (by simp) fun h2 hit2 sb2 => ?_)
  refine wpAny_bind (wpAny_letGo ?_)
  have lt : it < s.heap.objs.size := Heap.lt_size hit
  refine wpAny_pure ⟨_, rfl, hQ h2 hit2 ((sb2.2 _ (Nat.ne_of_gt lt)).trans (Heap.get?_push_size _ rfl)) (by rw [sb2.1, Heap.size_push]) fun c o hc e => (sb2.2 c hc).trans (Heap.get?_push_of_some _ e)⟩
/-- what the next step does with the two places -/
theorem cm_item0 {it p : Addr} {i j : Nat} {x y : Value} {us : List Value} {Q : Value → Shared → Prop} (hit : IsCm s.heap it p 0 .none i j) (hp : IsPool s.heap p us) (hx : us[i]? = some x) (hy : us[j]? = some y)
    (hQ : ∀ h', IsCm h' it p 1 (.ref s.heap.objs.size) i j → IsPair h' s.heap.objs.size x y → h'.objs.size = s.heap.objs.size + 1 → (∀ c o, c ≠ it → s.heap.get? c = some o → h'.get? c = some o) → Q (.ref s.heap.objs.size) { s with heap := h' }) :
    wpAny (model prog w) A (Builtin.«itertools.combinations.__next__» ⟨[.ref it], []⟩) (fun fin s' => ∃ v, fin = .done (.ret v) ∧ Q v s') E s := by
  show wpAny _ _ (field (.ref it) 0 >>= _) _ _ s
  refine wpAny_bind (wpAny_field hit rfl (x := .ref p) rfl ?_)
  show wpAny _ _ (Builtin.Itertools.itNumbersFrom (.ref it) 3 >>= _) _ _ s
  refine wpAny_bind ?_
  unfold Builtin.Itertools.itNumbersFrom
  refine wpAny_bind (wpAny_load hit ?_)
  refine wpAny_pure ?_
  show wpAny _ _ (Builtin.Itertools.itIntField (.ref it) 1 >>= _) _ _ s
  refine wpAny_bind ?_
  unfold Builtin.Itertools.itIntField
  refine wpAny_bind (wpAny_field hit rfl (x := rawInt 0) rfl ?_)
  refine wpAny_pure ?_
  show wpAny _ _ (setField (.ref it) 1 (rawInt 1) >>= _) _ _ s
  refine wpAny_bind (wpAny_setField_rec hit (by simp) fun h1 hit1 sb1 => ?_)
  have hp1 : IsPool h1 p us := (sb1.2 p (cm_apart hp hit)).trans hp
  replace hit1 : IsCm h1 it p 1 .none i j := hit1
  refine cm_hand (s := { s with heap := h1 }) hit1 hp1 hx hy fun h' a b c d => ?_
  have e1 : h1.objs.size = s.heap.objs.size := sb1.1
  have a' : IsCm h' it p 1 (.ref h1.objs.size) i j := a
  have b' : IsPair h' h1.objs.size x y := b
  have c' : h'.objs.size = h1.objs.size + 1 := c
  show Q (.ref h1.objs.size) _
  rw [e1] at a' b' c' ⊢
  exact hQ h' a' b' c' fun q o hq e => d q o hq ((sb1.2 q hq).trans e)
theorem cm_item1 {it p : Addr} {i j a b : Nat} {x y last : Value} {us : List Value} {Q : Value → Shared → Prop} (hit : IsCm s.heap it p 1 last a b) (hp : IsPool s.heap p us) (hn : (b + 1 < us.length ∧ i = a ∧ j = b + 1) ∨ (b + 1 = us.length ∧ a + 2 < us.length ∧ i = a + 1 ∧ j = a + 2)) (hx : us[i]? = some x) (hy : us[j]? = some y)
    (hQ : ∀ h', IsCm h' it p 1 (.ref s.heap.objs.size) i j → IsPair h' s.heap.objs.size x y → h'.objs.size = s.heap.objs.size + 1 → (∀ c o, c ≠ it → s.heap.get? c = some o → h'.get? c = some o) → Q (.ref s.heap.objs.size) { s with heap := h' }) :
    wpAny (model prog w) A (Builtin.«itertools.combinations.__next__» ⟨[.ref it], []⟩) (fun fin s' => ∃ v, fin = .done (.ret v) ∧ Q v s') E s := by
  show wpAny _ _ (field (.ref it) 0 >>= _) _ _ s
  refine wpAny_bind (wpAny_field hit rfl (x := .ref p) rfl ?_)
  show wpAny _ _ (Builtin.Itertools.itNumbersFrom (.ref it) 3 >>= _) _ _ s
  refine wpAny_bind ?_
  unfold Builtin.Itertools.itNumbersFrom
  refine wpAny_bind (wpAny_load hit ?_)
  refine wpAny_pure ?_
  show wpAny _ _ (Builtin.Itertools.itIntField (.ref it) 1 >>= _) _ _ s
  refine wpAny_bind ?_
  unfold Builtin.Itertools.itIntField
  refine wpAny_bind (wpAny_field hit rfl (x := rawInt 1) rfl ?_)
  refine wpAny_pure ?_
  show wpAny _ _ (Builtin.Itertools.itPoolItems (.ref p) >>= _) _ _ s
  refine wpAny_bind ?_
  unfold Builtin.Itertools.itPoolItems
  refine wpAny_bind (wpAny_seqItems hp rfl (wpAny_pure ?_))
  have key : (match List.find? (fun k => [a, b].getD k 0 != k + us.toArray.size - 2) [1, 0] with | none => (none : Option (List Nat)) | some k => some ([a, b].take k ++ (List.range (2 - k)).map fun m => [a, b].getD k 0 + 1 + m)) = some [i, j] := by
    rw [List.size_toArray]
    rcases hn with ⟨h1, rfl, rfl⟩ | ⟨h1, h2, rfl, rfl⟩
    · rw [List.find?_cons_of_pos (by simp; omega)]
      rfl
    · rw [List.find?_cons_of_neg (by simp; omega), List.find?_cons_of_pos (by simp; omega)]
      rfl
  split
  · next nx e =>
    have e2 : some nx = some [i, j] := e.symm.trans key
    cases e2
    show wpAny _ _ (Builtin.Itertools.itSetNumbersFrom (.ref it) 3 [i, j] >>= _) _ _ s
    unfold Builtin.Itertools.itSetNumbersFrom
    refine wpAny_bind (wpAny_updateFields hit rfl ?_ (by show (5 : Nat) ≤ _; decide))
    have hit1 : IsCm (s.heap.update it (Obj.mapFields fun fs => fs.extract 0 3 ++ ([i, j].map fun (n : Nat) => rawInt n).toArray)) it p 1 last i j := Heap.get?_update_self _ hit rfl
    have sb : Heap.SameBut it s.heap (s.heap.update it (Obj.mapFields fun fs => fs.extract 0 3 ++ ([i, j].map fun (n : Nat) => rawInt n).toArray)) := Heap.SameBut.update ..
    generalize (s.heap.update it (Obj.mapFields fun fs => fs.extract 0 3 ++ ([i, j].map fun (n : Nat) => rawInt n).toArray)) = h1 at *
    have hp1 : IsPool h1 p us := (sb.2 p (cm_apart hp hit)).trans hp
    refine cm_hand (s := { s with heap := h1 }) hit1 hp1 hx hy fun h' q1 q2 q3 q4 => ?_
    have e1 : h1.objs.size = s.heap.objs.size := sb.1
    have a' : IsCm h' it p 1 (.ref h1.objs.size) i j := q1
    have b' : IsPair h' h1.objs.size x y := q2
    have c' : h'.objs.size = h1.objs.size + 1 := q3
    show Q (.ref h1.objs.size) _
    rw [e1] at a' b' c' ⊢
    exact hQ h' a' b' c' fun q o hq e => q4 q o hq ((sb.2 q hq).trans e)
  · next e => exact nomatch e.symm.trans key
theorem cm_end1 {it p : Addr} {a b : Nat} {last : Value} {us : List Value} {Q : Fin → Shared → Prop} (hh : A.handled = none) (hit : IsCm s.heap it p 1 last a b) (hp : IsPool s.heap p us) (h1 : b + 1 = us.length) (h2 : us.length ≤ a + 2) (h3 : a < b)
    (hE : ∀ e h', (∃ o, h'.get? e = some o ∧ o.cls = .type "StopIteration") → (∀ c o, c ≠ it → s.heap.get? c = some o → h'.get? c = some o) → E (.ref e) { s with heap := h' }) :
    wpAny (model prog w) A (Builtin.«itertools.combinations.__next__» ⟨[.ref it], []⟩) Q E s := by
  show wpAny _ _ (field (.ref it) 0 >>= _) _ _ s
  refine wpAny_bind (wpAny_field hit rfl (x := .ref p) rfl ?_)
  show wpAny _ _ (Builtin.Itertools.itNumbersFrom (.ref it) 3 >>= _) _ _ s
  refine wpAny_bind ?_
  unfold Builtin.Itertools.itNumbersFrom
  refine wpAny_bind (wpAny_load hit ?_)
  refine wpAny_pure ?_
  show wpAny _ _ (Builtin.Itertools.itIntField (.ref it) 1 >>= _) _ _ s
  refine wpAny_bind ?_
  unfold Builtin.Itertools.itIntField
  refine wpAny_bind (wpAny_field hit rfl (x := rawInt 1) rfl ?_)
  refine wpAny_pure ?_
  show wpAny _ _ (Builtin.Itertools.itPoolItems (.ref p) >>= _) _ _ s
  refine wpAny_bind ?_
  unfold Builtin.Itertools.itPoolItems
  refine wpAny_bind (wpAny_seqItems hp rfl (wpAny_pure ?_))
  have key : (match List.find? (fun k => [a, b].getD k 0 != k + us.toArray.size - 2) [1, 0] with | none => (none : Option (List Nat)) | some k => some ([a, b].take k ++ (List.range (2 - k)).map fun m => [a, b].getD k 0 + 1 + m)) = none := by
    rw [List.size_toArray]
    rw [List.find?_cons_of_neg (by simp; omega), List.find?_cons_of_neg (by simp; omega)]
    rfl
  split
  · next nx e => exact nomatch e.symm.trans key
  · show wpAny _ _ (setField (.ref it) 1 (rawInt 2) >>= _) _ _ s
    refine wpAny_bind (wpAny_setField_rec hit (by simp) fun h5 hit5 sb5 => ?_)
    exact cm_stop (s := { s with heap := h5 }) hh fun e h' he k => hE e h' he fun c o hc q => k c o ((sb5.2 c hc).trans q)
theorem cm_end2 {it p : Addr} {a b : Nat} {last : Value} {Q : Fin → Shared → Prop} (hh : A.handled = none) (hit : IsCm s.heap it p 2 last a b)
    (hE : ∀ e h', (∃ o, h'.get? e = some o ∧ o.cls = .type "StopIteration") → (∀ c o, c ≠ it → s.heap.get? c = some o → h'.get? c = some o) → E (.ref e) { s with heap := h' }) :
    wpAny (model prog w) A (Builtin.«itertools.combinations.__next__» ⟨[.ref it], []⟩) Q E s := by
  show wpAny _ _ (field (.ref it) 0 >>= _) _ _ s
  refine wpAny_bind (wpAny_field hit rfl (x := .ref p) rfl ?_)
  show wpAny _ _ (Builtin.Itertools.itNumbersFrom (.ref it) 3 >>= _) _ _ s
  refine wpAny_bind ?_
  unfold Builtin.Itertools.itNumbersFrom
  refine wpAny_bind (wpAny_load hit ?_)
  refine wpAny_pure ?_
  show wpAny _ _ (Builtin.Itertools.itIntField (.ref it) 1 >>= _) _ _ s
  refine wpAny_bind ?_
  unfold Builtin.Itertools.itIntField
  refine wpAny_bind (wpAny_field hit rfl (x := rawInt 2) rfl ?_)
  refine wpAny_pure ?_
  show wpAny _ _ (rule "itertools.combinations.ended" >>= _) _ _ s
  refine wpAny_bind (wpAny_rule ?_)
  exact cm_stop hh fun e h' he k => hE e h' he fun c o _ q => k c o q
/-- the next one -/
theorem cm_pyItem {it : Addr} {Q : Option Value → Shared → Prop} (hT : s.TypeIs (.ref it) "itertools.combinations")
    (h : ∀ E' : Value → Shared → Prop, wpAny (model prog w) A.in1 (Builtin.«itertools.combinations.__next__» ⟨[.ref it], []⟩) (fun fin s' => ∃ v, fin = .done (.ret v) ∧ Q (some v) s') E' s) : wpAny (model prog w) A (pyNext (.ref it)) Q E s := by
  unfold pyNext
  refine wpAny_bind (wpAny_attempt (wpAny_callSpecial?_slot (name := Str.ofString "__next__") hT cm_next (wpAny_call_entry cm_next hT cm_entX ?_ (cm_argX _))))
  exact wpAny_mono (h _) (fun fin s' ⟨v, e, q⟩ => ⟨v, e, wpAny_pure q⟩) fun _ _ x => x
theorem cm_pyEnd {it : Addr} {Q : Option Value → Shared → Prop} (hT : s.TypeIs (.ref it) "itertools.combinations")
    (h : ∀ Q' : Fin → Shared → Prop, wpAny (model prog w) A.in1 (Builtin.«itertools.combinations.__next__» ⟨[.ref it], []⟩) Q' (fun e s' => ∃ a, e = .ref a ∧ (∃ o, s'.heap.get? a = some o ∧ o.cls = .type "StopIteration") ∧ Q none s') s) : wpAny (model prog w) A (pyNext (.ref it)) Q E s := by
  unfold pyNext
  refine wpAny_bind (wpAny_attempt (wpAny_callSpecial?_slot (name := Str.ofString "__next__") hT cm_next (wpAny_call_entry cm_next hT cm_entX ?_ (cm_argX _))))
  refine wpAny_mono (h _) (fun _ _ x => x) fun e s' ⟨a, ea, ⟨o, ho, hc⟩, q⟩ => ?_
  subst ea
  refine wpAny_bind (wpAny_isInstance (T := "StopIteration") (b := true) ⟨o, ho, hc⟩ isSubtype_stop ?_)
  exact wpAny_pure q
end
end Gx

/-! a loop over combinations(xs, 2) -/
namespace Gx
open PySem PySem.Spec PyProof.Rows L2
/-- all two of a list, by their places -/
def combos {α : Type} : List α → List (α × α)
  | [] => []
  | x :: xs => (xs.map fun y => (x, y)) ++ combos xs
def idxs : Nat → Nat → List (Nat × Nat)
  | _, 0 => []
  | i, m + 1 => ((List.range m).map fun k => (i, i + 1 + k)) ++ idxs (i + 1) m
def later2 (n i j : Nat) : List (Nat × Nat) := ((List.range (n - 1 - j)).map fun k => (i, j + 1 + k)) ++ idxs (i + 1) (n - 1 - i)
theorem range_head (m : Nat) {α : Type} (f : Nat → α) : (List.range (m + 1)).map f = f 0 :: (List.range m).map fun k => f (k + 1) := by
  rw [List.range_succ_eq_map, List.map_cons, List.map_map]
  rfl
theorem later2_next {n i j : Nat} (h : j + 1 < n) : later2 n i j = (i, j + 1) :: later2 n i (j + 1) := by
  unfold later2
  rw [show n - 1 - j = (n - 1 - (j + 1)) + 1 by omega, range_head]
  simp only [List.cons_append, Nat.add_zero]
  congr 2
  refine List.map_congr_left fun k _ => ?_
  rw [show j + 1 + (k + 1) = j + 1 + 1 + k by omega]
theorem later2_row {n i j : Nat} (h : j + 1 = n) (h2 : i + 2 < n) : later2 n i j = (i + 1, i + 2) :: later2 n (i + 1) (i + 2) := by
  unfold later2
  rw [show n - 1 - j = 0 by omega, List.range_zero, List.map_nil, List.nil_append, show n - 1 - i = (n - 1 - (i + 2)) + 1 + 1 by omega, idxs, range_head]
  simp only [List.cons_append, Nat.add_zero]
  rw [show n - 1 - (i + 1) = (n - 1 - (i + 2)) + 1 by omega]
  congr 2
  refine List.map_congr_left fun k _ => ?_
  rw [show i + 1 + 1 + (k + 1) = i + 2 + 1 + k by omega]
theorem later2_end {n i j : Nat} (h : j + 1 = n) (h2 : n ≤ i + 2) : later2 n i j = [] := by
  unfold later2
  rw [show n - 1 - j = 0 by omega, List.range_zero, List.map_nil, List.nil_append]
  rcases (by omega : n - 1 - i = 0 ∨ n - 1 - i = 1) with e | e
  · rw [e]; rfl
  · rw [e]; rfl
theorem idxs_first {n : Nat} (h : 2 ≤ n) : idxs 0 n = (0, 1) :: later2 n 0 1 := by
  obtain ⟨m, rfl⟩ : ∃ m, n = m + 1 + 1 := ⟨n - 2, by omega⟩
  unfold later2
  rw [idxs, range_head]
  simp only [List.cons_append, Nat.add_zero]
  rw [show m + 1 + 1 - 1 - 1 = m by omega, show m + 1 + 1 - 1 - 0 = m + 1 by omega]
  congr 2
  refine List.map_congr_left fun k _ => ?_
  rw [show 0 + 1 + (k + 1) = 1 + 1 + k by omega]
theorem idxs_none {n : Nat} (h : n < 2) : idxs 0 n = [] := by
  rcases (by omega : n = 0 ∨ n = 1) with e | e
  · rw [e]; rfl
  · rw [e]; rfl
theorem combos_idx {α : Type} (d : α) (xs : List α) : ∀ (m i : Nat), i + m = xs.length → combos (xs.drop i) = (idxs i m).map fun p => (xs.getD p.1 d, xs.getD p.2 d)
  | 0, i, h => by rw [List.drop_of_length_le (by omega)]; rfl
  | m + 1, i, h => by
    have hi : i < xs.length := by omega
    rw [List.drop_eq_getElem_cons hi, combos, combos_idx d xs m (i + 1) (by omega), idxs, List.map_append, List.map_map]
    congr 1
    have e : xs.drop (i + 1) = (List.range m).map fun k => xs.getD (i + 1 + k) d := by
      refine List.ext_getElem? fun k => ?_
      rw [List.getElem?_drop, List.getElem?_map]
      by_cases hk : k < m
      · rw [List.getElem?_range hk, List.getElem?_eq_getElem (by omega)]
        simp [List.getD, List.getElem?_eq_getElem (show i + 1 + k < xs.length by omega)]
      · rw [List.getElem?_eq_none (by omega), List.getElem?_eq_none (by simp; omega)]
        rfl
    rw [e, List.map_map]
    refine List.map_congr_left fun k _ => ?_
    simp [List.getD, List.getElem?_eq_getElem hi]
theorem combos_all {α : Type} (d : α) (xs : List α) : combos xs = (idxs 0 xs.length).map fun p => (xs.getD p.1 d, xs.getD p.2 d) := by
  have := combos_idx d xs xs.length 0 (Nat.zero_add _)
  rwa [List.drop_zero] at this
/-- what is handed out -/
def Itm (ps : List (V × V)) : It :=
  ⟨fun i _ => i < ps.length, fun i H v H' => ∃ T x y, v = .ref T ∧ H T = none ∧ H' = upd H T (.tup [x, y]) ∧ ps[i]? = some (x, y), fun i _ => ps.length ≤ i⟩
def CmAt (n : Nat) (it p : Addr) (us : List Value) (i : Nat) (h : Heap) : Prop := IsPool h p us ∧
  ((n < 2 ∧ ∃ last a b, IsCm h it p 2 last a b) ∨ (2 ≤ n ∧ i = 0 ∧ IsCm h it p 0 .none 0 1) ∨ ∃ k last a b, i = k + 1 ∧ IsCm h it p 1 last a b ∧ a < b ∧ b < n ∧ (idxs 0 n).drop (k + 1) = later2 n a b)
theorem CmAt.typ {n : Nat} {it p : Addr} {us : List Value} {i : Nat} {s : Shared} (h : CmAt n it p us i s.heap) : s.TypeIs (.ref it) "itertools.combinations" := by
  obtain ⟨_, ⟨_, _, _, _, h⟩ | ⟨_, _, h⟩ | ⟨_, _, _, _, _, h, _⟩⟩ := h
  · exact ⟨_, h, rfl⟩
  · exact ⟨_, h, rfl⟩
  · exact ⟨_, h, rfl⟩
theorem turn_cm {P : Program} {w : World} {K : PySem.W.Frag} {tg : Expr} {it p : Addr} {xs : List V} {us : List Value} (rv : Vals xs us) :
    Turn P w K tg (Itm (combos xs)) [it, p] it (CmAt xs.length it p us) where
  mem := by simp
  obj := fun i h st c hc => by
    obtain ⟨hp, st⟩ := st
    have e : c = it ∨ c = p := by simpa using hc
    rcases e with e | e
    · rw [e]
      rcases st with ⟨_, _, _, _, h⟩ | ⟨_, _, h⟩ | ⟨_, _, _, _, _, h, _⟩
      · exact ⟨_, h, fun v q => nomatch q⟩
      · exact ⟨_, h, fun v q => nomatch q⟩
      · exact ⟨_, h, fun v q => nomatch q⟩
    · rw [e]; exact ⟨_, hp, fun v q => nomatch q⟩
  keep := fun i h h' st k => by
    obtain ⟨hp, st⟩ := st
    refine ⟨k p (by simp) _ hp, ?_⟩
    rcases st with ⟨a1, a2, a3, a4, h⟩ | ⟨a1, a2, h⟩ | ⟨a1, a2, a3, a4, a5, h, a6⟩
    · exact .inl ⟨a1, a2, a3, a4, k it (by simp) _ h⟩
    · exact .inr (.inl ⟨a1, a2, k it (by simp) _ h⟩)
    · exact .inr (.inr ⟨a1, a2, a3, a4, a5, k it (by simp) _ h, a6⟩)
  item := by
    intro X hP hw hK hc i pins s σ H E I hf st hg
    subst hP hw hK
    have hT := st.typ
    obtain ⟨hp, st⟩ := st
    replace hg : i < (combos xs).length := hg
    have hl := rv.length
    have ce := combos_all V.non xs
    -- the places of this turn
    have fin : ∀ (a b : Nat), a < xs.length → b < xs.length → (idxs 0 xs.length)[i]? = some (a, b) → (idxs 0 xs.length).drop (i + 1) = later2 xs.length a b → a < b →
        (∀ (x y : Value) (Q : Value → Shared → Prop) (E' : Value → Shared → Prop), us[a]? = some x → us[b]? = some y →
          (∀ h', IsCm h' it p 1 (.ref s.heap.objs.size) a b → IsPair h' s.heap.objs.size x y → h'.objs.size = s.heap.objs.size + 1 → (∀ c o, c ≠ it → s.heap.get? c = some o → h'.get? c = some o) → Q (.ref s.heap.objs.size) { s with heap := h' }) →
          wpAny (model X.prog X.w) X.A.in1 (Builtin.«itertools.combinations.__next__» ⟨[.ref it], []⟩) (fun fin s' => ∃ v, fin = .done (.ret v) ∧ Q v s') E' s) →
        wpAny (model X.prog X.w) X.A (pyNext (.ref it)) (fun r s1 => ∃ u, r = some u ∧
          wpAny (model X.prog X.w) X.A (letOwnedTupleGo tg (.ref it) u) (fun _ s2 => ∃ x H', Inv X pins σ H' s2 ∧ RelV x u ∧ (Itm (combos xs)).yld i H x H' ∧ CmAt xs.length it p us (i + 1) s2.heap ∧ ∀ b ∈ [it, p], H' b = none) E s1) E s := by
      intro a b ha hb hi hd hab step
      have ea : xs[a]? = some (xs.getD a V.non) := by rw [List.getD, List.getElem?_eq_getElem ha]; rfl
      have eb : xs[b]? = some (xs.getD b V.non) := by rw [List.getD, List.getElem?_eq_getElem hb]; rfl
      obtain ⟨u, hu, ru⟩ := rv.get ea
      obtain ⟨u2, hu2, ru2⟩ := rv.get eb
      refine cm_pyItem hT fun E' => step u u2 (fun v s' => ∃ u, some v = some u ∧ _) E' hu hu2 fun h' a1 a2 a3 a4 => ⟨_, rfl, go_of (s := { s with heap := h' }) a1 rfl rfl (by decide) ?_⟩
      have pit : p ≠ it := fun e => by
        obtain ⟨o, ho, hco⟩ := hT
        rw [e] at hp
        have := Option.some.inj (hp.symm.trans ho)
        rw [← this] at hco
        simp at hco
      · have new : ObjOk X.prog X.w (upd H s.heap.objs.size (.tup [xs.getD a V.non, xs.getD b V.non])) h' s.heap.objs.size (.tup [xs.getD a V.non, xs.getD b V.non]) :=
          ⟨by show 2 ≤ sizeLine; decide, [u, u2], .cons ru (.cons ru2 .nil), ⟨_, a2, rfl, _, rfl⟩⟩
        have I1 : Inv X pins σ (upd H s.heap.objs.size (.tup [xs.getD a V.non, xs.getD b V.non])) { s with heap := h' } :=
          I.turnedNew (t' := s.toks) (ch := [it]) (fun c o hb q => a4 c o (fun e => hb (by simp [e])) q) (fun c hc => hf c (by simp at hc ⊢; exact .inl hc)) (Nat.le_refl _) new
        refine ⟨.ref s.heap.objs.size, _, I1, rfl, ⟨_, _, _, rfl, I.hok.fresh (Nat.le_refl _), rfl, ?_⟩, ⟨a4 p _ pit hp, .inr (.inr ⟨i, _, a, b, rfl, a1, hab, hb, hd⟩)⟩, fun c hc => ?_⟩
        · rw [ce, List.getElem?_map, hi]; rfl
        · have lt : c < s.heap.objs.size := by
            have e : c = it ∨ c = p := by simpa using hc
            rcases e with e | e
            · rw [e]; obtain ⟨o, ho, _⟩ := hT; exact Heap.lt_size ho
            · rw [e]; exact Heap.lt_size hp
          rw [upd_ne (Nat.ne_of_lt lt)]
          exact (hf c hc).1
    have hn : ∀ {k : Nat}, (idxs 0 xs.length).length = k → i < k := fun {k} e => by rw [← e]; rw [ce, List.length_map] at hg; exact hg
    have hi : i < (idxs 0 xs.length).length := hn rfl
    rcases st with ⟨n2, last, a, b, hit⟩ | ⟨n2, rfl, hit⟩ | ⟨k, last, a, b, rfl, hit, hab, hb, hd⟩
    · rw [idxs_none n2] at hi; exact absurd hi (by simp)
    · refine fin 0 1 (by omega) (by omega) (by rw [idxs_first n2]; rfl) (by rw [idxs_first n2]; rfl) (by omega) fun x y Q E' hx hy hQ => cm_item0 hit hp hx hy hQ
    · have hb' : b < us.length := by omega
      by_cases c1 : b + 1 < xs.length
      · rw [later2_next c1] at hd
        refine fin a (b + 1) (by omega) c1 ?_ ?_ (by omega) fun x y Q E' hx hy hQ => cm_item1 hit hp (.inl ⟨by omega, rfl, rfl⟩) hx hy hQ
        · have := congrArg (fun l : List (Nat × Nat) => l[0]?) hd
          simpa using this
        · have := congrArg (fun l : List (Nat × Nat) => l.drop 1) hd
          simpa [List.drop_drop] using this
      · have hb1 : b + 1 = xs.length := by omega
        by_cases c2 : a + 2 < xs.length
        · rw [later2_row hb1 c2] at hd
          refine fin (a + 1) (a + 2) (by omega) c2 ?_ ?_ (by omega) fun x y Q E' hx hy hQ => cm_item1 hit hp (.inr ⟨by omega, by omega, rfl, rfl⟩) hx hy hQ
          · have := congrArg (fun l : List (Nat × Nat) => l[0]?) hd
            simpa using this
          · have := congrArg (fun l : List (Nat × Nat) => l.drop 1) hd
            simpa [List.drop_drop] using this
        · rw [later2_end hb1 (by omega)] at hd
          have := congrArg List.length hd
          rw [List.length_drop, List.length_nil] at this
          omega
  done := by
    intro X hP hw hK hc i pins s σ H E I hf st hg
    subst hP hw hK
    have hT := st.typ
    obtain ⟨hp, st⟩ := st
    replace hg : (combos xs).length ≤ i := hg
    have hl := rv.length
    rw [combos_all V.non xs, List.length_map] at hg
    have hend : ∀ (e : Value) (h' : Heap), (∀ c o, c ≠ it → s.heap.get? c = some o → h'.get? c = some o) → Inv X pins σ H { s with heap := h' } := fun e h' k =>
      I.turnedL (t' := s.toks) (ch := [it]) (fun c o hb q => k c o (fun e => hb (by simp [e])) q) fun c hc => hf c (by simp at hc ⊢; exact .inl hc)
    rcases st with ⟨n2, last, a, b, hit⟩ | ⟨n2, rfl, hit⟩ | ⟨k, last, a, b, rfl, hit, hab, hb, hd⟩
    · exact cm_pyEnd hT fun Q' => cm_end2 (I.ok.hd hc) hit fun e h' q k => ⟨e, rfl, q, rfl, hend (.ref e) h' k⟩
    · rw [idxs_first n2] at hg; exact absurd hg (by simp)
    · have c1 : ¬ b + 1 < xs.length := fun c1 => by
        rw [later2_next c1] at hd
        have := congrArg List.length hd
        rw [List.length_drop, List.length_cons] at this
        omega
      have hb1 : b + 1 = xs.length := by omega
      have c2 : ¬ a + 2 < xs.length := fun c2 => by
        rw [later2_row hb1 c2] at hd
        have := congrArg List.length hd
        rw [List.length_drop, List.length_cons] at this
        omega
      exact cm_pyEnd hT fun Q' => cm_end1 (I.ok.hd hc) hit hp (by omega) (by omega) hab fun e h' q k => ⟨e, rfl, q, rfl, hend (.ref e) h' k⟩
  self := fun A i s Q E st h => by
    obtain ⟨_, ⟨_, _, _, _, q⟩ | ⟨_, _, q⟩ | ⟨_, _, _, _, _, q, _⟩⟩ := st
    · exact cm_self q h
    · exact cm_self q h
    · exact cm_self q h
/-- combinations(xs, 2) of a list -/
def iComb (K : PySem.W.Frag) (ta : TA) : TI := fun σ H R => ta σ H fun vs H1 => ∃ (a : Addr) (xs : List V), vs = [.ref a, .int 2] ∧ SqL K H1 a xs ∧ R (Itm (combos xs)) H1
theorem pi_comb {X : Cx} {tg e e2 : Expr} {ta : TA} {p pos : Pos} (hg : Gl X "combinations") (hm : X.mg "combinations" = some (.type "itertools.combinations")) (ha : PA X [e, e2] ta)
    (hs : starEach [e, e2] X.env = (false, eval e X.env) :: starEach [e2] X.env := by rfl) (hpl : (backTo pos (starEach [e2] X.env)).any (·.1) = false := by rfl) :
    PI X tg (.Call (.Name "combinations" p) [e, e2] [] pos) (iComb X.K ta) := by
  refine ⟨fun pins s σ H R I h => ?_⟩
  refine Call_ (ld_glob I hg hm (PyProof.Rows.callWith_type1 (thn (ha.run pos pins s σ H _ I h) fun us s1 ⟨vs, H1, I1, r1, q1⟩ => ?_) hs hpl))
  obtain ⟨a, xs, ex, hq, q⟩ := q1
  subst ex
  cases r1 with
  | cons r rr =>
    cases rr with
    | cons r' rr =>
      cases rr
      cases r
      obtain ⟨t, rfl⟩ := r'
      obtain ⟨its, rv, p1, hz⟩ := I1.list hq
      have hl := rv.length
      refine callType_new cm_called (by decide) (cm_call2 _ _) (cm_new2 _ _) (fun obj => F.args_object_init_3 obj _ _) cm_entN (cm_new a t its ?_) ⟨p1.isList, fun h' k => ?_⟩
      · omega
      · have z1 : (h'.push { cls := .type "tuple", data := .seq its.toArray }).objs.size = h'.objs.size + 1 := Heap.size_push ..
        have g1 := Heap.get?_push_size (h'.push { cls := .type "tuple", data := .seq its.toArray }) (o := { cls := .type "itertools.combinations", data := .fields #[.ref h'.objs.size, rawInt (if 2 > its.length then 2 else 0), .none, rawInt 0, rawInt 1] }) rfl
        rw [z1] at g1
        have g0 : ((h'.push { cls := .type "tuple", data := .seq its.toArray }).push { cls := .type "itertools.combinations", data := .fields #[.ref h'.objs.size, rawInt (if 2 > its.length then 2 else 0), .none, rawInt 0, rawInt 1] }).get? h'.objs.size = some _ := Heap.get?_push_of_some _ (Heap.get?_push_size _ rfl)
        have kk : ∀ b o, s1.heap.get? b = some o → ((h'.push { cls := .type "tuple", data := .seq its.toArray }).push { cls := .type "itertools.combinations", data := .fields #[.ref h'.objs.size, rawInt (if 2 > its.length then 2 else 0), .none, rawInt 0, rawInt 1] }).get? b = some o := fun b o e => Heap.get?_push_of_some _ (Heap.get?_push_of_some _ (k b o e))
        generalize ((h'.push { cls := .type "tuple", data := .seq its.toArray }).push { cls := .type "itertools.combinations", data := .fields #[.ref h'.objs.size, rawInt (if 2 > its.length then 2 else 0), .none, rawInt 0, rawInt 1] }) = h2 at g1 g0 kk ⊢
        refine ⟨⟨_, g1, rfl⟩, ?_⟩
        have I2 : Inv X pins σ H1 { s1 with heap := h2 } := I1.kept (t' := s1.toks) kk
        have at0 : CmAt xs.length (h'.objs.size + 1) h'.objs.size its 0 h2 := by
          refine ⟨g0, ?_⟩
          by_cases c : xs.length < 2
          · rw [if_pos (by omega)] at g1
            exact .inl ⟨c, _, 0, 1, g1⟩
          · rw [if_neg (by omega)] at g1
            exact .inr (.inl ⟨by omega, rfl, g1⟩)
        refine (turn_cm (P := X.prog) (w := X.w) (K := X.K) (tg := tg) rv).self _ 0 _ _ _ at0 ⟨_, _, _, _, H1, rfl, I2, turn_cm rv, at0, fun c hc => ?_, q⟩
        have I' : Inv X pins σ H1 { s1 with heap := h' } := I1.kept (t' := s1.toks) k
        have hle : h'.objs.size ≤ c := by
          have e : c = h'.objs.size + 1 ∨ c = h'.objs.size := by simpa using hc
          rcases e with e | e
          · exact e ▸ Nat.le_succ _
          · exact e ▸ Nat.le_refl _
        exact I'.fpOk hle (I'.hok.fresh hle)
theorem walk_comb {ps : List (V × V)} : Walk (Itm ps) ps.length (fun _ => True) (YPair (fun i => ps[i]?.map Prod.fst) (fun i => ps[i]?.map Prod.snd)) := by
  refine ⟨fun _ _ hi _ => hi, fun _ _ => Nat.le_refl _, fun i H v H' _ _ y => ?_⟩
  obtain ⟨T, x, z, h1, h2, h3, h4⟩ := y
  exact ⟨T, x, z, h1, h2, h3, by show Option.map Prod.fst ps[i]? = _; rw [h4]; rfl, by show Option.map Prod.snd ps[i]? = _; rw [h4]; rfl⟩
end Gx

/-! Partings that do not cross, and the places of their tree: without a heap, of names of any kind. -/
namespace Gx
section
variable {α : Type} [DecidableEq α]
theorem snoc_ind {β : Type} {C : List β → Prop} (h0 : C []) (hs : ∀ l a, C l → C (l ++ [a])) (l : List β) : C l := by
  have : ∀ k : List β, C k.reverse := fun k => by
    induction k with
    | nil => exact h0
    | cons a k ih => rw [List.reverse_cons]; exact hs _ _ ih
  rw [← l.reverse_reverse]
  exact this _
/-! ### pairs of a list, counted -/
def pc {β : Type} (R : β → β → Bool) : List β → Nat
  | [] => 0
  | x :: xs => xs.countP (R x) + pc R xs
theorem pc_perm {β : Type} {R : β → β → Bool} (sy : ∀ a b, R a b = R b a) {l k : List β} (h : l.Perm k) : pc R l = pc R k := by
  induction h with
  | nil => rfl
  | cons x p ih => rw [pc, pc, ih, p.countP_eq]
  | swap x y l =>
    rw [pc, pc, pc, pc, List.countP_cons, List.countP_cons, sy x y]
    omega
  | trans _ _ h1 h2 => exact h1.trans h2
theorem pc_map {β γ : Type} {R : γ → γ → Bool} (g : β → γ) (l : List β) : pc R (l.map g) = pc (fun a b => R (g a) (g b)) l := by
  induction l with
  | nil => rfl
  | cons x l ih =>
    rw [List.map_cons, pc, pc, ih, List.countP_map]
    rfl
theorem pc_congr {β : Type} {R S : β → β → Bool} {l : List β} (nd : l.Nodup) (h : ∀ a ∈ l, ∀ b ∈ l, a ≠ b → R a b = S a b) : pc R l = pc S l := by
  induction l with
  | nil => rfl
  | cons x l ih =>
    have nd2 := List.nodup_cons.mp nd
    rw [pc, pc, ih nd2.2 fun a ha b hb => h a (List.mem_cons_of_mem _ ha) b (List.mem_cons_of_mem _ hb)]
    congr 1
    refine List.countP_congr fun b hb => ?_
    rw [h x List.mem_cons_self b (List.mem_cons_of_mem _ hb) fun z => nd2.1 (by rw [z]; exact hb)]
theorem pc_snoc {β : Type} {R : β → β → Bool} (l : List β) (x : β) : pc R (l ++ [x]) = pc R l + l.countP fun y => R y x := by
  induction l with
  | nil => rfl
  | cons y l ih =>
    rw [List.cons_append, pc, pc, ih, List.countP_append, List.countP_cons (a := y)]
    rw [List.countP_singleton]
    omega
/-! ### meeting, crossing -/
def meet (a b : List α) : Bool := a.any fun x => decide (x ∈ b)
theorem meet_iff {a b : List α} : meet a b = true ↔ ∃ x, x ∈ a ∧ x ∈ b := by
  unfold meet
  rw [List.any_eq_true]
  exact ⟨fun ⟨x, h1, h2⟩ => ⟨x, h1, of_decide_eq_true h2⟩, fun ⟨x, h1, h2⟩ => ⟨x, h1, decide_eq_true h2⟩⟩
theorem meet_no {a b : List α} : meet a b = false ↔ ∀ x, x ∈ a → x ∉ b := by
  rw [← Bool.not_eq_true, meet_iff]
  exact ⟨fun h x h1 h2 => h ⟨x, h1, h2⟩, fun h ⟨x, h1, h2⟩ => h x h1 h2⟩
theorem meet_comm (a b : List α) : meet a b = meet b a := by
  rw [Bool.eq_iff_iff, meet_iff, meet_iff]
  exact ⟨fun ⟨x, h⟩ => ⟨x, h.2, h.1⟩, fun ⟨x, h⟩ => ⟨x, h.2, h.1⟩⟩
def crossB (p q : List α × List α) : Bool := (meet p.1 q.1 && meet p.1 q.2) && (meet p.2 q.1 && meet p.2 q.2)
theorem cross_comm (p q : List α × List α) : crossB p q = crossB q p := by
  unfold crossB
  rw [meet_comm q.1 p.1, meet_comm q.1 p.2, meet_comm q.2 p.1, meet_comm q.2 p.2]
  cases meet p.1 q.1 <;> cases meet p.1 q.2 <;> cases meet p.2 q.1 <;> cases meet p.2 q.2 <;> rfl
def fitsB (s : List (List α)) (c : List α) : Bool := s.all fun d => meet c d
def ext (p : List α × List α) (s : List (List α)) : List (List (List α)) := ([p.1, p.2].filter (fitsB s)).map fun c => s ++ [c]
def placesOf (ps : List (List α × List α)) : List (List (List α)) := ps.foldl (fun acc p => acc.flatMap (ext p)) [[]]
theorem places_snoc (ps : List (List α × List α)) (p : List α × List α) : placesOf (ps ++ [p]) = (placesOf ps).flatMap (ext p) := by
  unfold placesOf
  rw [List.foldl_append]
  rfl
def sd (p : List α × List α) (b : Bool) : List α := if b = true then p.1 else p.2
/-- partings of names `ns` with the first name `h`, no two of which cross -/
structure Prts (ns : List α) (h : α) (ps : List (List α × List α)) : Prop where
  nd : ps.Nodup
  hd1 : ∀ p ∈ ps, h ∈ p.1
  hd2 : ∀ p ∈ ps, h ∉ p.2
  ne2 : ∀ p ∈ ps, p.2 ≠ []
  nd2 : ∀ p ∈ ps, p.2.Nodup
  cov : ∀ p ∈ ps, ∀ x, x ∈ p.1 ↔ x ∈ ns ∧ x ∉ p.2
  sub : ∀ p ∈ ps, ∀ x ∈ p.2, x ∈ ns
  eqv : ∀ p ∈ ps, ∀ q ∈ ps, (∀ x, x ∈ p.2 ↔ x ∈ q.2) → p = q
  nc : ps.Pairwise fun p q => crossB p q = false
theorem Prts.left {ns : List α} {h : α} {ps qs : List (List α × List α)} (g : Prts ns h (ps ++ qs)) : Prts ns h ps :=
  have m : ∀ {p}, p ∈ ps → p ∈ ps ++ qs := fun hp => List.mem_append_left _ hp
  ⟨(List.nodup_append.mp g.nd).1, fun p hp => g.hd1 p (m hp), fun p hp => g.hd2 p (m hp), fun p hp => g.ne2 p (m hp), fun p hp => g.nd2 p (m hp), fun p hp => g.cov p (m hp), fun p hp => g.sub p (m hp), fun p hp q hq => g.eqv p (m hp) q (m hq), (List.pairwise_append.mp g.nc).1⟩
theorem Prts.one {ns : List α} {h : α} {ps : List (List α × List α)} (g : Prts ns h ps) {p : List α × List α} (hp : p ∈ ps) (x : α) (hx : x ∈ ns) (b : Bool) : x ∈ sd p b ↔ x ∉ sd p (!b) := by
  have c := g.cov p hp x
  cases b
  · show x ∈ p.2 ↔ x ∉ p.1
    rw [c]
    by_cases z : x ∈ p.2
    · simp [z]
    · simp [z, hx]
  · show x ∈ p.1 ↔ x ∉ p.2
    rw [c]
    simp [hx]
theorem Prts.in_ {ns : List α} {h : α} {ps : List (List α × List α)} (g : Prts ns h ps) {p : List α × List α} (hp : p ∈ ps) {b : Bool} {x : α} (hx : x ∈ sd p b) : x ∈ ns := by
  cases b
  · exact g.sub p hp x hx
  · exact ((g.cov p hp x).mp hx).1
theorem Prts.some_ {ns : List α} {h : α} {ps : List (List α × List α)} (g : Prts ns h ps) {p : List α × List α} (hp : p ∈ ps) (b : Bool) : ∃ x, x ∈ sd p b := by
  cases b
  · exact List.exists_mem_of_ne_nil _ (g.ne2 p hp)
  · exact ⟨h, g.hd1 p hp⟩
theorem Prts.ne {ns : List α} {h : α} {ps : List (List α × List α)} (g : Prts ns h ps) {p : List α × List α} (hp : p ∈ ps) {a b : Bool} : sd p a = sd p b ↔ a = b := by
  refine ⟨fun e => ?_, fun e => by rw [e]⟩
  have h1 := g.hd1 p hp
  have h2 := g.hd2 p hp
  cases a <;> cases b
  · rfl
  · exact absurd (show h ∈ p.2 by have e' : p.2 = p.1 := e; rw [e']; exact h1) h2
  · exact absurd (show h ∈ p.2 by have e' : p.1 = p.2 := e; rw [← e']; exact h1) h2
  · rfl
/-- the side of an earlier parting that meets both sides of a new one -/
def b0 (p q : List α × List α) : Bool := meet q.1 p.1 && meet q.1 p.2
theorem Prts.mid {ns : List α} {h : α} {ps : List (List α × List α)} {p : List α × List α} (g : Prts ns h (ps ++ [p])) {q : List α × List α} (hq : q ∈ ps) :
    (∀ c, ∃ x, x ∈ sd q (b0 p q) ∧ x ∈ sd p c) ∧ ∃ c, ∀ x, x ∈ sd p c → x ∈ sd q (b0 p q) := by
  have hq' : q ∈ ps ++ [p] := List.mem_append_left _ hq
  have hp' : p ∈ ps ++ [p] := List.mem_append_right _ List.mem_cons_self
  have qp : q ≠ p := fun z => (List.nodup_append.mp g.nd).2.2 q hq p List.mem_cons_self z
  have nc : crossB q p = false := (List.pairwise_append.mp g.nc).2.2 q hq p List.mem_cons_self
  have m11 : meet q.1 p.1 = true := meet_iff.mpr ⟨h, g.hd1 q hq', g.hd1 p hp'⟩
  obtain ⟨z, hz⟩ := g.some_ hp' false
  have hz' : z ∈ p.2 := hz
  cases m12 : meet q.1 p.2 with
  | false =>
    have eb : b0 p q = false := by unfold b0; rw [m12, Bool.and_false]
    rw [eb]
    have sub : ∀ x, x ∈ p.2 → x ∈ q.2 := fun x hx => by
      have := meet_no.mp m12
      exact (g.one hq' x (g.sub p hp' x hx) false).mpr fun y => this x y hx
    refine ⟨fun c => ?_, false, sub⟩
    cases c
    · exact ⟨z, sub z hz', hz'⟩
    · refine Classical.byContradiction fun no => qp (g.eqv q hq' p hp' fun x => ⟨fun hx => ?_, sub x⟩)
      refine Classical.byContradiction fun y => no ⟨x, hx, ?_⟩
      exact (g.one hp' x (g.sub q hq' x hx) true).mpr y
  | true =>
    have eb : b0 p q = true := by unfold b0; rw [m11, m12]; rfl
    rw [eb]
    obtain ⟨y, hy1, hy2⟩ := meet_iff.mp m12
    refine ⟨fun c => ?_, ?_⟩
    · cases c
      · exact ⟨y, hy1, hy2⟩
      · exact ⟨h, g.hd1 q hq', g.hd1 p hp'⟩
    · unfold crossB at nc
      rw [m11, m12] at nc
      simp only [Bool.true_and, Bool.and_self] at nc
      cases m21 : meet q.2 p.1 with
      | false =>
        refine ⟨true, fun x hx => ?_⟩
        have := meet_no.mp m21
        exact (g.one hq' x (g.in_ hp' (b := true) hx) true).mpr fun y => this x y hx
      | true =>
        rw [m21, Bool.true_and] at nc
        refine ⟨false, fun x hx => ?_⟩
        have := meet_no.mp nc
        exact (g.one hq' x (g.in_ hp' (b := false) hx) true).mpr fun y => this x y hx
/-- the other side lies within one side of the new one -/
theorem Prts.side {ns : List α} {h : α} {ps : List (List α × List α)} {p : List α × List α} (g : Prts ns h (ps ++ [p])) {q : List α × List α} (hq : q ∈ ps) : ∃ c, ∀ x, x ∈ sd q (!b0 p q) → x ∈ sd p c := by
  have hq' : q ∈ ps ++ [p] := List.mem_append_left _ hq
  have hp' : p ∈ ps ++ [p] := List.mem_append_right _ List.mem_cons_self
  obtain ⟨_, c, hc⟩ := g.mid hq
  refine ⟨!c, fun x hx => ?_⟩
  have hn := g.in_ hq' hx
  refine (g.one hp' x hn (!c)).mpr fun y => ?_
  rw [Bool.not_not] at y
  exact (g.one hq' x hn (b0 p q)).mp (hc x y) hx
/-- any two sides that are chosen meet -/
def Met (ps : List (List α × List α)) (f : List α × List α → Bool) : Prop := ∀ p ∈ ps, ∀ q ∈ ps, ∃ x, x ∈ sd p (f p) ∧ x ∈ sd q (f q)
def plOf (ps : List (List α × List α)) (f : List α × List α → Bool) : List (List α) := ps.map fun p => sd p (f p)
theorem fits_iff {ps : List (List α × List α)} {f : List α × List α → Bool} {c : List α} : fitsB (plOf ps f) c = true ↔ ∀ q ∈ ps, ∃ x, x ∈ c ∧ x ∈ sd q (f q) := by
  unfold fitsB plOf
  rw [List.all_eq_true]
  constructor
  · intro h q hq
    exact meet_iff.mp (h _ (List.mem_map.mpr ⟨q, hq, rfl⟩))
  · intro h d hd
    obtain ⟨q, hq, rfl⟩ := List.mem_map.mp hd
    exact meet_iff.mpr (h q hq)
theorem Prts.fit {ns : List α} {h : α} {ps : List (List α × List α)} {p : List α × List α} (g : Prts ns h (ps ++ [p])) {f : List α × List α → Bool} (hm : Met ps f) :
    ((∀ q ∈ ps, f q = b0 p q) ∧ ∀ c, fitsB (plOf ps f) (sd p c) = true) ∨
    ∃ c, (∃ q ∈ ps, f q ≠ b0 p q ∧ ∀ x, x ∈ sd q (f q) → x ∈ sd p c) ∧ fitsB (plOf ps f) (sd p c) = true ∧ fitsB (plOf ps f) (sd p (!c)) = false := by
  have hp' : p ∈ ps ++ [p] := List.mem_append_right _ List.mem_cons_self
  by_cases a : ∀ q ∈ ps, f q = b0 p q
  · refine .inl ⟨a, fun c => fits_iff.mpr fun q hq => ?_⟩
    obtain ⟨x, h1, h2⟩ := (g.mid hq).1 c
    exact ⟨x, h2, by rw [a q hq]; exact h1⟩
  · obtain ⟨q, a⟩ := Classical.not_forall.mp a
    obtain ⟨hq, ne⟩ := Classical.not_imp.mp a
    have hq' : q ∈ ps ++ [p] := List.mem_append_left _ hq
    have e : f q = !b0 p q := by
      cases h1 : f q <;> cases h2 : b0 p q <;> simp_all
    obtain ⟨c, hc⟩ := g.side hq
    rw [← e] at hc
    refine .inr ⟨c, ⟨q, hq, ne, hc⟩, fits_iff.mpr fun r hr => ?_, ?_⟩
    · obtain ⟨x, h1, h2⟩ := hm q hq r hr
      exact ⟨x, hc x h1, h2⟩
    · refine Bool.eq_false_iff.mpr fun y => ?_
      obtain ⟨x, h1, h2⟩ := fits_iff.mp y q hq
      have hn := g.in_ hp' h1
      exact (g.one hp' x hn c).mp (hc x h2) h1
/-! ### the places -/
def df (s t : List (List α)) : Nat := ((s.zip t).filter fun z => decide (z.1 ≠ z.2)).length
def nb (s t : List (List α)) : Bool := decide (df s t = 1)
theorem df_comm : ∀ (s t : List (List α)), df s t = df t s
  | [], [] => rfl
  | [], _ :: _ => rfl
  | _ :: _, [] => rfl
  | x :: s, y :: t => by
    have ih := df_comm s t
    unfold df at ih ⊢
    rw [List.zip_cons_cons, List.zip_cons_cons, List.filter_cons, List.filter_cons]
    by_cases e : x = y
    · simp [e] at ih ⊢; exact ih
    · have e2 : ¬ y = x := fun z => e z.symm
      simp [e, e2] at ih ⊢; exact ih
theorem nb_comm (s t : List (List α)) : nb s t = nb t s := by unfold nb; rw [df_comm]
theorem df_snoc {s t : List (List α)} (h : s.length = t.length) (c d : List α) : df (s ++ [c]) (t ++ [d]) = df s t + (if c = d then 0 else 1) := by
  unfold df
  rw [List.zip_append h, List.filter_append, List.length_append]
  congr 1
  by_cases e : c = d
  · simp [e]
  · simp [e]
theorem df_eq {s t : List (List α)} (h : s.length = t.length) : df s t = 0 ↔ s = t := by
  induction s generalizing t with
  | nil =>
    cases t with
    | nil => exact ⟨fun _ => rfl, fun _ => rfl⟩
    | cons y t => cases h
  | cons x s ih =>
    cases t with
    | nil => cases h
    | cons y t =>
      have ih := ih (Nat.succ.inj h)
      unfold df at ih ⊢
      rw [List.zip_cons_cons, List.filter_cons]
      by_cases e : x = y
      · simp [e] at ih ⊢; exact ih
      · simp [e]
structure TreeR (ns : List α) (ps : List (List α × List α)) (F : List (List (List α))) : Prop where
  mem : ∀ s, s ∈ F ↔ ∃ f, s = plOf ps f ∧ Met ps f
  nd : F.Nodup
  len : F.length = ps.length + 1
  nbs : pc nb F = ps.length
theorem plOf_snoc (ps : List (List α × List α)) (p : List α × List α) (f) : plOf (ps ++ [p]) f = plOf ps f ++ [sd p (f p)] := by
  unfold plOf
  rw [List.map_append]
  rfl
theorem plOf_congr {ps : List (List α × List α)} {f k : List α × List α → Bool} (h : ∀ q ∈ ps, f q = k q) : plOf ps f = plOf ps k :=
  List.map_congr_left fun q hq => by rw [h q hq]
theorem ext_mem {p : List α × List α} {s t : List (List α)} : t ∈ ext p s ↔ ∃ c, t = s ++ [sd p c] ∧ fitsB s (sd p c) = true := by
  unfold ext
  rw [List.mem_map]
  constructor
  · rintro ⟨c, hc, rfl⟩
    obtain ⟨h1, h2⟩ := List.mem_filter.mp hc
    rcases List.mem_cons.mp h1 with e | h1
    · exact ⟨true, by rw [e]; rfl, by rw [e] at h2; exact h2⟩
    · exact ⟨false, by rw [List.mem_singleton.mp h1]; rfl, by rw [List.mem_singleton.mp h1] at h2; exact h2⟩
  · rintro ⟨c, rfl, h⟩
    refine ⟨_, List.mem_filter.mpr ⟨?_, h⟩, rfl⟩
    cases c
    · exact List.mem_cons_of_mem _ List.mem_cons_self
    · exact List.mem_cons_self
theorem plOf_len (ps : List (List α × List α)) (f) : (plOf ps f).length = ps.length := List.length_map _
theorem Prts.plOf_ne {ns : List α} {h : α} {ps : List (List α × List α)} (g : Prts ns h ps) {f k : List α × List α → Bool} (e : plOf ps f = plOf ps k) : ∀ q ∈ ps, f q = k q := fun q hq => by
  unfold plOf at e
  exact (g.ne hq).mp (List.map_inj_left.mp e q hq)
theorem flat_map1 {β γ : Type} {f : β → List γ} {k : β → γ} : ∀ (l : List β), (∀ b ∈ l, f b = [k b]) → l.flatMap f = l.map k
  | [], _ => rfl
  | b :: l, h => by
    rw [List.flatMap_cons, List.map_cons, h b List.mem_cons_self, flat_map1 l fun x hx => h x (List.mem_cons_of_mem _ hx)]
    rfl
theorem ext_eq {p : List α × List α} {s : List (List α)} : ext p s = (if fitsB s (sd p true) = true then [s ++ [sd p true]] else []) ++ (if fitsB s (sd p false) = true then [s ++ [sd p false]] else []) := by
  unfold ext
  rw [List.filter_cons, List.filter_cons, List.filter_nil]
  show List.map _ (if fitsB s (sd p true) = true then _ else _) = _
  by_cases c1 : fitsB s (sd p true) = true
  · rw [if_pos c1, if_pos c1, List.map_cons]
    show _ :: List.map _ (if fitsB s (sd p false) = true then _ else _) = _
    by_cases c2 : fitsB s (sd p false) = true
    · rw [if_pos c2, if_pos c2]; rfl
    · rw [if_neg c2, if_neg c2]; rfl
  · rw [if_neg c1, if_neg c1]
    show List.map _ (if fitsB s (sd p false) = true then _ else _) = _
    by_cases c2 : fitsB s (sd p false) = true
    · rw [if_pos c2, if_pos c2]; rfl
    · rw [if_neg c2, if_neg c2]; rfl
theorem ext_two {p : List α × List α} {s : List (List α)} (h : ∀ c, fitsB s (sd p c) = true) : ext p s = [s ++ [sd p true], s ++ [sd p false]] := by
  rw [ext_eq, if_pos (h true), if_pos (h false)]
  rfl
/-- the one side by which a place goes on that is not the middle -/
def cc (p : List α × List α) (s : List (List α)) : Bool := fitsB s (sd p true)
theorem ext_one {p : List α × List α} {s : List (List α)} {c : Bool} (h : fitsB s (sd p c) = true) (h2 : fitsB s (sd p (!c)) = false) : ext p s = [s ++ [sd p (cc p s)]] ∧ cc p s = c := by
  rw [ext_eq]
  cases c
  · have h2' : fitsB s (sd p true) = false := h2
    refine ⟨?_, h2'⟩
    rw [if_neg (by rw [h2']; exact Bool.false_ne_true), if_pos h, show cc p s = false from h2']
    rfl
  · have h2' : fitsB s (sd p false) = false := h2
    refine ⟨?_, h⟩
    rw [if_pos h, if_neg (by rw [h2']; exact Bool.false_ne_true), show cc p s = true from h]
    rfl
theorem bool_ne {a b : Bool} (h : a ≠ b) : b = !a := by cases a <;> cases b <;> simp_all
/-- two places, neither of them the middle, that go on by two sides are no neighbours -/
theorem Prts.far {ns : List α} {h : α} {ps : List (List α × List α)} {p : List α × List α} (g : Prts ns h (ps ++ [p])) {f k : List α × List α → Bool} (mk : Met ps k) (mf : Met ps f) {c : Bool}
    (hf : ∃ q ∈ ps, f q ≠ b0 p q ∧ ∀ x, x ∈ sd q (f q) → x ∈ sd p c) (hk : ∃ q ∈ ps, k q ≠ b0 p q ∧ ∀ x, x ∈ sd q (k q) → x ∈ sd p (!c)) : nb (plOf ps f) (plOf ps k) = false := by
  have hp' : p ∈ ps ++ [p] := List.mem_append_right _ List.mem_cons_self
  obtain ⟨q, hq, nq, sq⟩ := hf
  obtain ⟨r, hr, nr, sr⟩ := hk
  have hq' : q ∈ ps ++ [p] := List.mem_append_left _ hq
  have hr' : r ∈ ps ++ [p] := List.mem_append_left _ hr
  have out : ∀ (f' : List α × List α → Bool), Met ps f' → (∀ x, x ∈ sd q (f' q) → x ∈ sd p c) → (∀ x, x ∈ sd r (f' r) → x ∈ sd p (!c)) → False := fun f' m a b => by
    obtain ⟨x, h1, h2⟩ := m q hq r hr
    have hn := g.in_ hq' h1
    exact (g.one hp' x hn c).mp (a x h1) (b x h2)
  have dq : f q ≠ k q := fun e => out k mk (by rw [← e]; exact sq) sr
  have dr : f r ≠ k r := fun e => out f mf sq (by rw [e]; exact sr)
  have qr : q ≠ r := fun e => by
    subst e
    have e1 : k q = !f q := bool_ne dq
    have qp : q ≠ p := fun z => (List.nodup_append.mp g.nd).2.2 q hq p List.mem_cons_self z
    have same : ∀ x, x ∈ sd q (f q) ↔ x ∈ sd p c := fun x => ⟨sq x, fun hx => by
      have hn := g.in_ hp' hx
      refine (g.one hq' x hn (f q)).mpr fun y => ?_
      rw [← e1] at y
      exact (g.one hp' x hn c).mp hx (sr x y)⟩
    cases e2 : f q <;> cases e3 : c
    · rw [e2, e3] at same
      exact qp (g.eqv q hq' p hp' same)
    · rw [e2, e3] at same
      exact g.hd2 q hq' ((same h).mpr (g.hd1 p hp'))
    · rw [e2, e3] at same
      exact g.hd2 p hp' ((same h).mp (g.hd1 q hq'))
    · rw [e2, e3] at same
      refine qp (g.eqv q hq' p hp' fun x => ?_)
      constructor
      · intro hx
        have hn := g.sub q hq' x hx
        refine (g.one hp' x hn false).mpr fun y => ?_
        exact (g.one hq' x hn false).mp hx ((same x).mpr y)
      · intro hx
        have hn := g.sub p hp' x hx
        refine (g.one hq' x hn false).mpr fun y => ?_
        exact (g.one hp' x hn false).mp hx ((same x).mp y)
  unfold nb
  refine decide_eq_false fun e => ?_
  have gl := g.left
  have key : ∀ l : List (List α × List α), (∀ z ∈ l, z ∈ ps) → df (plOf l f) (plOf l k) = (l.filter fun z => decide (f z ≠ k z)).length := fun l => by
    induction l with
    | nil => intro _; rfl
    | cons z l ih =>
      intro hl
      have ih := ih fun y hy => hl y (List.mem_cons_of_mem _ hy)
      have hz := hl z List.mem_cons_self
      unfold df plOf at ih ⊢
      rw [List.map_cons, List.map_cons, List.zip_cons_cons, List.filter_cons, List.filter_cons]
      have ne := gl.ne hz (a := f z) (b := k z)
      by_cases w : f z = k z
      · have w2 := ne.mpr w
        simp only [w2, w, ne_eq, not_true_eq_false, decide_false] at ih ⊢
        exact ih
      · have w2 : ¬ sd z (f z) = sd z (k z) := fun y => w (ne.mp y)
        simp only [w2, w, ne_eq, not_false_eq_true, decide_true, if_true, List.length_cons] at ih ⊢
        rw [ih]
  rw [key ps fun _ hz => hz] at e
  obtain ⟨z, ez⟩ := List.length_eq_one_iff.mp e
  have h1 : q ∈ [z] := by rw [← ez]; exact List.mem_filter.mpr ⟨hq, decide_eq_true dq⟩
  have h2 : r ∈ [z] := by rw [← ez]; exact List.mem_filter.mpr ⟨hr, decide_eq_true dr⟩
  exact qr ((List.mem_singleton.mp h1).trans (List.mem_singleton.mp h2).symm)
theorem count_two {β : Type} (f k : β → Bool) (l : List β) : l.countP (fun s => f s && decide (k s = true)) + l.countP (fun s => f s && decide (k s = false)) = l.countP f := by
  induction l with
  | nil => rfl
  | cons s l ih =>
    rw [List.countP_cons, List.countP_cons, List.countP_cons]
    have e1 : (if (f s && decide (k s = true)) = true then 1 else 0) + (if (f s && decide (k s = false)) = true then 1 else 0) = (if f s = true then 1 else 0) := by
      cases f s <;> cases k s <;> rfl
    omega
theorem tree_right {ns : List α} {h : α} (ps : List (List α × List α)) : Prts ns h ps → TreeR ns ps (placesOf ps) := by
  induction ps using snoc_ind with
  | h0 =>
    intro _
    refine ⟨fun s => ?_, by show [[]].Nodup; simp, rfl, rfl⟩
    show s ∈ [[]] ↔ _
    rw [List.mem_singleton]
    exact ⟨fun e => ⟨fun _ => true, e, fun p hp => nomatch hp⟩, fun ⟨_, e, _⟩ => e⟩
  | hs ps p ih =>
    intro g
    have t := ih g.left
    have hp' : p ∈ ps ++ [p] := List.mem_append_right _ List.mem_cons_self
    have pn : p ∉ ps := fun z => (List.nodup_append.mp g.nd).2.2 p z p List.mem_cons_self rfl
    rw [places_snoc]
    generalize placesOf ps = F at t
    have m0 : Met ps (b0 p) := fun q hq r hr => by
      obtain ⟨c, hc⟩ := (g.mid hq).2
      obtain ⟨x, h1, h2⟩ := (g.mid hr).1 c
      exact ⟨x, hc x h2, h1⟩
    obtain ⟨p0, ep0⟩ : ∃ s, plOf ps (b0 p) = s := ⟨_, rfl⟩
    have hp0 : p0 ∈ F := (t.mem p0).mpr ⟨_, ep0.symm, m0⟩
    have pm : F.Perm (p0 :: F.erase p0) := List.perm_cons_erase hp0
    obtain ⟨F0, eF0⟩ : ∃ l, F.erase p0 = l := ⟨_, rfl⟩
    rw [eF0] at pm
    have nd0 := pm.nodup_iff.mp t.nd
    have nF0 := List.nodup_cons.mp nd0
    have two : ext p p0 = [p0 ++ [sd p true], p0 ++ [sd p false]] := ext_two fun c => by
      rcases g.fit m0 with ⟨_, a⟩ | ⟨_, ⟨q, _, a, _⟩, _⟩
      · rw [← ep0]; exact a c
      · exact absurd rfl a
    -- what holds of every other place
    have oth : ∀ s ∈ F0, s.length = ps.length ∧ ext p s = [s ++ [sd p (cc p s)]] ∧ ∃ f, s = plOf ps f ∧ Met ps f ∧ ∃ q ∈ ps, f q ≠ b0 p q ∧ ∀ x, x ∈ sd q (f q) → x ∈ sd p (cc p s) := fun s hs => by
      have hsF : s ∈ F := pm.mem_iff.mpr (List.mem_cons_of_mem _ hs)
      obtain ⟨f, rfl, mf⟩ := (t.mem s).mp hsF
      rcases g.fit mf with ⟨a, _⟩ | ⟨c, a, b1, b2⟩
      · refine absurd hs ?_
        rw [plOf_congr a, ep0]
        exact nF0.1
      · obtain ⟨e1, e2⟩ := ext_one b1 b2
        exact ⟨plOf_len _ _, e1, f, rfl, mf, by rw [e2]; exact a⟩
    have l0 : p0.length = ps.length := by rw [← ep0]; exact plOf_len _ _
    have pm2 : (F.flatMap (ext p)).Perm ((p0 ++ [sd p true]) :: (p0 ++ [sd p false]) :: F0.map fun s => s ++ [sd p (cc p s)]) := by
      refine (pm.flatMap_right _).trans ?_
      rw [List.flatMap_cons, two, flat_map1 F0 fun s hs => (oth s hs).2.1]
      exact .refl _
    have inj : ∀ {s u : List (List α)} {c d : List α}, s ++ [c] = u ++ [d] → s = u ∧ c = d := fun {s u c d} e => by
      have := List.append_inj_left' e rfl
      subst this
      exact ⟨rfl, by simpa using e⟩
    have n2 : ((p0 ++ [sd p true]) :: (p0 ++ [sd p false]) :: F0.map fun s => s ++ [sd p (cc p s)]).Nodup := by
      refine List.nodup_cons.mpr ⟨fun z => ?_, List.nodup_cons.mpr ⟨fun z => ?_, ?_⟩⟩
      · rcases List.mem_cons.mp z with z | z
        · have := (g.ne hp').mp (inj z).2
          cases this
        · obtain ⟨s, hs, e⟩ := List.mem_map.mp z
          rw [(inj e).1] at hs
          exact nF0.1 hs
      · obtain ⟨s, hs, e⟩ := List.mem_map.mp z
        rw [(inj e).1] at hs
        exact nF0.1 hs
      · exact List.pairwise_map.mpr (nF0.2.imp fun ne e => ne (inj e).1)
    refine ⟨fun s => ?_, pm2.nodup_iff.mpr n2, ?_, ?_⟩
    · rw [List.mem_flatMap]
      constructor
      · rintro ⟨u, hu, hs⟩
        obtain ⟨f, rfl, mf⟩ := (t.mem u).mp hu
        obtain ⟨c, rfl, hc⟩ := ext_mem.mp hs
        have hc := fits_iff.mp hc
        have ef : ∀ q ∈ ps, (fun z => if z = p then c else f z) q = f q := fun q hq => if_neg fun z => pn (by rw [← z]; exact hq)
        have ep : (fun z => if z = p then c else f z) p = c := if_pos rfl
        refine ⟨fun z => if z = p then c else f z, ?_, fun q hq r hr => ?_⟩
        · rw [plOf_snoc, plOf_congr ef]
          show _ = plOf ps f ++ [sd p ((fun z => if z = p then c else f z) p)]
          rw [ep]
        · rcases List.mem_append.mp hq with hq | hq <;> rcases List.mem_append.mp hr with hr | hr
          · rw [ef q hq, ef r hr]; exact mf q hq r hr
          · rw [List.mem_singleton.mp hr, ef q hq, ep]
            obtain ⟨x, h1, h2⟩ := hc q hq
            exact ⟨x, h2, h1⟩
          · rw [List.mem_singleton.mp hq, ef r hr, ep]
            obtain ⟨x, h1, h2⟩ := hc r hr
            exact ⟨x, h1, h2⟩
          · rw [List.mem_singleton.mp hq, List.mem_singleton.mp hr]
            obtain ⟨x, hx⟩ := g.some_ hp' ((fun z => if z = p then c else f z) p)
            exact ⟨x, hx, hx⟩
      · rintro ⟨f, rfl, mf⟩
        refine ⟨plOf ps f, (t.mem _).mpr ⟨f, rfl, fun q hq r hr => mf q (List.mem_append_left _ hq) r (List.mem_append_left _ hr)⟩, ext_mem.mpr ⟨f p, plOf_snoc _ _ _, fits_iff.mpr fun q hq => ?_⟩⟩
        exact mf p hp' q (List.mem_append_left _ hq)
    · rw [pm2.length_eq, List.length_cons, List.length_cons, List.length_map, List.length_append]
      have h1 := t.len
      rw [pm.length_eq, List.length_cons] at h1
      show F0.length + 1 + 1 = ps.length + 1 + 1
      omega
    · rw [pc_perm nb_comm pm2, pc, pc, List.countP_cons, pc_map, List.countP_map, List.countP_map]
      have h1 := t.nbs
      rw [pc_perm nb_comm pm, pc] at h1
      have e1 : nb (p0 ++ [sd p true]) (p0 ++ [sd p false]) = true := by
        unfold nb
        rw [df_snoc rfl, (df_eq rfl).mpr rfl, if_neg (fun z => by have := (g.ne hp').mp z; cases this)]
        rfl
      have e2 : pc (fun a b => nb (a ++ [sd p (cc p a)]) (b ++ [sd p (cc p b)])) F0 = pc nb F0 := by
        refine pc_congr nF0.2 fun a ha b hb ne => ?_
        obtain ⟨la, _, f, ea, mf, hf⟩ := oth a ha
        obtain ⟨lb, _, k, eb, mk, hk⟩ := oth b hb
        have lab : a.length = b.length := la.trans lb.symm
        by_cases c : cc p a = cc p b
        · unfold nb
          rw [df_snoc lab, c, if_pos rfl]
          rfl
        · have eb2 := bool_ne c
          rw [eb2] at hk
          have fr := g.far mk mf hf hk
          rw [← ea, ← eb] at fr
          rw [fr]
          unfold nb
          rw [df_snoc lab, if_neg fun z => c ((g.ne hp').mp z)]
          refine decide_eq_false fun z => ?_
          have : df a b = 0 := by omega
          exact ne ((df_eq lab).mp this)
      have e3 : ∀ c : Bool, ∀ s ∈ F0, nb (p0 ++ [sd p c]) (s ++ [sd p (cc p s)]) = (nb p0 s && decide (cc p s = c)) := fun c s hs => by
        have ls := (oth s hs).1
        have lp : p0.length = s.length := l0.trans ls.symm
        have d0 : df p0 s ≠ 0 := fun z => nF0.1 (by rw [(df_eq lp).mp z]; exact hs)
        unfold nb
        rw [df_snoc lp]
        by_cases e : cc p s = c
        · rw [e, if_pos rfl, decide_eq_true (rfl : c = c), Bool.and_true]
          rfl
        · rw [if_neg (fun z => e ((g.ne hp').mp z).symm), decide_eq_false e, Bool.and_false]
          exact decide_eq_false fun z => d0 (by omega)
      have e4 : F0.countP ((nb (p0 ++ [sd p true])) ∘ fun s => s ++ [sd p (cc p s)]) + F0.countP ((nb (p0 ++ [sd p false])) ∘ fun s => s ++ [sd p (cc p s)]) = F0.countP (nb p0) := by
        rw [List.countP_congr (p := (nb (p0 ++ [sd p true])) ∘ fun s => s ++ [sd p (cc p s)]) (q := fun s => nb p0 s && decide (cc p s = true)) fun s hs => by rw [Function.comp, e3 true s hs],
          List.countP_congr (p := (nb (p0 ++ [sd p false])) ∘ fun s => s ++ [sd p (cc p s)]) (q := fun s => nb p0 s && decide (cc p s = false)) fun s hs => by rw [Function.comp, e3 false s hs]]
        exact count_two _ _ _
      rw [e1, e2, List.length_append]
      simp only [if_true]
      show _ = ps.length + 1
      omega
theorem Prts.few {h : α} {r : List α} {ps : List (List α × List α)} (g : Prts (h :: r) h ps) : ps.length ≤ r.length * r.length := by
  have inr : ∀ p ∈ ps, ∀ x ∈ p.2, x ∈ r := fun p hp x hx => by
    rcases List.mem_cons.mp (g.sub p hp x hx) with e | e
    · exact absurd (by rw [← e]; exact hx) (g.hd2 p hp)
    · exact e
  have nd : (ps.map fun p => (p.2.headD h, p.2.length)).Nodup := by
    refine List.pairwise_map.mpr ?_
    refine ((List.pairwise_and_iff).mpr ⟨g.nd, g.nc⟩).imp_of_mem fun {p q} hp hq hh e => ?_
    obtain ⟨ne, nc⟩ := hh
    obtain ⟨e1, e2⟩ := Prod.mk.inj e
    have hd : ∀ {z : List α × List α}, z ∈ ps → z.2.headD h ∈ z.2 := fun {z} hz => by
      cases ez : z.2 with
      | nil => exact absurd ez (g.ne2 z hz)
      | cons a l => exact List.mem_cons_self
    have m22 : meet p.2 q.2 = true := meet_iff.mpr ⟨_, hd hp, by rw [e1]; exact hd hq⟩
    have m11 : meet p.1 q.1 = true := meet_iff.mpr ⟨h, g.hd1 p hp, g.hd1 q hq⟩
    have same : (∀ x ∈ p.2, x ∈ q.2) ∨ (∀ x ∈ q.2, x ∈ p.2) := by
      unfold crossB at nc
      rw [m11, m22, Bool.true_and, Bool.and_true] at nc
      cases m12 : meet p.1 q.2 with
      | false =>
        refine .inr fun x hx => ?_
        exact (g.one hp x (g.sub q hq x hx) false).mpr fun y => meet_no.mp m12 x y hx
      | true =>
        rw [m12, Bool.true_and] at nc
        refine .inl fun x hx => ?_
        exact (g.one hq x (g.sub p hp x hx) false).mpr fun y => meet_no.mp nc x hx y
    have full : ∀ {a b : List α}, a.Nodup → b.Nodup → (∀ x ∈ a, x ∈ b) → a.length = b.length → ∀ x, x ∈ a ↔ x ∈ b := fun {a b} na nb s l x => by
      refine ⟨s x, fun hx => ?_⟩
      refine Classical.byContradiction fun y => ?_
      have := (List.nodup_cons.mpr ⟨y, na⟩).length_le_of_subset (l₂ := b) fun z hz => by
        rcases List.mem_cons.mp hz with e | hz
        · rw [e]; exact hx
        · exact s z hz
      rw [List.length_cons] at this
      omega
    rcases same with s | s
    · exact ne (g.eqv p hp q hq (full (g.nd2 p hp) (g.nd2 q hq) s e2))
    · exact ne (g.eqv p hp q hq fun x => (full (g.nd2 q hq) (g.nd2 p hp) s e2.symm x).symm)
  have sub : ∀ z ∈ ps.map (fun p => (p.2.headD h, p.2.length)), z ∈ r.flatMap fun x => (List.range r.length).map fun k => (x, k + 1) := fun z hz => by
    obtain ⟨p, hp, rfl⟩ := List.mem_map.mp hz
    have l1 : p.2.length ≤ r.length := (g.nd2 p hp).length_le_of_subset fun x hx => inr p hp x hx
    cases ez : p.2 with
    | nil => exact absurd ez (g.ne2 p hp)
    | cons a l =>
      rw [ez, List.length_cons] at l1
      refine List.mem_flatMap.mpr ⟨a, inr p hp a (by rw [ez]; exact List.mem_cons_self), List.mem_map.mpr ⟨l.length, List.mem_range.mpr l1, rfl⟩⟩
  have := nd.length_le_of_subset sub
  rw [List.length_map] at this
  refine Nat.le_trans this (Nat.le_of_eq ?_)
  have c : ∀ (l : List α) (n : Nat), (l.flatMap fun x => (List.range n).map fun k => (x, k + 1)).length = l.length * n := fun l n => by
    induction l with
    | nil => simp
    | cons a l ih => rw [List.flatMap_cons, List.length_append, ih, List.length_map, List.length_range, List.length_cons, Nat.succ_mul]; omega
  exact c r r.length
end
end Gx

/-! [val z for z in zs if p z], the test and the value told from without; any two of a list that cross. -/
namespace Gx
open PySem PySem.Spec PyProof.Rows L2 GxR
section
variable {J : It} {n : Nat} {G : Hp → Prop} {Y : Nat → Hp → V → Hp → Prop}
theorem lc_filt {β : Type} (w : Walk J n G Y) (zs : List β) (p : β → Bool) (val : β → V) {g : TG} {tt : TT} {te : TE} {vs : List Nat} {σ : L2.St} {H1 : Hp} {D : Addr} {Qd : Hp → Prop} (nD : H1 D = none) (hn : n = zs.length) (hz : zs.length ≤ 1000000)
    (hG : ∀ H, Grow [] H1 H → G H)
    (hs : ∀ i z x Ha Hb (Pu : V → Hp → Prop) (Pn : Hp → Prop), zs[i]? = some z → Grow [] H1 Ha → Y i Ha x Hb → (∀ Hc, Grow [] Ha Hc → p z = true → Pu (val z) Hc) → (∀ Hc, Grow [] Ha Hc → p z = false → Pn Hc) →
      g x (wipe σ vs) Hb fun σ2 H2 => wipe σ2 vs = wipe σ vs ∧ tt σ2 H2 fun b H3 => if b = true then te σ2 H3 Pu else Pn H3)
    (hd : ∀ H, Grow [] H1 H → H D = some (.lst ((zs.filter p).map val)) → Qd H) :
    ∃ W : Nat → Nat → Hp → Prop, (∃ m, W 0 m (upd H1 D (.lst []))) ∧ ∀ i m H, W i m H →
      (J.stop i H ∧ Qd H) ∨ (J.go i H ∧ ∃ Nx : Hp → Prop, (∀ H', Nx H' → ∃ m', m' < m ∧ W (i + 1) m' H') ∧ ∀ x H', J.yld i H x H' → g x (wipe σ vs) H' fun σ2 H2 => wipe σ2 vs = wipe σ vs ∧ tt σ2 H2 fun b H3 =>
        if b = true then te σ2 H3 fun y H4 => ∃ acc, H4 D = some (.lst acc) ∧ acc.length < sizeLine ∧ Nx (upd H4 D (.lst (acc ++ [y]))) else Nx H3) := by
  subst hn
  refine lc_it w (fun i H' => Grow [] H1 H' ∧ H' D = some (.lst (((zs.take i).filter p).map val))) ⟨grow_new nD, upd_same⟩ (fun i H' _ h => hG H' h.1) (fun i x Ha Hb hi hp hy => ?_) (fun H2 hp => ?_)
  · obtain ⟨ga, ea⟩ := hp
    obtain ⟨z, ez⟩ : ∃ z, zs[i]? = some z := ⟨_, List.getElem?_eq_getElem hi⟩
    have tk : zs.take (i + 1) = zs.take i ++ [z] := by rw [List.take_add_one, ez]; rfl
    refine hs i z x Ha Hb _ _ ez ga hy (fun Hc gc hb => ?_) (fun Hc gc hb => ?_)
    · have ec := gc.lst (by simp) ea
      refine ⟨_, ec, ?_, (ga.trans gc).put (fresh_none nD) ec (fun ps z => by cases z), ?_⟩
      · rw [List.length_map]
        have h1 := List.length_filter_le p (zs.take i)
        rw [List.length_take] at h1
        have : (1000001 : Nat) < sizeLine := by decide
        omega
      · rw [upd_same, tk, List.filter_append, List.filter_cons_of_pos hb, List.filter_nil, List.map_append]
        rfl
    · refine ⟨ga.trans gc, ?_⟩
      rw [gc.lst (by simp) ea, tk, List.filter_append, List.filter_cons_of_neg (by rw [hb]; exact Bool.false_ne_true), List.filter_nil, List.append_nil]
  · obtain ⟨g2, e2⟩ := hp
    rw [List.take_length] at e2
    exact hd H2 g2 e2
end
section
variable {α : Type} [DecidableEq α]
/-- any two of these partings cross -/
def crs (ps : List (List α × List α)) : Bool := (combos ps).any fun z => crossB z.1 z.2
theorem crs_iff (ps : List (List α × List α)) : crs ps = false ↔ ps.Pairwise fun p q => crossB p q = false := by
  unfold crs
  induction ps with
  | nil => exact ⟨fun _ => .nil, fun _ => rfl⟩
  | cons p ps ih =>
    rw [combos, List.any_append, Bool.or_eq_false_iff, ih, List.pairwise_cons, List.any_map, List.any_eq_false]
    refine and_congr_left fun _ => ?_
    exact ⟨fun h q hq => Bool.eq_false_iff.mpr fun z => h q hq z, fun h q hq z => by have := h q hq; rw [show crossB p q = true from z] at this; cases this⟩
end
end Gx

/-! ### roads between hands: taking away a hand with one road, again and again -/
namespace Gx
section
variable {α : Type} [DecidableEq α]
/-- the ends of the roads, in a row -/
def endsOf (rs : List (α × α)) : List α := rs.flatMap fun r => [r.1, r.2]
def meets (x : α) (r : α × α) : Bool := decide (x = r.1) || decide (x = r.2)
def lonely (hs : List α) (rs : List (α × α)) : List α := hs.filter fun h => decide ((endsOf rs).count h = 1)
/-- one turn -/
def stripOne (s : List α × List (α × α)) : List α × List (α × α) :=
  if 1 < s.1.length then match lonely s.1 s.2 with
    | [] => s
    | x :: _ => (s.1.erase x, s.2.filter fun r => !meets x r)
  else s
def strip : Nat → List α × List (α × α) → List α × List (α × α)
  | 0, s => s
  | n + 1, s => strip n (stripOne s)
/-- roads whose ends are two hands -/
structure Form (hs : List α) (rs : List (α × α)) : Prop where
  nd : hs.Nodup
  ends : ∀ r ∈ rs, r.1 ∈ hs ∧ r.2 ∈ hs ∧ r.1 ≠ r.2
inductive Rch (rs : List (α × α)) : α → α → Prop
  | refl (x : α) : Rch rs x x
  | fwd {x y z : α} : Rch rs x y → (y, z) ∈ rs → Rch rs x z
  | bwd {x y z : α} : Rch rs x y → (z, y) ∈ rs → Rch rs x z
theorem Rch.trans {rs : List (α × α)} {x y z : α} (a : Rch rs x y) (b : Rch rs y z) : Rch rs x z := by
  induction b with
  | refl => exact a
  | fwd _ h ih => exact ih.fwd h
  | bwd _ h ih => exact ih.bwd h
theorem Rch.symm {rs : List (α × α)} {x y : α} (a : Rch rs x y) : Rch rs y x := by
  induction a with
  | refl => exact .refl _
  | fwd _ h ih => exact ((Rch.refl _).bwd h).trans ih
  | bwd _ h ih => exact ((Rch.refl _).fwd h).trans ih
theorem Rch.mono {rs rs' : List (α × α)} (s : ∀ r ∈ rs, r ∈ rs') {x y : α} (a : Rch rs x y) : Rch rs' x y := by
  induction a with
  | refl => exact .refl _
  | fwd _ h ih => exact ih.fwd (s _ h)
  | bwd _ h ih => exact ih.bwd (s _ h)
def Conn (hs : List α) (rs : List (α × α)) : Prop := ∀ x ∈ hs, ∀ y ∈ hs, Rch rs x y
theorem count_ends {rs : List (α × α)} (x : α) (h : ∀ r ∈ rs, r.1 ≠ r.2) : (endsOf rs).count x = (rs.filter fun r => meets x r).length := by
  induction rs with
  | nil => rfl
  | cons r rs ih =>
    have ih := ih fun q hq => h q (List.mem_cons_of_mem _ hq)
    have hr := h r List.mem_cons_self
    show (([r.1, r.2] ++ endsOf rs).count x) = _
    rw [List.count_append, ih]
    by_cases c1 : x = r.1
    · have m : meets x r = true := by unfold meets; rw [decide_eq_true c1]; rfl
      rw [List.filter_cons_of_pos (by exact m), List.length_cons]
      have : [r.1, r.2].count x = 1 := by
        rw [c1, List.count_cons_self, List.count_cons_of_ne (Ne.symm hr), List.count_nil]
      omega
    · by_cases c2 : x = r.2
      · have m : meets x r = true := by unfold meets; rw [decide_eq_true c2, Bool.or_true]
        rw [List.filter_cons_of_pos (by exact m), List.length_cons]
        have : [r.1, r.2].count x = 1 := by
          rw [c2, List.count_cons_of_ne hr, List.count_cons_self, List.count_nil]
        omega
      · have m : ¬ meets x r = true := by unfold meets; rw [decide_eq_false c1, decide_eq_false c2]; exact Bool.false_ne_true
        rw [List.filter_cons_of_neg (by exact m)]
        have : [r.1, r.2].count x = 0 := by
          rw [List.count_cons_of_ne (Ne.symm c1), List.count_cons_of_ne (Ne.symm c2), List.count_nil]
        omega
theorem len_parts {β : Type} (p : β → Bool) (l : List β) : l.length = (l.filter p).length + (l.filter fun x => !p x).length := by
  induction l with
  | nil => rfl
  | cons a l ih =>
    cases c : p a with
    | true => rw [List.filter_cons_of_pos c, List.filter_cons_of_neg (by rw [c]; decide), List.length_cons, List.length_cons]; omega
    | false => rw [List.filter_cons_of_neg (by rw [c]; decide), List.filter_cons_of_pos (by rw [c]; rfl), List.length_cons, List.length_cons]; omega
theorem sum_more {hs es : List α} {e : α} (nd : hs.Nodup) (he : e ∈ hs) : (hs.map fun x => (e :: es).count x).sum = (hs.map fun x => es.count x).sum + 1 := by
  induction hs with
  | nil => cases he
  | cons x hs ih =>
    obtain ⟨n1, n2⟩ := List.nodup_cons.mp nd
    rw [List.map_cons, List.map_cons, List.sum_cons, List.sum_cons]
    by_cases c : e = x
    · subst c
      have : (hs.map fun x => (e :: es).count x) = hs.map fun x => es.count x := List.map_congr_left fun y hy => List.count_cons_of_ne (fun z => n1 (by rw [z]; exact hy))
      rw [this, List.count_cons_self]
      omega
    · rcases List.mem_cons.mp he with z | he
      · exact absurd z c
      · rw [ih n2 he, List.count_cons_of_ne c]
        omega
/-- the sum of the counts -/
theorem sum_count {hs es : List α} (nd : hs.Nodup) (h : ∀ e ∈ es, e ∈ hs) : (hs.map fun x => es.count x).sum = es.length := by
  induction es with
  | nil =>
    have z : ∀ l : List α, (l.map fun x => ([] : List α).count x).sum = 0 := fun l => by
      induction l with
      | nil => rfl
      | cons x l ih => rw [List.map_cons, List.sum_cons, ih]; rfl
    exact z hs
  | cons e es ih => rw [sum_more nd (h e List.mem_cons_self), ih fun q hq => h q (List.mem_cons_of_mem _ hq), List.length_cons]
theorem sum_two {l : List Nat} (h : ∀ x ∈ l, 2 ≤ x) : 2 * l.length ≤ l.sum := by
  induction l with
  | nil => exact Nat.le_refl _
  | cons x l ih =>
    have := ih fun y hy => h y (List.mem_cons_of_mem _ hy)
    have := h x List.mem_cons_self
    rw [List.sum_cons, List.length_cons]
    omega
theorem len_ends (rs : List (α × α)) : (endsOf rs).length = 2 * rs.length := by
  induction rs with
  | nil => rfl
  | cons r rs ih =>
    show (r.1 :: r.2 :: endsOf rs).length = _
    rw [List.length_cons, List.length_cons, List.length_cons, ih]
    omega
theorem meets_iff {x : α} {r : α × α} : meets x r = true ↔ x = r.1 ∨ x = r.2 := by
  unfold meets
  rw [Bool.or_eq_true, decide_eq_true_iff, decide_eq_true_iff]
theorem mem_ends {rs : List (α × α)} {e : α} : e ∈ endsOf rs ↔ ∃ r ∈ rs, e = r.1 ∨ e = r.2 := by
  unfold endsOf
  rw [List.mem_flatMap]
  refine exists_congr fun r => and_congr_right fun _ => ?_
  rw [List.mem_cons, List.mem_singleton]
theorem Rch.first {rs : List (α × α)} {x y : α} (a : Rch rs x y) : x = y ∨ ∃ r ∈ rs, meets x r = true := by
  induction a with
  | refl => exact .inl rfl
  | @fwd y z _ h ih =>
    rcases ih with rfl | ih
    · exact .inr ⟨_, h, meets_iff.mpr (.inl rfl)⟩
    · exact .inr ih
  | @bwd y z _ h ih =>
    rcases ih with rfl | ih
    · exact .inr ⟨_, h, meets_iff.mpr (.inr rfl)⟩
    · exact .inr ih
theorem count_one {hs : List α} {rs : List (α × α)} (F : Form hs rs) {x : α} (h : (endsOf rs).count x = 1) : ∃ r0 ∈ rs, meets x r0 = true ∧ ∀ r ∈ rs, meets x r = true → r = r0 := by
  rw [count_ends x fun r hr => (F.ends r hr).2.2] at h
  obtain ⟨r0, e⟩ := List.length_eq_one_iff.mp h
  have m0 : r0 ∈ rs.filter fun r => meets x r := by rw [e]; exact List.mem_cons_self
  refine ⟨r0, (List.mem_filter.mp m0).1, (List.mem_filter.mp m0).2, fun r hr hm => ?_⟩
  have : r ∈ rs.filter fun r => meets x r := List.mem_filter.mpr ⟨hr, hm⟩
  rw [e] at this
  exact List.mem_singleton.mp this
/-- where all is connected and there is one road less than hands, some hand has one road -/
theorem lonely_some {hs : List α} {rs : List (α × α)} (F : Form hs rs) (C : Conn hs rs) (l : 1 < hs.length) (t : rs.length + 1 ≤ hs.length) : lonely hs rs ≠ [] := by
  intro e
  have two : ∀ x ∈ hs, 2 ≤ (endsOf rs).count x := fun x hx => by
    have n1 : (endsOf rs).count x ≠ 1 := fun z => by
      have : x ∈ lonely hs rs := List.mem_filter.mpr ⟨hx, decide_eq_true z⟩
      rw [e] at this
      cases this
    have n0 : 0 < (endsOf rs).count x := by
      obtain ⟨y, hy, ne⟩ : ∃ y ∈ hs, y ≠ x := by
        refine Classical.byContradiction fun z => ?_
        have all : ∀ y ∈ hs, y = x := fun y hy => Classical.byContradiction fun n => z ⟨y, hy, n⟩
        match hs, l, all, F.nd with
        | a :: b :: _, _, all, nd =>
          have h1 := all a List.mem_cons_self
          have h2 := all b (List.mem_cons_of_mem _ List.mem_cons_self)
          exact (List.nodup_cons.mp nd).1 (by rw [h1, ← h2]; exact List.mem_cons_self)
      rcases (C x hx y hy).first with z | ⟨r, hr, hm⟩
      · exact absurd z.symm ne
      · exact List.count_pos_iff.mpr (mem_ends.mpr ⟨r, hr, meets_iff.mp hm⟩)
    omega
  have s := sum_count F.nd (es := endsOf rs) fun q hq => by
    obtain ⟨r, hr, h⟩ := mem_ends.mp hq
    rcases h with rfl | rfl
    · exact (F.ends r hr).1
    · exact (F.ends r hr).2.1
  rw [len_ends] at s
  have g := sum_two (l := hs.map fun x => (endsOf rs).count x) fun q hq => by
    obtain ⟨x, hx, rfl⟩ := List.mem_map.mp hq
    exact two x hx
  rw [List.length_map] at g
  omega
theorem lonely_len {hs : List α} {rs : List (α × α)} (F : Form hs rs) {x : α} (h : (endsOf rs).count x = 1) : (rs.filter fun r => !meets x r).length + 1 = rs.length := by
  rw [count_ends x fun r hr => (F.ends r hr).2.2] at h
  have := len_parts (fun r => meets x r) rs
  omega
theorem Form.less {hs : List α} {rs : List (α × α)} (F : Form hs rs) (x : α) : Form (hs.erase x) (rs.filter fun r => !meets x r) := by
  refine ⟨F.nd.erase x, fun r hr => ?_⟩
  obtain ⟨h1, h2⟩ := List.mem_filter.mp hr
  obtain ⟨e1, e2, e3⟩ := F.ends r h1
  have no : ¬ (x = r.1 ∨ x = r.2) := fun z => by rw [meets_iff.mpr z] at h2; cases h2
  exact ⟨(List.mem_erase_of_ne fun z => no (.inl z.symm)).mpr e1, (List.mem_erase_of_ne fun z => no (.inr z.symm)).mpr e2, e3⟩
/-- without a hand that has one road the rest is connected -/
theorem Conn.less {hs : List α} {rs : List (α × α)} (F : Form hs rs) (C : Conn hs rs) {x : α} (hx : x ∈ hs) (h : (endsOf rs).count x = 1) : Conn (hs.erase x) (rs.filter fun r => !meets x r) := by
  obtain ⟨r0, m0, mx, only⟩ := count_one F h
  obtain ⟨m, hm, nm⟩ : ∃ m, (r0 = (x, m) ∨ r0 = (m, x)) ∧ m ≠ x := by
    have ne := (F.ends r0 m0).2.2
    rcases meets_iff.mp mx with e | e
    · exact ⟨r0.2, .inl (by rw [e]), by rw [e]; exact ne.symm⟩
    · exact ⟨r0.1, .inr (by rw [e]), by rw [e]; exact ne⟩
  have go : ∀ {u v : α}, Rch rs u v → Rch (rs.filter fun r => !meets x r) (if u = x then m else u) (if v = x then m else v) := by
    intro u v a
    have edge : ∀ y z : α, (y, z) ∈ rs → Rch (rs.filter fun r => !meets x r) (if y = x then m else y) (if z = x then m else z) := fun y z hyz => by
      by_cases c : meets x (y, z) = true
      · have e := only _ hyz c
        rcases hm with q | q
        · rw [q] at e
          cases e
          rw [if_pos rfl, if_neg nm]
          exact .refl _
        · rw [q] at e
          cases e
          rw [if_pos rfl, if_neg nm]
          exact .refl _
      · have n1 : y ≠ x := fun w => c (meets_iff.mpr (.inl w.symm))
        have n2 : z ≠ x := fun w => c (meets_iff.mpr (.inr w.symm))
        rw [if_neg n1, if_neg n2]
        refine (Rch.refl _).fwd (List.mem_filter.mpr ⟨hyz, ?_⟩)
        rw [Bool.eq_false_iff.mpr c]
        rfl
    induction a with
    | refl => exact .refl _
    | fwd _ h ih => exact ih.trans (edge _ _ h)
    | bwd _ h ih => exact ih.trans (edge _ _ h).symm
  intro u hu v hv
  have nu : u ≠ x := fun z => by rw [z] at hu; exact (List.Nodup.not_mem_erase F.nd) hu
  have nv : v ≠ x := fun z => by rw [z] at hv; exact (List.Nodup.not_mem_erase F.nd) hv
  have := go (C u (List.mem_of_mem_erase hu) v (List.mem_of_mem_erase hv))
  rwa [if_neg nu, if_neg nv] at this
/-- a hand with one road hangs on the rest -/
theorem Conn.more {hs : List α} {rs : List (α × α)} (F : Form hs rs) {x : α} (h : (endsOf rs).count x = 1) (C : Conn (hs.erase x) (rs.filter fun r => !meets x r)) : Conn hs rs := by
  obtain ⟨r0, m0, mx, _⟩ := count_one F h
  obtain ⟨e1, e2, ne⟩ := F.ends r0 m0
  obtain ⟨m, hm, mh, r⟩ : ∃ m, m ≠ x ∧ m ∈ hs ∧ Rch rs x m := by
    rcases meets_iff.mp mx with e | e
    · exact ⟨r0.2, by rw [e]; exact ne.symm, e2, (Rch.refl _).fwd (by rw [e]; exact m0)⟩
    · exact ⟨r0.1, by rw [e]; exact ne, e1, (Rch.refl _).bwd (by rw [e]; exact m0)⟩
  have toM : ∀ u ∈ hs, Rch rs u m := fun u hu => by
    by_cases c : u = x
    · rw [c]; exact r
    · exact (C u ((List.mem_erase_of_ne c).mpr hu) m ((List.mem_erase_of_ne hm).mpr mh)).mono fun q hq => (List.mem_filter.mp hq).1
  exact fun u hu v hv => (toM u hu).trans (toM v hv).symm
theorem lonely_head {hs : List α} {rs : List (α × α)} {x : α} {r : List α} (e : lonely hs rs = x :: r) : x ∈ hs ∧ (endsOf rs).count x = 1 := by
  have : x ∈ lonely hs rs := by rw [e]; exact List.mem_cons_self
  obtain ⟨h1, h2⟩ := List.mem_filter.mp this
  exact ⟨h1, of_decide_eq_true h2⟩
/-- a tree is stripped bare -/
theorem strip_tree : ∀ (n : Nat) {hs : List α} {rs : List (α × α)}, hs.length ≤ n + 1 → Form hs rs → Conn hs rs → rs.length + 1 = hs.length → (strip n (hs, rs)).1.length = 1 ∧ (strip n (hs, rs)).2 = []
  | 0, hs, rs, l, _, _, t => by
    show hs.length = 1 ∧ rs = []
    exact ⟨by omega, List.length_eq_zero_iff.mp (by omega)⟩
  | n + 1, hs, rs, l, F, C, t => by
    show (strip n (stripOne (hs, rs))).1.length = 1 ∧ (strip n (stripOne (hs, rs))).2 = []
    unfold stripOne
    by_cases c : 1 < hs.length
    · rw [if_pos c]
      cases e : lonely hs rs with
      | nil => exact absurd e (lonely_some F C c (Nat.le_of_eq t))
      | cons x r =>
        obtain ⟨hx, h1⟩ := lonely_head e
        have l1 := lonely_len F h1
        have l2 := List.length_erase_of_mem hx
        exact strip_tree n (by show (hs.erase x).length ≤ n + 1; rw [l2]; omega) (F.less x) (C.less F hx h1) (by show (rs.filter fun r => !meets x r).length + 1 = (hs.erase x).length; rw [l2]; omega)
    · rw [if_neg c]
      exact strip_tree n (by omega) F C t
/-- what is stripped bare is a tree -/
theorem tree_strip : ∀ (n : Nat) {hs : List α} {rs : List (α × α)}, Form hs rs → (strip n (hs, rs)).1.length = 1 → (strip n (hs, rs)).2 = [] → rs.length + 1 = hs.length ∧ Conn hs rs
  | 0, hs, rs, F, h1, h2 => by
    have k1 : hs.length = 1 := h1
    have k2 : rs = [] := h2
    subst k2
    obtain ⟨a, rfl⟩ := List.length_eq_one_iff.mp k1
    refine ⟨rfl, fun x hx y hy => ?_⟩
    rw [List.mem_singleton.mp hx, List.mem_singleton.mp hy]
    exact .refl _
  | n + 1, hs, rs, F, h1, h2 => by
    replace h1 : (strip n (stripOne (hs, rs))).1.length = 1 := h1
    replace h2 : (strip n (stripOne (hs, rs))).2 = [] := h2
    unfold stripOne at h1 h2
    by_cases c : 1 < hs.length
    · rw [if_pos c] at h1 h2
      cases e : lonely hs rs with
      | nil =>
        simp only [e] at h1 h2
        exact tree_strip n F h1 h2
      | cons x r =>
        simp only [e] at h1 h2
        obtain ⟨hx, k1⟩ := lonely_head e
        obtain ⟨t, C⟩ := tree_strip n (F.less x) h1 h2
        have l1 := lonely_len F k1
        have l2 := List.length_erase_of_mem hx
        refine ⟨by omega, Conn.more F k1 C⟩
    · rw [if_neg c] at h1 h2
      exact tree_strip n F h1 h2
/-- to be connected takes a road for each hand but one -/
theorem conn_min : ∀ (n : Nat) {hs : List α} {rs : List (α × α)}, hs.length ≤ n → Form hs rs → Conn hs rs → hs.length ≤ rs.length + 1
  | 0, hs, rs, l, _, _ => by omega
  | n + 1, hs, rs, l, F, C => Classical.byContradiction fun z => by
    have z : rs.length + 1 < hs.length := by omega
    cases e : lonely hs rs with
    | nil => exact lonely_some F C (by omega) (by omega) e
    | cons x r =>
      obtain ⟨hx, h1⟩ := lonely_head e
      have l1 := lonely_len F h1
      have l2 := List.length_erase_of_mem hx
      have := conn_min n (by omega) (F.less x) (C.less F hx h1)
      omega
theorem twice_of {β : Type} [BEq β] [LawfulBEq β] : ∀ {l : List β}, ¬ l.Nodup → ∃ r, r ∈ l ∧ r ∈ l.erase r
  | [], h => absurd List.nodup_nil h
  | a :: l, h => by
    by_cases c : a ∈ l
    · exact ⟨a, List.mem_cons_self, by rw [List.erase_cons_head]; exact c⟩
    · obtain ⟨r, h1, h2⟩ := twice_of (l := l) fun z => h (List.nodup_cons.mpr ⟨c, z⟩)
      refine ⟨r, List.mem_cons_of_mem _ h1, ?_⟩
      rw [List.erase_cons_tail (by simpa using fun z : a = r => c (by rw [z]; exact h1))]
      exact List.mem_cons_of_mem _ h2
/-- no road twice -/
theorem conn_nodup {hs : List α} {rs : List (α × α)} (F : Form hs rs) (C : Conn hs rs) (t : rs.length + 1 = hs.length) : rs.Nodup := Classical.byContradiction fun z => by
  obtain ⟨r, h1, h2⟩ := twice_of z
  have F2 : Form hs (rs.erase r) := ⟨F.nd, fun q hq => F.ends q (List.mem_of_mem_erase hq)⟩
  have C2 : Conn hs (rs.erase r) := fun x hx y hy => (C x hx y hy).mono fun q hq => by
    by_cases c : q = r
    · rw [c]; exact h2
    · exact (List.mem_erase_of_ne c).mpr hq
  have := conn_min hs.length (Nat.le_refl _) F2 C2
  have := List.length_erase_of_mem h1
  have : 0 < rs.length := List.length_pos_of_mem h1
  omega
/-- from one hand all are reached: connected -/
theorem conn_from {hs : List α} {rs : List (α × α)} {x : α} (h : ∀ y ∈ hs, Rch rs x y) : Conn hs rs := fun u hu v hv => (h u hu).symm.trans (h v hv)
end
end Gx

namespace Lw
open PySem PySem.Spec PyProof.Rows L2 GxR Gx
def topS (i : Nat) : Stmt := PySem.Challenge.pw_heardapart_k01_names_and_webs.main.body.getD i (.Pass ⟨0, 0, 0, 0⟩)
abbrev st_is_name : Stmt := topS 2
abbrev N_is_name : List Str := ["thing", "letter"]
theorem sc_is_name : FnScope N_is_name ["thing"] (defScope st_is_name) := ⟨rfl, rfl, rfl, by decide +kernel, rfl, by decide +kernel, by decide +kernel⟩
abbrev st_are_unlike_names : Stmt := topS 3
abbrev N_are_unlike_names : List Str := ["thing", "name"]
theorem sc_are_unlike_names : FnScope N_are_unlike_names ["thing"] (defScope st_are_unlike_names) := ⟨rfl, rfl, rfl, by decide +kernel, rfl, by decide +kernel, by decide +kernel⟩
abbrev st_is_pair : Stmt := topS 4
abbrev N_is_pair : List Str := ["thing"]
theorem sc_is_pair : FnScope N_is_pair ["thing"] (defScope st_is_pair) := ⟨rfl, rfl, rfl, by decide +kernel, rfl, by decide +kernel, by decide +kernel⟩
abbrev st_is_road : Stmt := topS 5
abbrev N_is_road : List Str := ["thing", "hands", "one", "other"]
theorem sc_is_road : FnScope N_is_road ["thing", "hands"] (defScope st_is_road) := ⟨rfl, rfl, rfl, by decide +kernel, rfl, by decide +kernel, by decide +kernel⟩
abbrev st_is_web : Stmt := topS 6
abbrev N_is_web : List Str := ["thing", "hands", "roads", "known", "hand", "road"]
theorem sc_is_web : FnScope N_is_web ["thing"] (defScope st_is_web) := ⟨rfl, rfl, rfl, by decide +kernel, rfl, by decide +kernel, by decide +kernel⟩
abbrev st_neighbours_in : Stmt := topS 7
abbrev N_neighbours_in : List Str := ["web", "hands", "roads", "near", "hand", "one", "other"]
theorem sc_neighbours_in : FnScope N_neighbours_in ["web"] (defScope st_neighbours_in) := ⟨rfl, rfl, rfl, by decide +kernel, rfl, by decide +kernel, by decide +kernel⟩
abbrev st_hands_ahead : Stmt := topS 8
abbrev N_hands_ahead : List Str := ["web", "start", "barred", "near", "ahead", "waiting", "hand", "other"]
theorem sc_hands_ahead : FnScope N_hands_ahead ["web", "start", "barred"] (defScope st_hands_ahead) := ⟨rfl, rfl, rfl, by decide +kernel, rfl, by decide +kernel, by decide +kernel⟩
abbrev st_law_pot : Stmt := topS 10
abbrev N_law_pot : List Str := ["script", "k", "cell"]
theorem sc_law_pot : FnScope N_law_pot ["script", "k"] (defScope st_law_pot) := ⟨rfl, rfl, rfl, by decide +kernel, rfl, by decide +kernel, by decide +kernel⟩
abbrev st_law_dip : Stmt := topS 11
abbrev N_law_dip : List Str := ["pot", "many", "found", "mixed"]
theorem sc_law_dip : FnScope N_law_dip ["pot", "many"] (defScope st_law_dip) := ⟨rfl, rfl, rfl, by decide +kernel, rfl, by decide +kernel, by decide +kernel⟩
abbrev st_law_names : Stmt := topS 12
abbrev N_law_names : List Str := ["pot", "many", "pool", "one", "other", "k"]
theorem sc_law_names : FnScope N_law_names ["pot", "many"] (defScope st_law_names) := ⟨rfl, rfl, rfl, by decide +kernel, rfl, by decide +kernel, by decide +kernel⟩
abbrev st_law_web : Stmt := topS 13
abbrev N_law_web : List Str := ["pot", "many", "hands", "way", "roads", "k", "at"]
theorem sc_law_web : FnScope N_law_web ["pot", "many"] (defScope st_law_web) := ⟨rfl, rfl, rfl, by decide +kernel, rfl, by decide +kernel, by decide +kernel⟩
abbrev st_law_odd : Stmt := topS 14
abbrev N_law_odd : List Str := ["pot", "some"]
theorem sc_law_odd : FnScope N_law_odd ["pot"] (defScope st_law_odd) := ⟨rfl, rfl, rfl, by decide +kernel, rfl, by decide +kernel, by decide +kernel⟩
abbrev st_law_is_name : Stmt := topS 15
abbrev N_law_is_name : List Str := ["thing", "sign"]
theorem sc_law_is_name : FnScope N_law_is_name ["thing"] (defScope st_law_is_name) := ⟨rfl, rfl, rfl, by decide +kernel, rfl, by decide +kernel, by decide +kernel⟩
abbrev st_law_has_form : Stmt := topS 16
abbrev N_law_has_form : List Str := ["thing", "hands", "roads", "hand", "road"]
theorem sc_law_has_form : FnScope N_law_has_form ["thing"] (defScope st_law_has_form) := ⟨rfl, rfl, rfl, by decide +kernel, rfl, by decide +kernel, by decide +kernel⟩
abbrev st_law_is_web : Stmt := topS 17
abbrev N_law_is_web : List Str := ["thing", "hands", "roads", "turn", "ends", "road", "lone", "hand"]
theorem sc_law_is_web : FnScope N_law_is_web ["thing"] (defScope st_law_is_web) := ⟨rfl, rfl, rfl, by decide +kernel, rfl, by decide +kernel, by decide +kernel⟩
abbrev st_law_bent : Stmt := topS 18
abbrev N_law_bent : List Str := ["pot", "web", "hands", "roads", "one", "other", "at", "way", "again", "road", "hand"]
theorem sc_law_bent : FnScope N_law_bent ["pot", "web"] (defScope st_law_bent) := ⟨rfl, rfl, rfl, by decide +kernel, rfl, by decide +kernel, by decide +kernel⟩
abbrev st_law : Stmt := topS 19
abbrev N_law : List Str := ["script", "k", "pot", "web", "some", "turn", "thing", "kept", "letters", "wide", "text"]
theorem sc_law : FnScope N_law ["script"] (defScope st_law) := ⟨rfl, rfl, rfl, by decide +kernel, rfl, by decide +kernel, by decide +kernel⟩
/-- names that the top leaves to the built-ins -/
structure Nb (mg : Str → Option Value) : Prop where
  n_all : mg "all" = none
  n_int : mg "int" = none
  n_isinstance : mg "isinstance" = none
  n_len : mg "len" = none
  n_list : mg "list" = none
  n_max : mg "max" = none
  n_min : mg "min" = none
  n_range : mg "range" = none
  n_repr : mg "repr" = none
  n_set : mg "set" = none
  n_sorted : mg "sorted" = none
  n_str : mg "str" = none
  n_tuple : mg "tuple" = none
  n_type : mg "type" = none
section
variable {P : Program} {w : World} {K : PySem.W.Frag} {mg : Str → Option Value} {base : Heap}
/-! ### is_name -/
def nameC (c : Nat) : Bool := decide (97 ≤ c) && decide (c ≤ 122)
def isNm (z : Str) : Bool := decide (1 ≤ z.length) && decide (z.length ≤ 8) && z.cps.toList.all nameC
def spIsName (K : PySem.W.Frag) (T : Addr) : Sp := fun vs H Q _ => ∃ x, vs = [x] ∧ TabG H T ∧
  ((∃ z : Str, x = .str z ∧ z.length ≤ sizeLine ∧ ∀ H', Grow [] H H' → Q (.bl (isNm z)) H') ∨ ∃ U, U ≠ "str" ∧ TyB K H x U ∧ Q (.bl false) H)
theorem lt1 (a b : Nat) : decide ([a] < [b]) = decide (a < b) := by
  have h : ([a] < [b]) ↔ a < b := by
    rw [List.cons_lt_cons_iff]
    simp
  exact decide_eq_decide.mpr h
theorem ge_a (c : Nat) : (!decide ([c] < [97])) = decide (97 ≤ c) := by
  rw [lt1]
  by_cases h : 97 ≤ c
  · rw [decide_eq_true h, decide_eq_false (by omega)]; rfl
  · rw [decide_eq_false h, decide_eq_true (by omega)]; rfl
theorem le_z (c : Nat) : (!decide ([122] < [c])) = decide (c ≤ 122) := by
  rw [lt1]
  by_cases h : c ≤ 122
  · rw [decide_eq_true h, decide_eq_false (by omega)]; rfl
  · rw [decide_eq_false h, decide_eq_true (by omega)]; rfl
theorem ok_is_name {f c T : Addr} {fd : FuncData} {tk : Tok} (B : Nb mg) (D : DefIs K "is_name" "is_name" st_is_name f fd (.ref c)) (x_is_name : TabB base mg c T) (k_MOST_LETTERS : mg "MOST_LETTERS" = some (.int 8 tk)) :
    FnG P w K mg base CX0 4 f fd ["thing"] (spIsName K T) := by
  refine D.ok0 (k := 3) sc_is_name (fun vs H Q E h => ?_) (fun A outer s H vs Q E g hr h => ?_)
  · obtain ⟨x, rfl, _⟩ := h
    rfl
  obtain ⟨x, rfl, tT, h⟩ := h
  refine ⟨_,
      (pss_cons (ps_if (PW.pt (pw_or (pt_cmpR (op_notTyB) (pe_callTy call_type1 rfl B.n_type (by decide +kernel) (pa_cons (pv 0) pa_nil)) (pe_bltn (v := .ty "str") rfl B.n_str (by decide +kernel) rfl) (nomark _)) (pw_or1 (pt_not (pt_chain (op_le) (op_le) pe_int (pe_callB call_len_str rfl B.n_len PySem.boot_len (pa_cons (pv 0) pa_nil)) (pe_glob (v := .int 8) rfl k_MOST_LETTERS ⟨_, rfl⟩)))))) (
        (pss_one (ps_ret pe_bl))) pss_nil)
      (pss_one (ps_ret (pe_allG (own := [("letter", 1)]) hr (gx_ok (N := N_is_name) (dsc := defScope st_is_name) x_is_name sc_is_name.nd (by decide +kernel) (by decide +kernel)) rfl B.n_all (by decide +kernel) (pi_str (pv 0)) (fun _ _ _ _ _ => (pg_name (i := 1) sc_is_name.nd rfl (.inl rfl))) (fun _ _ _ _ _ => pe_to (pe_chain (op_le_str) (op_le_str) pe_str (pv 1) pe_str)))))), ?_⟩
  rcases h with ⟨z, rfl, hz, q⟩ | ⟨U, hU, ty, q⟩
  · refine ⟨.str z, rfl, _, "str", rfl, .str z, "str", "str", rfl, rfl, _, rfl, iteNS rfl ⟨.str z, rfl, z, rfl, hz, 1, z.length, rfl, rfl, _, rfl, ?_⟩⟩
    have no : isNm z = false → Q (.bl false) H := fun e => by
      rw [← e]
      exact q H (Grow.refl _ _)
    by_cases h1 : (1 : Int) ≤ z.length
    · rw [if_pos (decide_eq_true h1)]
      refine ⟨z.length, 8, rfl, rfl, _, rfl, ?_⟩
      by_cases h8 : (z.length : Int) ≤ 8
      · rw [decide_eq_true h8]
        refine iteF ⟨.str z, rfl, z, rfl, tT, ?_⟩
        have hall : ∀ b : Bool, b = z.cps.toList.all nameC → ∀ H', Grow [] H H' → Q (.bl b) H' := fun b e H' gr => by
          have e2 : isNm z = b := by
            unfold isNm
            rw [decide_eq_true (by omega : 1 ≤ z.length), decide_eq_true (by omega : z.length ≤ 8), e]
            rfl
          rw [← e2]
          exact q H' gr
        refine truth_text (fun i H' => Grow [] H H' ∧ (z.cps.toList.take i).all nameC = true) (fun H2 t => ⟨grow_tab tT t, rfl⟩) (fun i cc H' hc hp => ?_) fun H' hp => ?_
        · have e1 : (!decide ((⟨#[cc]⟩ : Str).cps.toList < (Str.ofString "a").cps.toList)) = decide (97 ≤ cc) := ge_a cc
          have e2 : (!decide ((Str.ofString "z").cps.toList < (⟨#[cc]⟩ : Str).cps.toList)) = decide (cc ≤ 122) := le_z cc
          have out : nameC cc = false → Q (.bl false) H' := fun e => by
            refine hall false ?_ H' hp.1
            refine (List.all_eq_false.mpr ⟨cc, List.mem_of_getElem? hc, ?_⟩).symm
            rw [e]
            exact Bool.false_ne_true
          refine ⟨rfl, .str ⟨#[cc]⟩, rfl, _, _, rfl, rfl, _, rfl, ?_⟩
          rw [e1]
          by_cases ca : 97 ≤ cc
          · rw [if_pos (decide_eq_true ca)]
            refine ⟨_, _, rfl, rfl, _, rfl, ?_⟩
            rw [e2]
            by_cases cz : cc ≤ 122
            · rw [if_neg (by rw [decide_eq_true cz]; exact fun z => Bool.noConfusion z)]
              refine ⟨hp.1, ?_⟩
              rw [List.take_add_one, hc, List.all_append, hp.2]
              show (true && (nameC cc && true)) = true
              unfold nameC
              rw [decide_eq_true ca, decide_eq_true cz]
              rfl
            · rw [if_pos (decide_eq_false cz)]
              refine out ?_
              unfold nameC
              rw [decide_eq_false cz, Bool.and_false]
          · rw [if_neg (by rw [decide_eq_false ca]; exact Bool.false_ne_true)]
            refine ⟨false, rfl, ?_⟩
            rw [if_pos rfl]
            refine out ?_
            unfold nameC
            rw [decide_eq_false ca, Bool.false_and]
        · refine hall true ?_ H' hp.1
          have := hp.2
          rw [List.take_length] at this
          exact this.symm
      · rw [decide_eq_false h8]
        refine iteT (no ?_)
        unfold isNm
        rw [decide_eq_false (by omega : ¬ z.length ≤ 8), Bool.and_false, Bool.false_and]
    · rw [decide_eq_false h1]
      refine iteF ⟨_, rfl, iteT (no ?_)⟩
      unfold isNm
      rw [decide_eq_false (by omega : ¬ 1 ≤ z.length), Bool.false_and, Bool.false_and]
  · refine ⟨x, rfl, _, U, rfl, ty, U, "str", rfl, rfl, _, rfl, ?_⟩
    rw [decide_eq_false hU]
    exact iteT (iteT q)
end

section
variable {P : Program} {w : World} {K : PySem.W.Frag} {mg : Str → Option Value} {base : Heap}
/-! ### are_unlike_names, is_book -/
def nameV : V → Bool
  | .str z => isNm z
  | _ => false
def bookV (xs : List V) : Bool := xs.all nameV && decide xs.Nodup
theorem nameV_str (x : V) (h : nameV x = true) : ∃ z, x = .str z := by
  cases x with
  | str z => exact ⟨z, rfl⟩
  | _ => cases h
def spUnlike (K : PySem.W.Frag) (T1 T2 : Addr) : Sp := fun vs H Q _ => ∃ x, vs = [x] ∧ TabG H T1 ∧ TabG H T2 ∧
  ((∃ (l : Addr) (xs : List V), x = .ref l ∧ SqL K H l xs ∧ (∀ x ∈ xs, Known K H x) ∧ xs.length ≤ 4000 ∧ ∀ H', Grow [] H H' → Q (.bl (bookV xs)) H') ∨ ∃ U, U ≠ "list" ∧ TyB K H x U ∧ Q (.bl false) H)
theorem ok_are_unlike_names {f c T1 T : Addr} {fd : FuncData} (B : Nb mg) (D : DefIs K "are_unlike_names" "are_unlike_names" st_are_unlike_names f fd (.ref c)) (x_are_unlike_names : TabB base mg c T)
    (c_is_name : Callee P w K mg base CX0 4 "is_name" ["thing"] (spIsName K T1)) : FnG P w K mg base CX0 8 f fd ["thing"] (spUnlike K T1 T) := by
  refine D.ok0 (k := 7) sc_are_unlike_names (fun vs H Q E h => ?_) (fun A outer s H vs Q E g hr h => ?_)
  · obtain ⟨x, rfl, _⟩ := h
    rfl
  obtain ⟨x, rfl, t1, tT, h⟩ := h
  refine ⟨_,
      (pss_cons (ps_if (PW.pt (pw_or (pt_cmpR (op_notTyB) (pe_callTy call_type1 rfl B.n_type (by decide +kernel) (pa_cons (pv 0) pa_nil)) (pe_bltn (v := .ty "list") rfl B.n_list (by decide +kernel) rfl) (nomark _)) (pw_or1 (pt_not (pt_val (pe_allG (own := [("name", 1)]) hr (gx_ok (N := N_are_unlike_names) (dsc := defScope st_are_unlike_names) x_are_unlike_names sc_are_unlike_names.nd (by decide +kernel) (by decide +kernel)) rfl B.n_all (by decide +kernel) (pi_list (pv 0)) (fun _ _ _ _ _ => (pg_name (i := 1) sc_are_unlike_names.nd rfl (.inl rfl))) (fun _ _ _ _ _ => pe_to (pe_g c_is_name g ((room_gx hr).mono (by decide)) pass0 (pa_cons (pv 1) pa_nil))))))))) (
        (pss_one (ps_ret pe_bl))) pss_nil)
      (pss_one (ps_ret (pe_cmpR (op_eq) (pe_lenSetS rfl B.n_len rfl B.n_set hr.hd (pv 0)) (pe_callB call_len_seq rfl B.n_len PySem.boot_len (pa_cons (pv 0) pa_nil)) (nomark _))))), ?_⟩
  rcases h with ⟨l, xs, rfl, hl, hk, hz, q⟩ | ⟨U, hU, ty, q⟩
  · refine ⟨.ref l, rfl, _, "list", rfl, .lst hl, "list", "list", rfl, rfl, _, rfl, iteNS rfl ⟨.ref l, rfl, l, rfl, ⟨xs, hl⟩, tT, ?_⟩⟩
    refine truth_list (xs := xs) (fun i H' => Grow [] H H' ∧ (xs.take i).all nameV = true) (fun H2 t => ⟨grow_tab tT t, rfl⟩) (fun i H' hp => hp.1.seq0 hl) (fun i x H' hx hp => ?_) fun H' hp => ?_
    · refine ⟨rfl, x, rfl, x, rfl, hp.1.tabs _ t1, ?_⟩
      have key : ∀ b, b = nameV x → ∀ H2, Grow [] H' H2 → (b = false → Q (.bl false) H2) ∧ (b = true → Grow [] H H2 ∧ (xs.take (i + 1)).all nameV = true) := fun b e H2 gr => by
        refine ⟨fun hb => ?_, fun hb => ⟨hp.1.trans gr, ?_⟩⟩
        · have eb : bookV xs = false := by
            unfold bookV
            rw [(List.all_eq_false.mpr ⟨x, List.mem_of_getElem? hx, by rw [← e, hb]; exact Bool.false_ne_true⟩ : xs.all nameV = false), Bool.false_and]
          rw [← eb]
          exact q H2 (hp.1.trans gr)
        · rw [List.take_add_one, hx, List.all_append, hp.2]
          show (true && (nameV x && true)) = true
          rw [← e, hb]
          rfl
      rcases (hk x (List.mem_of_getElem? hx)).grow hp.1 with ⟨z, rfl, hz'⟩ | ⟨U, nU, tU⟩
      · refine .inl ⟨z, rfl, hz', fun H2 gr => ?_⟩
        obtain ⟨k1, k2⟩ := key (isNm z) rfl H2 gr
        refine ⟨isNm z, rfl, ?_⟩
        cases hb : isNm z with
        | false =>
          rw [if_pos rfl]
          exact ⟨false, rfl, iteT (k1 hb)⟩
        | true =>
          rw [if_neg (fun z => Bool.noConfusion z)]
          exact k2 hb
      · refine .inr ⟨U, nU, tU, ?_⟩
        have e : nameV x = false := by
          cases hb : nameV x with
          | false => rfl
          | true =>
            obtain ⟨z, rfl⟩ := nameV_str x hb
            cases tU
            exact absurd rfl nU
        refine ⟨false, rfl, ?_⟩
        rw [if_pos rfl]
        exact ⟨false, rfl, iteT ((key false e.symm H' (Grow.refl _ _)).1 rfl)⟩
    · have hall : xs.all nameV = true := by
        have := hp.2
        rwa [List.take_length] at this
      have ex := strs_of nameV_str hall
      refine ⟨true, rfl, iteF ?_⟩
      refine ⟨.ref l, rfl, l, xs.map theStr, rfl, by rw [← ex]; exact hp.1.seq0 hl, by rw [List.length_map]; exact hz, ?_⟩
      refine ⟨.ref l, rfl, l, xs, rfl, .inl (hp.1.seq0 hl), ?_⟩
      have e : decide (V.int ((uq [] (xs.map theStr)).length : Nat) = V.int (xs.length : Nat)) = bookV xs := by
        unfold bookV
        rw [hall, Bool.true_and]
        have e1 : decide (V.int ((uq [] (xs.map theStr)).length : Nat) = V.int (xs.length : Nat)) = decide (((uq [] (xs.map theStr)).length : Int) = ((xs.map theStr).length : Int)) :=
          decide_eq_decide.mpr ⟨fun h => by rw [List.length_map]; exact V.int.inj h, fun h => by rw [List.length_map] at h; rw [h]⟩
        rw [e1, uq_same]
        exact decide_eq_decide.mpr (Iff.trans nodup_str.symm (by rw [← ex]))
      show rEq _ _ _ _
      refine ⟨rfl, ?_⟩
      rw [e]
      exact q H' hp.1
  · refine ⟨x, rfl, _, U, rfl, ty, U, "list", rfl, rfl, _, rfl, ?_⟩
    rw [decide_eq_false hU]
    exact iteT (iteT q)
end

section
variable {K : PySem.W.Frag}
/-! ### books -/
/-- a book -/
structure Bk (zs : List Str) : Prop where
  nm : zs.all isNm = true
  nd : zs.Nodup
  len : zs.length ≤ 200
theorem Bk.perm {zs ws : List Str} (b : Bk zs) (p : zs.Perm ws) : Bk ws :=
  ⟨by rw [List.all_eq_true] at *; exact fun x h => List.all_eq_true.mp b.nm x (p.mem_iff.mpr h), p.nodup_iff.mp b.nd, by rw [← p.length_eq]; exact b.len⟩
theorem Bk.v {zs : List Str} (b : Bk zs) : bookV (zs.map V.str) = true := by
  unfold bookV
  rw [decide_eq_true (nodup_str.mpr b.nd), Bool.and_true, List.all_map]
  exact b.nm
theorem Bk.short {zs : List Str} (b : Bk zs) {z : Str} (h : z ∈ zs) : z.length ≤ 8 := by
  have := List.all_eq_true.mp b.nm z h
  unfold isNm at this
  rw [Bool.and_eq_true, Bool.and_eq_true, decide_eq_true_iff, decide_eq_true_iff] at this
  exact this.1.2
theorem Bk.known {zs : List Str} (b : Bk zs) {H : Hp} : ∀ x ∈ zs.map V.str, Known K H x := fun x h => by
  obtain ⟨z, hz, rfl⟩ := List.mem_map.mp h
  exact .inl ⟨z, rfl, Nat.le_trans (b.short hz) (by decide)⟩
theorem nm_lt {z : Str} (h : isNm z = true) : ∀ c ∈ z.cps.toList, c < 0x110000 := fun c hc => by
  unfold isNm at h
  rw [Bool.and_eq_true] at h
  have := List.all_eq_true.mp h.2 c hc
  unfold nameC at this
  rw [Bool.and_eq_true, decide_eq_true_iff, decide_eq_true_iff] at this
  omega
theorem Bk.fine {zs : List Str} (b : Bk zs) {z : Str} (h : z ∈ zs) : Fine (.str z) 0 8 := .str (nm_lt (List.all_eq_true.mp b.nm z h)) (b.short h)
theorem fine_name {z : Str} (h1 : isNm z = true) : Fine (.str z) 0 8 := by
  refine .str (nm_lt h1) ?_
  unfold isNm at h1
  rw [Bool.and_eq_true, Bool.and_eq_true, decide_eq_true_iff, decide_eq_true_iff] at h1
  exact h1.1.2
theorem fine_names {zs : List Str} (hn : zs.all isNm = true) (hz : zs.length ≤ 200) : Fine (.list (zs.map PyData.str)) 1 1800 := Fine.list (n := 0) (m := 8) (fun d hd => by
  obtain ⟨z, h, rfl⟩ := List.mem_map.mp hd
  have h1 := List.all_eq_true.mp hn z h
  refine .str (nm_lt h1) ?_
  unfold isNm at h1
  rw [Bool.and_eq_true, Bool.and_eq_true, decide_eq_true_iff, decide_eq_true_iff] at h1
  exact h1.1.2) (by rw [List.length_map]; omega)
theorem all_perm {zs ws : List Str} (h : zs.all isNm = true) (p : ws.Perm zs) : ws.all isNm = true := List.all_eq_true.mpr fun x hx => List.all_eq_true.mp h x (p.mem_iff.mp hx)
theorem seqIndex_nat {v : Int} {n : Nat} (h0 : 0 ≤ v) (h : v < n) : seqIndex? v n = some v.toNat := by
  have e : seqIndex? v n = if (decide (0 ≤ (if v < 0 then v + n else v)) && decide ((if v < 0 then v + n else v) < n)) = true then some (if v < 0 then v + n else v).toNat else none := rfl
  rw [e, if_neg (by omega : ¬ v < 0), decide_eq_true h0, decide_eq_true h]
  rfl
end

/-! ### webs -/
/-- two that a road lies between -/
def Adj (roads : List (Str × Str)) (a b : Str) : Prop := (a, b) ∈ roads ∨ (b, a) ∈ roads
theorem Adj.symm {roads : List (Str × Str)} {a b : Str} (h : Adj roads a b) : Adj roads b a := h.elim .inr .inl
/-- the neighbours of a hand, in the roads' order -/
def nbrs (roads : List (Str × Str)) (h : Str) : List Str := roads.flatMap fun r => (if r.1 = h then [r.2] else []) ++ (if r.2 = h then [r.1] else [])
theorem mem_nbrs {roads : List (Str × Str)} {h x : Str} : x ∈ nbrs roads h ↔ Adj roads h x := by
  unfold nbrs Adj
  rw [List.mem_flatMap]
  constructor
  · rintro ⟨⟨a, b⟩, hr, hx⟩
    rcases List.mem_append.mp hx with hx | hx
    · by_cases e : a = h
      · rw [if_pos e] at hx
        rw [List.mem_singleton.mp hx, ← e]
        exact .inl hr
      · rw [if_neg e] at hx
        cases hx
    · by_cases e : b = h
      · rw [if_pos e] at hx
        rw [List.mem_singleton.mp hx, ← e]
        exact .inr hr
      · rw [if_neg e] at hx
        cases hx
  · rintro (hr | hr)
    · exact ⟨_, hr, List.mem_append_left _ (by rw [if_pos rfl]; exact List.mem_singleton.mpr rfl)⟩
    · exact ⟨_, hr, List.mem_append_right _ (by rw [if_pos rfl]; exact List.mem_singleton.mpr rfl)⟩
theorem nbrs_len (roads : List (Str × Str)) (h : Str) : (nbrs roads h).length ≤ 2 * roads.length := by
  induction roads with
  | nil => exact Nat.zero_le _
  | cons r rs ih =>
    have e : nbrs (r :: rs) h = ((if r.1 = h then [r.2] else []) ++ (if r.2 = h then [r.1] else [])) ++ nbrs rs h := List.flatMap_cons ..
    rw [e, List.length_append, List.length_append, List.length_cons]
    have h1 : (if r.1 = h then [r.2] else []).length ≤ 1 := by split <;> simp
    have h2 : (if r.2 = h then [r.1] else []).length ≤ 1 := by split <;> simp
    omega
/-- d tells how many roads lie between each hand and r -/
structure Rooted (hands : List Str) (roads : List (Str × Str)) (r : Str) (d : Str → Nat) : Prop where
  root : r ∈ hands
  zero : d r = 0
  near : ∀ a b, Adj roads a b → d a + 1 = d b ∨ d b + 1 = d a
  up : ∀ h, h ∈ hands → h ≠ r → ∃ p, Adj roads h p ∧ d p + 1 = d h
  one : ∀ h p q, Adj roads h p → Adj roads h q → d p < d h → d q < d h → p = q
theorem Rooted.only {hands : List Str} {roads : List (Str × Str)} {r : Str} {d : Str → Nat} (R : Rooted hands roads r d) {h : Str} (hh : h ∈ hands) (h0 : d h = 0) : h = r := by
  by_cases e : h = r
  · exact e
  · obtain ⟨p, _, hp⟩ := R.up h hh e
    omega
/-- a web -/
structure WebOk (hands : List Str) (roads : List (Str × Str)) : Prop where
  nm : hands.all isNm = true
  nd : hands.Nodup
  len : hands.length ≤ 200
  ne : hands ≠ []
  many : roads.length + 1 = hands.length
  ends : ∀ r ∈ roads, r.1 ∈ hands ∧ r.2 ∈ hands ∧ r.1.cps.toList < r.2.cps.toList
  tree : ∀ r ∈ hands, ∃ d, Rooted hands roads r d
theorem WebOk.adj {hands : List Str} {roads : List (Str × Str)} (w : WebOk hands roads) {a b : Str} (h : Adj roads a b) : a ∈ hands ∧ b ∈ hands := by
  rcases h with h | h
  · exact ⟨(w.ends _ h).1, (w.ends _ h).2.1⟩
  · exact ⟨(w.ends _ h).2.1, (w.ends _ h).1⟩
/-- what hands_ahead tells: each hand with the one ahead of it -/
structure AheadOk (hands : List Str) (roads : List (Str × Str)) (start : Str) (barred : Option Str) (ks : List (Str × Option Str)) : Prop where
  nd : (ks.map Prod.fst).Nodup
  first : ks[0]? = some (start, none)
  each : ∀ j h v, ks[j]? = some (h, v) → h ∈ hands ∧ (j = 0 ∨ (some h ≠ barred ∧ ∃ p i w, v = some p ∧ Adj roads p h ∧ i < j ∧ ks[i]? = some (p, w)))
/-- what is told of a tree: by how many roads, too -/
theorem AheadOk.down {hands : List Str} {roads : List (Str × Str)} {start : Str} {barred : Option Str} {ks : List (Str × Option Str)} {d : Str → Nat} (K : AheadOk hands roads start barred ks) (R : Rooted hands roads start d) :
    ∀ (n j : Nat), j < n → ∀ h p, ks[j]? = some (h, some p) → Adj roads h p ∧ d p + 1 = d h
  | n + 1, j, hj, h, p, e => by
    obtain ⟨hh, hv⟩ := K.each j h _ e
    rcases hv with rfl | ⟨_, p', i, w, ev, ap, hij, ei⟩
    · rw [K.first] at e
      cases e
    · cases ev
      refine ⟨ap.symm, ?_⟩
      rcases R.near _ _ ap with q | q
      · exact q
      · exfalso
        have pz : p ≠ start := fun z => by
          rw [z, R.zero] at q
          omega
        cases w with
        | none =>
          obtain ⟨_, hv2⟩ := K.each i p _ ei
          rcases hv2 with rfl | ⟨_, _, _, _, ev, _⟩
          · rw [K.first] at ei
            cases ei
            exact pz rfl
          · cases ev
        | some g =>
          obtain ⟨a1, a2⟩ := AheadOk.down K R n i (by omega) p g ei
          have eg : g = h := R.one p g h a1 ap (by omega) (by omega)
          obtain ⟨_, hv2⟩ := K.each i p _ ei
          rcases hv2 with rfl | ⟨_, p2, i2, w2, ev, _, hi2, ei2⟩
          · rw [K.first] at ei
            cases ei
          · cases ev
            rw [eg] at ei2
            have c1 : (ks.map Prod.fst)[i2]? = some h := by rw [List.getElem?_map, ei2]; rfl
            have c2 : (ks.map Prod.fst)[j]? = some h := by rw [List.getElem?_map, e]; rfl
            have := (List.getElem?_inj (List.getElem?_eq_some_iff.mp c1).1 K.nd).mp (c1.trans c2.symm)
            omega

end Lw

namespace Lw
open PySem PySem.Spec PyProof.Rows L2 GxR Gx
section
variable {P : Program} {w : World} {K : PySem.W.Frag} {mg : Str → Option Value} {base : Heap}
/-! ### the drawing: _law_pot, _law_dip -/
/-- what is drawn from: a number used up first, then a mixed one; no more than c turns of it -/
def Pot (H : Hp) (p : Addr) (c : Int) : Prop := ∃ a b k : Int, H p = some (.lst [.int a, .int b, .int k]) ∧ 0 ≤ b ∧ b < 2 ^ 160 ∧ 0 ≤ k ∧ k ≤ c
theorem Pot.mono {H : Hp} {p : Addr} {c c' : Int} (h : Pot H p c) (l : c ≤ c') : Pot H p c' := by
  obtain ⟨a, b, k, e, b1, b2, b3, b4⟩ := h
  exact ⟨a, b, k, e, b1, b2, b3, by omega⟩
theorem Pot.new {H : Hp} {p q : Addr} {o : HO} {c : Int} (h : Pot H p c) (n : H q = none) : Pot (upd H q o) p c := by
  obtain ⟨a, b, k, e, r⟩ := h
  exact ⟨a, b, k, by rw [upd_ne (ne_of_none e n)]; exact e, r⟩
theorem Pot.at {H : Hp} {p q : Addr} {o : HO} {c : Int} (h : Pot H p c) (n : p ≠ q) : Pot (upd H q o) p c := by
  obtain ⟨a, b, k, e, r⟩ := h
  exact ⟨a, b, k, by rw [upd_ne n]; exact e, r⟩
theorem Fresh.back {H H2 : Hp} {D p : Addr} {c : Int} (fr : Fresh H2 D) (g : Grow [p] H H2) (h : Pot H2 p c) : Fresh H D := by
  obtain ⟨a, b, k, e, _⟩ := h
  have n := fr.ne e (fun ps z => by cases z)
  exact g.fresh (by simpa using n.symm) fr
def spPot (K : PySem.W.Frag) : Sp := fun vs H Q _ => ∃ (s : Addr) (ns : List Int) (k : Nat), vs = [.ref s, .int k] ∧ SqL K H s (ns.map V.int) ∧ k ≤ 12 ∧ ∀ p H', Fresh H p → Grow [] H H' → Pot H' p 0 → Q (.ref p) H'
theorem ok_law_pot {f c : Addr} {fd : FuncData} (B : Nb mg) (D : DefIs K "_law_pot" "_law_pot" st_law_pot f fd (.ref c)) : FnG P w K mg base CX0 3 f fd ["script", "k"] (spPot K) := by
  refine D.ok0 (k := 2) sc_law_pot (fun vs H Q E h => ?_) (fun A outer s H vs Q E g hr h => ?_)
  · obtain ⟨s, ns, k, rfl, _⟩ := h
    rfl
  obtain ⟨l, ns, k, rfl, hl, hk, q⟩ := h
  refine ⟨_,
      (pss_cons (ps_set (i := 2) sc_law_pot.nd rfl (.inl rfl) pe_int)
      (pss_cons (ps_if (pt_cmpR (op_lt) (pv 1) (pe_callB call_len_seq rfl B.n_len PySem.boot_len (pa_cons (pv 0) pa_nil)) (nomark _)) (
        (pss_one (ps_set (i := 2) sc_law_pot.nd rfl (.inl rfl) (pe_ix ix_list (pv 0) (pv 1) (fun _ _ => rfl))))) pss_nil)
      (pss_one (ps_ret (pe_lst (pa_cons (pe_callB (call_max2 rfl) rfl B.n_max (by decide +kernel) (pa_cons pe_int (pa_cons (pe_op op_sub (pv 2) (pe_op op_powX pe_int pe_int)) pa_nil))) (pa_cons (pe_op op_add (pe_op op_add (pe_op op_mulX (pe_op op_mod (pv 2) (pe_op op_add (pe_op op_powX pe_int pe_int) pe_int)) pe_int) (pv 1)) pe_int) (pa_cons pe_int pa_nil)))))))), ?_⟩
  have M0 : (0 : Int) < 10 ^ (44 : Int).toNat + 57 := by decide
  have M1 : (10 : Int) ^ (44 : Int).toNat + 57 < 2 ^ 147 := by decide
  have xb : ∀ cell : Int, 0 ≤ cell % (10 ^ (44 : Int).toNat + 57) ∧ cell % (10 ^ (44 : Int).toNat + 57) < 2 ^ 147 := fun cell =>
    ⟨Int.emod_nonneg cell (Int.ne_of_gt M0), Int.lt_trans (Int.emod_lt_of_pos cell M0) M1⟩
  have fq : ∀ (cell : Int) p, H p = none → Q (.ref p) (upd H p (.lst [.int (if cell - 10 ^ (18 : Int).toNat > 0 then cell - 10 ^ (18 : Int).toNat else 0), .int (cell % (10 ^ (44 : Int).toNat + 57) * 256 + (k : Int) + 1), .int 0])) := fun cell p np => by
    obtain ⟨h1, h2⟩ := xb cell
    obtain ⟨x, hx⟩ : ∃ x, cell % (10 ^ (44 : Int).toNat + 57) = x := ⟨_, rfl⟩
    rw [hx] at h1 h2 ⊢
    exact q p _ (fresh_none np) (grow_new np) ⟨_, _, _, upd_same, by omega, by omega, Int.le_refl _, Int.le_refl _⟩
  have cp : CPowX 10 18 := ⟨by decide, by decide⟩
  have cp2 : CPowX 10 44 := ⟨by decide, by decide⟩
  have cm : ∀ cell : Int, CMulX (cell % (10 ^ (44 : Int).toNat + 57)) 256 := fun cell => by
    obtain ⟨h1, h2⟩ := xb cell
    obtain ⟨x, hx⟩ : ∃ x, cell % (10 ^ (44 : Int).toNat + 57) = x := ⟨_, rfl⟩
    rw [hx] at h1 h2 ⊢
    have h3 : Builtin.Int.intBits x ≤ 147 := bits_le (by decide) (by omega)
    have h4 : Builtin.Int.intBits 256 ≤ 9 := bits_le (by decide) (by decide)
    unfold CMulX
    omega
  refine ⟨.int k, rfl, .ref l, rfl, l, _, rfl, .inl hl, _, _, rfl, rfl, _, rfl, ite2 (fun hlt => ?_) fun _ => ?_⟩
  · have hi : k < ns.length := by have := of_decide_eq_true hlt; rw [List.length_map] at this; omega
    refine ⟨.ref l, rfl, .int k, rfl, l, _, _, .int (ns[k]), rfl, rfl, hl, ?_, ?_⟩
    · exact atI_nat (by rw [List.getElem?_map, List.getElem?_eq_getElem hi]; rfl)
    · exact ⟨.int (ns[k]), rfl, 10, 18, rfl, rfl, cp, _, _, rfl, rfl, _, _, rfl, .int (ns[k]), rfl, 10, 44, rfl, rfl, cp2, _, _, rfl, rfl, _, _, rfl, rfl, M0, _, _, rfl, rfl, cm _, .int k, rfl, _, _, rfl, rfl, _, _, rfl, rfl, by show 3 ≤ sizeLine; decide, fq _⟩
  · exact ⟨.int 0, rfl, 10, 18, rfl, rfl, cp, _, _, rfl, rfl, _, _, rfl, .int 0, rfl, 10, 44, rfl, rfl, cp2, _, _, rfl, rfl, _, _, rfl, rfl, M0, _, _, rfl, rfl, cm _, .int k, rfl, _, _, rfl, rfl, _, _, rfl, rfl, by show 3 ≤ sizeLine; decide, fq _⟩
def spDip (K : PySem.W.Frag) : Sp := fun vs H Q _ => ∃ (p : Addr) (m c : Int), vs = [.ref p, .int m] ∧ 1 ≤ m ∧ m < 2 ^ 30 ∧ c ≤ 2 ^ 30 ∧ Pot H p c ∧ ∀ v H', 0 ≤ v → v < m → Grow [p] H H' → Pot H' p (c + 1) → Q (.int v) H'
theorem ok_law_dip {f c : Addr} {fd : FuncData} (B : Nb mg) (D : DefIs K "_law_dip" "_law_dip" st_law_dip f fd (.ref c)) : FnG P w K mg base CX0 3 f fd ["pot", "many"] (spDip K) := by
  refine D.ok0 (k := 2) sc_law_dip (fun vs H Q E h => ?_) (fun A outer s H vs Q E g hr h => ?_)
  · obtain ⟨p, m, c, rfl, _⟩ := h
    rfl
  obtain ⟨p, m, c, rfl, m1, m2, c1, ⟨a, b, k, e, b1, b2, k1, k2⟩, q⟩ := h
  refine ⟨_,
      (pss_cons (ps_if (pt_cmpR (op_gt) (pe_ix ix_list (pv 0) pe_int (fun _ _ => rfl)) pe_int (nomark _)) (
        (pss_cons (ps_set (i := 2) sc_law_dip.nd rfl (.inl rfl) (pe_op op_mod (pe_ix ix_list (pv 0) pe_int (fun _ _ => rfl)) (pv 1)))
        (pss_cons (ps_asg (pe_op op_fdiv (pe_ix ix_list (pv 0) pe_int (fun _ _ => rfl)) (pv 1)) (pg_sub (pv 0) pe_int set_list))
        (pss_one (ps_ret (pv 2)))))) pss_nil)
      (pss_cons (ps_asg (pe_op op_add (pe_ix ix_list (pv 0) pe_int (fun _ _ => rfl)) pe_int) (pg_sub (pv 0) pe_int set_list))
      (pss_cons (ps_set (i := 3) sc_law_dip.nd rfl (.inl rfl) (pe_op op_mod (pe_op op_powX (pe_op op_add (pe_ix ix_list (pv 0) pe_int (fun _ _ => rfl)) (pe_op op_mulX pe_int (pe_ix ix_list (pv 0) pe_int (fun _ _ => rfl)))) pe_int) (pe_op op_add (pe_op op_powX pe_int pe_int) pe_int)))
      (pss_cons (ps_set (i := 3) sc_law_dip.nd rfl (.inl rfl) (pe_op op_mod (pe_op op_powX (pe_op op_add (pv 3) (pe_op op_mulX pe_int (pe_ix ix_list (pv 0) pe_int (fun _ _ => rfl)))) pe_int) (pe_op op_add (pe_op op_powX pe_int pe_int) pe_int)))
      (pss_one (ps_ret (pe_op op_mod (pe_op op_fdiv (pv 3) pe_int) (pv 1)))))))), ?_⟩
  have sq : ∀ {H' : Hp} {x y z : Int}, H' p = some (.lst [.int x, .int y, .int z]) → SqL K H' p [.int x, .int y, .int z] := fun h => .inl (.inl h)
  refine ⟨.ref p, rfl, p, _, 0, .int a, rfl, rfl, sq e, rfl, _, _, rfl, rfl, _, rfl, ite2 (fun ha => ?_) fun _ => ?_⟩
  · refine ⟨.ref p, rfl, p, _, 0, .int a, rfl, rfl, sq e, rfl, .int m, rfl, _, _, rfl, rfl, m1, .ref p, rfl, p, _, 0, .int a, rfl, rfl, sq e, rfl, .int m, rfl, _, _, rfl, rfl, ⟨m1, m2⟩, .ref p, rfl, p, _, 0, 0, rfl, rfl, e, rfl, .int (a % m), rfl, ?_⟩
    exact q _ _ (Int.emod_nonneg _ (by omega)) (Int.emod_lt_of_pos _ m1) (grow_at e (fun ps z => by cases z) (by simp)) ⟨_, _, _, upd_same, b1, b2, k1, by omega⟩
  · refine ⟨.ref p, rfl, p, _, 2, .int k, rfl, rfl, sq e, rfl, _, _, rfl, rfl, .ref p, rfl, p, _, 2, 2, rfl, rfl, e, rfl, ?_⟩
    have e2 : upd H p (.lst [.int a, .int b, .int (k + 1)]) p = some (.lst [.int a, .int b, .int (k + 1)]) := upd_same
    have fin : ∀ x : Int, Q (.int (x / 131071 % m)) (upd H p (.lst [.int a, .int b, .int (k + 1)])) := fun x =>
      q _ _ (Int.emod_nonneg _ (by omega)) (Int.emod_lt_of_pos _ m1) (grow_at e (fun ps z => by cases z) (by simp)) ⟨_, _, _, e2, b1, b2, by omega, by omega⟩
    have bk : Builtin.Int.intBits (k + 1) ≤ 31 := bits_le (by decide) (by omega)
    have cm1 : CMulX 613651349 (k + 1) := by
      have : Builtin.Int.intBits 613651349 ≤ 30 := bits_le (by decide) (by decide)
      unfold CMulX
      omega
    have cm2 : CMulX 776531401 (k + 1) := by
      have : Builtin.Int.intBits 776531401 ≤ 30 := bits_le (by decide) (by decide)
      unfold CMulX
      omega
    have cp1 : CPowX (b + 613651349 * (k + 1)) 3 := by
      have : Builtin.Int.intBits (b + 613651349 * (k + 1)) ≤ 161 := bits_le (by decide) (by omega)
      exact ⟨by decide, by omega⟩
    have M0 : (0 : Int) < 10 ^ (41 : Int).toNat + 37 := by decide
    have M1 : (10 : Int) ^ (41 : Int).toNat + 37 < 2 ^ 140 := by decide
    have N0 : (0 : Int) < 10 ^ (42 : Int).toNat + 63 := by decide
    have cp2 : ∀ y : Int, CPowX (y % (10 ^ (41 : Int).toNat + 37) + 776531401 * (k + 1)) 5 := fun y => by
      have h1 := Int.emod_nonneg y (Int.ne_of_gt M0)
      have h2 := Int.lt_trans (Int.emod_lt_of_pos y M0) M1
      obtain ⟨x, hx⟩ : ∃ x, y % (10 ^ (41 : Int).toNat + 37) = x := ⟨_, rfl⟩
      rw [hx] at h1 h2 ⊢
      have : Builtin.Int.intBits (x + 776531401 * (k + 1)) ≤ 141 := bits_le (by decide) (by omega)
      exact ⟨by decide, by omega⟩
    have p41 : CPowX 10 41 := ⟨by decide, by decide⟩
    have p42 : CPowX 10 42 := ⟨by decide, by decide⟩
    refine ⟨.ref p, rfl, p, _, 1, .int b, rfl, rfl, sq e2, rfl, .ref p, rfl, p, _, 2, .int (k + 1), rfl, rfl, sq e2, rfl, _, _, rfl, rfl, cm1, _, _, rfl, rfl, _, _, rfl, rfl, cp1, 10, 41, rfl, rfl, p41, _, _, rfl, rfl, _, _, rfl, rfl, M0, ?_⟩
    exact ⟨.int _, rfl, .ref p, rfl, p, _, 2, .int (k + 1), rfl, rfl, sq e2, rfl, _, _, rfl, rfl, cm2, _, _, rfl, rfl, _, _, rfl, rfl, cp2 _, 10, 42, rfl, rfl, p42, _, _, rfl, rfl, _, _, rfl, rfl, N0, .int _, rfl, _, _, rfl, rfl, (⟨by decide, by decide⟩ : CDiv _ 131071), .int m, rfl, _, _, rfl, rfl, m1, fin _⟩
end

/-! ### is_pair -/
section
variable {P : Program} {w : World} {K : PySem.W.Frag} {mg : Str → Option Value} {base : Heap}
def spIsPair (K : PySem.W.Frag) : Sp := fun vs H Q _ => ∃ x, vs = [x] ∧ ((∃ (a : Addr) (xs : List V), x = .ref a ∧ SqT K H a xs ∧ Q (.bl (decide (xs.length = 2))) H) ∨ ∃ U, U ≠ "tuple" ∧ TyB K H x U ∧ Q (.bl false) H)
theorem ok_is_pair {f c : Addr} {fd : FuncData} (B : Nb mg) (D : DefIs K "is_pair" "is_pair" st_is_pair f fd (.ref c)) : FnG P w K mg base CX0 2 f fd ["thing"] (spIsPair K) := by
  refine D.ok0 (k := 1) sc_is_pair (fun vs H Q E h => ?_) (fun A outer s H vs Q E g hr h => ?_)
  · obtain ⟨x, rfl, _⟩ := h
    rfl
  obtain ⟨x, rfl, h⟩ := h
  refine ⟨_,
      (pss_one (ps_ret (pe_and (pe_cmpR (op_isTyB) (pe_callTy call_type1 rfl B.n_type (by decide +kernel) (pa_cons (pv 0) pa_nil)) (pe_bltn (v := .ty "tuple") rfl B.n_tuple (by decide +kernel) rfl) (nomark _)) (pe_one (pe_cmpR (op_eq) (pe_callB call_len_seq rfl B.n_len PySem.boot_len (pa_cons (pv 0) pa_nil)) pe_int (nomark _)))))), ?_⟩
  rcases h with ⟨a, xs, rfl, ha, q⟩ | ⟨U, hU, ty, q⟩
  · refine ⟨.ref a, rfl, _, "tuple", rfl, .tup ha, "tuple", "tuple", rfl, rfl, _, rfl, iteT ⟨.ref a, rfl, a, _, rfl, .inr ha, rfl, ?_⟩⟩
    rw [show decide (V.int ((xs.length : Nat) : Int) = V.int 2) = decide (xs.length = 2) from decide_eq_decide.mpr ⟨fun h => by have := V.int.inj h; omega, fun h => by rw [h]; rfl⟩]
    exact q
  · refine ⟨x, rfl, _, U, rfl, ty, U, "tuple", rfl, rfl, _, rfl, ?_⟩
    rw [decide_eq_false hU]
    exact iteF q
end

/-! ### is_road -/
def roadB (kvs : List (Key × V)) : V → V → Bool
  | .str a, .str b => (valV kvs (.inr a)).isSome && ((valV kvs (.inr b)).isSome && decide (a.cps.toList < b.cps.toList))
  | _, _ => false
section
variable {P : Program} {w : World} {K : PySem.W.Frag} {mg : Str → Option Value} {base : Heap}
def spIsRoad (K : PySem.W.Frag) : Sp := fun vs H Q _ => ∃ (x : V) (D : Addr) (kvs : List (Key × V)), vs = [x, .ref D] ∧ H D = some (.dK kvs) ∧
  ((∃ (a : Addr) (u v : V), x = .ref a ∧ SqT K H a [u, v] ∧ Known K H u ∧ Known K H v ∧ Q (.bl (roadB kvs u v)) H) ∨ (∃ (a : Addr) (xs : List V), x = .ref a ∧ SqT K H a xs ∧ xs.length ≠ 2 ∧ Q (.bl false) H) ∨ ∃ U, U ≠ "tuple" ∧ TyB K H x U ∧ Q (.bl false) H)
theorem ok_is_road {f c : Addr} {fd : FuncData} (B : Nb mg) (D : DefIs K "is_road" "is_road" st_is_road f fd (.ref c)) (c_is_pair : Callee P w K mg base CX0 2 "is_pair" ["thing"] (spIsPair K)) : FnG P w K mg base CX0 3 f fd ["thing", "hands"] (spIsRoad K) := by
  refine D.ok0 (k := 2) sc_is_road (fun vs H Q E h => ?_) (fun A outer s H vs Q E g hr h => ?_)
  · obtain ⟨x, D, kvs, rfl, _⟩ := h
    rfl
  obtain ⟨x, D, kvs, rfl, eD, h⟩ := h
  refine ⟨_,
      (pss_cons (ps_if (pt_not (pt_val (pe_g c_is_pair g (hr.mono (by decide)) pass0 (pa_cons (pv 0) pa_nil)))) (
        (pss_one (ps_ret pe_bl))) pss_nil)
      (pss_cons (ps_asg (pv 0) (pg_tup rfl (pgs_cons (pg_name (i := 2) sc_is_road.nd rfl (.inl rfl)) (pgs_cons (pg_name (i := 3) sc_is_road.nd rfl (.inl rfl)) pgs_nil))))
      (pss_cons (ps_if (PW.pt (pw_or (pt_cmpR (op_notTyB) (pe_callTy call_type1 rfl B.n_type (by decide +kernel) (pa_cons (pv 2) pa_nil)) (pe_bltn (v := .ty "str") rfl B.n_str (by decide +kernel) rfl) (nomark _)) (pw_or1 (pt_cmpR (op_notTyB) (pe_callTy call_type1 rfl B.n_type (by decide +kernel) (pa_cons (pv 3) pa_nil)) (pe_bltn (v := .ty "str") rfl B.n_str (by decide +kernel) rfl) (nomark _))))) (
        (pss_one (ps_ret pe_bl))) pss_nil)
      (pss_one (ps_ret (pe_and (pe_cmp (pc_din (hu_of hr) (pv 2) (pv 1))) (pe_and (pe_cmp (pc_din (hu_of hr) (pv 3) (pv 1))) (pe_one (pe_cmpR (op_lt_str) (pv 2) (pv 3) (nomark _)))))))))), ?_⟩
  rcases h with ⟨a, u, v, rfl, ha, ku, kv, q⟩ | ⟨a, xs, rfl, ha, h2, q⟩ | ⟨U, hU, ty, q⟩
  · refine ⟨.ref a, rfl, .ref a, rfl, .inl ⟨a, _, rfl, ha, true, rfl, iteF ?_⟩⟩
    refine ⟨.ref a, rfl, a, _, rfl, ha, rfl, _, _, rfl, _, _, rfl, rfl, ?_⟩
    rcases ku with ⟨y, rfl, _⟩ | ⟨U, nU, tU⟩
    · refine ⟨.str y, rfl, _, "str", rfl, .str y, "str", "str", rfl, rfl, _, rfl, iteNS rfl ?_⟩
      rcases kv with ⟨z, rfl, _⟩ | ⟨U, nU, tU⟩
      · refine ⟨.str z, rfl, _, "str", rfl, .str z, "str", "str", rfl, rfl, _, rfl, iteNS rfl ?_⟩
        refine ⟨.str y, rfl, .ref D, rfl, D, _, rfl, DGet.k (k := .inr y) eD, _, rfl, ?_⟩
        replace q : Q (.bl ((valV kvs (.inr y)).isSome && ((valV kvs (.inr z)).isSome && decide (y.cps.toList < z.cps.toList)))) H := q
        cases h1 : (valV kvs (.inr y)).isSome with
        | false =>
          rw [h1] at q
          exact iteF q
        | true =>
          rw [h1] at q
          refine iteT ⟨.str z, rfl, .ref D, rfl, D, _, rfl, DGet.k (k := .inr z) eD, _, rfl, ?_⟩
          cases h2 : (valV kvs (.inr z)).isSome with
          | false =>
            rw [h2] at q
            exact iteF q
          | true =>
            rw [h2] at q
            exact iteT ⟨.str y, rfl, .str z, rfl, _, _, rfl, rfl, q⟩
      · have e : roadB kvs (.str y) v = false := by
          cases tU with
          | str x => exact absurd rfl nU
          | _ => rfl
        rw [e] at q
        refine ⟨v, rfl, _, U, rfl, tU, U, "str", rfl, rfl, _, rfl, ?_⟩
        rw [decide_eq_false nU]
        exact iteT q
    · have e : roadB kvs u v = false := by
        cases tU with
        | str x => exact absurd rfl nU
        | _ => rfl
      rw [e] at q
      refine ⟨u, rfl, _, U, rfl, tU, U, "str", rfl, rfl, _, rfl, ?_⟩
      rw [decide_eq_false nU]
      exact iteT (iteT q)
  · refine ⟨.ref a, rfl, .ref a, rfl, .inl ⟨a, _, rfl, ha, ?_⟩⟩
    rw [decide_eq_false h2]
    exact ⟨false, rfl, iteT q⟩
  · exact ⟨x, rfl, x, rfl, .inr ⟨U, hU, ty, false, rfl, iteT q⟩⟩
end

/-! ### a web in the heap -/
/-- a pair of texts, its object without names of its own -/
def Pr (H : Hp) (a : Addr) (r : Str × Str) : Prop := ∃ o, H a = some (.frz o (.tup [.str r.1, .str r.2])) ∧ o.dict = none
theorem Pr.seq {K : PySem.W.Frag} {H : Hp} {a : Addr} {r : Str × Str} (h : Pr H a r) : SqT K H a [.str r.1, .str r.2] := by
  obtain ⟨o, e, _⟩ := h
  exact .inl (.inr ⟨o, e⟩)
theorem Pr.grow {ex : List Addr} {H H' : Hp} {a : Addr} {r : Str × Str} (h : Pr H a r) (g : Grow ex H H') (n : a ∉ ex) : Pr H' a r := by
  obtain ⟨o, e, d⟩ := h
  exact ⟨o, g.keep a _ n e (fun ps z => by cases z), d⟩
/-- where none such stands -/
def NoFrz (ex : List Addr) (H : Hp) : Prop := ∀ b ∈ ex, ∀ o xs, H b ≠ some (.frz o (.tup xs))
theorem noFrz_nil {H : Hp} : NoFrz [] H := fun b h => by cases h
theorem noFrz_lst {H : Hp} {a : Addr} {xs : List V} (h : H a = some (.lst xs)) : NoFrz [a] H := fun b hb o ys e => by
  rw [List.mem_singleton.mp hb, h] at e
  cases e
inductive Prs (H : Hp) : List V → List (Str × Str) → Prop
  | nil : Prs H [] []
  | cons {a : Addr} {r : Str × Str} {xs : List V} {rs : List (Str × Str)} : Pr H a r → Prs H xs rs → Prs H (.ref a :: xs) (r :: rs)
theorem Prs.grow {ex : List Addr} {H H' : Hp} (g : Grow ex H H') (l : NoFrz ex H) : ∀ {xs : List V} {rs : List (Str × Str)}, Prs H xs rs → Prs H' xs rs
  | _, _, .nil => .nil
  | _, _, .cons h t => .cons (h.grow g fun z => by
      obtain ⟨o, e, _⟩ := h
      exact l _ z o _ e) (t.grow g l)
theorem Prs.length {H : Hp} : ∀ {xs : List V} {rs : List (Str × Str)}, Prs H xs rs → xs.length = rs.length
  | _, _, .nil => rfl
  | _, _, .cons _ t => congrArg (· + 1) t.length
theorem Prs.get {H : Hp} : ∀ {xs : List V} {rs : List (Str × Str)} {i : Nat} {x : V}, Prs H xs rs → xs[i]? = some x → ∃ a r, x = .ref a ∧ rs[i]? = some r ∧ Pr H a r
  | _, _, 0, _, .cons h _, e => by
    cases e
    exact ⟨_, _, rfl, rfl, h⟩
  | _, _, i + 1, _, .cons _ t, e => t.get (i := i) e
theorem Prs.app {H : Hp} : ∀ {xs ys : List V} {rs ss : List (Str × Str)}, Prs H xs rs → Prs H ys ss → Prs H (xs ++ ys) (rs ++ ss)
  | _, _, _, _, .nil, q => q
  | _, _, _, _, .cons h t, q => .cons h (t.app q)
theorem Prs.rev {H : Hp} : ∀ {xs : List V} {rs : List (Str × Str)}, Prs H xs rs → Prs H xs.reverse rs.reverse
  | _, _, .nil => .nil
  | _, _, .cons h t => by
    rw [List.reverse_cons, List.reverse_cons]
    exact t.rev.app (.cons h .nil)
theorem Prs.ins {H : Hp} {a : Addr} {r : Str × Str} (q : Pr H a r) : ∀ {xs : List V} {rs : List (Str × Str)} (i : Nat), Prs H xs rs → Prs H (xs.take i ++ [.ref a] ++ xs.drop i) (rs.take i ++ [r] ++ rs.drop i)
  | _, _, 0, h => by
    rw [List.take_zero, List.take_zero, List.drop_zero, List.drop_zero]
    exact .cons q h
  | [], [], i + 1, .nil => .cons q .nil
  | _ :: _, _ :: _, i + 1, .cons h t => .cons h (Prs.ins q i t)
theorem Prs.dp {K : PySem.W.Frag} {H : Hp} : ∀ {xs : List V} {rs : List (Str × Str)}, Prs H xs rs → DpAll K H xs (rs.map encP)
  | _, _, .nil => .nil
  | _, _, .cons h t => .cons (.tup h.seq (.cons (.str _) (.cons (.str _) .nil))) (Prs.dp t)
/-- a list of such pairs -/
def RdT (H : Hp) (a : Addr) (roads : List (Str × Str)) : Prop := ∃ xs, H a = some (.lst xs) ∧ Prs H xs roads
theorem RdT.grow {ex : List Addr} {H H' : Hp} {a : Addr} {roads : List (Str × Str)} (h : RdT H a roads) (g : Grow ex H H') (l : NoFrz ex H) (n : a ∉ ex) : RdT H' a roads := by
  obtain ⟨xs, e, t⟩ := h
  exact ⟨xs, g.lst n e, t.grow g l⟩
theorem RdT.dp {K : PySem.W.Frag} {H : Hp} {a : Addr} {roads : List (Str × Str)} (h : RdT H a roads) : Dp K H (.ref a) (.list (roads.map encP)) := by
  obtain ⟨xs, e, t⟩ := h
  exact .lst (.inl (.inl e)) t.dp
/-- the web stands at W -/
def WebAt (H : Hp) (W : Addr) (hands : List Str) (roads : List (Str × Str)) : Prop := ∃ hs rs, H W = some (.tup [.ref hs, .ref rs]) ∧ H hs = some (.lst (hands.map V.str)) ∧ RdT H rs roads
theorem WebAt.grow {H H' : Hp} {W : Addr} {hands : List Str} {roads : List (Str × Str)} (h : WebAt H W hands roads) (g : Grow [] H H') : WebAt H' W hands roads := by
  obtain ⟨hs, rs, h1, h2, h3⟩ := h
  exact ⟨hs, rs, g.tup (by simp) h1, g.lst (by simp) h2, h3.grow g noFrz_nil (by simp)⟩

/-! ### lists of lists -/
/-- lists that stand at as -/
structure LL (H : Hp) (as : List Addr) (rs : List (List V)) : Prop where
  len : as.length = rs.length
  at_ : ∀ (i : Nat) (a : Addr) (r : List V), as[i]? = some a → rs[i]? = some r → H a = some (.lst r)
theorem LL.grow {ex : List Addr} {H H' : Hp} {as : List Addr} {rs : List (List V)} (h : LL H as rs) (g : Grow ex H H') (n : ∀ a ∈ as, a ∉ ex) : LL H' as rs :=
  ⟨h.len, fun i a r e q => g.lst (n a (List.mem_of_getElem? e)) (h.at_ i a r e q)⟩
theorem LL.grow0 {H H' : Hp} {as : List Addr} {rs : List (List V)} (h : LL H as rs) (g : Grow [] H H') : LL H' as rs := h.grow g fun _ _ => by simp
theorem LL.set {H : Hp} {as : List Addr} {rs : List (List V)} {j : Nat} {a : Addr} {r : List V} (h : LL H as rs) (nd : as.Nodup) (e : as[j]? = some a) : LL (upd H a (.lst r)) as (rs.set j r) := by
  refine ⟨by rw [List.length_set]; exact h.len, fun i b q e1 e2 => ?_⟩
  rw [List.getElem?_set] at e2
  by_cases hij : j = i
  · subst hij
    rw [e] at e1
    cases e1
    rw [if_pos rfl] at e2
    split at e2
    · cases e2
      exact upd_same
    · cases e2
  · rw [if_neg hij] at e2
    have ne : b ≠ a := fun z => hij ((List.getElem?_inj (List.getElem?_eq_some_iff.mp e).1 nd).mp (by rw [e, e1, z]))
    rw [upd_ne ne]
    exact h.at_ i b q e1 e2
theorem LL.push {H : Hp} {as : List Addr} {rs : List (List V)} {a : Addr} {r : List V} (h : LL H as rs) (e : H a = some (.lst r)) : LL H (as ++ [a]) (rs ++ [r]) := by
  refine ⟨by rw [List.length_append, List.length_append, h.len]; rfl, fun i b q e1 e2 => ?_⟩
  by_cases hi : i < as.length
  · rw [List.getElem?_append_left hi] at e1
    rw [List.getElem?_append_left (by rw [← h.len]; exact hi)] at e2
    exact h.at_ i b q e1 e2
  · rw [List.getElem?_append_right (by omega)] at e1
    rw [List.getElem?_append_right (by rw [← h.len]; omega), ← h.len] at e2
    have hz : i - as.length = 0 := by
      have := (List.getElem?_eq_some_iff.mp e1).1
      rw [List.length_singleton] at this
      omega
    rw [hz] at e1 e2
    cases e1
    cases e2
    exact e
theorem LL.dp {K : PySem.W.Frag} {H : Hp} : ∀ {as : List Addr} {rs : List (List Str)}, LL H as (rs.map fun r => r.map V.str) → DpAll K H (as.map V.ref) (rs.map fun r => PyData.list (r.map PyData.str))
  | [], [], _ => .nil
  | [], _ :: _, h => by have := h.len; simp at this
  | _ :: _, [], h => by have := h.len; simp at this
  | a :: as, r :: rs, h => .cons (dp_book (.inl (.inl (h.at_ 0 a _ rfl rfl)))) (LL.dp ⟨Nat.succ.inj h.len, fun i b q e1 e2 => h.at_ (i + 1) b q e1 e2⟩)

end Lw

namespace Lw
open PySem PySem.Spec PyProof.Rows L2 GxR Gx
/-! ### dicts of lists -/
theorem set_map {α : Type} {hs : List Str} (nd : hs.Nodup) {k : Nat} {a : Str} (hk : hs[k]? = some a) {f g : Str → α} (hg : ∀ h ∈ hs, h ≠ a → g h = f h) : (hs.map f).set k (g a) = hs.map g := by
  refine List.ext_getElem? fun j => ?_
  have kl := (List.getElem?_eq_some_iff.mp hk).1
  rw [List.getElem?_set, List.length_map, List.getElem?_map, List.getElem?_map]
  by_cases e : k = j
  · subst e
    rw [if_pos rfl, if_pos kl, hk]
    rfl
  · rw [if_neg e]
    cases hj : hs[j]? with
    | none => rfl
    | some h =>
      have ne : h ≠ a := fun z => e ((List.getElem?_inj kl nd).mp (by rw [hk, hj, z]))
      exact congrArg some (hg h (List.mem_of_getElem? hj) ne).symm
/-- each hand, with where its list stands -/
def kvL (hands : List Str) (as : List Addr) : List (Key × V) := (hands.zip as).map fun p => (Sum.inr p.1, V.ref p.2)
theorem kvL_keys {hands : List Str} {as : List Addr} (h : as.length = hands.length) : (kvL hands as).map Prod.fst = hands.map Sum.inr := by
  unfold kvL
  have e : (hands.zip as).map Prod.fst = hands := List.map_fst_zip (by omega)
  conv => rhs; rw [← e]
  rw [List.map_map, List.map_map]
  rfl
theorem kvL_nd {hands : List Str} {as : List Addr} (h : as.length = hands.length) (nd : hands.Nodup) : ((kvL hands as).map Prod.fst).Nodup := by
  rw [kvL_keys h]
  exact List.pairwise_map.mpr (nd.imp fun q e => q (Sum.inr.inj e))
theorem kvL_get {hands : List Str} {as : List Addr} (h : as.length = hands.length) (nd : hands.Nodup) {k : Nat} {x : Str} {a : Addr} (e1 : hands[k]? = some x) (e2 : as[k]? = some a) : valV (kvL hands as) (.inr x) = some (.ref a) :=
  valV_some (j := k) (kvL_nd h nd) (by
    unfold kvL
    rw [List.getElem?_map, (List.getElem?_zip_eq_some (z := (x, a))).mpr ⟨e1, e2⟩]
    rfl)
theorem kvL_none {hands : List Str} {as : List Addr} (h : as.length = hands.length) {x : Str} (n : x ∉ hands) : valV (kvL hands as) (.inr x) = none := valV_none (by
  rw [kvL_keys h]
  intro z
  obtain ⟨y, hy, e⟩ := List.mem_map.mp z
  cases e
  exact n hy)
theorem kvL_push {hands : List Str} {as : List Addr} (h : as.length = hands.length) (x : Str) (a : Addr) : kvL (hands ++ [x]) (as ++ [a]) = kvL hands as ++ [(Sum.inr x, V.ref a)] := by
  unfold kvL
  rw [List.zip_append (by omega), List.map_append]
  rfl
theorem nbrs_next (roads : List (Str × Str)) (r : Str × Str) (h : Str) : nbrs (roads ++ [r]) h = nbrs roads h ++ ((if r.1 = h then [r.2] else []) ++ (if r.2 = h then [r.1] else [])) := by
  unfold nbrs
  rw [List.flatMap_append]
  simp

/-! ### hands with those ahead of them -/
def optV : Option Str → V
  | none => .non
  | some z => .str z
def kvO (ks : List (Str × Option Str)) : List (Key × V) := ks.map fun p => (Sum.inr p.1, optV p.2)
theorem kvO_keys (ks : List (Str × Option Str)) : (kvO ks).map Prod.fst = (ks.map Prod.fst).map Sum.inr := by
  unfold kvO
  rw [List.map_map, List.map_map]
  rfl
theorem kvO_none {ks : List (Str × Option Str)} {x : Str} (n : x ∉ ks.map Prod.fst) : valV (kvO ks) (.inr x) = none := valV_none (by
  rw [kvO_keys]
  intro z
  obtain ⟨y, hy, e⟩ := List.mem_map.mp z
  cases e
  exact n hy)
theorem kvO_some {ks : List (Str × Option Str)} (nd : (ks.map Prod.fst).Nodup) {j : Nat} {x : Str} {v : Option Str} (e : ks[j]? = some (x, v)) : valV (kvO ks) (.inr x) = some (optV v) :=
  valV_some (j := j) (by rw [kvO_keys]; exact List.pairwise_map.mpr (nd.imp fun q e => q (Sum.inr.inj e))) (by unfold kvO; rw [List.getElem?_map, e]; rfl)
theorem kvO_is {ks : List (Str × Option Str)} (nd : (ks.map Prod.fst).Nodup) (x : Str) : (valV (kvO ks) (.inr x)).isSome = decide (x ∈ ks.map Prod.fst) := by
  by_cases h : x ∈ ks.map Prod.fst
  · obtain ⟨⟨y, v⟩, hy, rfl⟩ := List.mem_map.mp h
    obtain ⟨j, hj⟩ := List.mem_iff_getElem?.mp hy
    rw [kvO_some nd hj, decide_eq_true h]
    rfl
  · rw [kvO_none h, decide_eq_false h]
    rfl
theorem AheadOk.start_ {hands : List Str} {roads : List (Str × Str)} {start : Str} {barred : Option Str} (h : start ∈ hands) : AheadOk hands roads start barred [(start, none)] := by
  refine ⟨by simp, rfl, fun j x v e => ?_⟩
  cases j with
  | zero =>
    cases e
    exact ⟨h, .inl rfl⟩
  | succ j => cases e
theorem AheadOk.push {hands : List Str} {roads : List (Str × Str)} {start : Str} {barred : Option Str} {ks : List (Str × Option Str)} {x p : Str} (K : AheadOk hands roads start barred ks) (n : x ∉ ks.map Prod.fst) (hx : x ∈ hands) (nb : some x ≠ barred)
    (hp : p ∈ ks.map Prod.fst) (ad : Adj roads p x) : AheadOk hands roads start barred (ks ++ [(x, some p)]) := by
  have hl : 0 < ks.length := (List.getElem?_eq_some_iff.mp K.first).1
  refine ⟨?_, by rw [List.getElem?_append_left hl]; exact K.first, fun j h v e => ?_⟩
  · rw [List.map_append, List.nodup_append]
    refine ⟨K.nd, by simp, fun a ha b hb e => ?_⟩
    have hb' : b = x := by simpa using hb
    rw [← hb', ← e] at n
    exact n ha
  · by_cases hj : j < ks.length
    · rw [List.getElem?_append_left hj] at e
      obtain ⟨h1, h2⟩ := K.each j h v e
      refine ⟨h1, ?_⟩
      rcases h2 with h2 | ⟨h2, p', i, w, h3, h4, h5, h6⟩
      · exact .inl h2
      · exact .inr ⟨h2, p', i, w, h3, h4, h5, by rw [List.getElem?_append_left (by omega)]; exact h6⟩
    · have ej : j = ks.length := by
        have := (List.getElem?_eq_some_iff.mp e).1
        rw [List.length_append, List.length_singleton] at this
        omega
      subst ej
      rw [List.getElem?_append_right (Nat.le_refl _), Nat.sub_self] at e
      cases e
      obtain ⟨⟨y, w⟩, hy, rfl⟩ := List.mem_map.mp hp
      obtain ⟨i, hi⟩ := List.mem_iff_getElem?.mp hy
      have il := (List.getElem?_eq_some_iff.mp hi).1
      exact ⟨hx, .inr ⟨nb, y, i, w, rfl, ad, il, by rw [List.getElem?_append_left il]; exact hi⟩⟩
theorem AheadOk.len {hands : List Str} {roads : List (Str × Str)} {start : Str} {barred : Option Str} {ks : List (Str × Option Str)} (K : AheadOk hands roads start barred ks) : ks.length ≤ hands.length := by
  have h : (ks.map Prod.fst).length ≤ hands.length := K.nd.length_le_of_subset fun x hx => by
    obtain ⟨⟨y, v⟩, hy, rfl⟩ := List.mem_map.mp hx
    obtain ⟨j, hj⟩ := List.mem_iff_getElem?.mp hy
    exact (K.each j y v hj).1
  rwa [List.length_map] at h
theorem AheadOk.all {hands : List Str} {roads : List (Str × Str)} {start : Str} {ks : List (Str × Option Str)} {d : Str → Nat} (K : AheadOk hands roads start none ks) (cl : ∀ k ∈ ks.map Prod.fst, ∀ q, Adj roads k q → some q ≠ none → q ∈ ks.map Prod.fst) (R : Rooted hands roads start d)
    (ends : ∀ a b, Adj roads a b → a ∈ hands ∧ b ∈ hands) : ∀ (n : Nat) (h : Str), h ∈ hands → d h ≤ n → h ∈ ks.map Prod.fst
  | n, h, hh, hd => by
    by_cases e : h = start
    · rw [e]
      exact List.mem_map.mpr ⟨_, List.mem_of_getElem? K.first, rfl⟩
    · obtain ⟨p, hp, dp⟩ := R.up h hh e
      cases n with
      | zero => omega
      | succ n => exact cl p (AheadOk.all K cl R ends n p (ends h p hp).2 (by omega)) h hp.symm (fun z => by cases z)
theorem AheadOk.whole {hands : List Str} {roads : List (Str × Str)} {start : Str} {ks : List (Str × Option Str)} (w : WebOk hands roads) (hs : start ∈ hands) (K : AheadOk hands roads start none ks)
    (cl : ∀ k ∈ ks.map Prod.fst, ∀ q, Adj roads k q → some q ≠ none → q ∈ ks.map Prod.fst) : ks.length = hands.length := by
  obtain ⟨d, R⟩ := w.tree start hs
  have h1 : hands.length ≤ (ks.map Prod.fst).length := w.nd.length_le_of_subset fun h hh => K.all cl R (fun a b => w.adj) _ h hh (Nat.le_refl _)
  have h2 := K.len
  rw [List.length_map] at h1
  omega

/-! ### webs as data: any thing -/
def webDt (hs : List Str) (rs : List (Str × Str)) : PyData := .tuple [.list (hs.map PyData.str), .list (rs.map encP)]
structure FormOk (hs : List Str) (rs : List (Str × Str)) : Prop where
  nm : hs.all isNm = true
  nd : hs.Nodup
  ne : hs ≠ []
  ends : ∀ r ∈ rs, r.1 ∈ hs ∧ r.2 ∈ hs ∧ r.1.cps.toList < r.2.cps.toList
def IsWeb (d : PyData) : Prop := ∃ hs rs, d = webDt hs rs ∧ FormOk hs rs ∧ rs.length + 1 = hs.length ∧ Conn hs rs
open Classical in
noncomputable def webD (d : PyData) : Bool := decide (IsWeb d)
theorem webD_no {d : PyData} (h : ¬ IsWeb d) : webD d = false := @decide_eq_false _ (Classical.propDecidable _) h
theorem webD_yes {d : PyData} (h : IsWeb d) : webD d = true := @decide_eq_true _ (Classical.propDecidable _) h
theorem FormOk.form {hs : List Str} {rs : List (Str × Str)} (F : FormOk hs rs) : Form hs rs := ⟨F.nd, fun r hr => by
  obtain ⟨h1, h2, h3⟩ := F.ends r hr
  exact ⟨h1, h2, fun z => by rw [z] at h3; exact List.lt_irrefl _ h3⟩⟩
theorem map_str_inj {xs ys : List Str} (h : xs.map PyData.str = ys.map PyData.str) : xs = ys := by
  induction xs generalizing ys with
  | nil => cases ys with
    | nil => rfl
    | cons _ _ => cases h
  | cons x xs ih => cases ys with
    | nil => cases h
    | cons y ys =>
      injection h with h1 h2
      injection h1 with h1
      rw [h1, ih h2]
theorem encP_inj {r s : Str × Str} (h : encP r = encP s) : r = s := by
  obtain ⟨a, b⟩ := r
  obtain ⟨c, d⟩ := s
  unfold encP at h
  injection h with h
  injection h with h1 h2
  injection h2 with h2 _
  injection h1 with h1
  injection h2 with h2
  exact Prod.ext h1 h2
theorem map_encP_inj {xs ys : List (Str × Str)} (h : xs.map encP = ys.map encP) : xs = ys := by
  induction xs generalizing ys with
  | nil => cases ys with
    | nil => rfl
    | cons _ _ => cases h
  | cons x xs ih => cases ys with
    | nil => cases h
    | cons y ys =>
      injection h with h1 h2
      rw [encP_inj h1, ih h2]
theorem webDt_inj {hs hs' : List Str} {rs rs' : List (Str × Str)} (h : webDt hs rs = webDt hs' rs') : hs = hs' ∧ rs = rs' := by
  unfold webDt at h
  injection h with h
  injection h with h1 h2
  injection h2 with h2 _
  injection h1 with h1
  injection h2 with h2
  exact ⟨map_str_inj h1, map_encP_inj h2⟩
theorem webD_form {hs : List Str} {rs : List (Str × Str)} : IsWeb (webDt hs rs) ↔ FormOk hs rs ∧ rs.length + 1 = hs.length ∧ Conn hs rs := by
  constructor
  · rintro ⟨hs', rs', e, h⟩
    obtain ⟨rfl, rfl⟩ := webDt_inj e
    exact h
  · exact fun h => ⟨_, _, rfl, h⟩
/-- a road, as data -/
def roadD (hs : List Str) : PyData → Bool
  | .tuple [.str y, .str z] => decide (y ∈ hs) && (decide (z ∈ hs) && decide (y.cps.toList < z.cps.toList))
  | _ => false
def rOf : PyData → Str × Str
  | .tuple [.str y, .str z] => (y, z)
  | _ => ("", "")
theorem roadD_encP {hs : List Str} {r : Str × Str} : roadD hs (encP r) = true ↔ r.1 ∈ hs ∧ r.2 ∈ hs ∧ r.1.cps.toList < r.2.cps.toList := by
  show (decide (r.1 ∈ hs) && (decide (r.2 ∈ hs) && decide (r.1.cps.toList < r.2.cps.toList))) = true ↔ _
  rw [Bool.and_eq_true, Bool.and_eq_true, decide_eq_true_iff, decide_eq_true_iff, decide_eq_true_iff]
theorem roadD_is {hs : List Str} {d : PyData} (h : roadD hs d = true) : d = encP (rOf d) ∧ (rOf d).1 ∈ hs ∧ (rOf d).2 ∈ hs ∧ (rOf d).1.cps.toList < (rOf d).2.cps.toList := by
  have key : ∀ y z, d = .tuple [.str y, .str z] → d = encP (rOf d) ∧ (rOf d).1 ∈ hs ∧ (rOf d).2 ∈ hs ∧ (rOf d).1.cps.toList < (rOf d).2.cps.toList := fun y z e => by
    subst e
    exact ⟨rfl, roadD_encP (r := (y, z)) |>.mp h⟩
  unfold roadD at h
  split at h
  · exact key _ _ rfl
  · cases h
theorem roads_is {hs : List Str} {ds : List PyData} (h : ds.all (roadD hs) = true) : ds = (ds.map rOf).map encP := by
  induction ds with
  | nil => rfl
  | cons d ds ih =>
    rw [List.all_cons, Bool.and_eq_true] at h
    rw [List.map_cons, List.map_cons, ← ih h.2, ← (roadD_is h.1).1]
theorem isWeb_inv {ds1 ds2 : List PyData} (h : IsWeb (.tuple [.list ds1, .list ds2])) : ∃ hs : List Str, ds1 = hs.map PyData.str ∧ hs.all isNm = true ∧ hs.Nodup ∧ hs ≠ [] ∧ ds2.all (roadD hs) = true ∧ ds2.length + 1 = hs.length := by
  obtain ⟨hs, rs, e, F, l, _⟩ := h
  unfold webDt at e
  injection e with e
  injection e with e1 e2
  injection e2 with e2 _
  injection e1 with e1
  injection e2 with e2
  refine ⟨hs, e1, F.nm, F.nd, F.ne, ?_, by rw [e2, List.length_map]; exact l⟩
  rw [e2, List.all_map, List.all_eq_true]
  exact fun r hr => roadD_encP.mpr (F.ends r hr)
theorem isWeb_shape {d : PyData} (h : IsWeb d) : ∃ ds1 ds2, d = .tuple [.list ds1, .list ds2] := by
  obtain ⟨hs, rs, rfl, _⟩ := h
  exact ⟨_, _, rfl⟩
/-! ### how many there are -/
theorem len_bulk (ds : List PyData) : ds.length ≤ PyData.bulkAll ds := by
  induction ds with
  | nil => exact Nat.zero_le _
  | cons d ds ih =>
    rw [PyData.bulkAll, List.length_cons]
    omega
theorem mem_bulk {ds : List PyData} {d : PyData} (h : d ∈ ds) : d.bulk ≤ PyData.bulkAll ds := by
  induction ds with
  | nil => cases h
  | cons e ds ih =>
    rw [PyData.bulkAll]
    rcases List.mem_cons.mp h with rfl | h
    · omega
    · have := ih h
      omega
theorem Db.known {K : PySem.W.Frag} {ex : List Addr} {H : Hp} {v : V} {d : PyData} (h : Db K ex H v d) (b : d.bulk ≤ 4000) : Known K H v := by
  by_cases c : tyD d = "str"
  · cases h with
    | str x =>
      refine .inl ⟨x, rfl, ?_⟩
      rw [PyData.bulk] at b
      show x.cps.size ≤ sizeLine
      rw [sizeLine_eq]
      omega
    | _ => exact absurd c (by simp [tyD])
  · exact .inr ⟨_, c, h.ty⟩
/-! ### a web of any tuples -/
def Pg (K : PySem.W.Frag) (H : Hp) (a : Addr) (r : Str × Str) : Prop := SqT K H a [.str r.1, .str r.2]
theorem Pg.seq {K : PySem.W.Frag} {H : Hp} {a : Addr} {r : Str × Str} (h : Pg K H a r) : SqT K H a [.str r.1, .str r.2] := h
theorem Pg.grow {K : PySem.W.Frag} {ex : List Addr} {H H' : Hp} {a : Addr} {r : Str × Str} (h : Pg K H a r) (g : Grow ex H H') (n : a ∉ ex) : Pg K H' a r := g.sqx n h
inductive Pgs (K : PySem.W.Frag) (H : Hp) : List V → List (Str × Str) → Prop
  | nil : Pgs K H [] []
  | cons {a : Addr} {r : Str × Str} {xs : List V} {rs : List (Str × Str)} : Pg K H a r → Pgs K H xs rs → Pgs K H (.ref a :: xs) (r :: rs)
theorem Pgs.grow {K : PySem.W.Frag} {H H' : Hp} (g : Grow [] H H') : ∀ {xs : List V} {rs : List (Str × Str)}, Pgs K H xs rs → Pgs K H' xs rs
  | _, _, .nil => .nil
  | _, _, .cons h t => .cons (h.grow g (by simp)) (t.grow g)
theorem Pgs.length {K : PySem.W.Frag} {H : Hp} : ∀ {xs : List V} {rs : List (Str × Str)}, Pgs K H xs rs → xs.length = rs.length
  | _, _, .nil => rfl
  | _, _, .cons _ t => congrArg (· + 1) t.length
theorem Pgs.get {K : PySem.W.Frag} {H : Hp} : ∀ {xs : List V} {rs : List (Str × Str)} {i : Nat} {x : V}, Pgs K H xs rs → xs[i]? = some x → ∃ a r, x = .ref a ∧ rs[i]? = some r ∧ Pg K H a r
  | _, _, 0, _, .cons h _, e => by
    cases e
    exact ⟨_, _, rfl, rfl, h⟩
  | _, _, i + 1, _, .cons _ t, e => t.get (i := i) e
theorem Db.pg {K : PySem.W.Frag} {ex : List Addr} {H : Hp} {v : V} {r : Str × Str} (h : Db K ex H v (encP r)) : ∃ a, v = .ref a ∧ Pg K H a r := by
  unfold encP at h
  cases h with
  | tup n e h =>
    have e2 : [PyData.str r.1, PyData.str r.2] = [r.1, r.2].map PyData.str := rfl
    rw [e2] at h
    rw [h.strs_inv] at e
    exact ⟨_, rfl, e⟩
theorem pgs_of {K : PySem.W.Frag} {ex : List Addr} {H : Hp} {hs : List Str} : ∀ {xs : List V} {ds : List PyData}, Dbs K ex H xs ds → ds.all (roadD hs) = true → Pgs K H xs (ds.map rOf)
  | _, _, .nil, _ => .nil
  | _, _, .cons (d := d) h t, q => by
    rw [List.all_cons, Bool.and_eq_true] at q
    have e := (roadD_is q.1).1
    rw [e] at h
    obtain ⟨a, rfl, p⟩ := Db.pg h
    exact .cons p (pgs_of t q.2)
def WebG (K : PySem.W.Frag) (H : Hp) (W : Addr) (hands : List Str) (roads : List (Str × Str)) : Prop := ∃ hs rs, SqT K H W [.ref hs, .ref rs] ∧ H hs = some (.lst (hands.map V.str)) ∧ ∃ xs, H rs = some (.lst xs) ∧ Pgs K H xs roads
theorem WebG.grow {K : PySem.W.Frag} {H H' : Hp} {W : Addr} {hands : List Str} {roads : List (Str × Str)} (h : WebG K H W hands roads) (g : Grow [] H H') : WebG K H' W hands roads := by
  obtain ⟨hs, rs, h1, h2, xs, h3, h4⟩ := h
  exact ⟨hs, rs, g.sqx (by simp) h1, g.lst (by simp) h2, xs, g.lst (by simp) h3, h4.grow g⟩
/-- all that is told is reached; all that is reached is told -/
theorem AheadOk.rch {hands : List Str} {roads : List (Str × Str)} {start : Str} {ks : List (Str × Option Str)} (K : AheadOk hands roads start none ks) : ∀ (n j : Nat), j < n → ∀ h v, ks[j]? = some (h, v) → Rch roads start h
  | n + 1, j, hj, h, v, e => by
    obtain ⟨_, hv⟩ := K.each j h v e
    rcases hv with rfl | ⟨_, p, i, w, _, ad, hij, ei⟩
    · rw [K.first] at e
      cases e
      exact .refl _
    · have r := AheadOk.rch K n i (by omega) p w ei
      rcases ad with a | a
      · exact r.fwd a
      · exact r.bwd a
theorem ahead_conn {hands : List Str} {roads : List (Str × Str)} {start : Str} {ks : List (Str × Option Str)} (nd : hands.Nodup) (hs : start ∈ hands) (ends : ∀ r ∈ roads, r.1 ∈ hands ∧ r.2 ∈ hands) (K : AheadOk hands roads start none ks)
    (cl : ∀ k ∈ ks.map Prod.fst, ∀ q, Adj roads k q → some q ≠ none → q ∈ ks.map Prod.fst) : ks.length = hands.length ↔ Conn hands roads := by
  have sub : ∀ k ∈ ks.map Prod.fst, k ∈ hands := fun k hk => by
    obtain ⟨⟨y, v⟩, hy, rfl⟩ := List.mem_map.mp hk
    obtain ⟨j, hj⟩ := List.mem_iff_getElem?.mp hy
    exact (K.each j y v hj).1
  constructor
  · intro l
    refine conn_from (x := start) fun y hy => ?_
    have : y ∈ ks.map Prod.fst := by
      refine Classical.byContradiction fun n => ?_
      have h1 : (y :: ks.map Prod.fst).Nodup := List.nodup_cons.mpr ⟨n, K.nd⟩
      have := h1.length_le_of_subset fun z hz => by
        rcases List.mem_cons.mp hz with rfl | hz
        · exact hy
        · exact sub z hz
      rw [List.length_cons, List.length_map] at this
      omega
    obtain ⟨⟨z, v⟩, hz, rfl⟩ := List.mem_map.mp this
    obtain ⟨j, hj⟩ := List.mem_iff_getElem?.mp hz
    exact K.rch _ j (Nat.lt_succ_self j) z v hj
  · intro C
    have all : ∀ {u v : Str}, Rch roads u v → u ∈ ks.map Prod.fst → v ∈ ks.map Prod.fst := fun {u v} r => by
      induction r with
      | refl => exact id
      | fwd _ h ih => exact fun q => cl _ (ih q) _ (.inl h) (by simp)
      | bwd _ h ih => exact fun q => cl _ (ih q) _ (.inr h) (by simp)
    have s0 : start ∈ ks.map Prod.fst := List.mem_map.mpr ⟨(start, none), List.mem_of_getElem? K.first, rfl⟩
    have h1 := nd.length_le_of_subset fun z hz => all (C start hs z hz) s0
    have h2 := K.nd.length_le_of_subset sub
    rw [List.length_map] at h1 h2
    omega

end Lw

namespace Lw
open PySem PySem.Spec PyProof.Rows L2 GxR Gx
/-! ### neighbours_in -/
section
variable {P : Program} {w : World} {K : PySem.W.Frag} {mg : Str → Option Value} {base : Heap}
def spNearG (K : PySem.W.Frag) : Sp := fun vs H Q _ => ∃ (W : Addr) (hands : List Str) (roads : List (Str × Str)), vs = [.ref W] ∧ WebG K H W hands roads ∧ hands.Nodup ∧ hands.length ≤ 4000 ∧ roads.length ≤ 4000 ∧ (∀ r ∈ roads, r.1 ∈ hands ∧ r.2 ∈ hands) ∧
  ∀ (D : Addr) (H' : Hp) (as : List Addr), Fresh H D → Grow [] H H' → H' D = some (.dK (kvL hands as)) → as.Nodup → (∀ a ∈ as, Fresh H a ∧ a ≠ D) → LL H' as (hands.map fun h => (nbrs roads h).map V.str) → Q (.ref D) H'
theorem ok_neighbours_in {f c : Addr} {fd : FuncData} (B : Nb mg) (D : DefIs K "neighbours_in" "neighbours_in" st_neighbours_in f fd (.ref c)) : FnG P w K mg base CX0 2 f fd ["web"] (spNearG K) := by
  refine D.ok0 (k := 1) sc_neighbours_in (fun vs H Q E h => ?_) (fun A outer s H vs Q E g hr h => ?_)
  · obtain ⟨W, hands, roads, rfl, _⟩ := h
    rfl
  obtain ⟨W, hands, roads, rfl, hW, nd, hl, rl, ends, q⟩ := h
  obtain ⟨hs, rs, eW, eh, er⟩ := id hW
  refine ⟨_,
      (pss_cons (ps_asg (pv 0) (pg_tup rfl (pgs_cons (pg_name (i := 1) sc_neighbours_in.nd rfl (.inl rfl)) (pgs_cons (pg_name (i := 2) sc_neighbours_in.nd rfl (.inl rfl)) pgs_nil))))
      (pss_cons (ps_setDc (n := 3) (own := [("hand", 4)]) (g := (gName 4)) (tt := tYes) rfl sc_neighbours_in.nd rfl rfl (swD_true rfl rfl rfl (by decide +kernel)) (pi_list (pv 1)) (blkOk_by (N := N_neighbours_in) (sc := defScope st_neighbours_in) (by decide +kernel)) (fun _ _ _ _ _ => (pg_name (i := 4) sc_neighbours_in.nd rfl (.inl rfl))) (fun _ _ _ _ _ => pts_nil) (fun _ _ _ _ _ => pe_to (pv 4)) (fun _ _ _ _ _ => pe_to (pe_lst pa_nil)))
      (pss_cons (ps_for PassesOwn.never rfl (pi_list (pv 2)) (pg_tup rfl (pgs_cons (pg_name (i := 5) sc_neighbours_in.nd rfl (.inl rfl)) (pgs_cons (pg_name (i := 6) sc_neighbours_in.nd rfl (.inl rfl)) pgs_nil))) (
        (pss_cons (ps_expr (pe_bm PySem.F.plainAttrs_list PySem.F.slot_list_append PySem.F.type_list_append mt_append (pe_dget (hu_of hr) (pv 3) (pv 5) (fun _ _ => rfl)) (pa_cons (pv 6) pa_nil)))
        (pss_one (ps_expr (pe_bm PySem.F.plainAttrs_list PySem.F.slot_list_append PySem.F.type_list_append mt_append (pe_dget (hu_of hr) (pv 3) (pv 6) (fun _ _ => rfl)) (pa_cons (pv 5) pa_nil)))))))
      (pss_one (ps_ret (pv 3)))))), ?_⟩
  refine ⟨.ref W, rfl, W, _, rfl, eW, rfl, _, _, rfl, _, _, rfl, rfl, ?_⟩
  refine ⟨.ref hs, rfl, hs, rfl, ⟨_, .inl (.inl eh)⟩, fun D1 n1 => ?_⟩
  have fD : Fresh H D1 := fresh_none n1
  refine dc_it (walk_list (xs := hands.map V.str)) (fun j H' => Grow [] H H' ∧ ∃ as : List Addr, as.length = (hands.take j).length ∧ H' D1 = some (.dK (kvL (hands.take j) as)) ∧ as.Nodup ∧ ∀ a ∈ as, Fresh H a ∧ a ≠ D1 ∧ H' a = some (.lst [])) ⟨grow_new n1, [], rfl, upd_same, List.nodup_nil, fun a h => by cases h⟩
    (fun j H' _ h => .inl (.inl (h.1.lst (by simp) eh))) (fun j x H2 H3 hj hp hy => ?_) (fun H2 hp => ?_)
  · obtain ⟨gj, as, la, eD, nda, ha⟩ := hp
    obtain ⟨rfl, ex⟩ := hy
    rw [List.length_map] at hj
    rw [List.getElem?_map, List.getElem?_eq_getElem hj] at ex
    cases ex
    have tk : hands.take (j + 1) = hands.take j ++ [hands[j]] := by rw [List.take_add_one, List.getElem?_eq_getElem hj]; rfl
    refine ⟨rfl, yes_if ⟨.str _, rfl, by show 0 ≤ sizeLine; decide, fun p np => ?_⟩⟩
    have eD2 : upd H3 p (.lst []) D1 = some (.dK (kvL (hands.take j) as)) := by rw [upd_ne (ne_of_none eD np)]; exact eD
    have pD : p ≠ D1 := (ne_of_none eD np).symm
    have pa : p ∉ as := fun h => by
      have e := (ha p h).2.2
      rw [np] at e
      cases e
    have new : hands[j] ∉ hands.take j := fun h => by
      obtain ⟨i, hi⟩ := List.mem_iff_getElem?.mp h
      rw [List.getElem?_take] at hi
      by_cases hij : i < j
      · rw [if_pos hij] at hi
        have := (List.getElem?_inj (List.getElem?_eq_some_iff.mp hi).1 nd).mp (hi.trans (List.getElem?_eq_getElem hj).symm)
        omega
      · rw [if_neg hij] at hi
        cases hi
    refine ⟨_, .inr hands[j], rfl, eD2, ?_, (gj.new np).put fD eD2 (fun ps z => by cases z), as ++ [p], ?_, ?_, ?_, fun a h => ?_⟩
    · unfold kvL
      rw [List.length_map, List.length_zip, List.length_take]
      unfold sizeLine
      omega
    · rw [tk, List.length_append, List.length_append, la]
      rfl
    · rw [upd_same, putK_new _ (kvL_none la new), tk, kvL_push la]
    · rw [List.nodup_append]
      refine ⟨nda, by simp, fun a h b hb e => ?_⟩
      rw [List.mem_singleton.mp hb] at e
      exact pa (e ▸ h)
    · rcases List.mem_append.mp h with h | h
      · obtain ⟨h1, h2, h3⟩ := ha a h
        exact ⟨h1, h2, by rw [upd_ne h2, upd_ne (ne_of_none h3 np)]; exact h3⟩
      · rw [List.mem_singleton.mp h]
        exact ⟨gj.fresh0 np, pD, by rw [upd_ne pD]; exact upd_same⟩
  obtain ⟨g2, as, la, eD, nda, ha⟩ := hp
  rw [List.length_map, List.take_length] at la eD
  have hL : LL H2 as (hands.map fun h => (nbrs (roads.take 0) h).map V.str) := by
    refine ⟨by rw [la, List.length_map], fun i a r e1 e2 => ?_⟩
    rw [(ha a (List.mem_of_getElem? e1)).2.2]
    obtain ⟨h, _, rfl⟩ := List.mem_map.mp (List.mem_of_getElem? e2)
    rfl
  obtain ⟨xs, ex0, tx⟩ := id er
  have lx : xs.length = roads.length := tx.length
  refine ⟨.ref rs, rfl, rs, rfl, ⟨_, .inl (.inl (g2.lst (by simp) ex0))⟩, ?_⟩
  refine for_it (walk_list (xs := xs)) (fun i σ H' => ∃ a b c : Option V, σ = [some (.ref W), some (.ref hs), some (.ref rs), some (.ref D1), none, b, c] ∧ Grow [] H H' ∧ H' D1 = some (.dK (kvL hands as)) ∧ LL H' as (hands.map fun h => (nbrs (roads.take i) h).map V.str))
    ⟨none, _, _, rfl, g2, eD, hL⟩ (fun i σ H' _ h => by
      obtain ⟨_, _, _, _, g, _⟩ := h
      exact .inl (.inl (g.lst (by simp) ex0))) (fun i x σ H3 H4 hi hp hy => ?_) (fun σ H3 hp => ?_)
  · obtain ⟨a0, b0, c0, rfl, gr, eD3, hL3⟩ := hp
    obtain ⟨rfl, ex⟩ := hy
    obtain ⟨p, r, rfl, ep, hp0⟩ := tx.get ex
    have hp := hp0.grow gr (by simp)
    obtain ⟨m1, m2⟩ := ends r (List.mem_of_getElem? ep)
    obtain ⟨k1, hk1⟩ := List.mem_iff_getElem?.mp m1
    obtain ⟨k2, hk2⟩ := List.mem_iff_getElem?.mp m2
    have l1 := (List.getElem?_eq_some_iff.mp hk1).1
    have l2 := (List.getElem?_eq_some_iff.mp hk2).1
    have ea1 : as[k1]? = some (as[k1]'(by omega)) := List.getElem?_eq_getElem (by omega)
    have ea2 : as[k2]? = some (as[k2]'(by omega)) := List.getElem?_eq_getElem (by omega)
    obtain ⟨a1, ha1⟩ : ∃ a, as[k1]'(by omega) = a := ⟨_, rfl⟩
    obtain ⟨a2, ha2⟩ : ∃ a, as[k2]'(by omega) = a := ⟨_, rfl⟩
    rw [ha1] at ea1
    rw [ha2] at ea2
    have fa1 := ha a1 (List.mem_of_getElem? ea1)
    have fa2 := ha a2 (List.mem_of_getElem? ea2)
    have tk : roads.take (i + 1) = roads.take i ++ [r] := by rw [List.take_add_one, ep]; rfl
    have nl : ∀ h, (nbrs (roads.take i) h).length ≤ 8000 := fun h => by
      have h1 := nbrs_len (roads.take i) h
      rw [List.length_take] at h1
      omega
    have eA1 := hL3.at_ k1 a1 _ ea1 (by rw [List.getElem?_map, hk1]; rfl)
    refine ⟨p, _, rfl, hp.seq, rfl, _, _, rfl, _, _, rfl, rfl, ?_⟩
    refine ⟨.ref D1, rfl, .str r.1, rfl, D1, _, rfl, by rw [← kvL_get la nd hk1 ea1]; exact DGet.k (k := .inr r.1) eD3, tyl eA1, .str r.2, rfl, a1, _, _, rfl, rfl, eA1, by rw [List.length_map]; have := nl r.1; unfold sizeLine; omega, ?_⟩
    have g5 := gr.put (o := .lst ((nbrs (roads.take i) r.1).map V.str ++ [.str r.2])) fa1.1 eA1 (fun ps z => by cases z)
    have eD5 : upd H4 a1 (.lst ((nbrs (roads.take i) r.1).map V.str ++ [.str r.2])) D1 = some (.dK (kvL hands as)) := by rw [upd_ne fa1.2.1.symm]; exact eD3
    have hL5 : LL (upd H4 a1 (.lst ((nbrs (roads.take i) r.1).map V.str ++ [.str r.2]))) as (hands.map fun h => (nbrs (roads.take i) h ++ (if r.1 = h then [r.2] else [])).map V.str) := by
      have e := set_map nd hk1 (f := fun h => (nbrs (roads.take i) h).map V.str) (g := fun h => (nbrs (roads.take i) h ++ (if r.1 = h then [r.2] else [])).map V.str) fun h _ ne => by
        show (nbrs (roads.take i) h ++ (if r.1 = h then [r.2] else [])).map V.str = _
        rw [if_neg fun z => ne z.symm, List.append_nil]
      rw [← e]
      have := hL3.set (r := (nbrs (roads.take i) r.1 ++ (if r.1 = r.1 then [r.2] else [])).map V.str) nda ea1
      rw [if_pos rfl, List.map_append] at this
      rw [if_pos rfl, List.map_append]
      exact this
    have eA2 := hL5.at_ k2 a2 _ ea2 (by rw [List.getElem?_map, hk2]; rfl)
    refine ⟨.ref D1, rfl, .str r.2, rfl, D1, _, rfl, by rw [← kvL_get la nd hk2 ea2]; exact DGet.k (k := .inr r.2) eD5, tyl eA2, .str r.1, rfl, a2, _, _, rfl, rfl, eA2, ?_, ?_⟩
    · rw [List.length_map, List.length_append]
      have h1 : (if r.1 = r.2 then [r.2] else []).length ≤ 1 := by split <;> simp
      have := nl r.2
      unfold sizeLine
      omega
    · refine ⟨none, _, _, rfl, g5.put fa2.1 eA2 (fun ps z => by cases z), by rw [upd_ne fa2.2.1.symm]; exact eD5, ?_⟩
      have e := set_map nd hk2 (f := fun h => (nbrs (roads.take i) h ++ (if r.1 = h then [r.2] else [])).map V.str) (g := fun h => (nbrs (roads.take (i + 1)) h).map V.str) fun h _ ne => by
        show (nbrs (roads.take (i + 1)) h).map V.str = _
        rw [tk, nbrs_next, if_neg (t := [r.1]) fun z => ne z.symm, List.append_nil]
      rw [← e]
      have := hL5.set (r := (nbrs (roads.take (i + 1)) r.2).map V.str) nda ea2
      rw [tk, nbrs_next, ← List.append_assoc, if_pos (t := [r.1]) rfl, List.map_append] at this
      rw [tk, nbrs_next, ← List.append_assoc, if_pos (t := [r.1]) rfl, List.map_append]
      exact this
  · obtain ⟨a0, b0, c0, rfl, gr, eD3, hL3⟩ := hp
    rw [lx, List.take_length] at hL3
    exact ⟨.ref D1, rfl, q D1 H3 as fD gr eD3 nda (fun a h => ⟨(ha a h).1, (ha a h).2.1⟩) hL3⟩
end

/-! ### hands_ahead -/
section
variable {P : Program} {w : World} {K : PySem.W.Frag} {mg : Str → Option Value} {base : Heap}
def spAheadG (K : PySem.W.Frag) : Sp := fun vs H Q _ => ∃ (W : Addr) (hands : List Str) (roads : List (Str × Str)) (start : Str) (barred : Option Str), vs = [.ref W, .str start, optV barred] ∧ WebG K H W hands roads ∧ hands.Nodup ∧ hands.length ≤ 4000 ∧ roads.length ≤ 4000 ∧ (∀ r ∈ roads, r.1 ∈ hands ∧ r.2 ∈ hands) ∧ start ∈ hands ∧
  ∀ (D : Addr) (H' : Hp) (ks : List (Str × Option Str)), Fresh H D → Grow [] H H' → H' D = some (.dK (kvO ks)) → AheadOk hands roads start barred ks → (∀ k ∈ ks.map Prod.fst, ∀ q, Adj roads k q → some q ≠ barred → q ∈ ks.map Prod.fst) → Q (.ref D) H'
theorem ok_hands_ahead {f c : Addr} {fd : FuncData} (B : Nb mg) (D : DefIs K "hands_ahead" "hands_ahead" st_hands_ahead f fd (.ref c))
    (c_neighbours_in : Callee P w K mg base CX0 2 "neighbours_in" ["web"] (spNearG K)) : FnG P w K mg base CX0 3 f fd ["web", "start", "barred"] (spAheadG K) := by
  refine D.ok0 (k := 2) sc_hands_ahead (fun vs H Q E h => ?_) (fun A outer s H vs Q E g hr h => ?_)
  · obtain ⟨W, hands, roads, start, barred, rfl, _⟩ := h
    rfl
  obtain ⟨W, hands, roads, start, barred, rfl, hW, nd, hl, rl, ends, hst, q⟩ := h
  refine ⟨_,
      (pss_cons (ps_set (i := 3) sc_hands_ahead.nd rfl (.inl rfl) (pe_g c_neighbours_in g (hr.mono (by decide)) pass0 (pa_cons (pv 0) pa_nil)))
      (pss_cons (ps_set (i := 4) sc_hands_ahead.nd rfl (.inl rfl) (pe_disp (pps_cons (pv 1) pe_non pps_nil) rfl rfl (List.cons_ne_nil _ _) (by decide)))
      (pss_cons (ps_set (i := 5) sc_hands_ahead.nd rfl (.inl rfl) (pe_lst (pa_cons (pv 1) pa_nil)))
      (pss_cons (ps_while PassesOwn.never (pt_truth (pv 5) (fun _ => rfl)) (
        (pss_cons (ps_set (i := 6) sc_hands_ahead.nd rfl (.inl rfl) (pe_bm0 PySem.F.plainAttrs_list PySem.F.slot_list_pop PySem.F.type_list_pop mt_pop (pv 5)))
        (pss_one (ps_for PassesOwn.never rfl (pi_list (pe_dget (hu_of hr) (pv 3) (pv 6) (fun _ _ => rfl))) (pg_name (i := 7) sc_hands_ahead.nd rfl (.inl rfl)) (
          (pss_one (ps_if (PW.pt (pw_and (pt_cmp (pc_dnotin (hu_of hr) (pv 7) (pv 4))) (pw_and1 (pt_cmpR (op_ne) (pv 7) (pv 2) (nomark _))))) (
            (pss_cons (ps_asg (pv 6) (pg_sub (pv 4) (pv 7) (set_dict (hu_of hr))))
            (pss_one (ps_expr (pe_bm PySem.F.plainAttrs_list PySem.F.slot_list_append PySem.F.type_list_append mt_append (pv 5) (pa_cons (pv 7) pa_nil)))))) pss_nil))))))))
      (pss_one (ps_ret (pv 4))))))), ?_⟩
  refine ⟨.ref W, rfl, W, hands, roads, rfl, hW, nd, hl, rl, ends, fun Nr H1 as fN g1 eN nda ha hL => ?_⟩
  refine fun A0 nA => ⟨.str start, rfl, upd_same, [(.inr start, .non)], rfl, by simp, ⟨.str start, rfl, by show 1 ≤ sizeLine; decide, fun W0 nW => ?_⟩⟩
  have eM : mergeK [] [((Sum.inr start : Key), V.non)] = kvO [(start, none)] := rfl
  rw [eM] at nW ⊢
  have fA : Fresh H1 A0 := fresh_none nA
  have gA : Grow [] H1 (upd (upd H1 A0 (.dK [])) A0 (.dK (kvO [(start, none)]))) := (grow_new nA).put fA upd_same (fun ps z => by cases z)
  have fW : Fresh H1 W0 := gA.fresh0 nW
  have WA : W0 ≠ A0 := fun z => by
    rw [z, upd_same] at nW
    cases nW
  have gW := gA.new (o := .lst [.str start]) nW
  have eA : upd (upd (upd H1 A0 (.dK [])) A0 (.dK (kvO [(start, none)]))) W0 (.lst [.str start]) A0 = some (.dK (kvO [(start, none)])) := by rw [upd_ne WA.symm]; exact upd_same
  have la : as.length = hands.length := by rw [hL.len, List.length_map]
  refine ⟨fun n σ H' => ∃ (ks : List (Str × Option Str)) (wl : List Str) (a b : Option V), n = 2 * (hands.length - ks.length) + wl.length ∧ σ = [some (.ref W), some (.str start), some (optV barred), some (.ref Nr), some (.ref A0), some (.ref W0), a, b] ∧ Grow [] H1 H' ∧ H' A0 = some (.dK (kvO ks)) ∧ H' W0 = some (.lst (wl.map V.str)) ∧
      AheadOk hands roads start barred ks ∧ wl.length ≤ ks.length ∧ (∀ x ∈ wl, x ∈ ks.map Prod.fst) ∧ (∀ k ∈ ks.map Prod.fst, k ∉ wl → ∀ y, Adj roads k y → some y ≠ barred → y ∈ ks.map Prod.fst),
    ⟨_, [(start, none)], [start], none, none, rfl, rfl, gW, eA, upd_same, AheadOk.start_ hst, Nat.le_refl _, fun x hx => by simpa using hx, fun k hk hn => absurd (by simpa using hk) (by simpa using hn)⟩, fun n σ H' hw => ?_⟩
  obtain ⟨ks, wl, a0, b0, rfl, rfl, gr, eA, eW, ok, wk, sub, cl⟩ := hw
  refine ⟨.ref W0, rfl, !wl.isEmpty, .inl ⟨_, .inl (.inl eW), by cases wl <;> rfl⟩, ?_⟩
  cases hwl : wl with
  | nil =>
    subst hwl
    exact iteF ⟨.ref A0, rfl, q A0 H' ks (g1.fresh (by simp) fA) (g1.trans gr) eA ok fun k hk => cl k hk (by simp)⟩
  | cons w0 ws0 =>
    have hne : wl ≠ [] := by rw [hwl]; simp
    rw [← hwl]
    obtain ⟨wp, hand, hwp⟩ : ∃ wp hand, wl = wp ++ [hand] := ⟨_, _, (List.dropLast_concat_getLast hne).symm⟩
    clear hwl w0 ws0
    subst hwp
    have hk : hand ∈ ks.map Prod.fst := sub hand (by simp)
    have hh : hand ∈ hands := by
      obtain ⟨⟨y, v⟩, hy, rfl⟩ := List.mem_map.mp hk
      obtain ⟨j, hj⟩ := List.mem_iff_getElem?.mp hy
      exact (ok.each j y v hj).1
    have kl := ok.len
    have et : (!(wp ++ [hand]).isEmpty) = true := by cases wp <;> rfl
    rw [et]
    refine iteT ⟨fun σ' H2 => ∃ (ks2 : List (Str × Option Str)) (wl2 : List Str) (a b : Option V), 2 * (hands.length - ks2.length) + wl2.length < 2 * (hands.length - ks.length) + (wp ++ [hand]).length ∧ σ' = [some (.ref W), some (.str start), some (optV barred), some (.ref Nr), some (.ref A0), some (.ref W0), a, b] ∧ Grow [] H1 H2 ∧ H2 A0 = some (.dK (kvO ks2)) ∧ H2 W0 = some (.lst (wl2.map V.str)) ∧
        AheadOk hands roads start barred ks2 ∧ wl2.length ≤ ks2.length ∧ (∀ x ∈ wl2, x ∈ ks2.map Prod.fst) ∧ (∀ k ∈ ks2.map Prod.fst, k ∉ wl2 → ∀ y, Adj roads k y → some y ≠ barred → y ∈ ks2.map Prod.fst),
      fun σ' H2 h2 => ?_, ?_⟩
    · obtain ⟨ks2, wl2, a, b, l1, r2⟩ := h2
      exact ⟨_, l1, ks2, wl2, a, b, rfl, r2⟩
    have edl : ((wp ++ [hand]).map V.str).dropLast = wp.map V.str := by rw [List.map_append]; exact List.dropLast_concat
    refine ⟨.ref W0, rfl, tyl eW, W0, _, .str hand, rfl, rfl, eW, by simp, ?_⟩
    rw [edl]
    have g2 := gr.put (o := .lst (wp.map V.str)) fW eW (fun ps z => by cases z)
    have eA2 : upd H' W0 (.lst (wp.map V.str)) A0 = some (.dK (kvO ks)) := by rw [upd_ne WA.symm]; exact eA
    have eN2 : upd H' W0 (.lst (wp.map V.str)) Nr = some (.dK (kvL hands as)) := g2.keep Nr _ (by simp) eN fun ps z => by cases z
    obtain ⟨k1, hk1⟩ := List.mem_iff_getElem?.mp hh
    have l1 := (List.getElem?_eq_some_iff.mp hk1).1
    have ea1 : as[k1]? = some (as[k1]'(by omega)) := List.getElem?_eq_getElem (by omega)
    obtain ⟨a1, ha1⟩ : ∃ a, as[k1]'(by omega) = a := ⟨_, rfl⟩
    rw [ha1] at ea1
    have eA1 : H1 a1 = some (.lst ((nbrs roads hand).map V.str)) := hL.at_ k1 a1 _ ea1 (by rw [List.getElem?_map, hk1]; rfl)
    refine ⟨.ref Nr, rfl, .str hand, rfl, Nr, _, rfl, by rw [← kvL_get la nd hk1 ea1]; exact DGet.k (k := .inr hand) eN2, a1, rfl, ⟨_, .inl (.inl (g2.lst (by simp) eA1))⟩, ?_⟩
    refine for_it (walk_list (xs := (nbrs roads hand).map V.str)) (fun j σ H2 => ∃ (ks2 : List (Str × Option Str)) (wl2 : List Str) (b : Option V), 2 * (hands.length - ks2.length) + wl2.length < 2 * (hands.length - ks.length) + (wp ++ [hand]).length ∧ σ = [some (.ref W), some (.str start), some (optV barred), some (.ref Nr), some (.ref A0), some (.ref W0), some (.str hand), b] ∧ Grow [] H1 H2 ∧ H2 A0 = some (.dK (kvO ks2)) ∧ H2 W0 = some (.lst (wl2.map V.str)) ∧
        AheadOk hands roads start barred ks2 ∧ wl2.length ≤ ks2.length ∧ hand ∈ ks2.map Prod.fst ∧ (∀ x ∈ wl2, x ∈ ks2.map Prod.fst) ∧ (∀ k ∈ ks2.map Prod.fst, k ∉ wl2 → k ≠ hand → ∀ y, Adj roads k y → some y ≠ barred → y ∈ ks2.map Prod.fst) ∧ ∀ y ∈ (nbrs roads hand).take j, some y ≠ barred → y ∈ ks2.map Prod.fst)
      ⟨ks, wp, _, by rw [List.length_append]; show _ < _ + (wp.length + 1); omega, rfl, g2, eA2, upd_same, ok, by rw [List.length_append, List.length_singleton] at wk; omega, hk, fun x hx => sub x (List.mem_append_left _ hx), fun k hk hn ne => cl k hk (by simp [hn, ne]), fun y hy => by rw [List.take_zero] at hy; cases hy⟩
      (fun j σ H2 _ h => by
        obtain ⟨_, _, _, _, _, g, _⟩ := h
        exact .inl (.inl (g.lst (by simp) eA1))) (fun j x σ H2 H3 hj hp hy => ?_) (fun σ H2 hp => ?_)
    · obtain ⟨ks2, wl2, b1, lt, rfl, gr2, eA3, eW3, ok2, wk2, hk2, sub2, cl2, did⟩ := hp
      obtain ⟨rfl, ex⟩ := hy
      rw [List.length_map] at hj
      rw [List.getElem?_map, List.getElem?_eq_getElem hj] at ex
      cases ex
      obtain ⟨y, hy⟩ : ∃ y, (nbrs roads hand)[j] = y := ⟨_, rfl⟩
      have ey : (nbrs roads hand)[j]? = some y := by rw [List.getElem?_eq_getElem hj, hy]
      rw [hy]
      have ad : Adj roads hand y := mem_nbrs.mp (List.mem_of_getElem? ey)
      have yh : y ∈ hands := by
        rcases ad with h | h
        · exact (ends _ h).2
        · exact (ends _ h).1
      have tk : (nbrs roads hand).take (j + 1) = (nbrs roads hand).take j ++ [y] := by rw [List.take_add_one, ey]; rfl
      have skip : (some y ≠ barred → y ∈ ks2.map Prod.fst) → ∀ z ∈ (nbrs roads hand).take (j + 1), some z ≠ barred → z ∈ ks2.map Prod.fst := fun h z hz nb => by
        rw [tk] at hz
        rcases List.mem_append.mp hz with hz | hz
        · exact did z hz nb
        · rw [List.mem_singleton.mp hz] at nb ⊢
          exact h nb
      have esc : scal (V.str y) (optV barred) = true := by cases barred <;> rfl
      refine ⟨.str y, rfl, .ref A0, rfl, A0, _, rfl, DGet.k (k := .inr y) eA3, _, rfl, ?_⟩
      rw [kvO_is ok2.nd]
      by_cases hin : y ∈ ks2.map Prod.fst
      · rw [decide_eq_true hin]
        exact iteF (iteF ⟨ks2, wl2, _, lt, rfl, gr2, eA3, eW3, ok2, wk2, hk2, sub2, cl2, skip fun _ => hin⟩)
      · rw [decide_eq_false hin]
        refine iteT ⟨.str y, rfl, optV barred, rfl, esc, _, rfl, ite2 (fun hb => ?_) fun hb => ?_⟩
        · have nb : some y ≠ barred := fun z => by
            rw [← z] at hb
            have : decide (V.str y = optV (some y)) = true := decide_eq_true rfl
            rw [this] at hb
            cases hb
          refine ⟨.str hand, rfl, .ref A0, rfl, .str y, rfl, A0, _, rfl, .inl ⟨_, .inr y, eA3, rfl, ?_, rfl⟩, ?_⟩
          · unfold kvO
            rw [List.length_map]
            have := ok2.len
            unfold sizeLine
            omega
          have eP : putK (kvO ks2) (.inr y) (V.str hand) = kvO (ks2 ++ [(y, some hand)]) := by
            rw [putK_new _ (kvO_none hin)]
            unfold kvO
            rw [List.map_append]
            rfl
          rw [eP]
          have g4 := gr2.put (o := .dK (kvO (ks2 ++ [(y, some hand)]))) fA eA3 (fun ps z => by cases z)
          have eW4 : upd H3 A0 (.dK (kvO (ks2 ++ [(y, some hand)]))) W0 = some (.lst (wl2.map V.str)) := by rw [upd_ne WA]; exact eW3
          have ok3 := ok2.push hin yh nb hk2 ad
          have kl3 := ok3.len
          rw [List.length_append, List.length_singleton] at kl3
          have mono : ∀ z, z ∈ ks2.map Prod.fst → z ∈ (ks2 ++ [(y, some hand)]).map Prod.fst := fun z hz => by rw [List.map_append]; exact List.mem_append_left _ hz
          have ynew : y ∈ (ks2 ++ [(y, some hand)]).map Prod.fst := by rw [List.map_append]; simp
          have wl3 : wl2.length ≤ 4000 := by
            have := ok2.len
            omega
          refine ⟨.ref W0, rfl, tyl eW4, .str y, rfl, W0, _, _, rfl, rfl, eW4, by rw [List.length_map]; unfold sizeLine; omega, ks2 ++ [(y, some hand)], wl2 ++ [y], _, ?_, rfl, g4.put fW eW4 (fun ps z => by cases z), ?_, ?_, ok3, by rw [List.length_append, List.length_append, List.length_singleton, List.length_singleton]; omega, mono _ hk2, ?_, ?_, ?_⟩
          · rw [List.length_append, List.length_append, List.length_singleton, List.length_singleton]
            omega
          · rw [upd_ne WA.symm]
            exact upd_same
          · rw [upd_same, List.map_append]
            rfl
          · intro x hx
            rcases List.mem_append.mp hx with hx | hx
            · exact mono x (sub2 x hx)
            · rw [List.mem_singleton.mp hx]
              exact ynew
          · intro k hk hn ne z az nbz
            rw [List.map_append] at hk
            rcases List.mem_append.mp hk with hk | hk
            · exact mono z (cl2 k hk (fun h => hn (List.mem_append_left _ h)) ne z az nbz)
            · have ek : k = y := by simpa using hk
              exact absurd (by rw [ek]; simp) hn
          · intro z hz nbz
            rw [tk] at hz
            rcases List.mem_append.mp hz with hz | hz
            · exact mono z (did z hz nbz)
            · rw [List.mem_singleton.mp hz]
              exact ynew
        · have eb : some y = barred := by
            cases barred with
            | none =>
              have : decide (V.str y = optV none) = false := decide_eq_false fun z => by cases z
              rw [this] at hb
              exact absurd rfl hb
            | some b =>
              by_cases e : y = b
              · rw [e]
              · have : decide (V.str y = optV (some b)) = false := decide_eq_false fun z => e (V.str.inj z)
                rw [this] at hb
                exact absurd rfl hb
          exact ⟨ks2, wl2, _, lt, rfl, gr2, eA3, eW3, ok2, wk2, hk2, sub2, cl2, skip fun n => absurd eb n⟩
    · obtain ⟨ks2, wl2, b1, lt, rfl, gr2, eA3, eW3, ok2, wk2, hk2, sub2, cl2, did⟩ := hp
      rw [List.length_map, List.take_length] at did
      refine ⟨ks2, wl2, _, _, lt, rfl, gr2, eA3, eW3, ok2, wk2, sub2, fun k hk hn y ay nb => ?_⟩
      by_cases e : k = hand
      · rw [e] at ay
        exact did y (mem_nbrs.mpr ay) nb
      · exact cl2 k hk hn e y ay nb
end

end Lw

namespace Lw
open PySem PySem.Spec PyProof.Rows L2 GxR Gx
/-! ### is_web of any thing -/
def kvT (hands : List Str) : List (Key × V) := hands.map fun h => (Sum.inr h, V.bl true)
theorem kvT_keys (hands : List Str) : (kvT hands).map Prod.fst = hands.map Sum.inr := by
  unfold kvT
  rw [List.map_map]
  rfl
theorem kvT_is {hands : List Str} (nd : hands.Nodup) (h : Str) : (valV (kvT hands) (.inr h)).isSome = decide (h ∈ hands) := by
  by_cases m : h ∈ hands
  · obtain ⟨j, hj⟩ := List.mem_iff_getElem?.mp m
    rw [valV_some (kvs := kvT hands) (j := j) (v := .bl true) (by rw [kvT_keys]; exact List.pairwise_map.mpr (nd.imp fun q e => q (Sum.inr.inj e))) (by unfold kvT; rw [List.getElem?_map, hj]; rfl), decide_eq_true m]
    rfl
  · rw [valV_none (by
      rw [kvT_keys]
      intro z
      obtain ⟨y, hy, e⟩ := List.mem_map.mp z
      cases e
      exact m hy), decide_eq_false m]
    rfl
theorem roadB_no {kvs : List (Key × V)} {u v : V} (h : ¬ ((∃ y, u = .str y) ∧ ∃ z, v = .str z)) : roadB kvs u v = false := by
  unfold roadB
  split
  · exact absurd ⟨⟨_, rfl⟩, ⟨_, rfl⟩⟩ h
  · rfl
theorem roadD_no {hands : List Str} {d : PyData} (h : ¬ ∃ y z, d = .tuple [.str y, .str z]) : roadD hands d = false := by
  unfold roadD
  split
  · exact absurd ⟨_, _, rfl⟩ h
  · rfl
theorem roadB_D {K : PySem.W.Frag} {ex : List Addr} {H : Hp} {hands : List Str} (nd : hands.Nodup) {u v : V} {d e : PyData} (hu : Db K ex H u d) (hv : Db K ex H v e) : roadB (kvT hands) u v = roadD hands (.tuple [d, e]) := by
  by_cases c : (∃ y, d = .str y) ∧ ∃ z, e = .str z
  · obtain ⟨⟨y, rfl⟩, ⟨z, rfl⟩⟩ := c
    rw [hu.str_inv, hv.str_inv]
    show ((valV (kvT hands) (.inr y)).isSome && ((valV (kvT hands) (.inr z)).isSome && decide (y.cps.toList < z.cps.toList))) = (decide (y ∈ hands) && (decide (z ∈ hands) && decide (y.cps.toList < z.cps.toList)))
    rw [kvT_is nd, kvT_is nd]
  · rw [roadD_no (fun ⟨y, z, q⟩ => by
      injection q with q
      injection q with q1 q
      injection q with q2 _
      exact c ⟨⟨y, q1⟩, ⟨z, q2⟩⟩), roadB_no]
    rintro ⟨⟨y, rfl⟩, ⟨z, rfl⟩⟩
    cases hu
    cases hv
    exact c ⟨⟨_, rfl⟩, ⟨_, rfl⟩⟩
theorem bookV_strs (zs : List Str) : bookV (zs.map V.str) = (zs.all isNm && decide zs.Nodup) := by
  unfold bookV
  rw [List.all_map]
  have : decide (zs.map V.str).Nodup = decide zs.Nodup := decide_eq_decide.mpr nodup_str
  rw [this]
  rfl
section
variable {P : Program} {w : World} {K : PySem.W.Frag} {mg : Str → Option Value} {base : Heap}
theorem dbs_two {ex : List Addr} {H : Hp} {xs : List V} {ds : List PyData} (h : Dbs K ex H xs ds) (l : xs.length = 2) : ∃ u v d1 d2, xs = [u, v] ∧ ds = [d1, d2] ∧ Db K ex H u d1 ∧ Db K ex H v d2 := by
  cases h with
  | nil => cases l
  | cons h1 t =>
    cases t with
    | nil => cases l
    | cons h2 t =>
      cases t with
      | nil => exact ⟨_, _, _, _, rfl, rfl, h1, h2⟩
      | cons h3 t =>
        rw [List.length_cons, List.length_cons, List.length_cons] at l
        omega
theorem db_tup {ex : List Addr} {H : Hp} {x : V} {d : PyData} (h : Db K ex H x d) (n : tyD d = "tuple") : ∃ W xs ds, x = .ref W ∧ d = .tuple ds ∧ SqT K H W xs ∧ Dbs K ex H xs ds := by
  cases h with
  | tup n e h => exact ⟨_, _, _, rfl, rfl, e, h⟩
  | _ => exact absurd n (by simp [tyD])
theorem db_lst {ex : List Addr} {H : Hp} {x : V} {d : PyData} (h : Db K ex H x d) (n : tyD d = "list") : ∃ W xs ds, x = .ref W ∧ d = .list ds ∧ H W = some (.lst xs) ∧ Dbs K ex H xs ds := by
  cases h with
  | lst n e h => exact ⟨_, _, _, rfl, rfl, e, h⟩
  | _ => exact absurd n (by simp [tyD])
/-- what is_road is told of any thing -/
theorem road_ans {ex : List Addr} {H : Hp} {hands : List Str} (nd : hands.Nodup) {x : V} {d : PyData} (h : Db K ex H x d) (b : d.bulk ≤ 4000) {Q : V → Hp → Prop} (q : Q (.bl (roadD hands d)) H) :
    (∃ (a : Addr) (u v : V), x = .ref a ∧ SqT K H a [u, v] ∧ Known K H u ∧ Known K H v ∧ Q (.bl (roadB (kvT hands) u v)) H) ∨ (∃ (a : Addr) (xs : List V), x = .ref a ∧ SqT K H a xs ∧ xs.length ≠ 2 ∧ Q (.bl false) H) ∨ ∃ U, U ≠ "tuple" ∧ TyB K H x U ∧ Q (.bl false) H := by
  by_cases n : tyD d = "tuple"
  case neg =>
    rw [roadD_no fun ⟨y, z, e⟩ => n (by rw [e]; rfl)] at q
    exact .inr (.inr ⟨_, n, h.ty, q⟩)
  obtain ⟨W, xs, ds, rfl, rfl, eW, hds⟩ := db_tup h n
  by_cases l2 : xs.length = 2
  case neg =>
    rw [roadD_no fun ⟨y, z, e⟩ => l2 (by injection e with e; rw [hds.len, e]; rfl)] at q
    exact .inr (.inl ⟨_, _, rfl, eW, l2, q⟩)
  obtain ⟨u, v, d1, d2, rfl, rfl, h1, h2⟩ := dbs_two hds l2
  rw [PyData.bulk] at b
  refine .inl ⟨_, u, v, rfl, eW, Db.known h1 (Nat.le_trans (mem_bulk (by simp)) b), Db.known h2 (Nat.le_trans (mem_bulk (by simp)) b), ?_⟩
  rw [roadB_D nd h1 h2]
  exact q
def spIsWebA (K : PySem.W.Frag) (T1 T2 T3 : Addr) : Sp := fun vs H Q _ => ∃ (ex : List Addr) (x : V) (d : PyData), vs = [x] ∧ TabG H T1 ∧ TabG H T2 ∧ TabG H T3 ∧ Db K ex H x d ∧ d.bulk ≤ 4000 ∧ ∀ H', Grow [] H H' → Q (.bl (webD d)) H'
theorem ok_is_web {f c T1 T2 T3 : Addr} {fd : FuncData} (B : Nb mg) (D : DefIs K "is_web" "is_web" st_is_web f fd (.ref c)) (x_is_web : TabB base mg c T3)
    (c_is_pair : Callee P w K mg base CX0 2 "is_pair" ["thing"] (spIsPair K)) (c_are_unlike_names : Callee P w K mg base CX0 8 "are_unlike_names" ["thing"] (spUnlike K T1 T2))
    (c_is_road : Callee P w K mg base CX0 3 "is_road" ["thing", "hands"] (spIsRoad K)) (c_hands_ahead : Callee P w K mg base CX0 3 "hands_ahead" ["web", "start", "barred"] (spAheadG K)) :
    FnG P w K mg base CX0 9 f fd ["thing"] (spIsWebA K T1 T2 T3) := by
  refine D.ok0 (k := 8) sc_is_web (fun vs H Q E h => ?_) (fun A outer s H vs Q E g hr h => ?_)
  · obtain ⟨ex, x, d, rfl, _⟩ := h
    rfl
  obtain ⟨ex, x, d, rfl, t1, t2, t3, hx, hb, q⟩ := h
  refine ⟨_,
      (pss_cons (ps_if (pt_not (pt_val (pe_g c_is_pair g (hr.mono (by decide)) pass0 (pa_cons (pv 0) pa_nil)))) (
        (pss_one (ps_ret pe_bl))) pss_nil)
      (pss_cons (ps_asg (pv 0) (pg_tup rfl (pgs_cons (pg_name (i := 1) sc_is_web.nd rfl (.inl rfl)) (pgs_cons (pg_name (i := 2) sc_is_web.nd rfl (.inl rfl)) pgs_nil))))
      (pss_cons (ps_if (PW.pt (pw_or (pt_not (pt_val (pe_g c_are_unlike_names g (hr.mono (by decide)) pass0 (pa_cons (pv 1) pa_nil)))) (pw_or1 (pt_cmpR (op_eqE hr.units) (pv 1) (pe_lst pa_nil) (nomark _))))) (
        (pss_one (ps_ret pe_bl))) pss_nil)
      (pss_cons (ps_if (PW.pt (pw_or (pt_cmpR (op_notTyB) (pe_callTy call_type1 rfl B.n_type (by decide +kernel) (pa_cons (pv 2) pa_nil)) (pe_bltn (v := .ty "list") rfl B.n_list (by decide +kernel) rfl) (nomark _)) (pw_or1 (pt_cmpR (op_ne) (pe_callB call_len_seq rfl B.n_len PySem.boot_len (pa_cons (pv 2) pa_nil)) (pe_op op_sub (pe_callB call_len_seq rfl B.n_len PySem.boot_len (pa_cons (pv 1) pa_nil)) pe_int) (nomark _))))) (
        (pss_one (ps_ret pe_bl))) pss_nil)
      (pss_cons (ps_set (i := 3) sc_is_web.nd rfl (.inr rfl) (pe_dc (own := [("hand", 4)]) (g := (gName 4)) (tt := tYes) rfl sc_is_web.nd (pi_list (pv 1)) (blkOk_by (N := N_is_web) (sc := defScope st_is_web) (by decide +kernel)) (fun _ _ _ _ _ => (pg_name (i := 4) sc_is_web.nd rfl (.inl rfl))) (fun _ _ _ _ _ => pts_nil) (fun _ _ _ _ _ => pe_to (pv 4)) (fun _ _ _ _ _ => pe_to pe_bl)))
      (pss_cons (ps_if (pt_not (pt_val (pe_allG (own := [("road", 5)]) hr (gx_ok (N := N_is_web) (dsc := defScope st_is_web) x_is_web sc_is_web.nd (by decide +kernel) (by decide +kernel)) rfl B.n_all (by decide +kernel) (pi_list (pv 2)) (fun _ _ _ _ _ => (pg_name (i := 5) sc_is_web.nd rfl (.inl rfl))) (fun _ _ _ _ _ => pe_to (pe_g c_is_road g ((room_gx hr).mono (by decide)) pass0 (pa_cons (pv 5) (pa_cons (pv 3) pa_nil))))))) (
        (pss_one (ps_ret pe_bl))) pss_nil)
      (pss_one (ps_ret (pe_cmpR (op_eq) (pe_callB call_lenD rfl B.n_len PySem.boot_len (pa_cons (pe_g c_hands_ahead g (hr.mono (by decide)) pass0 (pa_cons (pv 0) (pa_cons (pe_ix ix_list (pv 1) pe_int (fun _ _ => rfl)) (pa_cons pe_non pa_nil)))) pa_nil)) (pe_callB call_len_seq rfl B.n_len PySem.boot_len (pa_cons (pv 1) pa_nil)) (nomark _)))))))))), ?_⟩
  have no : ¬ IsWeb d → ∀ H', Grow [] H H' → Q (.bl false) H' := fun n H' g' => by
    have := q H' g'
    rwa [webD_no n] at this
  refine ⟨x, rfl, x, rfl, ?_⟩
  by_cases ct : tyD d = "tuple"
  case neg => exact .inr ⟨_, ct, hx.ty, false, rfl, iteT (no (fun z => by obtain ⟨_, _, rfl⟩ := isWeb_shape z; exact ct rfl) H (Grow.refl _ _))⟩
  obtain ⟨W, xs, ds, rfl, rfl, eW, hds⟩ := db_tup hx ct
  refine .inl ⟨W, xs, rfl, eW, ?_⟩
  by_cases l2 : xs.length = 2
  case neg =>
    rw [decide_eq_false l2]
    refine ⟨false, rfl, iteT (no (fun z => ?_) H (Grow.refl _ _))⟩
    obtain ⟨_, _, e⟩ := isWeb_shape z
    injection e with e
    rw [hds.len, e] at l2
    exact l2 rfl
  obtain ⟨u, v, d1, d2, rfl, rfl, h1, h2⟩ := dbs_two hds l2
  rw [decide_eq_true l2]
  refine ⟨true, rfl, iteF ?_⟩
  have hb2 : PyData.bulkAll [d1, d2] ≤ 4000 := by rw [PyData.bulk] at hb; exact hb
  have b1 : d1.bulk ≤ 4000 := Nat.le_trans (mem_bulk (by simp)) hb2
  have b2 : d2.bulk ≤ 4000 := Nat.le_trans (mem_bulk (by simp)) hb2
  refine ⟨.ref W, rfl, W, _, rfl, eW, rfl, _, _, rfl, _, _, rfl, rfl, ?_⟩
  refine ⟨u, rfl, u, rfl, t1, t2, ?_⟩
  by_cases c1 : tyD d1 = "list"
  case neg => exact .inr ⟨_, c1, h1.ty, false, rfl, iteT (no (fun z => by
    obtain ⟨_, _, e⟩ := isWeb_shape z
    injection e with e
    injection e with e _
    rw [e] at c1
    exact c1 rfl) H (Grow.refl _ _))⟩
  obtain ⟨hs, us, ds1, rfl, rfl, eh, hds1⟩ := db_lst h1 c1
  have ul : us.length ≤ 4000 := by rw [hds1.len]; rw [PyData.bulk] at b1; exact Nat.le_trans (len_bulk _) b1
  refine .inl ⟨hs, us, rfl, .inl (.inl eh), fun x hx => ?_, ul, fun H1 g1 => ?_⟩
  · obtain ⟨j, hj⟩ := List.mem_iff_getElem?.mp hx
    obtain ⟨e, he, hd⟩ := hds1.get hj
    rw [PyData.bulk] at b1
    exact Db.known hd (Nat.le_trans (mem_bulk (List.mem_of_getElem? he)) b1)
  cases bk : bookV us with
  | false =>
    refine ⟨false, rfl, iteT (no (fun z => ?_) H1 g1)⟩
    obtain ⟨_, ds2, e⟩ := isWeb_shape z
    injection e with e
    injection e with e1 e
    injection e with e2 _
    subst e2
    obtain ⟨zs, rfl, n1, n2, _⟩ := isWeb_inv z
    rw [hds1.strs_inv, bookV_strs, n1, decide_eq_true n2] at bk
    cases bk
  | true =>
  refine ⟨true, rfl, iteF ?_⟩
  obtain ⟨hands, rfl⟩ : ∃ hands : List Str, us = hands.map V.str := by
    have b0 : us.all nameV = true := by
      unfold bookV at bk
      rw [Bool.and_eq_true] at bk
      exact bk.1
    exact ⟨_, strs_of nameV_str b0⟩
  rw [bookV_strs, Bool.and_eq_true, decide_eq_true_iff] at bk
  obtain ⟨nm, nd⟩ := bk
  obtain rfl := hds1.of_strs
  rw [List.length_map] at ul
  refine ⟨.ref hs, rfl, by show 0 ≤ sizeLine; decide, fun Z nZ => ?_⟩
  have g2 := g1.new (o := .lst []) nZ
  refine ⟨hs, Z, hands.map V.str, rfl, rfl, g2.lst (by simp) eh, upd_same, ?_⟩
  generalize upd H1 Z (.lst []) = H2 at g2 ⊢
  by_cases ne : hands = []
  · subst ne
    exact ⟨true, rfl, iteT (no (fun z => by
      obtain ⟨_, ds2, e⟩ := isWeb_shape z
      injection e with e
      injection e with e1 e
      injection e with e2 _
      subst e2
      obtain ⟨zs, e, _, _, n, _⟩ := isWeb_inv z
      cases zs with
      | nil => exact n rfl
      | cons _ _ => cases e) H2 g2)⟩
  rw [decide_eq_false (show ¬ hands.map V.str = [] from fun z => ne (List.map_eq_nil_iff.mp z))]
  refine ⟨false, rfl, iteF ?_⟩
  have eh2 := g2.lst (by simp) eh
  have g2x : Grow ex H H2 := g2.any
  have h22 := h2.grow g2x
  refine ⟨v, rfl, _, _, rfl, h22.ty, _, "list", rfl, rfl, _, rfl, ?_⟩
  by_cases c2 : tyD d2 = "list"
  case neg =>
    rw [decide_eq_false c2]
    exact iteT (iteT (no (fun z => by
      obtain ⟨_, _, e⟩ := isWeb_shape z
      injection e with e
      injection e with _ e
      injection e with e _
      rw [e] at c2
      exact c2 rfl) H2 g2))
  rw [decide_eq_true c2]
  obtain ⟨rs, ws, ds2, rfl, rfl, er, hds2⟩ := db_lst h2 c2
  have er2 := g2.lst (by simp) er
  have wl : ws.length ≤ 4000 := by rw [hds2.len]; rw [PyData.bulk] at b2; exact Nat.le_trans (len_bulk _) b2
  refine iteF ⟨.ref rs, rfl, rs, _, rfl, .inl (.inl (.inl er2)), .ref hs, rfl, hs, _, rfl, .inl (.inl (.inl eh2)), _, _, rfl, rfl, rfl, ?_⟩
  by_cases cl : ws.length + 1 = hands.length
  case neg =>
    rw [show decide (V.int ((ws.length : Nat) : Int) = V.int (((hands.map V.str).length : Nat) - 1)) = false from decide_eq_false fun z => cl (by
      have := V.int.inj z
      rw [List.length_map] at this
      omega)]
    refine ⟨true, rfl, iteT (no (fun z => ?_) H2 g2)⟩
    obtain ⟨zs, e, _, _, _, _, l⟩ := isWeb_inv z
    rw [map_str_inj e] at cl
    exact cl (by rw [hds2.len]; exact l)
  rw [show decide (V.int ((ws.length : Nat) : Int) = V.int (((hands.map V.str).length : Nat) - 1)) = true from decide_eq_true (by rw [List.length_map]; congr 1; omega)]
  refine ⟨false, rfl, iteF ?_⟩
  refine ⟨.ref hs, rfl, hs, rfl, ⟨_, .inl (.inl eh2)⟩, fun D1 n1 => ?_⟩
  refine dc_it (walk_list (xs := hands.map V.str)) (fun j H' => Grow [] H2 H' ∧ H' D1 = some (.dK (kvT (hands.take j)))) ⟨grow_new n1, upd_same⟩
    (fun j H' _ h => .inl (.inl (h.1.lst (by simp) eh2))) (fun j x H3 H4 hj hp hy => ?_) (fun H3 hp => ?_)
  · obtain ⟨gj, eD⟩ := hp
    obtain ⟨rfl, e⟩ := hy
    rw [List.length_map] at hj
    rw [List.getElem?_map, List.getElem?_eq_getElem hj] at e
    cases e
    have tk : hands.take (j + 1) = hands.take j ++ [hands[j]] := by rw [List.take_add_one, List.getElem?_eq_getElem hj]; rfl
    have new : hands[j] ∉ hands.take j := fun h => by
      obtain ⟨i, hi⟩ := List.mem_iff_getElem?.mp h
      rw [List.getElem?_take] at hi
      by_cases hij : i < j
      · rw [if_pos hij] at hi
        have := (List.getElem?_inj (List.getElem?_eq_some_iff.mp hi).1 nd).mp (hi.trans (List.getElem?_eq_getElem hj).symm)
        omega
      · rw [if_neg hij] at hi
        cases hi
    refine ⟨rfl, yes_if ⟨.str _, rfl, _, .inr hands[j], rfl, eD, ?_, gj.put (fresh_none n1) eD (fun ps z => by cases z), ?_⟩⟩
    · unfold kvT
      rw [List.length_map, List.length_take]
      unfold sizeLine
      omega
    · rw [upd_same, putK_new _ (valV_none (by
        rw [kvT_keys]
        intro z
        obtain ⟨y, hy, e⟩ := List.mem_map.mp z
        cases e
        exact new hy)), tk]
      unfold kvT
      rw [List.map_append]
      rfl
  obtain ⟨g3, eD⟩ := hp
  rw [List.length_map, List.take_length] at eD
  have g13 := g2.trans g3
  have ex3 := g13.lst (by simp) er
  refine ⟨.ref rs, rfl, rs, rfl, ⟨_, .inl (.inl ex3)⟩, g13.tabs _ t3, ?_⟩
  refine truth_list (xs := ws) (fun i H' => Grow [] H3 H' ∧ (ds2.take i).all (roadD hands) = true) (fun H' tb => ⟨grow_tab (g13.tabs _ t3) tb, rfl⟩) (fun i H' hp => .inl (.inl (hp.1.lst (by simp) ex3))) (fun i x H' hx hp => ?_) fun H4 g4 => ?_
  · obtain ⟨g4, ok⟩ := hp
    obtain ⟨d, hd, hdb⟩ := hds2.get hx
    have gx : Grow ex H H' := (g13.trans g4).any
    have bd : d.bulk ≤ 4000 := by rw [PyData.bulk] at b2; exact Nat.le_trans (mem_bulk (List.mem_of_getElem? hd)) b2
    refine ⟨rfl, x, rfl, .ref D1, rfl, x, D1, _, rfl, g4.keep D1 _ (by simp) eD (fun ps z => by cases z), ?_⟩
    have bad : roadD hands d = false → ¬ IsWeb (.tuple [.list (hands.map PyData.str), .list ds2]) := fun rd z => by
      obtain ⟨zs, e, _, _, _, a, _⟩ := isWeb_inv z
      rw [← map_str_inj e] at a
      have := List.all_eq_true.mp a d (List.mem_of_getElem? hd)
      rw [rd] at this
      cases this
    have good : roadD hands d = true → (ds2.take (i + 1)).all (roadD hands) = true := fun rd => by
      rw [List.take_add_one, hd, List.all_append, ok]
      show (true && (roadD hands d && true)) = true
      rw [rd]
      rfl
    have ra := road_ans nd (hdb.grow gx) bd (Q := fun y H2 => y = .bl (roadD hands d) ∧ H2 = H') ⟨rfl, rfl⟩
    generalize roadD hands d = rd at ra bad good
    rcases ra with ⟨a, u, v, e, k1, k2, k3, e4, _⟩ | ⟨a, xs, e, k1, k2, e4, _⟩ | ⟨U, k1, k2, e4, _⟩
    · refine .inl ⟨a, u, v, e, k1, k2, k3, rd, e4, ?_⟩
      cases rd with
      | false =>
        rw [if_pos rfl]
        exact ⟨false, rfl, iteT (no (bad rfl) H' (g13.trans g4))⟩
      | true =>
        rw [if_neg (fun z => Bool.noConfusion z)]
        exact ⟨g4, good rfl⟩
    · cases rd with
      | false =>
        refine .inr (.inl ⟨a, xs, e, k1, k2, false, rfl, ?_⟩)
        rw [if_pos rfl]
        exact ⟨false, rfl, iteT (no (bad rfl) H' (g13.trans g4))⟩
      | true => cases e4
    · cases rd with
      | false =>
        refine .inr (.inr ⟨U, k1, k2, false, rfl, ?_⟩)
        rw [if_pos rfl]
        exact ⟨false, rfl, iteT (no (bad rfl) H' (g13.trans g4))⟩
      | true => cases e4
  obtain ⟨g4, ok⟩ := g4
  rw [hds2.len, List.take_length] at ok
  have g14 := g13.trans g4
  refine ⟨true, rfl, iteF ?_⟩
  have h0 : 0 < hands.length := List.length_pos_iff.mpr ne
  have m0 : hands[0] ∈ hands := List.getElem_mem h0
  have es := roads_is ok
  obtain ⟨roads, eR⟩ : ∃ roads, roads = ds2.map rOf := ⟨_, rfl⟩
  have hlen : roads.length + 1 = hands.length := by rw [eR, List.length_map, ← hds2.len]; exact cl
  have F : FormOk hands roads := ⟨nm, nd, ne, fun r hr => by
    rw [eR] at hr
    obtain ⟨d, hd, rfl⟩ := List.mem_map.mp hr
    exact (roadD_is (List.all_eq_true.mp ok d hd)).2⟩
  have hWG : WebG K H W hands roads := ⟨hs, rs, eW, eh, ws, er, by rw [eR]; exact pgs_of hds2 ok⟩
  rw [← eR] at es
  have ends2 : ∀ r ∈ roads, r.1 ∈ hands ∧ r.2 ∈ hands := fun r hr => ⟨(F.ends r hr).1, (F.ends r hr).2.1⟩
  refine ⟨.ref W, rfl, .ref hs, rfl, hs, _, 0, .str hands[0], rfl, rfl, .inl (.inl (g14.lst (by simp) eh)), atI_nat (j := 0) (by rw [List.getElem?_map, List.getElem?_eq_getElem h0]; rfl), W, hands, roads, hands[0], none, rfl, hWG.grow g14, nd, ul, by omega, ends2, m0, fun D2 H5 ks f2 g5 e2 ok2 cl2 => ?_⟩
  refine ⟨D2, _, rfl, e2, .ref hs, rfl, hs, _, rfl, .inl (.inl (.inl ((g14.trans g5).lst (by simp) eh))), rfl, ?_⟩
  have key := ahead_conn nd m0 ends2 ok2 cl2
  have eq : decide (V.int (((kvO ks).length : Nat) : Int) = V.int (((hands.map V.str).length : Nat) : Int)) = webD (.tuple [.list (hands.map PyData.str), .list ds2]) := by
    have e1 : decide (V.int (((kvO ks).length : Nat) : Int) = V.int (((hands.map V.str).length : Nat) : Int)) = decide (ks.length = hands.length) := decide_eq_decide.mpr ⟨fun h => by
      have := V.int.inj h
      unfold kvO at this
      rw [List.length_map, List.length_map] at this
      omega, fun h => by unfold kvO; rw [List.length_map, List.length_map, h]⟩
    rw [e1, es]
    by_cases c : ks.length = hands.length
    · rw [decide_eq_true c]
      exact (webD_yes (webD_form.mpr ⟨F, hlen, key.mp c⟩)).symm
    · rw [decide_eq_false c]
      exact (webD_no fun z => c (key.mpr (webD_form.mp z).2.2)).symm
  rw [eq]
  exact q _ (g14.trans g5)
end

end Lw

namespace Lw
open PySem PySem.Spec PyProof.Rows L2 GxR Gx
/-! ### _law_is_name of any thing -/
def nmD : PyData → Bool
  | .str z => isNm z
  | _ => false
theorem nmD_no {d : PyData} (n : tyD d ≠ "str") : nmD d = false := by
  unfold nmD
  split
  · exact absurd rfl n
  · rfl
theorem kit_str {K : PySem.W.Frag} {d : PyData} (n : tyD d ≠ "str") : PySem.W.kitOne K (.type (tyD d)) (.type "str") = some false := by
  cases d with
  | str x => exact absurd rfl n
  | _ => rfl
theorem kit_list {K : PySem.W.Frag} {d : PyData} (n : tyD d ≠ "list") : PySem.W.kitOne K (.type (tyD d)) (.type "list") = some false := by
  cases d with
  | list x => exact absurd rfl n
  | _ => rfl
theorem kit_tup {K : PySem.W.Frag} {d : PyData} (n : tyD d ≠ "tuple") : PySem.W.kitOne K (.type (tyD d)) (.type "tuple") = some false := by
  cases d with
  | tuple x => exact absurd rfl n
  | _ => rfl
theorem db_str {K : PySem.W.Frag} {ex : List Addr} {H : Hp} {x : V} {d : PyData} (h : Db K ex H x d) (n : tyD d = "str") : ∃ z, x = .str z ∧ d = .str z := by
  cases h with
  | str z => exact ⟨z, rfl, rfl⟩
  | _ => exact absurd n (by simp [tyD])
theorem in_abc (c : Nat) : decide (c ∈ (Str.ofString "abcdefghijklmnopqrstuvwxyz").cps.toList) = nameC c := by
  by_cases h : c < 123
  · revert c
    decide +kernel
  · have h1 : nameC c = false := by
      unfold nameC
      rw [decide_eq_false (show ¬ c ≤ 122 by omega), Bool.and_false]
    rw [h1]
    refine decide_eq_false fun m => ?_
    have : ∀ c ∈ (Str.ofString "abcdefghijklmnopqrstuvwxyz").cps.toList, c < 123 := by decide +kernel
    exact h (this c m)
section
variable {P : Program} {w : World} {K : PySem.W.Frag} {mg : Str → Option Value} {base : Heap}
def spLawName (K : PySem.W.Frag) : Sp := fun vs H Q _ => ∃ (ex : List Addr) (x : V) (d : PyData), vs = [x] ∧ Db K ex H x d ∧ d.bulk ≤ 4000 ∧ ∀ H', Grow [] H H' → Q (.bl (nmD d)) H'
theorem ok_law_is_name {f c : Addr} {fd : FuncData} (B : Nb mg) (D : DefIs K "_law_is_name" "_law_is_name" st_law_is_name f fd (.ref c)) : FnG P w K mg base CX0 3 f fd ["thing"] (spLawName K) := by
  refine D.ok0 (k := 2) sc_law_is_name (fun vs H Q E h => ?_) (fun A outer s H vs Q E g hr h => ?_)
  · obtain ⟨ex, x, d, rfl, _⟩ := h
    rfl
  obtain ⟨ex, x, d, rfl, hx, hb, q⟩ := h
  refine ⟨_,
      (pss_cons (ps_if (PW.pt (pw_or (pt_not (pt_val (pe_callB call_isi rfl B.n_isinstance (by decide +kernel) (pa_cons (pv 0) (pa_cons (pe_bltn (v := .ty "str") rfl B.n_str (by decide +kernel) rfl) pa_nil))))) (pw_or (pt_cmpR (op_lt) (pe_callB call_len_str rfl B.n_len PySem.boot_len (pa_cons (pv 0) pa_nil)) pe_int (nomark _)) (pw_or1 (pt_cmpR (op_gt) (pe_callB call_len_str rfl B.n_len PySem.boot_len (pa_cons (pv 0) pa_nil)) pe_int (nomark _)))))) (
        (pss_one (ps_ret pe_bl))) pss_nil)
      (pss_one (ps_ret (pe_cmpR (op_eqE hr.units) (pe_lc (own := [("sign", 1)]) (g := (gName 1)) rfl sc_law_is_name.nd (pi_str (pv 0)) (blkOk_by (N := N_law_is_name) (sc := defScope st_law_is_name) (by decide +kernel)) (fun _ _ _ _ _ => (pg_name (i := 1) sc_law_is_name.nd rfl (.inl rfl))) (fun _ _ _ _ _ => pts_to (pts_one (pt_cmpR (op_notIn_sign) (pv 1) pe_str rfl))) (fun _ _ _ _ _ => pe_to (pv 1))) (pe_lst pa_nil) (nomark _))))), ?_⟩
  by_cases ct : tyD d = "str"
  case neg =>
    rw [nmD_no ct] at q
    exact ⟨x, rfl, x, .ty "str", .type (tyD d), .type "str", false, rfl, .ty "str", hx.tx, kit_str ct, false, rfl, iteT (iteT (q H (Grow.refl _ _)))⟩
  obtain ⟨z, rfl, rfl⟩ := db_str hx ct
  have zl : z.length ≤ 4000 := by
    rw [PyData.bulk] at hb
    exact hb
  have zs : z.length ≤ sizeLine := by rw [sizeLine_eq]; omega
  replace q : ∀ H', Grow [] H H' → Q (.bl (isNm z)) H' := q
  refine ⟨.str z, rfl, .str z, .ty "str", .type "str", .type "str", true, rfl, .ty "str", .base (.str z), rfl, true, rfl, iteF ?_⟩
  refine ⟨.str z, rfl, z, rfl, zs, _, _, rfl, rfl, _, rfl, ?_⟩
  by_cases h1 : (z.length : Int) < 1
  · rw [decide_eq_true h1]
    have e : isNm z = false := by
      unfold isNm
      rw [decide_eq_false (by omega), Bool.false_and, Bool.false_and]
    rw [e] at q
    exact iteT (iteT (q H (Grow.refl _ _)))
  rw [decide_eq_false h1]
  refine iteF ⟨.str z, rfl, z, rfl, zs, _, _, rfl, rfl, _, rfl, ?_⟩
  by_cases h2 : (8 : Int) < z.length
  · rw [decide_eq_true h2]
    have e : isNm z = false := by
      unfold isNm
      rw [decide_eq_false (show ¬ z.length ≤ 8 by omega), Bool.and_false, Bool.false_and]
    rw [e] at q
    exact iteT (q H (Grow.refl _ _))
  rw [decide_eq_false h2]
  refine iteF ?_
  refine ⟨.str z, rfl, z, rfl, fun D1 n1 => ?_⟩
  have zc : z.cps.toList.length = z.length := Array.length_toList
  refine lc_filt walk_str z.cps.toList (fun c => !nameC c) (fun c => V.str ⟨#[c]⟩) n1 zc.symm (by omega) (fun _ _ => trivial) (fun i c x Ha Hb Pu Pn ez ga hy ku kn => ?_) (fun H2 g2 e2 => ?_)
  · obtain ⟨rfl, c2, e2, rfl⟩ := hy
    have ec : c2 = c := by
      rw [Array.getElem?_toList, e2] at ez
      exact Option.some.inj ez
    subst ec
    refine ⟨rfl, .str ⟨#[c2]⟩, rfl, c2, _, rfl, rfl, _, rfl, ?_⟩
    rw [in_abc]
    cases hc : nameC c2 with
    | true => exact kn _ (Grow.refl _ _) (by show (!nameC c2) = false; rw [hc]; rfl)
    | false => exact ⟨_, rfl, ku _ (Grow.refl _ _) (by show (!nameC c2) = true; rw [hc]; rfl)⟩
  · refine ⟨by show 0 ≤ sizeLine; decide, fun E0 nE => ?_⟩
    have gE : Grow [] H2 (upd H2 E0 (.lst [])) := grow_new nE
    refine ⟨D1, E0, _, rfl, rfl, gE.lst (by simp) e2, upd_same, ?_⟩
    have e0 : decide ((z.cps.toList.filter fun c => !nameC c).map (fun c => V.str ⟨#[c]⟩) = []) = isNm z := by
      unfold isNm
      rw [decide_eq_true (show 1 ≤ z.length by omega), decide_eq_true (show z.length ≤ 8 by omega)]
      show _ = z.cps.toList.all nameC
      rw [Bool.eq_iff_iff, decide_eq_true_iff, List.map_eq_nil_iff, List.filter_eq_nil_iff, List.all_eq_true]
      refine forall_congr' fun x => forall_congr' fun _ => ?_
      cases nameC x <;> simp
    rw [e0]
    exact q _ (g2.trans gE)
end

end Lw

namespace Lw
open PySem PySem.Spec PyProof.Rows L2 GxR Gx
/-! ### _law_has_form -/
def IsForm (d : PyData) : Prop := ∃ hs rs, d = webDt hs rs ∧ FormOk hs rs ∧ rs.Nodup
open Classical in
noncomputable def formD (d : PyData) : Bool := decide (IsForm d)
theorem formD_no {d : PyData} (h : ¬ IsForm d) : formD d = false := @decide_eq_false _ (Classical.propDecidable _) h
theorem formD_yes {d : PyData} (h : IsForm d) : formD d = true := @decide_eq_true _ (Classical.propDecidable _) h
/-- roads of texts -/
def RoadsFlat (d : PyData) : Prop := ∀ ds1 ds2, d = .tuple [.list ds1, .list ds2] → ∀ r ∈ ds2, r.hasDict = false ∧ r.depth ≤ 32 ∧ ∀ a b, r = .tuple [a, b] → ∃ y z, a = .str y ∧ b = .str z
theorem isForm_shape {d : PyData} (h : IsForm d) : ∃ ds1 ds2, d = .tuple [.list ds1, .list ds2] := by
  obtain ⟨hs, rs, rfl, _⟩ := h
  exact ⟨_, _, rfl⟩
theorem eqv_road (a b : Str × Str) : PyData.eqv (encP a) (encP b) = decide (a = b) := by
  show (a.1 == b.1 && (a.2 == b.2 && true)) = decide (a = b)
  rw [Bool.and_true, Bool.eq_iff_iff, Bool.and_eq_true, beq_iff_eq, beq_iff_eq, decide_eq_true_iff]
  exact ⟨fun ⟨h1, h2⟩ => Prod.ext h1 h2, fun h => by rw [h]; exact ⟨rfl, rfl⟩⟩
theorem count_road (rs : List (Str × Str)) (r : Str × Str) : (rs.map encP).countP (fun e => PyData.eqv e (encP r)) = rs.count r := by
  rw [List.countP_map]
  unfold List.count
  congr 1
  funext s
  show PyData.eqv (encP s) (encP r) = (s == r)
  rw [eqv_road, Bool.eq_iff_iff, decide_eq_true_iff, beq_iff_eq]
theorem isForm_inv {ds1 ds2 : List PyData} (h : IsForm (.tuple [.list ds1, .list ds2])) : ∃ hs : List Str, ds1 = hs.map PyData.str ∧ hs.all isNm = true ∧ hs.Nodup ∧ hs ≠ [] ∧ ds2.all (roadD hs) = true ∧ ∀ r ∈ ds2, ds2.countP (fun e => PyData.eqv e r) ≤ 1 := by
  obtain ⟨hs, rs, e, F, nd⟩ := h
  unfold webDt at e
  injection e with e
  injection e with e1 e2
  injection e2 with e2 _
  injection e1 with e1
  injection e2 with e2
  refine ⟨hs, e1, F.nm, F.nd, F.ne, ?_, ?_⟩
  · rw [e2, List.all_map, List.all_eq_true]
    exact fun r hr => roadD_encP.mpr (F.ends r hr)
  · subst e2
    intro d hd
    obtain ⟨r, hr, rfl⟩ := List.mem_map.mp hd
    rw [count_road]
    exact List.nodup_iff_count.mp nd r
theorem isForm_of {hs : List Str} {ds2 : List PyData} (nm : hs.all isNm = true) (nd : hs.Nodup) (ne : hs ≠ []) (a : ds2.all (roadD hs) = true) (c : ∀ r ∈ ds2, ds2.countP (fun e => PyData.eqv e r) ≤ 1) : IsForm (.tuple [.list (hs.map PyData.str), .list ds2]) := by
  have es := roads_is a
  refine ⟨hs, ds2.map rOf, by unfold webDt; rw [← es], ⟨nm, nd, ne, fun r hr => ?_⟩, ?_⟩
  · obtain ⟨d, hd, rfl⟩ := List.mem_map.mp hr
    exact (roadD_is (List.all_eq_true.mp a d hd)).2
  · refine List.nodup_iff_count.mpr fun r => ?_
    by_cases m : r ∈ ds2.map rOf
    · rw [es] at c
      have := c (encP r) (List.mem_map.mpr ⟨r, m, rfl⟩)
      rwa [count_road] at this
    · rw [List.count_eq_zero_of_not_mem m]
      exact Nat.zero_le _
/-- a hand that is none, or twice -/
def badH (us : List V) : V → Bool
  | .str z => !isNm z || decide (1 < us.countP (isZ z))
  | _ => true
theorem count_strs (zs : List Str) (z : Str) : (zs.map V.str).countP (isZ z) = zs.count z := by
  rw [List.countP_map]
  rfl
theorem badH_none (us : List V) : decide (us.filter (badH us) = []) = bookV us := by
  rw [Bool.eq_iff_iff, decide_eq_true_iff, List.filter_eq_nil_iff]
  constructor
  · intro h
    have nv : us.all nameV = true := List.all_eq_true.mpr fun x hx => by
      have := h x hx
      cases x with
      | str z =>
        show isNm z = true
        cases hz : isNm z with
        | true => rfl
        | false => exact absurd (show (!isNm z || decide (1 < us.countP (isZ z))) = true by rw [hz]; rfl) this
      | _ => exact absurd rfl this
    obtain ⟨zs, rfl⟩ : ∃ zs : List Str, us = zs.map V.str := ⟨_, strs_of nameV_str nv⟩
    rw [bookV_strs, Bool.and_eq_true, decide_eq_true_iff]
    refine ⟨by rw [List.all_map] at nv; exact nv, List.nodup_iff_count.mpr fun z => ?_⟩
    by_cases m : z ∈ zs
    · have := h (.str z) (List.mem_map.mpr ⟨z, m, rfl⟩)
      rw [← count_strs]
      refine Classical.byContradiction fun n => this ?_
      show (!isNm z || decide (1 < (zs.map V.str).countP (isZ z))) = true
      rw [decide_eq_true (by omega), Bool.or_true]
    · rw [List.count_eq_zero_of_not_mem m]
      exact Nat.zero_le _
  · intro b x hx
    have nv : us.all nameV = true := by
      unfold bookV at b
      rw [Bool.and_eq_true] at b
      exact b.1
    obtain ⟨zs, rfl⟩ : ∃ zs : List Str, us = zs.map V.str := ⟨_, strs_of nameV_str nv⟩
    rw [bookV_strs, Bool.and_eq_true, decide_eq_true_iff] at b
    obtain ⟨z, hz, rfl⟩ := List.mem_map.mp hx
    show ¬ (!isNm z || decide (1 < (zs.map V.str).countP (isZ z))) = true
    rw [count_strs, List.all_eq_true.mp b.1 z hz, decide_eq_false (by have := List.nodup_iff_count.mp b.2 z; omega)]
    exact Bool.false_ne_true
theorem nm_eq {K : PySem.W.Frag} {ex : List Addr} {H : Hp} {x : V} {d : PyData} (h : Db K ex H x d) : nmD d = nameV x := by
  cases h <;> rfl
theorem in_strs (x : Str) (zs : List Str) : inV (.str x) (zs.map V.str) = decide (x ∈ zs) := by
  induction zs with
  | nil => rfl
  | cons y zs ih =>
    unfold inV at ih ⊢
    rw [List.map_cons, List.any_cons, ih]
    show (decide (y = x) || decide (x ∈ zs)) = _
    by_cases c : y = x
    · simp [c]
    · simp [c, Ne.symm c]
theorem flat_strs (zs : List Str) : (zs.map V.str).all flatV = true := by
  rw [List.all_map]
  exact List.all_eq_true.mpr fun _ _ => rfl
section
variable {P : Program} {w : World} {K : PySem.W.Frag} {mg : Str → Option Value} {base : Heap}
def spHasForm (K : PySem.W.Frag) : Sp := fun vs H Q _ => ∃ (ex : List Addr) (x : V) (d : PyData), vs = [x] ∧ Db K ex H x d ∧ d.bulk ≤ 4000 ∧ RoadsFlat d ∧ ∀ H', Grow [] H H' → Q (.bl (formD d)) H'
theorem ok_law_has_form {f c : Addr} {fd : FuncData} (B : Nb mg) (D : DefIs K "_law_has_form" "_law_has_form" st_law_has_form f fd (.ref c)) (c_law_is_name : Callee P w K mg base CX0 3 "_law_is_name" ["thing"] (spLawName K)) : FnG P w K mg base CX0 5 f fd ["thing"] (spHasForm K) := by
  refine D.ok0 (k := 4) sc_law_has_form (fun vs H Q E h => ?_) (fun A outer s H vs Q E g hr h => ?_)
  · obtain ⟨ex, x, d, rfl, _⟩ := h
    rfl
  obtain ⟨ex, x, d, rfl, hx, hb, hf, q⟩ := h
  refine ⟨_,
      (pss_cons (ps_if (PW.pt (pw_or (pt_not (pt_val (pe_callB call_isi rfl B.n_isinstance (by decide +kernel) (pa_cons (pv 0) (pa_cons (pe_bltn (v := .ty "tuple") rfl B.n_tuple (by decide +kernel) rfl) pa_nil))))) (pw_or1 (pt_cmpR (op_ne) (pe_callB call_len_seq rfl B.n_len PySem.boot_len (pa_cons (pv 0) pa_nil)) pe_int (nomark _))))) (
        (pss_one (ps_ret pe_bl))) pss_nil)
      (pss_cons (ps_asg (pv 0) (pg_tup rfl (pgs_cons (pg_name (i := 1) sc_law_has_form.nd rfl (.inr rfl)) (pgs_cons (pg_name (i := 2) sc_law_has_form.nd rfl (.inl rfl)) pgs_nil))))
      (pss_cons (ps_if (PW.pt (pw_or (pt_not (pt_val (pe_callB call_isi rfl B.n_isinstance (by decide +kernel) (pa_cons (pv 1) (pa_cons (pe_bltn (v := .ty "list") rfl B.n_list (by decide +kernel) rfl) pa_nil))))) (pw_or (pt_not (pt_val (pe_callB call_isi rfl B.n_isinstance (by decide +kernel) (pa_cons (pv 2) (pa_cons (pe_bltn (v := .ty "list") rfl B.n_list (by decide +kernel) rfl) pa_nil))))) (pw_or1 (pt_cmpR (op_eqE hr.units) (pv 1) (pe_lst pa_nil) (nomark _)))))) (
        (pss_one (ps_ret pe_bl))) pss_nil)
      (pss_cons (ps_if (pt_cmpR (op_neE hr.units) (pe_lc (own := [("hand", 3)]) (g := (gName 3)) rfl sc_law_has_form.nd (pi_list (pv 1)) (blkOk_by (N := N_law_has_form) (sc := defScope st_law_has_form) (by decide +kernel)) (fun _ _ _ _ _ => (pg_name (i := 3) sc_law_has_form.nd rfl (.inl rfl))) (fun _ _ _ _ _ => pts_to (pts_one (PW.pt (pw_or (pt_not (pt_val (pe_g c_law_is_name g (hr.mono (by decide)) pass0 (pa_cons (pv 3) pa_nil)))) (pw_or1 (pt_cmpR (op_gt) (pe_bm PySem.F.plainAttrs_list PySem.F.slot_list_count PySem.F.type_list_count (mt_countS hr.units) (pv 1) (pa_cons (pv 3) pa_nil)) pe_int (nomark _))))))) (fun _ _ _ _ _ => pe_to (pv 3))) (pe_lst pa_nil) (nomark _)) (
        (pss_one (ps_ret pe_bl))) pss_nil)
      (pss_cons (ps_for PassesOwn.never rfl (pi_list (pv 2)) (pg_name (i := 4) sc_law_has_form.nd rfl (.inl rfl)) (
        (pss_cons (ps_if (PW.pt (pw_or (pt_not (pt_val (pe_callB call_isi rfl B.n_isinstance (by decide +kernel) (pa_cons (pv 4) (pa_cons (pe_bltn (v := .ty "tuple") rfl B.n_tuple (by decide +kernel) rfl) pa_nil))))) (pw_or (pt_cmpR (op_ne) (pe_callB call_len_seq rfl B.n_len PySem.boot_len (pa_cons (pv 4) pa_nil)) pe_int (nomark _)) (pw_or1 (pt_cmpR (op_gt) (pe_bm PySem.F.plainAttrs_list PySem.F.slot_list_count PySem.F.type_list_count (mt_countD hr.units) (pv 2) (pa_cons (pv 4) pa_nil)) pe_int (nomark _)))))) (
          (pss_one (ps_ret pe_bl))) pss_nil)
        (pss_one (ps_if (PW.pt (pw_or (pt_cmpR (op_neE hr.units) (pe_lc (own := [("hand", 3)]) (g := (gName 3)) rfl sc_law_has_form.nd (pi_tup (pv 4)) (blkOk_by (N := N_law_has_form) (sc := defScope st_law_has_form) (by decide +kernel)) (fun _ _ _ _ _ => (pg_name (i := 3) sc_law_has_form.nd rfl (.inl rfl))) (fun _ _ _ _ _ => pts_to (pts_one (pt_cmpR (op_notIn_seq) (pv 3) (pv 1) rfl))) (fun _ _ _ _ _ => pe_to (pv 3))) (pe_lst pa_nil) (nomark _)) (pw_or1 (pt_cmpR (op_ge_str) (pe_ix ix_tup (pv 4) pe_int (fun _ _ => rfl)) (pe_ix ix_tup (pv 4) pe_int (fun _ _ => rfl)) (nomark _))))) (
          (pss_one (ps_ret pe_bl))) pss_nil)))))
      (pss_one (ps_ret pe_bl))))))), ?_⟩
  have no : ¬ IsForm d → ∀ H', Grow [] H H' → Q (.bl false) H' := fun n H' g' => by
    have := q H' g'
    rwa [formD_no n] at this
  by_cases ct : tyD d = "tuple"
  case neg => exact ⟨x, rfl, x, .ty "tuple", .type (tyD d), .type "tuple", false, rfl, .ty "tuple", hx.tx, kit_tup ct, false, rfl, iteT (iteT (no (fun z => by obtain ⟨_, _, rfl⟩ := isForm_shape z; exact ct rfl) H (Grow.refl _ _)))⟩
  have tx0 := hx.tx
  rw [ct] at tx0
  obtain ⟨W, xs, ds, rfl, rfl, eW, hds⟩ := db_tup hx ct
  refine ⟨.ref W, rfl, .ref W, .ty "tuple", .type "tuple", .type "tuple", true, rfl, .ty "tuple", tx0, rfl, true, rfl, iteF ?_⟩
  refine ⟨.ref W, rfl, W, xs, rfl, .inr eW, rfl, ?_⟩
  by_cases l2 : xs.length = 2
  case neg =>
    rw [show decide (V.int ((xs.length : Nat) : Int) = V.int 2) = false from decide_eq_false fun z => l2 (by have := V.int.inj z; omega)]
    refine ⟨_, rfl, iteT (no (fun z => ?_) H (Grow.refl _ _))⟩
    obtain ⟨_, _, e⟩ := isForm_shape z
    injection e with e
    rw [hds.len, e] at l2
    exact l2 rfl
  rw [show decide (V.int ((xs.length : Nat) : Int) = V.int 2) = true from decide_eq_true (by rw [l2]; rfl)]
  obtain ⟨u, v, d1, d2, rfl, rfl, h1, h2⟩ := dbs_two hds l2
  refine ⟨_, rfl, iteF ?_⟩
  have hb2 : PyData.bulkAll [d1, d2] ≤ 4000 := by rw [PyData.bulk] at hb; exact hb
  have b1 : d1.bulk ≤ 4000 := Nat.le_trans (mem_bulk (by simp)) hb2
  have b2 : d2.bulk ≤ 4000 := Nat.le_trans (mem_bulk (by simp)) hb2
  refine ⟨.ref W, rfl, W, _, rfl, eW, rfl, _, _, rfl, _, _, rfl, rfl, ?_⟩
  by_cases c1 : tyD d1 = "list"
  case neg => exact ⟨u, rfl, u, .ty "list", .type (tyD d1), .type "list", false, rfl, .ty "list", h1.tx, kit_list c1, false, rfl, iteT (iteT (no (fun z => by
    obtain ⟨_, _, e⟩ := isForm_shape z
    injection e with e
    injection e with e _
    rw [e] at c1
    exact c1 rfl) H (Grow.refl _ _)))⟩
  obtain ⟨hs, us, ds1, rfl, rfl, eh, hds1⟩ := db_lst h1 c1
  refine ⟨.ref hs, rfl, .ref hs, .ty "list", .type "list", .type "list", true, rfl, .ty "list", .base (.lst eh), rfl, true, rfl, iteF ?_⟩
  by_cases c2 : tyD d2 = "list"
  case neg => exact ⟨v, rfl, v, .ty "list", .type (tyD d2), .type "list", false, rfl, .ty "list", h2.tx, kit_list c2, false, rfl, iteT (iteT (no (fun z => by
    obtain ⟨_, _, e⟩ := isForm_shape z
    injection e with e
    injection e with _ e
    injection e with e _
    rw [e] at c2
    exact c2 rfl) H (Grow.refl _ _)))⟩
  obtain ⟨rs, ws, ds2, rfl, rfl, er, hds2⟩ := db_lst h2 c2
  refine ⟨.ref rs, rfl, .ref rs, .ty "list", .type "list", .type "list", true, rfl, .ty "list", .base (.lst er), rfl, true, rfl, iteF ?_⟩
  have ul : us.length ≤ 4000 := by rw [hds1.len]; rw [PyData.bulk] at b1; exact Nat.le_trans (len_bulk _) b1
  have wl : ws.length ≤ 4000 := by rw [hds2.len]; rw [PyData.bulk] at b2; exact Nat.le_trans (len_bulk _) b2
  refine ⟨.ref hs, rfl, by show 0 ≤ sizeLine; decide, fun Z nZ => ?_⟩
  have g1 : Grow [] H (upd H Z (.lst [])) := grow_new nZ
  refine ⟨hs, Z, us, rfl, rfl, g1.lst (by simp) eh, upd_same, _, rfl, ?_⟩
  generalize upd H Z (.lst []) = H1 at g1 ⊢
  have badK : ∀ zs : List Str, ds1 = zs.map PyData.str → us = zs.map V.str := fun zs e => by
    subst e
    exact hds1.strs_inv
  by_cases ne : us = []
  · rw [decide_eq_true ne]
    exact iteT (no (fun z => by
      obtain ⟨zs, e, _, _, n, _⟩ := isForm_inv z
      rw [badK zs e] at ne
      exact n (List.map_eq_nil_iff.mp ne)) H1 g1)
  rw [decide_eq_false ne]
  refine iteF ?_
  have eh1 := g1.lst (by simp) eh
  refine ⟨.ref hs, rfl, hs, rfl, ⟨_, .inl (.inl eh1)⟩, fun D1 nD => ?_⟩
  refine lc_filt (walk_list (xs := us)) us (badH us) (fun x => x) nD rfl (by omega) (fun H' g => .inl (.inl (g.lst (by simp) eh1))) (fun i z x Ha Hb Pu Pn ez ga hy ku kn => ?_) (fun H2 g2 e2 => ?_)
  · obtain ⟨rfl, ey⟩ := hy
    rw [ez] at ey
    cases ey
    obtain ⟨d, hd, hdb⟩ := hds1.get ez
    have gx : Grow ex H Hb := (g1.trans ga).any
    have bd : d.bulk ≤ 4000 := by rw [PyData.bulk] at b1; exact Nat.le_trans (mem_bulk (List.mem_of_getElem? hd)) b1
    have hdb2 := hdb.grow gx
    refine ⟨rfl, z, rfl, ex, z, d, rfl, hdb2, bd, fun Hc gc => ?_⟩
    rw [nm_eq hdb2]
    cases nz : nameV z with
    | false =>
      refine ⟨false, rfl, iteT (iteT ⟨z, rfl, ku _ gc ?_⟩)⟩
      cases z with
      | str y =>
        show (!isNm y || decide (1 < us.countP (isZ y))) = true
        rw [show isNm y = false from nz]
        rfl
      | _ => rfl
    | true =>
      obtain ⟨y, rfl⟩ := nameV_str z nz
      have g3 := ga.trans gc
      refine ⟨true, rfl, iteF ?_⟩
      refine ⟨.ref hs, rfl, tyl (g3.lst (by simp) eh1), .str y, rfl, ex, hs, us, ds1, y, rfl, rfl, g3.lst (by simp) eh1, hds1.grow (g1.trans g3).any, _, _, rfl, rfl, _, rfl, ?_⟩
      have eb : badH us (.str y) = decide (1 < us.countP (isZ y)) := by
        show (!isNm y || decide (1 < us.countP (isZ y))) = _
        rw [show isNm y = true from nz]
        rfl
      by_cases cc : (1 : Int) < (us.countP (isZ y) : Nat)
      · rw [decide_eq_true cc]
        exact iteT ⟨.str y, rfl, ku _ gc (by rw [eb]; exact decide_eq_true (by omega))⟩
      · rw [decide_eq_false cc]
        exact iteF (kn _ gc (by rw [eb]; exact decide_eq_false (by omega)))
  refine ⟨by show 0 ≤ sizeLine; decide, fun E0 nE => ?_⟩
  have gE : Grow [] H2 (upd H2 E0 (.lst [])) := grow_new nE
  rw [List.map_id'] at e2
  refine ⟨D1, E0, _, rfl, rfl, gE.lst (by simp) e2, upd_same, _, rfl, ?_⟩
  have g3 := (g1.trans g2).trans gE
  generalize upd H2 E0 (.lst []) = H3 at g3 ⊢
  clear gE e2 g2 nE nD
  rw [badH_none]
  cases bk : bookV us with
  | false =>
    refine iteT (no (fun z => ?_) H3 g3)
    obtain ⟨zs, e, n1, n2, _⟩ := isForm_inv z
    rw [badK zs e, bookV_strs, n1, decide_eq_true n2] at bk
    cases bk
  | true =>
  refine iteF ?_
  obtain ⟨hands, rfl⟩ : ∃ hands : List Str, us = hands.map V.str := by
    have b0 : us.all nameV = true := by
      unfold bookV at bk
      rw [Bool.and_eq_true] at bk
      exact bk.1
    exact ⟨_, strs_of nameV_str b0⟩
  rw [bookV_strs, Bool.and_eq_true, decide_eq_true_iff] at bk
  obtain ⟨nm, nd⟩ := bk
  obtain rfl := hds1.of_strs
  rw [List.length_map] at ul
  have ne2 : hands ≠ [] := fun z => ne (by rw [z]; rfl)
  have er3 := g3.lst (by simp) er
  have eh3 := g3.lst (by simp) eh
  have flat := hf _ _ rfl
  have dps : ∀ {H' : Hp}, Grow [] H H' → DpAll K H' ws ds2 := fun g => (hds2.grow g.any).dp (by
    have : ∀ l : List PyData, (∀ r ∈ l, r.hasDict = false) → PyData.hasDictAll l = false := fun l => by
      induction l with
      | nil => exact fun _ => rfl
      | cons a l ih =>
        intro h
        rw [PyData.hasDictAll, h a List.mem_cons_self, ih fun r hr => h r (List.mem_cons_of_mem _ hr)]
        rfl
    exact this _ fun r hr => (flat r hr).1)
  refine ⟨.ref rs, rfl, rs, rfl, ⟨_, .inl (.inl er3)⟩, ?_⟩
  refine for_it (walk_list (xs := ws)) (fun i σ H' => ∃ b c : Option V, σ = [some (.ref W), some (.ref hs), some (.ref rs), b, c] ∧ Grow [] H3 H' ∧ (ds2.take i).all (roadD hands) = true ∧ ∀ r ∈ ds2.take i, ds2.countP (fun e => PyData.eqv e r) ≤ 1)
    ⟨_, _, rfl, Grow.refl _ _, rfl, fun r hr => by rw [List.take_zero] at hr; cases hr⟩ (fun i σ H' _ h => by
      obtain ⟨_, _, _, g, _⟩ := h
      exact .inl (.inl (g.lst (by simp) er3))) (fun i x σ H4 H5 hi hp hy => ?_) (fun σ H4 hp => ?_)
  · obtain ⟨b0, c0, rfl, g4, ok, cnt⟩ := hp
    obtain ⟨rfl, ex2⟩ := hy
    obtain ⟨d, hd, hdb⟩ := hds2.get ex2
    have dm := List.mem_of_getElem? hd
    have g04 := g3.trans g4
    have hdb4 : Db K ex H5 x d := hdb.grow g04.any
    have notForm : roadD hands d = false ∨ 1 < ds2.countP (fun e => PyData.eqv e d) → ¬ IsForm (.tuple [.list (hands.map PyData.str), .list ds2]) := fun h z => by
      obtain ⟨zs, e, _, _, _, a, cn⟩ := isForm_inv z
      rcases h with h | h
      · rw [← map_str_inj e] at a
        have := List.all_eq_true.mp a d dm
        rw [h] at this
        cases this
      · have := cn d dm
        omega
    by_cases t1 : tyD d = "tuple"
    case neg => exact ⟨x, rfl, x, .ty "tuple", .type (tyD d), .type "tuple", false, rfl, .ty "tuple", hdb4.tx, kit_tup t1, false, rfl, iteT (iteT (no (notForm (.inl (roadD_no fun ⟨y, z, e⟩ => t1 (by rw [e]; rfl)))) _ g04))⟩
    have tx1 := hdb4.tx
    rw [t1] at tx1
    obtain ⟨R, ys, es, rfl, rfl, eR, hes⟩ := db_tup hdb4 t1
    refine ⟨.ref R, rfl, .ref R, .ty "tuple", .type "tuple", .type "tuple", true, rfl, .ty "tuple", tx1, rfl, true, rfl, iteF ?_⟩
    refine ⟨.ref R, rfl, R, ys, rfl, .inr eR, rfl, ?_⟩
    by_cases l3 : ys.length = 2
    case neg =>
      rw [show decide (V.int ((ys.length : Nat) : Int) = V.int 2) = false from decide_eq_false fun z => l3 (by have := V.int.inj z; omega)]
      exact ⟨_, rfl, iteT (iteT (no (notForm (.inl (roadD_no fun ⟨y, z, e⟩ => l3 (by injection e with e; rw [hes.len, e]; rfl)))) _ g04))⟩
    rw [show decide (V.int ((ys.length : Nat) : Int) = V.int 2) = true from decide_eq_true (by rw [l3]; rfl)]
    obtain ⟨u2, v2, e1, e2, rfl, rfl, k1, k2⟩ := dbs_two hes l3
    refine ⟨_, rfl, iteF ?_⟩
    refine ⟨.ref rs, rfl, tyl (g4.lst (by simp) er3), .ref R, rfl, rs, ws, ds2, .ref R, _, rfl, rfl, g4.lst (by simp) er3, dps g04, hdb4.dp (flat _ dm).1, (flat _ dm).2.1, _, _, rfl, rfl, _, rfl, ?_⟩
    by_cases c3 : (1 : Int) < (ds2.countP (fun e => PyData.eqv e (.tuple [e1, e2])) : Nat)
    · rw [decide_eq_true c3]
      exact iteT (no (notForm (.inr (by omega))) _ g04)
    rw [decide_eq_false c3]
    refine iteF ?_
    obtain ⟨y, z, rfl, rfl⟩ := (flat _ dm).2.2 _ _ rfl
    obtain rfl := k1.str_inv
    obtain rfl := k2.str_inv
    have eh5 := g4.lst (by simp) eh3
    refine ⟨.ref R, rfl, R, rfl, ⟨_, eR⟩, fun D2 n2 => ?_⟩
    refine lc_filt (walk_tup (xs := [V.str y, .str z])) [y, z] (fun a => !decide (a ∈ hands)) V.str n2 rfl (by show 2 ≤ 1000000; decide) (fun H' g => g.sqt eR) (fun j a x Ha Hb Pu Pn ez ga hy ku kn => ?_) (fun H6 g6 e6 => ?_)
    · obtain ⟨rfl, ey⟩ := hy
      rw [show [V.str y, V.str z] = [y, z].map V.str from rfl, List.getElem?_map, ez] at ey
      cases ey
      refine ⟨rfl, .str a, rfl, .ref hs, rfl, hs, hands.map V.str, rfl, .inl (.inl (.inl (ga.lst (by simp) eh5))), rfl, flat_strs hands, _, rfl, ?_⟩
      rw [in_strs]
      cases ci : decide (a ∈ hands) with
      | true => exact kn _ (Grow.refl _ _) (by show (!decide (a ∈ hands)) = false; rw [ci]; rfl)
      | false => exact ⟨.str a, rfl, ku _ (Grow.refl _ _) (by show (!decide (a ∈ hands)) = true; rw [ci]; rfl)⟩
    refine ⟨by show 0 ≤ sizeLine; decide, fun E1 nE1 => ?_⟩
    have gE1 : Grow [] H6 (upd H6 E1 (.lst [])) := grow_new nE1
    refine ⟨D2, E1, _, rfl, rfl, gE1.lst (by simp) e6, upd_same, _, rfl, ?_⟩
    have g57 := g6.trans gE1
    have g07 := g04.trans g57
    generalize upd H6 E1 (.lst []) = H7 at g57 g07 ⊢
    clear gE1 e6 g6 nE1 n2
    have rdv : roadD hands (.tuple [.str y, .str z]) = (decide (y ∈ hands) && (decide (z ∈ hands) && decide (y.cps.toList < z.cps.toList))) := rfl
    by_cases m1 : y ∈ hands
    case neg =>
      rw [decide_eq_false (show ¬ (([y, z].filter fun a => !decide (a ∈ hands)).map V.str = []) from fun q => by
        rw [List.map_eq_nil_iff, List.filter_eq_nil_iff] at q
        exact q y (by simp) (by rw [decide_eq_false m1]; rfl))]
      exact iteT (iteT (no (notForm (.inl (by rw [rdv, decide_eq_false m1]; rfl))) _ g07))
    by_cases m2 : z ∈ hands
    case neg =>
      rw [decide_eq_false (show ¬ (([y, z].filter fun a => !decide (a ∈ hands)).map V.str = []) from fun q => by
        rw [List.map_eq_nil_iff, List.filter_eq_nil_iff] at q
        exact q z (by simp) (by rw [decide_eq_false m2]; rfl))]
      exact iteT (iteT (no (notForm (.inl (by rw [rdv, decide_eq_false m2, Bool.false_and, Bool.and_false]))) _ g07))
    rw [decide_eq_true (show (([y, z].filter fun a => !decide (a ∈ hands)).map V.str = []) from by
      rw [List.map_eq_nil_iff, List.filter_eq_nil_iff]
      intro a ha
      rcases List.mem_cons.mp ha with rfl | ha
      · rw [decide_eq_true m1]; exact Bool.false_ne_true
      · rw [List.mem_singleton.mp ha, decide_eq_true m2]; exact Bool.false_ne_true)]
    refine iteF ?_
    have eR7 := g57.sqt eR
    refine ⟨.ref R, rfl, R, _, 0, .str y, rfl, rfl, eR7, rfl, .ref R, rfl, R, _, 1, .str z, rfl, rfl, eR7, rfl, _, _, rfl, rfl, _, rfl, ?_⟩
    by_cases lt : y.cps.toList < z.cps.toList
    · rw [decide_eq_true lt]
      refine iteF ⟨_, _, rfl, g4.trans g57, ?_, ?_⟩
      · rw [List.take_add_one, hd, List.all_append, ok]
        show (true && (roadD hands (.tuple [.str y, .str z]) && true)) = true
        rw [rdv, decide_eq_true m1, decide_eq_true m2, decide_eq_true lt]
        rfl
      · intro r hr
        rw [List.take_add_one, hd] at hr
        rcases List.mem_append.mp hr with hr | hr
        · exact cnt r hr
        · rw [List.mem_singleton.mp hr]
          omega
    · rw [decide_eq_false lt]
      exact iteT (no (notForm (.inl (by rw [rdv, decide_eq_false lt, Bool.and_false, Bool.and_false]))) _ g07)
  · obtain ⟨b0, c0, rfl, g4, ok, cnt⟩ := hp
    rw [hds2.len, List.take_length] at ok cnt
    have := q H4 (g3.trans g4)
    rw [formD_yes (isForm_of nm nd ne2 ok cnt)] at this
    exact this
end

end Lw

/-! ### xs.extend(t), t a tuple -/
namespace Gx
open PySem PySem.Spec PyProof.Rows L2 GxR GenW

theorem list_extend_tup (l : Addr) (items : Array Value) (n : Nat) (b : Addr) (items2 : Array Value) (n2 : Nat) (dd : Option Addr) (sl : Array (Option Value)) (hs0 : ¬(!items.isEmpty && Builtin.List.listTooLong (items.size + items2.size)) = true) (hs1 : items.size ≤ sizeLine) (hs2 : items.size + items2.size ≤ sizeLine + 1) :
    Meets (Builtin.«list.extend» ⟨[.ref l, .ref b], []⟩) (fun _ R s => s.heap.get? l = some { cls := .type "list", dict := none, data := .seq items n, slots := #[] } ∧ s.heap.get? b = some { cls := .type "tuple", dict := dd, data := .seq items2 n2, slots := sl } ∧ R (.ok (.ret Value.none)) { s with heap := s.heap.update l (Obj.mapSeq fun x => x ++ items2), toks := s.toks }) :=
  .of_wp fun prog w A R s h => by
    obtain ⟨hp, g, d, tk, os⟩ := s; obtain ⟨hl, hb, h⟩ := h; have f1 := AutoSeq1.idx_int; have f2 := F.sub_tuple_tuple; have f3 := F.sub_list_list; have f4 := F.sub_tuple_list; have f5 := F.sub_list_tuple;
    have hz' : (items ++ items2).size ≤ sizeLine + 1 := by rw [Array.size_append]; exact hs2
    wp_walk using (wpAny_updateSeq hl rfl (hz := hs1) (_hz' := hz')), wpAny_loadPart' hl, wpAny_loadPart' hb; exact ⟨_, rfl, h⟩
section
variable {X : Cx}
def rExtendT (K : PySem.W.Frag) : V → List V → Hp → VK → Prop := fun x vs H Q => ∃ l b xs zs, x = .ref l ∧ vs = [.ref b] ∧ H l = some (.lst xs) ∧ SqT K H b zs ∧ xs.length + zs.length ≤ sizeLine ∧ Q .non (upd H l (.lst (xs ++ zs)))
theorem mt_extendT : MtM X "list.extend" (rExtendT X.K) := by
  intro pins s σ H x vs v us Q I rx rv h
  obtain ⟨l, b, xs, zs, rfl, rfl, hH, hB, hz, q⟩ := h
  cases rx
  obtain ⟨u, rfl, ru⟩ := rv.one
  cases ru
  obtain ⟨z, its, n, r, hl, e⟩ := I.lstM hH
  obtain ⟨its2, r2, ⟨⟨cls, dd, data, sl⟩, ho, hc, n2, hd⟩, hl2⟩ := I.tuple hB
  simp only at hc hd
  subst hc hd
  have h1 := r.length
  have h2 := r2.length
  have hsz : its.toArray.size + its2.toArray.size ≤ sizeLine := by rw [List.size_toArray, List.size_toArray]; omega
  have hlong : ¬ (!its.toArray.isEmpty && Builtin.List.listTooLong (its.toArray.size + its2.toArray.size)) = true := by
    rw [notLongL hsz, Bool.and_false]
    exact Bool.false_ne_true
  refine call_meets F.slot_list_extend ⟨_, e, rfl⟩ F.entry_list_extend (F.args_list_extend_2 _ _)
    (list_extend_tup l its.toArray n b its2.toArray n2 dd sl hlong (by rw [List.size_toArray]; omega) (by omega)) ⟨e, ho, ?_⟩
  refine ⟨.non, _, I.lset (its' := its ++ its2) hH e (by simp) (r.append r2) ?_, rfl, q⟩
  rw [List.length_append]
  omega
end
end Gx

namespace Lw
open PySem PySem.Spec PyProof.Rows L2 GxR Gx
/-! ### _law_is_web -/
theorem isWeb_form {d : PyData} (h : IsWeb d) : IsForm d := by
  obtain ⟨hs, rs, rfl, F, l, C⟩ := h
  exact ⟨hs, rs, rfl, F, conn_nodup F.form C l⟩
theorem webD_strip {hs : List Str} {rs : List (Str × Str)} (F : FormOk hs rs) : webD (webDt hs rs) = (decide ((strip hs.length (hs, rs)).1.length = 1) && decide ((strip hs.length (hs, rs)).2 = [])) := by
  by_cases c : rs.length + 1 = hs.length ∧ Conn hs rs
  · obtain ⟨a, b⟩ := strip_tree hs.length (Nat.le_succ _) F.form c.2 c.1
    rw [decide_eq_true a, decide_eq_true b]
    exact webD_yes (webD_form.mpr ⟨F, c⟩)
  · rw [webD_no fun z => c (webD_form.mp z).2]
    symm
    rw [Bool.and_eq_false_iff]
    refine Classical.byContradiction fun n => c ?_
    rw [not_or] at n
    obtain ⟨n1, n2⟩ := n
    refine tree_strip hs.length F.form ?_ ?_
    · refine Classical.byContradiction fun z => n1 (decide_eq_false z)
    · refine Classical.byContradiction fun z => n2 (decide_eq_false z)
theorem Pgs.filt {K : PySem.W.Frag} {H : Hp} (p : Str × Str → Bool) : ∀ {xs : List V} {rs : List (Str × Str)}, Pgs K H xs rs → Pgs K H (((xs.zip rs).filter fun q => p q.2).map Prod.fst) (rs.filter p)
  | _, _, .nil => .nil
  | _, _, .cons (a := a) (r := r) (xs := xs) (rs := rs) h t => by
    rw [List.zip_cons_cons]
    cases c : p r with
    | true =>
      rw [List.filter_cons_of_pos (by exact c), List.filter_cons_of_pos c]
      exact .cons h (t.filt p)
    | false =>
      rw [List.filter_cons_of_neg (by show ¬ p r = true; rw [c]; exact Bool.false_ne_true), List.filter_cons_of_neg (by rw [c]; exact Bool.false_ne_true)]
      exact t.filt p
theorem endsOf_take {rs : List (Str × Str)} {i : Nat} {r : Str × Str} (h : rs[i]? = some r) : endsOf (rs.take (i + 1)) = endsOf (rs.take i) ++ [r.1, r.2] := by
  unfold endsOf
  rw [List.take_add_one, h, List.flatMap_append]
  rfl
theorem strip_next (n : Nat) (s : List Str × List (Str × Str)) : strip (n + 1) s = stripOne (strip n s) := by
  induction n generalizing s with
  | zero => rfl
  | succ n ih => exact ih (stripOne s)
theorem strip_form {hs : List Str} {rs : List (Str × Str)} (F : Form hs rs) : ∀ n, Form (strip n (hs, rs)).1 (strip n (hs, rs)).2
  | 0 => F
  | n + 1 => by
    rw [strip_next]
    have ih := strip_form F n
    unfold stripOne
    split
    · split
      · exact ih
      · exact ih.less _
    · exact ih
theorem strip_le {hs : List Str} {rs : List (Str × Str)} : ∀ n, (strip n (hs, rs)).1.length ≤ hs.length ∧ (strip n (hs, rs)).2.length ≤ rs.length
  | 0 => ⟨Nat.le_refl _, Nat.le_refl _⟩
  | n + 1 => by
    rw [strip_next]
    obtain ⟨h1, h2⟩ := strip_le (hs := hs) (rs := rs) n
    unfold stripOne
    split
    · split
      · exact ⟨h1, h2⟩
      · exact ⟨Nat.le_trans List.length_erase_le h1, Nat.le_trans (List.length_filter_le _ _) h2⟩
    · exact ⟨h1, h2⟩
theorem in_two (x a b : Str) : inV (.str x) [V.str a, .str b] = meets x (a, b) := by
  have := in_strs x [a, b]
  show inV (.str x) ([a, b].map V.str) = _
  rw [this]
  unfold meets
  rw [Bool.eq_iff_iff, decide_eq_true_iff, Bool.or_eq_true, decide_eq_true_iff, decide_eq_true_iff, List.mem_cons, List.mem_singleton]
section
variable {P : Program} {w : World} {K : PySem.W.Frag} {mg : Str → Option Value} {base : Heap}
def spLawIsWeb (K : PySem.W.Frag) : Sp := fun vs H Q _ => ∃ (ex : List Addr) (x : V) (d : PyData), vs = [x] ∧ Db K ex H x d ∧ d.bulk ≤ 4000 ∧ RoadsFlat d ∧ ∀ H', Grow [] H H' → Q (.bl (webD d)) H'
theorem ok_law_is_web {f c : Addr} {fd : FuncData} (B : Nb mg) (D : DefIs K "_law_is_web" "_law_is_web" st_law_is_web f fd (.ref c)) (c_law_has_form : Callee P w K mg base CX0 5 "_law_has_form" ["thing"] (spHasForm K)) : FnG P w K mg base CX0 6 f fd ["thing"] (spLawIsWeb K) := by
  refine D.ok0 (k := 5) sc_law_is_web (fun vs H Q E h => ?_) (fun A outer s H vs Q E g hr h => ?_)
  · obtain ⟨ex, x, d, rfl, _⟩ := h
    rfl
  obtain ⟨ex, x, d, rfl, hx, hb, hf, q⟩ := h
  refine ⟨_,
      (pss_cons (ps_if (pt_not (pt_val (pe_g c_law_has_form g (hr.mono (by decide)) pass0 (pa_cons (pv 0) pa_nil)))) (
        (pss_one (ps_ret pe_bl))) pss_nil)
      (pss_cons (ps_par (i := 1) (j := 2) rfl sc_law_is_web.nd rfl rfl (by decide) rfl rfl (pa_cons (pe_callTy call_list_of rfl B.n_list (by decide +kernel) (pa_cons (pe_ix ix_tup (pv 0) pe_int (fun _ _ => rfl)) pa_nil)) (pa_cons (pe_callTy call_list_of rfl B.n_list (by decide +kernel) (pa_cons (pe_ix ix_tup (pv 0) pe_int (fun _ _ => rfl)) pa_nil)) pa_nil)) rfl)
      (pss_cons (ps_for PassesOwn.never rfl (pi_range1 rfl B.n_range (pa_cons (pe_callB call_len_seq rfl B.n_len PySem.boot_len (pa_cons (pv 1) pa_nil)) pa_nil)) (pg_name (i := 3) sc_law_is_web.nd rfl (.inl rfl)) (
        (pss_cons (ps_set (i := 4) sc_law_is_web.nd rfl (.inr rfl) (pe_lst pa_nil))
        (pss_cons (ps_for PassesOwn.never rfl (pi_list (pv 2)) (pg_name (i := 5) sc_law_is_web.nd rfl (.inl rfl)) (
          (pss_one (ps_expr (pe_bm PySem.F.plainAttrs_list PySem.F.slot_list_extend PySem.F.type_list_extend mt_extendT (pv 4) (pa_cons (pv 5) pa_nil))))))
        (pss_cons (ps_set (i := 6) sc_law_is_web.nd rfl (.inr rfl) (pe_lc (own := [("hand", 7)]) (g := (gName 7)) rfl sc_law_is_web.nd (pi_list (pv 1)) (blkOk_by (N := N_law_is_web) (sc := defScope st_law_is_web) (by decide +kernel)) (fun _ _ _ _ _ => (pg_name (i := 7) sc_law_is_web.nd rfl (.inl rfl))) (fun _ _ _ _ _ => pts_to (pts_one (pt_cmpR (op_eq) (pe_bm PySem.F.plainAttrs_list PySem.F.slot_list_count PySem.F.type_list_count (mt_countS hr.units) (pv 4) (pa_cons (pv 7) pa_nil)) pe_int (nomark _)))) (fun _ _ _ _ _ => pe_to (pv 7))))
        (pss_one (ps_if (PW.pt (pw_and (pt_cmpR (op_gt) (pe_callB call_len_seq rfl B.n_len PySem.boot_len (pa_cons (pv 1) pa_nil)) pe_int (nomark _)) (pw_and1 (pt_cmpR (op_neE hr.units) (pv 6) (pe_lst pa_nil) (nomark _))))) (
          (pss_cons (ps_expr (pe_bm PySem.F.plainAttrs_list PySem.F.slot_list_remove PySem.F.type_list_remove mt_removeS (pv 1) (pa_cons (pe_ix ix_list (pv 6) pe_int (fun _ _ => rfl)) pa_nil)))
          (pss_one (ps_setLc (i := 2) (own := [("road", 5)]) (g := (gName 5)) rfl sc_law_is_web.nd rfl rfl (sw_true rfl rfl rfl (by decide +kernel)) (pi_list (pv 2)) (blkOk_by (N := N_law_is_web) (sc := defScope st_law_is_web) (by decide +kernel)) (fun _ _ _ _ _ => (pg_name (i := 5) sc_law_is_web.nd rfl (.inl rfl))) (fun _ _ _ _ _ => pts_to (pts_one (pt_cmpR (op_notIn_seq) (pe_ix ix_list (pv 6) pe_int (fun _ _ => rfl)) (pv 5) rfl))) (fun _ _ _ _ _ => pe_to (pv 5)))))) pss_nil)))))))
      (pss_one (ps_ret (pe_and (pe_cmpR (op_eq) (pe_callB call_len_seq rfl B.n_len PySem.boot_len (pa_cons (pv 1) pa_nil)) pe_int (nomark _)) (pe_one (pe_cmpR (op_eqE hr.units) (pv 2) (pe_lst pa_nil) (nomark _))))))))), ?_⟩
  refine ⟨x, rfl, ex, x, d, rfl, hx, hb, hf, fun H1 g1 => ?_⟩
  by_cases ff : IsForm d
  case neg =>
    rw [formD_no ff]
    refine ⟨false, rfl, iteT ?_⟩
    have := q H1 g1
    rwa [webD_no fun z => ff (isWeb_form z)] at this
  rw [formD_yes ff]
  refine ⟨true, rfl, iteF ?_⟩
  obtain ⟨hands, roads, rfl, F, rnd⟩ := ff
  obtain ⟨W, xs0, ds0, rfl, e0, eW, hds⟩ := db_tup hx rfl
  injection e0 with e0
  subst e0
  obtain ⟨u, v, d1, d2, rfl, e0, h1, h2⟩ := dbs_two hds (by rw [hds.len]; rfl)
  injection e0 with e1 e0
  injection e0 with e2 _
  subst e1 e2
  obtain ⟨hs, us, ds1, rfl, e1, eh, hds1⟩ := db_lst h1 rfl
  injection e1 with e1
  subst e1
  obtain rfl := hds1.strs_inv
  obtain ⟨rs, ws, ds2, rfl, e1, er, hds2⟩ := db_lst h2 rfl
  injection e1 with e1
  subst e1
  have pg : Pgs K H ws roads := by
    have := pgs_of (hs := hands) hds2 (by rw [List.all_map, List.all_eq_true]; exact fun r hr => roadD_encP.mpr (F.ends r hr))
    rw [List.map_map] at this
    have e : roads.map (rOf ∘ encP) = roads := (List.map_congr_left fun r _ => rfl).trans (List.map_id _)
    rwa [e] at this
  have hl : hands.length ≤ 4000 := by
    have b1 : (PyData.list (hands.map PyData.str)).bulk ≤ 4000 := by
      unfold webDt at hb
      rw [PyData.bulk] at hb
      exact Nat.le_trans (mem_bulk (by simp)) hb
    rw [PyData.bulk] at b1
    have := len_bulk (hands.map PyData.str)
    rw [List.length_map] at this
    omega
  have rl : roads.length ≤ 4000 := by
    have b1 : (PyData.list (roads.map encP)).bulk ≤ 4000 := by
      unfold webDt at hb
      rw [PyData.bulk] at hb
      exact Nat.le_trans (mem_bulk (by simp)) hb
    rw [PyData.bulk] at b1
    have := len_bulk (roads.map encP)
    rw [List.length_map] at this
    omega
  have eW1 := g1.sqt eW
  have eh1 := g1.lst (by simp) eh
  refine ⟨.ref W, rfl, W, _, 0, .ref hs, rfl, rfl, eW1, rfl, ?_⟩
  refine ⟨hs, hands.map V.str, rfl, .inl (.inl (.inl eh1)), fun A1 n1 => ?_⟩
  have gA1 : Grow [] H1 (upd H1 A1 (.lst (hands.map V.str))) := grow_new n1
  have er1 := g1.lst (by simp) er
  refine ⟨.ref W, rfl, W, _, 1, .ref rs, rfl, rfl, gA1.sqt eW1, rfl, ?_⟩
  refine ⟨rs, ws, rfl, .inl (.inl (.inl (gA1.lst (by simp) er1))), fun A2 n2 => ⟨_, _, rfl, ?_⟩⟩
  have gA2 : Grow [] H1 (upd (upd H1 A1 (.lst (hands.map V.str))) A2 (.lst ws)) := gA1.new n2
  have A12 : A2 ≠ A1 := fun z => by rw [z, upd_same] at n2; cases n2
  have eA1 : upd (upd H1 A1 (.lst (hands.map V.str))) A2 (.lst ws) A1 = some (.lst (hands.map V.str)) := by rw [upd_ne A12.symm]; exact upd_same
  have eA2 : upd (upd H1 A1 (.lst (hands.map V.str))) A2 (.lst ws) A2 = some (.lst ws) := upd_same
  have fA1 : Fresh H A1 := g1.fresh0 n1
  have g2 := g1.trans gA2
  generalize upd (upd H1 A1 (.lst (hands.map V.str))) A2 (.lst ws) = H2 at g2 eA1 eA2 ⊢
  clear gA2 gA1 n1 n2 er1 eh1 eW1
  refine ⟨.ref A1, rfl, A1, _, rfl, .inl (.inl (.inl eA1)), ?_⟩
  rw [List.length_map]
  refine ⟨(hands.length : Nat), rfl, by omega, by omega, ?_⟩
  refine for_it walk_range (fun i σ H' => ∃ (R : Addr) (xs : List V) (a b c d e : Option V), σ = [some (.ref W), some (.ref A1), some (.ref R), a, b, c, d, e] ∧ Grow [] H H' ∧ H' A1 = some (.lst ((strip i (hands, roads)).1.map V.str)) ∧ H' R = some (.lst xs) ∧ R ≠ A1 ∧ Pgs K H xs (strip i (hands, roads)).2)
    ⟨A2, ws, none, none, none, none, none, rfl, g2, eA1, eA2, A12, pg⟩ (fun _ _ _ _ _ => trivial) (fun i x σ H3 H4 hi hp hy => ?_) (fun σ H3 hp => ?_)
  · obtain ⟨R, xs, a, b, c, d, e, rfl, gr, eA, eR, RA, pgi⟩ := hp
    obtain ⟨rfl, rfl⟩ := hy
    obtain ⟨hl2, rl2⟩ := strip_le (hs := hands) (rs := roads) i
    rw [strip_next]
    have Fi := strip_form F.form i
    obtain ⟨sp, hsp⟩ : ∃ s, strip i (hands, roads) = s := ⟨_, rfl⟩
    rw [hsp] at eA pgi hl2 rl2 Fi ⊢
    obtain ⟨hi2, ri2⟩ := sp
    clear hsp
    replace eA : H4 A1 = some (.lst (hi2.map V.str)) := eA
    replace pgi : Pgs K H xs ri2 := pgi
    replace hl2 : hi2.length ≤ hands.length := hl2
    replace rl2 : ri2.length ≤ roads.length := rl2
    replace Fi : Form hi2 ri2 := Fi
    have lx := pgi.length
    refine ⟨by show 0 ≤ sizeLine; decide, fun E0 nE => ?_⟩
    have gE : Grow [] H4 (upd H4 E0 (.lst [])) := grow_new nE
    have fE : Fresh H4 E0 := fresh_none nE
    refine ⟨.ref R, rfl, R, rfl, ⟨_, .inl (.inl (gE.lst (by simp) eR))⟩, ?_⟩
    refine for_it (walk_list (xs := xs)) (fun j σ H' => ∃ c : Option V, σ = [some (.ref W), some (.ref A1), some (.ref R), some (.int (0 + (i : Nat))), some (.ref E0), c, d, e] ∧ Grow [] H4 H' ∧ H' E0 = some (.lst ((endsOf (ri2.take j)).map V.str)))
      ⟨c, rfl, gE, upd_same⟩ (fun j σ H' _ h => by
        obtain ⟨_, _, g, _⟩ := h
        exact .inl (.inl (g.lst (by simp) eR))) (fun j x σ H5 H6 hj hp hy => ?_) (fun σ H5 hp => ?_)
    · obtain ⟨c0, rfl, g5, eE⟩ := hp
      obtain ⟨rfl, ex2⟩ := hy
      obtain ⟨a0, r, rfl, er0, p0⟩ := pgi.get ex2
      have p6 := p0.grow (gr.trans g5) (by simp)
      have bd : (endsOf (ri2.take j)).length ≤ 8000 := by
        rw [len_ends, List.length_take]
        omega
      refine ⟨.ref E0, rfl, tyl eE, .ref a0, rfl, E0, a0, _, _, rfl, rfl, eE, p6, by rw [List.length_map]; show _ + 2 ≤ sizeLine; rw [sizeLine_eq]; omega, _, rfl, g5.put fE eE (fun ps z => by cases z), ?_⟩
      rw [upd_same, endsOf_take er0, List.map_append]
      rfl
    obtain ⟨c0, rfl, g5, eE⟩ := hp
    rw [lx, List.take_length] at eE
    have eA5 := g5.lst (by simp) eA
    refine ⟨.ref A1, rfl, A1, rfl, ⟨_, .inl (.inl eA5)⟩, fun D1 nD => ?_⟩
    refine lc_filt (walk_list (xs := hi2.map V.str)) hi2 (fun z => decide ((endsOf ri2).count z = 1)) V.str nD (by rw [List.length_map]) (by omega) (fun H' g => .inl (.inl (g.lst (by simp) eA5))) (fun k z x Ha Hb Pu Pn ez ga hy ku kn => ?_) (fun H6 g6 e6 => ?_)
    · obtain ⟨rfl, ey⟩ := hy
      rw [List.getElem?_map, ez] at ey
      cases ey
      refine ⟨rfl, .ref E0, rfl, tyl (ga.lst (by simp) eE), .str z, rfl, [], E0, _, _, z, rfl, rfl, ga.lst (by simp) eE, Dbs.strs _, rfl, _, rfl, ?_⟩
      rw [count_strs]
      by_cases c1 : (endsOf ri2).count z = 1
      · rw [show decide (V.int (((endsOf ri2).count z : Nat) : Int) = V.int 1) = true from decide_eq_true (by rw [c1]; rfl)]
        exact ⟨.str z, rfl, ku _ (Grow.refl _ _) (decide_eq_true c1)⟩
      · rw [show decide (V.int (((endsOf ri2).count z : Nat) : Int) = V.int 1) = false from decide_eq_false fun q => c1 (by have := V.int.inj q; omega)]
        exact kn _ (Grow.refl _ _) (decide_eq_false c1)
    change H6 D1 = some (.lst ((lonely hi2 ri2).map V.str)) at e6
    have eA6 := g6.lst (by simp) eA5
    have gr6 := (gr.trans g5).trans g6
    have eR6 := (g5.trans g6).lst (by simp) eR
    refine ⟨.ref A1, rfl, A1, _, rfl, .inl (.inl (.inl eA6)), _, _, rfl, rfl, _, rfl, ?_⟩
    rw [List.length_map]
    by_cases c1 : 1 < hi2.length
    case neg =>
      rw [decide_eq_false (show ¬ (1 : Int) < ((hi2.length : Nat) : Int) by omega)]
      refine iteF (iteF ⟨R, xs, _, _, _, _, _, rfl, gr6, ?_, eR6, RA, ?_⟩)
      · unfold stripOne
        rw [if_neg c1]
        exact eA6
      · unfold stripOne
        rw [if_neg c1]
        exact pgi
    rw [decide_eq_true (show (1 : Int) < ((hi2.length : Nat) : Int) by omega)]
    refine iteT ⟨.ref D1, rfl, by show 0 ≤ sizeLine; decide, fun Z nZ => ?_⟩
    have gZ : Grow [] H6 (upd H6 Z (.lst [])) := grow_new nZ
    refine ⟨D1, Z, _, rfl, rfl, gZ.lst (by simp) e6, upd_same, _, rfl, ?_⟩
    have gr7 := gr6.trans gZ
    have eA7 := gZ.lst (by simp) eA6
    have eR7 := gZ.lst (by simp) eR6
    have eD7 := gZ.lst (by simp) e6
    generalize upd H6 Z (.lst []) = H7 at gr7 eA7 eR7 eD7 ⊢
    have DA : D1 ≠ A1 := (ne_of_none eA5 nD).symm
    clear gZ nZ gr6 eA6 eR6 e6 g6 nD
    cases el : lonely hi2 ri2 with
    | nil =>
      refine iteF ⟨R, xs, _, _, _, _, _, rfl, gr7, ?_, eR7, RA, ?_⟩
      · unfold stripOne
        rw [if_pos c1]
        simp only [el]
        exact eA7
      · unfold stripOne
        rw [if_pos c1]
        simp only [el]
        exact pgi
    | cons x rest =>
      rw [el] at eD7
      obtain ⟨xh, x1⟩ := lonely_head el
      have so : stripOne (hi2, ri2) = (hi2.erase x, ri2.filter fun r => !meets x r) := by
        unfold stripOne
        rw [if_pos c1]
        simp only [el]
      rw [so]
      refine iteT ?_
      have jx : hi2.idxOf x < hi2.length := List.idxOf_lt_length_of_mem xh
      refine ⟨.ref A1, rfl, tyl eA7, .ref D1, rfl, D1, _, 0, .str x, rfl, rfl, .inl (.inl eD7), atI_nat (j := 0) rfl, A1, hi2, x, hi2.idxOf x, rfl, rfl, eA7, by rw [List.getElem?_eq_getElem jx, List.getElem_idxOf jx], fun m hm hq => ?_, ?_⟩
      · have h2 : m < hi2.length := by omega
        rw [List.getElem?_eq_getElem h2] at hq
        have := List.not_of_lt_findIdx (p := fun y => y == x) (xs := hi2) (i := m) hm
        rw [beq_iff_eq.mpr (Option.some.inj hq)] at this
        cases this
      have ee : hi2.eraseIdx (hi2.idxOf x) = hi2.erase x := (List.erase_eq_eraseIdx_of_idxOf rfl).symm
      rw [ee]
      have gA : Grow [] H (upd H7 A1 (.lst ((hi2.erase x).map V.str))) := gr7.put fA1 eA7 (fun ps z => by cases z)
      have eR8 : upd H7 A1 (.lst ((hi2.erase x).map V.str)) R = some (.lst xs) := by rw [upd_ne RA]; exact eR7
      have eD8 : upd H7 A1 (.lst ((hi2.erase x).map V.str)) D1 = some (.lst ((x :: rest).map V.str)) := by rw [upd_ne DA]; exact eD7
      have eA8 : upd H7 A1 (.lst ((hi2.erase x).map V.str)) A1 = some (.lst ((hi2.erase x).map V.str)) := upd_same
      generalize upd H7 A1 (.lst ((hi2.erase x).map V.str)) = H8 at gA eR8 eD8 eA8 ⊢
      refine ⟨.ref R, rfl, R, rfl, ⟨_, .inl (.inl eR8)⟩, fun D2 n2 => ?_⟩
      have lz : (xs.zip ri2).length = xs.length := by rw [List.length_zip]; omega
      refine lc_filt (walk_list (xs := xs)) (xs.zip ri2) (fun q => !meets x q.2) Prod.fst n2 lz.symm (by omega) (fun H' g => .inl (.inl (g.lst (by simp) eR8))) (fun k z y Ha Hb Pu Pn ez ga hy ku kn => ?_) (fun H9 g9 e9 => ?_)
      · obtain ⟨rfl, ey⟩ := hy
        obtain ⟨z1, z2⟩ := z
        obtain ⟨q1, q2⟩ := (List.getElem?_zip_eq_some (z := (z1, z2))).mp ez
        rw [q1] at ey
        cases ey
        obtain ⟨a0, r, rfl, er0, p0⟩ := pgi.get q1
        replace q2 : ri2[k]? = some z2 := q2
        rw [q2] at er0
        cases er0
        have p6 := p0.grow (gA.trans ga) (by simp)
        refine ⟨rfl, .ref D1, rfl, D1, _, 0, .str x, rfl, rfl, .inl (.inl (ga.lst (by simp) eD8)), atI_nat (j := 0) rfl, .ref a0, rfl, a0, _, rfl, .inr p6, rfl, rfl, _, rfl, ?_⟩
        rw [in_two]
        cases cm : meets x z2 with
        | true => exact kn _ (Grow.refl _ _) (by show (!meets x z2) = false; rw [cm]; rfl)
        | false => exact ⟨_, rfl, ku _ (Grow.refl _ _) (by show (!meets x z2) = true; rw [cm]; rfl)⟩
      · refine ⟨D2, _, _, _, _, _, _, rfl, gA.trans g9, g9.lst (by simp) eA8, e9, (ne_of_none eA8 n2).symm, pgi.filt fun r => !meets x r⟩
  · obtain ⟨R, xs, a, b, c, d, e, rfl, gr, eA, eR, RA, pgi⟩ := hp
    have q3 := q H3 gr
    rw [webD_strip F] at q3
    refine ⟨.ref A1, rfl, A1, _, rfl, .inl (.inl (.inl eA)), rfl, ?_⟩
    rw [List.length_map]
    obtain ⟨sp, hsp⟩ : ∃ s, strip hands.length (hands, roads) = s := ⟨_, rfl⟩
    rw [Int.toNat_natCast] at eA pgi ⊢
    rw [hsp] at eA pgi q3 ⊢
    refine ⟨_, rfl, ?_⟩
    by_cases c1 : sp.1.length = 1
    · rw [show decide (V.int ((sp.1.length : Nat) : Int) = V.int 1) = true from decide_eq_true (by rw [c1]; rfl)]
      rw [decide_eq_true c1, Bool.true_and] at q3
      rw [if_pos rfl]
      refine ⟨.ref R, rfl, by show 0 ≤ sizeLine; decide, fun Z nZ => ?_⟩
      have gZ : Grow [] H3 (upd H3 Z (.lst [])) := grow_new nZ
      refine ⟨R, Z, _, rfl, rfl, gZ.lst (by simp) eR, upd_same, ?_⟩
      have q4 := q _ (gr.trans gZ)
      rw [webD_strip F, hsp, decide_eq_true c1, Bool.true_and] at q4
      have e : decide (xs = []) = decide (sp.2 = []) := decide_eq_decide.mpr ⟨fun h => by
        have := pgi.length
        rw [h] at this
        exact List.length_eq_zero_iff.mp this.symm, fun h => by
        have := pgi.length
        rw [h] at this
        exact List.length_eq_zero_iff.mp this⟩
      rw [e]
      exact q4
    · rw [show decide (V.int ((sp.1.length : Nat) : Int) = V.int 1) = false from decide_eq_false fun q => c1 (by have := V.int.inj q; omega)]
      rw [decide_eq_false c1, Bool.false_and] at q3
      exact q3
end

end Lw

namespace Lw
open PySem PySem.Spec PyProof.Rows L2 GxR Gx
/-! ### the things of the law: shown, kept -/
structure Sh (d : PyData) (n m : Nat) : Prop where
  show_ : d.showable = true
  leaves : d.leavesShort 20 = true
  deep : d.depth ≤ n
  bulk : d.bulk ≤ m
theorem Sh.mono {d : PyData} {n m n' m' : Nat} (f : Sh d n m) (h1 : n ≤ n') (h2 : m ≤ m') : Sh d n' m' := ⟨f.show_, f.leaves, Nat.le_trans f.deep h1, Nat.le_trans f.bulk h2⟩
structure Shs (ds : List PyData) (n m : Nat) : Prop where
  show_ : PyData.showableAll ds = true
  leaves : PyData.leavesShortAll 20 ds = true
  deep : PyData.depthAll ds ≤ n
  bulk : PyData.bulkAll ds ≤ ds.length * (m + 1)
theorem shs {n m : Nat} : ∀ {ds : List PyData}, (∀ d ∈ ds, Sh d n m) → Shs ds n m
  | [], _ => ⟨rfl, rfl, Nat.zero_le _, by simp [PyData.bulkAll]⟩
  | d :: r, h => by
    have h1 := h d List.mem_cons_self
    have h2 := shs (ds := r) fun d q => h d (List.mem_cons_of_mem _ q)
    refine ⟨?_, ?_, ?_, ?_⟩
    · rw [PyData.showableAll, h1.show_, h2.show_]; rfl
    · rw [PyData.leavesShortAll, h1.leaves, h2.leaves]; rfl
    · rw [PyData.depthAll]
      exact Nat.max_le.mpr ⟨h1.deep, h2.deep⟩
    · rw [PyData.bulkAll, List.length_cons, Nat.succ_mul]
      have := h1.bulk
      have := h2.bulk
      omega
theorem Sh.list {n m k : Nat} {ds : List PyData} (h : ∀ d ∈ ds, Sh d n m) (hk : ds.length * (m + 1) ≤ k) : Sh (.list ds) (n + 1) k := by
  have f := shs h
  exact ⟨by rw [PyData.showable]; exact f.show_, by rw [PyData.leavesShort]; exact f.leaves, by rw [PyData.depth]; exact Nat.succ_le_succ f.deep, by rw [PyData.bulk]; exact Nat.le_trans f.bulk hk⟩
theorem Sh.tuple {n m k : Nat} {ds : List PyData} (h : ∀ d ∈ ds, Sh d n m) (hk : ds.length * (m + 1) ≤ k) : Sh (.tuple ds) (n + 1) k := by
  have f := shs h
  exact ⟨by rw [PyData.showable]; exact f.show_, by rw [PyData.leavesShort]; exact f.leaves, by rw [PyData.depth]; exact Nat.succ_le_succ f.deep, by rw [PyData.bulk]; exact Nat.le_trans f.bulk hk⟩
theorem sh_kv {n m : Nat} : ∀ {D : List (PyData × PyData)}, (∀ p ∈ D, Sh p.1 n m ∧ Sh p.2 n m) → PyData.showableKv D = true ∧ PyData.leavesShortKv 20 D = true ∧ PyData.depthKv D ≤ n ∧ PyData.bulkKv D ≤ D.length * (2 * m + 2)
  | [], _ => ⟨rfl, rfl, Nat.zero_le _, by simp [PyData.bulkKv]⟩
  | p :: r, h => by
    obtain ⟨f1, f2⟩ := h p List.mem_cons_self
    obtain ⟨i1, i2, i3, i4⟩ := sh_kv (D := r) fun q hq => h q (List.mem_cons_of_mem _ hq)
    refine ⟨?_, ?_, ?_, ?_⟩
    · rw [PyData.showableKv, f1.show_, f2.show_, i1]; rfl
    · rw [PyData.leavesShortKv, f1.leaves, f2.leaves, i2]; rfl
    · rw [PyData.depthKv]
      exact Nat.max_le.mpr ⟨Nat.max_le.mpr ⟨f1.deep, f2.deep⟩, i3⟩
    · rw [PyData.bulkKv, List.length_cons, Nat.succ_mul]
      have := f1.bulk
      have := f2.bulk
      omega
theorem Sh.dict {n m k : Nat} {D : List (PyData × PyData)} (h : ∀ p ∈ D, Sh p.1 n m ∧ Sh p.2 n m) (hk : D.length * (2 * m + 2) ≤ k) : Sh (.dict D) (n + 1) k := by
  obtain ⟨i1, i2, i3, i4⟩ := sh_kv h
  exact ⟨by rw [PyData.showable]; exact i1, by rw [PyData.leavesShort]; exact i2, by rw [PyData.depth]; exact Nat.succ_le_succ i3, by rw [PyData.bulk]; exact Nat.le_trans i4 hk⟩
theorem sh_int {i : Int} (h : i.natAbs ≤ 1099511627776) : Sh (.int i) 0 8 := by
  refine ⟨?_, ?_, Nat.le_refl _, Nat.zero_le _⟩
  · show decide (i.natAbs.log2 < 1920) = true
    exact decide_eq_true (PySem.Flt.log2_lt_of (by decide) (Nat.lt_of_le_of_lt h (by decide)))
  · show decide ((PyData.shown (.int i)).length ≤ 20) = true
    refine decide_eq_true ?_
    have t7 := int_text_length_le10 (a := i) (k := 13) (by decide) (Nat.lt_of_le_of_lt h (by decide))
    have e8 : (PyData.shown (.int i)).length = (toString i).length := PySem.ofString_length (toString i)
    omega
theorem sh_name {z : Str} (h : isNm z = true) : Sh (.str z) 0 8 := by
  have f := fine_name h
  refine ⟨f.show_, ?_, f.deep, f.bulk⟩
  rw [PyData.leavesShort]
  rw [List.all_eq_true]
  exact fun c hc => decide_eq_true (Nat.lt_of_lt_of_le (nm_lt h c hc) (by decide))

/-! ### _law_odd: a thing of any kind -/
def oddD : List PyData := [.none, .bool true, .int 0, .int 7, .str "", .str "A", .str "a b", .str "abcdefghi", .str "a1", .str "-", .list [], .tuple [], .dict [], .list [.str "a"], .tuple [.str "a"], .tuple [.str "a", .str "b"], .str "a\n", .tuple [.list [], .list []], .tuple [.list [.str "a"], .list []], .tuple [.list [.str "a", .str "a"], .list []], .tuple [.list [.str "a"], .list [.tuple [.str "a", .str "a"]]], .list [.list [.str "a"], .list []], .tuple [.tuple [.str "a"], .tuple []], .tuple [.list [.str "a", .str "b"], .list [.list [.str "a", .str "b"]]], .tuple [.list [.str "a", .str "b"], .list [.tuple [.str "b", .str "a"]]], .tuple [.list [.str "a"], .dict []], .tuple [.dict [(.str "a", .int 1)], .list []]]
/-- shown, small, its roads of texts -/
def flatB : PyData → Bool
  | .tuple [.list _, .list ds2] => ds2.all fun r => !r.hasDict && decide (r.depth ≤ 32) && (match r with
    | .tuple [.str _, .str _] => true
    | .tuple [_, _] => false
    | _ => true)
  | _ => true
theorem flatB_is {d : PyData} (h : flatB d = true) : RoadsFlat d := by
  rintro ds1 ds2 rfl r hr
  have := List.all_eq_true.mp h r hr
  rw [Bool.and_eq_true, Bool.and_eq_true] at this
  obtain ⟨⟨h1, h2⟩, h3⟩ := this
  have h0 : r.hasDict = false := by
    cases e : r.hasDict with
    | false => rfl
    | true => rw [e] at h1; cases h1
  refine ⟨h0, of_decide_eq_true h2, fun a b e => ?_⟩
  subst e
  cases a with
  | str y => cases b with
    | str z => exact ⟨y, z, rfl, rfl⟩
    | _ => cases h3
  | _ => cases h3
def oddB (d : PyData) : Bool := d.showable && PyData.leavesShort 20 d && decide (d.depth ≤ 4) && decide (d.bulk ≤ 12) && flatB d
theorem odd_all : oddD.all oddB = true := by decide +kernel
theorem oddB_is {d : PyData} (o : oddB d = true) : Sh d 4 12 ∧ RoadsFlat d := by
  unfold oddB at o
  rw [Bool.and_eq_true, Bool.and_eq_true, Bool.and_eq_true, Bool.and_eq_true] at o
  obtain ⟨⟨⟨⟨o1, o2⟩, o3⟩, o4⟩, o5⟩ := o
  exact ⟨⟨o1, o2, of_decide_eq_true o3, of_decide_eq_true o4⟩, flatB_is o5⟩
theorem lay {p A : Addr} {c : Int} {H : Hp} {o : HO} (n : H A = none) (t : Pot H p c) : ∃ H', upd H A o = H' ∧ Grow [] H H' ∧ A ∉ [p] ∧ H' A = some o ∧ Pot H' p c := by
  refine ⟨_, rfl, grow_new n, ?_, upd_same, t.new n⟩
  obtain ⟨x, y, z, e, _⟩ := t
  simpa using (ne_of_none e n).symm
theorem lay2 {ex : List Addr} {p A : Addr} {c : Int} {H : Hp} {o : HO} (n : H A = none) (t : Pot H p c) (X : ∀ a ∈ ex, H a ≠ none) : ∃ H', upd H A o = H' ∧ Grow [] H H' ∧ A ∉ ex ∧ H' A = some o ∧ Pot H' p c ∧ ∀ a ∈ ex, H' a ≠ none := by
  refine ⟨_, rfl, grow_new n, fun z => X A z n, upd_same, t.new n, fun a ha => ?_⟩
  rw [upd_ne (fun z => X a ha (by rw [z]; exact n))]
  exact X a ha
section
variable {P : Program} {w : World} {K : PySem.W.Frag} {mg : Str → Option Value} {base : Heap}
def spOdd (K : PySem.W.Frag) : Sp := fun vs H Q _ => ∃ (p : Addr) (ex : List Addr) (c : Int), vs = [.ref p] ∧ Pot H p c ∧ c ≤ 2 ^ 19 ∧ p ∈ ex ∧ (∀ a ∈ ex, H a ≠ none) ∧ ∀ (x : V) (H' : Hp) (d : PyData), Grow [p] H H' → Db K ex H' x d → Sh d 4 12 → RoadsFlat d → Pot H' p (c + 1) → Q x H'
theorem ok_law_odd {f c : Addr} {fd : FuncData} (B : Nb mg) (D : DefIs K "_law_odd" "_law_odd" st_law_odd f fd (.ref c)) (c_law_dip : Callee P w K mg base CX0 3 "_law_dip" ["pot", "many"] (spDip K)) : FnG P w K mg base CX0 4 f fd ["pot"] (spOdd K) := by
  refine D.ok0 (k := 3) sc_law_odd (fun vs H Q E h => ?_) (fun A outer s H vs Q E g hr h => ?_)
  · obtain ⟨p, ex, c, rfl, _⟩ := h
    rfl
  obtain ⟨p, ex, c, rfl, t, hc, pex, X, q⟩ := h
  refine ⟨_,
      (pss_cons (ps_set (i := 1) sc_law_odd.nd rfl (.inl rfl) (pe_lst (pa_cons pe_non (pa_cons pe_bl (pa_cons pe_int (pa_cons pe_int (pa_cons pe_str (pa_cons pe_str (pa_cons pe_str (pa_cons pe_str (pa_cons pe_str (pa_cons pe_str (pa_cons (pe_lst pa_nil) (pa_cons (pe_tup pa_nil) (pa_cons pe_dnewK (pa_cons (pe_lst (pa_cons pe_str pa_nil)) (pa_cons (pe_tup (pa_cons pe_str pa_nil)) (pa_cons (pe_tup (pa_cons pe_str (pa_cons pe_str pa_nil))) (pa_cons pe_str pa_nil)))))))))))))))))))
      (pss_cons (ps_set (i := 1) sc_law_odd.nd rfl (.inl rfl) (pe_op op_cat (pv 1) (pe_lst (pa_cons (pe_tup (pa_cons (pe_lst pa_nil) (pa_cons (pe_lst pa_nil) pa_nil))) (pa_cons (pe_tup (pa_cons (pe_lst (pa_cons pe_str pa_nil)) (pa_cons (pe_lst pa_nil) pa_nil))) (pa_cons (pe_tup (pa_cons (pe_lst (pa_cons pe_str (pa_cons pe_str pa_nil))) (pa_cons (pe_lst pa_nil) pa_nil))) (pa_cons (pe_tup (pa_cons (pe_lst (pa_cons pe_str pa_nil)) (pa_cons (pe_lst (pa_cons (pe_tup (pa_cons pe_str (pa_cons pe_str pa_nil))) pa_nil)) pa_nil))) (pa_cons (pe_lst (pa_cons (pe_lst (pa_cons pe_str pa_nil)) (pa_cons (pe_lst pa_nil) pa_nil))) (pa_cons (pe_tup (pa_cons (pe_tup (pa_cons pe_str pa_nil)) (pa_cons (pe_tup pa_nil) pa_nil))) pa_nil)))))))))
      (pss_cons (ps_set (i := 1) sc_law_odd.nd rfl (.inl rfl) (pe_op op_cat (pv 1) (pe_lst (pa_cons (pe_tup (pa_cons (pe_lst (pa_cons pe_str (pa_cons pe_str pa_nil))) (pa_cons (pe_lst (pa_cons (pe_lst (pa_cons pe_str (pa_cons pe_str pa_nil))) pa_nil)) pa_nil))) (pa_cons (pe_tup (pa_cons (pe_lst (pa_cons pe_str (pa_cons pe_str pa_nil))) (pa_cons (pe_lst (pa_cons (pe_tup (pa_cons pe_str (pa_cons pe_str pa_nil))) pa_nil)) pa_nil))) (pa_cons (pe_tup (pa_cons (pe_lst (pa_cons pe_str pa_nil)) (pa_cons pe_dnewK pa_nil))) (pa_cons (pe_tup (pa_cons (pe_disp (pps_cons pe_str pe_int pps_nil) rfl rfl (List.cons_ne_nil _ _) (by decide)) (pa_cons (pe_lst pa_nil) pa_nil))) pa_nil)))))))
      (pss_one (ps_ret (pe_ix ix_list (pv 1) (pe_g c_law_dip g (hr.mono (by decide)) pass0 (pa_cons (pv 0) (pa_cons (pe_callB call_len_seq rfl B.n_len PySem.boot_len (pa_cons (pv 1) pa_nil)) pa_nil))) (fun _ _ => rfl))))))), ?_⟩
  have G : Grow [] H H := Grow.refl _ _
  refine ⟨by show 0 ≤ sizeLine; decide, fun A0 nA0 => ?_⟩
  obtain ⟨H0', q0, g0, m0, e0, t0, X⟩ := lay2 (o := .lst []) nA0 t X
  rw [q0]
  clear q0 nA0
  replace G := G.trans g0
  have d0 : Db K ex H0' (.ref A0) (.list []) := .lst m0 e0 .nil
  refine ⟨by show 0 ≤ sizeLine; decide, fun A1 nA1 => ?_⟩
  obtain ⟨H1', q1, g1, m1, e1, t1, X⟩ := lay2 (o := .tup []) nA1 t0 X
  rw [q1]
  clear q1 nA1
  replace d0 := d0.grow (g1.any (ex := ex))
  replace G := G.trans g1
  have d1 : Db K ex H1' (.ref A1) (.tuple []) := .tup m1 (.inl (.inl e1)) .nil
  refine fun A2 nA2 => ?_
  obtain ⟨H2', q2, g2, m2, e2, t2, X⟩ := lay2 (o := .dK []) nA2 t1 X
  rw [q2]
  clear q2 nA2
  replace d0 := d0.grow (g2.any (ex := ex))
  replace d1 := d1.grow (g2.any (ex := ex))
  replace G := G.trans g2
  have d2 : Db K ex H2' (.ref A2) (.dict []) := .dic m2 e2 .nil
  refine ⟨by show 1 ≤ sizeLine; decide, fun A3 nA3 => ?_⟩
  obtain ⟨H3', q3, g3, m3, e3, t3, X⟩ := lay2 (o := .lst [.str "a"]) nA3 t2 X
  rw [q3]
  clear q3 nA3
  replace d0 := d0.grow (g3.any (ex := ex))
  replace d1 := d1.grow (g3.any (ex := ex))
  replace d2 := d2.grow (g3.any (ex := ex))
  replace G := G.trans g3
  have d3 : Db K ex H3' (.ref A3) (.list [.str "a"]) := .lst m3 e3 (.cons (.str _) .nil)
  refine ⟨by show 1 ≤ sizeLine; decide, fun A4 nA4 => ?_⟩
  obtain ⟨H4', q4, g4, m4, e4, t4, X⟩ := lay2 (o := .tup [.str "a"]) nA4 t3 X
  rw [q4]
  clear q4 nA4
  replace d0 := d0.grow (g4.any (ex := ex))
  replace d1 := d1.grow (g4.any (ex := ex))
  replace d2 := d2.grow (g4.any (ex := ex))
  replace d3 := d3.grow (g4.any (ex := ex))
  replace G := G.trans g4
  have d4 : Db K ex H4' (.ref A4) (.tuple [.str "a"]) := .tup m4 (.inl (.inl e4)) (.cons (.str _) .nil)
  refine ⟨by show 2 ≤ sizeLine; decide, fun A5 nA5 => ?_⟩
  obtain ⟨H5', q5, g5, m5, e5, t5, X⟩ := lay2 (o := .tup [.str "a", .str "b"]) nA5 t4 X
  rw [q5]
  clear q5 nA5
  replace d0 := d0.grow (g5.any (ex := ex))
  replace d1 := d1.grow (g5.any (ex := ex))
  replace d2 := d2.grow (g5.any (ex := ex))
  replace d3 := d3.grow (g5.any (ex := ex))
  replace d4 := d4.grow (g5.any (ex := ex))
  replace G := G.trans g5
  have d5 : Db K ex H5' (.ref A5) (.tuple [.str "a", .str "b"]) := .tup m5 (.inl (.inl e5)) (.cons (.str _) (.cons (.str _) .nil))
  refine ⟨by show 17 ≤ sizeLine; decide, fun A6 nA6 => ?_⟩
  have T0 : Dbs K ex H5' [.non, .bl true, .int 0, .int 7, .str "", .str "A", .str "a b", .str "abcdefghi", .str "a1", .str "-", .ref A0, .ref A1, .ref A2, .ref A3, .ref A4, .ref A5, .str "a\n"] [.none, .bool true, .int 0, .int 7, .str "", .str "A", .str "a b", .str "abcdefghi", .str "a1", .str "-", .list [], .tuple [], .dict [], .list [.str "a"], .tuple [.str "a"], .tuple [.str "a", .str "b"], .str "a\n"] := (.cons .non (.cons (.bl _) (.cons (.int _) (.cons (.int _) (.cons (.str _) (.cons (.str _) (.cons (.str _) (.cons (.str _) (.cons (.str _) (.cons (.str _) (.cons d0 (.cons d1 (.cons d2 (.cons d3 (.cons d4 (.cons d5 (.cons (.str _) .nil)))))))))))))))))
  clear d0
  clear d1
  clear d2
  clear d3
  clear d4
  clear d5
  obtain ⟨H6', q6, g6, m6, e6, t6, X⟩ := lay2 (o := .lst [.non, .bl true, .int 0, .int 7, .str "", .str "A", .str "a b", .str "abcdefghi", .str "a1", .str "-", .ref A0, .ref A1, .ref A2, .ref A3, .ref A4, .ref A5, .str "a\n"]) nA6 t5 X
  rw [q6]
  clear q6 nA6
  replace T0 := T0.grow (g6.any (ex := ex))
  replace G := G.trans g6
  have E := e6
  have S := T0
  refine ⟨.ref A6, rfl, ?_⟩
  refine ⟨by show 0 ≤ sizeLine; decide, fun A7 nA7 => ?_⟩
  obtain ⟨H7', q7, g7, m7, e7, t7, X⟩ := lay2 (o := .lst []) nA7 t6 X
  rw [q7]
  clear q7 nA7
  replace E := g7.lst (by simp) E
  replace S := S.grow (g7.any (ex := ex))
  replace G := G.trans g7
  have d7 : Db K ex H7' (.ref A7) (.list []) := .lst m7 e7 .nil
  refine ⟨by show 0 ≤ sizeLine; decide, fun A8 nA8 => ?_⟩
  obtain ⟨H8', q8, g8, m8, e8, t8, X⟩ := lay2 (o := .lst []) nA8 t7 X
  rw [q8]
  clear q8 nA8
  replace E := g8.lst (by simp) E
  replace S := S.grow (g8.any (ex := ex))
  replace d7 := d7.grow (g8.any (ex := ex))
  replace G := G.trans g8
  have d8 : Db K ex H8' (.ref A8) (.list []) := .lst m8 e8 .nil
  refine ⟨by show 2 ≤ sizeLine; decide, fun A9 nA9 => ?_⟩
  obtain ⟨H9', q9, g9, m9, e9, t9, X⟩ := lay2 (o := .tup [.ref A7, .ref A8]) nA9 t8 X
  rw [q9]
  clear q9 nA9
  replace E := g9.lst (by simp) E
  replace S := S.grow (g9.any (ex := ex))
  replace d7 := d7.grow (g9.any (ex := ex))
  replace d8 := d8.grow (g9.any (ex := ex))
  replace G := G.trans g9
  have d9 : Db K ex H9' (.ref A9) (.tuple [.list [], .list []]) := .tup m9 (.inl (.inl e9)) (.cons d7 (.cons d8 .nil))
  clear d7
  clear d8
  refine ⟨by show 1 ≤ sizeLine; decide, fun A10 nA10 => ?_⟩
  obtain ⟨H10', q10, g10, m10, e10, t10, X⟩ := lay2 (o := .lst [.str "a"]) nA10 t9 X
  rw [q10]
  clear q10 nA10
  replace E := g10.lst (by simp) E
  replace S := S.grow (g10.any (ex := ex))
  replace d9 := d9.grow (g10.any (ex := ex))
  replace G := G.trans g10
  have d10 : Db K ex H10' (.ref A10) (.list [.str "a"]) := .lst m10 e10 (.cons (.str _) .nil)
  refine ⟨by show 0 ≤ sizeLine; decide, fun A11 nA11 => ?_⟩
  obtain ⟨H11', q11, g11, m11, e11, t11, X⟩ := lay2 (o := .lst []) nA11 t10 X
  rw [q11]
  clear q11 nA11
  replace E := g11.lst (by simp) E
  replace S := S.grow (g11.any (ex := ex))
  replace d9 := d9.grow (g11.any (ex := ex))
  replace d10 := d10.grow (g11.any (ex := ex))
  replace G := G.trans g11
  have d11 : Db K ex H11' (.ref A11) (.list []) := .lst m11 e11 .nil
  refine ⟨by show 2 ≤ sizeLine; decide, fun A12 nA12 => ?_⟩
  obtain ⟨H12', q12, g12, m12, e12, t12, X⟩ := lay2 (o := .tup [.ref A10, .ref A11]) nA12 t11 X
  rw [q12]
  clear q12 nA12
  replace E := g12.lst (by simp) E
  replace S := S.grow (g12.any (ex := ex))
  replace d9 := d9.grow (g12.any (ex := ex))
  replace d10 := d10.grow (g12.any (ex := ex))
  replace d11 := d11.grow (g12.any (ex := ex))
  replace G := G.trans g12
  have d12 : Db K ex H12' (.ref A12) (.tuple [.list [.str "a"], .list []]) := .tup m12 (.inl (.inl e12)) (.cons d10 (.cons d11 .nil))
  clear d10
  clear d11
  refine ⟨by show 2 ≤ sizeLine; decide, fun A13 nA13 => ?_⟩
  obtain ⟨H13', q13, g13, m13, e13, t13, X⟩ := lay2 (o := .lst [.str "a", .str "a"]) nA13 t12 X
  rw [q13]
  clear q13 nA13
  replace E := g13.lst (by simp) E
  replace S := S.grow (g13.any (ex := ex))
  replace d9 := d9.grow (g13.any (ex := ex))
  replace d12 := d12.grow (g13.any (ex := ex))
  replace G := G.trans g13
  have d13 : Db K ex H13' (.ref A13) (.list [.str "a", .str "a"]) := .lst m13 e13 (.cons (.str _) (.cons (.str _) .nil))
  refine ⟨by show 0 ≤ sizeLine; decide, fun A14 nA14 => ?_⟩
  obtain ⟨H14', q14, g14, m14, e14, t14, X⟩ := lay2 (o := .lst []) nA14 t13 X
  rw [q14]
  clear q14 nA14
  replace E := g14.lst (by simp) E
  replace S := S.grow (g14.any (ex := ex))
  replace d9 := d9.grow (g14.any (ex := ex))
  replace d12 := d12.grow (g14.any (ex := ex))
  replace d13 := d13.grow (g14.any (ex := ex))
  replace G := G.trans g14
  have d14 : Db K ex H14' (.ref A14) (.list []) := .lst m14 e14 .nil
  refine ⟨by show 2 ≤ sizeLine; decide, fun A15 nA15 => ?_⟩
  obtain ⟨H15', q15, g15, m15, e15, t15, X⟩ := lay2 (o := .tup [.ref A13, .ref A14]) nA15 t14 X
  rw [q15]
  clear q15 nA15
  replace E := g15.lst (by simp) E
  replace S := S.grow (g15.any (ex := ex))
  replace d9 := d9.grow (g15.any (ex := ex))
  replace d12 := d12.grow (g15.any (ex := ex))
  replace d13 := d13.grow (g15.any (ex := ex))
  replace d14 := d14.grow (g15.any (ex := ex))
  replace G := G.trans g15
  have d15 : Db K ex H15' (.ref A15) (.tuple [.list [.str "a", .str "a"], .list []]) := .tup m15 (.inl (.inl e15)) (.cons d13 (.cons d14 .nil))
  clear d13
  clear d14
  refine ⟨by show 1 ≤ sizeLine; decide, fun A16 nA16 => ?_⟩
  obtain ⟨H16', q16, g16, m16, e16, t16, X⟩ := lay2 (o := .lst [.str "a"]) nA16 t15 X
  rw [q16]
  clear q16 nA16
  replace E := g16.lst (by simp) E
  replace S := S.grow (g16.any (ex := ex))
  replace d9 := d9.grow (g16.any (ex := ex))
  replace d12 := d12.grow (g16.any (ex := ex))
  replace d15 := d15.grow (g16.any (ex := ex))
  replace G := G.trans g16
  have d16 : Db K ex H16' (.ref A16) (.list [.str "a"]) := .lst m16 e16 (.cons (.str _) .nil)
  refine ⟨by show 2 ≤ sizeLine; decide, fun A17 nA17 => ?_⟩
  obtain ⟨H17', q17, g17, m17, e17, t17, X⟩ := lay2 (o := .tup [.str "a", .str "a"]) nA17 t16 X
  rw [q17]
  clear q17 nA17
  replace E := g17.lst (by simp) E
  replace S := S.grow (g17.any (ex := ex))
  replace d9 := d9.grow (g17.any (ex := ex))
  replace d12 := d12.grow (g17.any (ex := ex))
  replace d15 := d15.grow (g17.any (ex := ex))
  replace d16 := d16.grow (g17.any (ex := ex))
  replace G := G.trans g17
  have d17 : Db K ex H17' (.ref A17) (.tuple [.str "a", .str "a"]) := .tup m17 (.inl (.inl e17)) (.cons (.str _) (.cons (.str _) .nil))
  refine ⟨by show 1 ≤ sizeLine; decide, fun A18 nA18 => ?_⟩
  obtain ⟨H18', q18, g18, m18, e18, t18, X⟩ := lay2 (o := .lst [.ref A17]) nA18 t17 X
  rw [q18]
  clear q18 nA18
  replace E := g18.lst (by simp) E
  replace S := S.grow (g18.any (ex := ex))
  replace d9 := d9.grow (g18.any (ex := ex))
  replace d12 := d12.grow (g18.any (ex := ex))
  replace d15 := d15.grow (g18.any (ex := ex))
  replace d16 := d16.grow (g18.any (ex := ex))
  replace d17 := d17.grow (g18.any (ex := ex))
  replace G := G.trans g18
  have d18 : Db K ex H18' (.ref A18) (.list [.tuple [.str "a", .str "a"]]) := .lst m18 e18 (.cons d17 .nil)
  clear d17
  refine ⟨by show 2 ≤ sizeLine; decide, fun A19 nA19 => ?_⟩
  obtain ⟨H19', q19, g19, m19, e19, t19, X⟩ := lay2 (o := .tup [.ref A16, .ref A18]) nA19 t18 X
  rw [q19]
  clear q19 nA19
  replace E := g19.lst (by simp) E
  replace S := S.grow (g19.any (ex := ex))
  replace d9 := d9.grow (g19.any (ex := ex))
  replace d12 := d12.grow (g19.any (ex := ex))
  replace d15 := d15.grow (g19.any (ex := ex))
  replace d16 := d16.grow (g19.any (ex := ex))
  replace d18 := d18.grow (g19.any (ex := ex))
  replace G := G.trans g19
  have d19 : Db K ex H19' (.ref A19) (.tuple [.list [.str "a"], .list [.tuple [.str "a", .str "a"]]]) := .tup m19 (.inl (.inl e19)) (.cons d16 (.cons d18 .nil))
  clear d16
  clear d18
  refine ⟨by show 1 ≤ sizeLine; decide, fun A20 nA20 => ?_⟩
  obtain ⟨H20', q20, g20, m20, e20, t20, X⟩ := lay2 (o := .lst [.str "a"]) nA20 t19 X
  rw [q20]
  clear q20 nA20
  replace E := g20.lst (by simp) E
  replace S := S.grow (g20.any (ex := ex))
  replace d9 := d9.grow (g20.any (ex := ex))
  replace d12 := d12.grow (g20.any (ex := ex))
  replace d15 := d15.grow (g20.any (ex := ex))
  replace d19 := d19.grow (g20.any (ex := ex))
  replace G := G.trans g20
  have d20 : Db K ex H20' (.ref A20) (.list [.str "a"]) := .lst m20 e20 (.cons (.str _) .nil)
  refine ⟨by show 0 ≤ sizeLine; decide, fun A21 nA21 => ?_⟩
  obtain ⟨H21', q21, g21, m21, e21, t21, X⟩ := lay2 (o := .lst []) nA21 t20 X
  rw [q21]
  clear q21 nA21
  replace E := g21.lst (by simp) E
  replace S := S.grow (g21.any (ex := ex))
  replace d9 := d9.grow (g21.any (ex := ex))
  replace d12 := d12.grow (g21.any (ex := ex))
  replace d15 := d15.grow (g21.any (ex := ex))
  replace d19 := d19.grow (g21.any (ex := ex))
  replace d20 := d20.grow (g21.any (ex := ex))
  replace G := G.trans g21
  have d21 : Db K ex H21' (.ref A21) (.list []) := .lst m21 e21 .nil
  refine ⟨by show 2 ≤ sizeLine; decide, fun A22 nA22 => ?_⟩
  obtain ⟨H22', q22, g22, m22, e22, t22, X⟩ := lay2 (o := .lst [.ref A20, .ref A21]) nA22 t21 X
  rw [q22]
  clear q22 nA22
  replace E := g22.lst (by simp) E
  replace S := S.grow (g22.any (ex := ex))
  replace d9 := d9.grow (g22.any (ex := ex))
  replace d12 := d12.grow (g22.any (ex := ex))
  replace d15 := d15.grow (g22.any (ex := ex))
  replace d19 := d19.grow (g22.any (ex := ex))
  replace d20 := d20.grow (g22.any (ex := ex))
  replace d21 := d21.grow (g22.any (ex := ex))
  replace G := G.trans g22
  have d22 : Db K ex H22' (.ref A22) (.list [.list [.str "a"], .list []]) := .lst m22 e22 (.cons d20 (.cons d21 .nil))
  clear d20
  clear d21
  refine ⟨by show 1 ≤ sizeLine; decide, fun A23 nA23 => ?_⟩
  obtain ⟨H23', q23, g23, m23, e23, t23, X⟩ := lay2 (o := .tup [.str "a"]) nA23 t22 X
  rw [q23]
  clear q23 nA23
  replace E := g23.lst (by simp) E
  replace S := S.grow (g23.any (ex := ex))
  replace d9 := d9.grow (g23.any (ex := ex))
  replace d12 := d12.grow (g23.any (ex := ex))
  replace d15 := d15.grow (g23.any (ex := ex))
  replace d19 := d19.grow (g23.any (ex := ex))
  replace d22 := d22.grow (g23.any (ex := ex))
  replace G := G.trans g23
  have d23 : Db K ex H23' (.ref A23) (.tuple [.str "a"]) := .tup m23 (.inl (.inl e23)) (.cons (.str _) .nil)
  refine ⟨by show 0 ≤ sizeLine; decide, fun A24 nA24 => ?_⟩
  obtain ⟨H24', q24, g24, m24, e24, t24, X⟩ := lay2 (o := .tup []) nA24 t23 X
  rw [q24]
  clear q24 nA24
  replace E := g24.lst (by simp) E
  replace S := S.grow (g24.any (ex := ex))
  replace d9 := d9.grow (g24.any (ex := ex))
  replace d12 := d12.grow (g24.any (ex := ex))
  replace d15 := d15.grow (g24.any (ex := ex))
  replace d19 := d19.grow (g24.any (ex := ex))
  replace d22 := d22.grow (g24.any (ex := ex))
  replace d23 := d23.grow (g24.any (ex := ex))
  replace G := G.trans g24
  have d24 : Db K ex H24' (.ref A24) (.tuple []) := .tup m24 (.inl (.inl e24)) .nil
  refine ⟨by show 2 ≤ sizeLine; decide, fun A25 nA25 => ?_⟩
  obtain ⟨H25', q25, g25, m25, e25, t25, X⟩ := lay2 (o := .tup [.ref A23, .ref A24]) nA25 t24 X
  rw [q25]
  clear q25 nA25
  replace E := g25.lst (by simp) E
  replace S := S.grow (g25.any (ex := ex))
  replace d9 := d9.grow (g25.any (ex := ex))
  replace d12 := d12.grow (g25.any (ex := ex))
  replace d15 := d15.grow (g25.any (ex := ex))
  replace d19 := d19.grow (g25.any (ex := ex))
  replace d22 := d22.grow (g25.any (ex := ex))
  replace d23 := d23.grow (g25.any (ex := ex))
  replace d24 := d24.grow (g25.any (ex := ex))
  replace G := G.trans g25
  have d25 : Db K ex H25' (.ref A25) (.tuple [.tuple [.str "a"], .tuple []]) := .tup m25 (.inl (.inl e25)) (.cons d23 (.cons d24 .nil))
  clear d23
  clear d24
  refine ⟨by show 6 ≤ sizeLine; decide, fun A26 nA26 => ?_⟩
  have T1 : Dbs K ex H25' [.ref A9, .ref A12, .ref A15, .ref A19, .ref A22, .ref A25] [.tuple [.list [], .list []], .tuple [.list [.str "a"], .list []], .tuple [.list [.str "a", .str "a"], .list []], .tuple [.list [.str "a"], .list [.tuple [.str "a", .str "a"]]], .list [.list [.str "a"], .list []], .tuple [.tuple [.str "a"], .tuple []]] := (.cons d9 (.cons d12 (.cons d15 (.cons d19 (.cons d22 (.cons d25 .nil))))))
  clear d9
  clear d12
  clear d15
  clear d19
  clear d22
  clear d25
  obtain ⟨H26', q26, g26, m26, e26, t26, X⟩ := lay2 (o := .lst [.ref A9, .ref A12, .ref A15, .ref A19, .ref A22, .ref A25]) nA26 t25 X
  rw [q26]
  clear q26 nA26
  replace E := g26.lst (by simp) E
  replace S := S.grow (g26.any (ex := ex))
  replace T1 := T1.grow (g26.any (ex := ex))
  replace G := G.trans g26
  refine ⟨A6, A26, _, _, rfl, rfl, E, e26, by show 23 ≤ sizeLine; decide, fun A27 nA27 => ?_⟩
  replace S := S.app T1
  obtain ⟨H27', q27, g27, m27, e27, t27, X⟩ := lay2 (o := .lst _) nA27 t26 X
  rw [q27]
  clear q27 nA27
  replace S := S.grow (g27.any (ex := ex))
  replace G := G.trans g27
  clear E T1
  have E := e27
  refine ⟨.ref A27, rfl, ?_⟩
  refine ⟨by show 2 ≤ sizeLine; decide, fun A28 nA28 => ?_⟩
  obtain ⟨H28', q28, g28, m28, e28, t28, X⟩ := lay2 (o := .lst [.str "a", .str "b"]) nA28 t27 X
  rw [q28]
  clear q28 nA28
  replace S := S.grow (g28.any (ex := ex))
  replace E := g28.lst (by simp) E
  replace G := G.trans g28
  have d28 : Db K ex H28' (.ref A28) (.list [.str "a", .str "b"]) := .lst m28 e28 (.cons (.str _) (.cons (.str _) .nil))
  refine ⟨by show 2 ≤ sizeLine; decide, fun A29 nA29 => ?_⟩
  obtain ⟨H29', q29, g29, m29, e29, t29, X⟩ := lay2 (o := .lst [.str "a", .str "b"]) nA29 t28 X
  rw [q29]
  clear q29 nA29
  replace S := S.grow (g29.any (ex := ex))
  replace E := g29.lst (by simp) E
  replace d28 := d28.grow (g29.any (ex := ex))
  replace G := G.trans g29
  have d29 : Db K ex H29' (.ref A29) (.list [.str "a", .str "b"]) := .lst m29 e29 (.cons (.str _) (.cons (.str _) .nil))
  refine ⟨by show 1 ≤ sizeLine; decide, fun A30 nA30 => ?_⟩
  obtain ⟨H30', q30, g30, m30, e30, t30, X⟩ := lay2 (o := .lst [.ref A29]) nA30 t29 X
  rw [q30]
  clear q30 nA30
  replace S := S.grow (g30.any (ex := ex))
  replace E := g30.lst (by simp) E
  replace d28 := d28.grow (g30.any (ex := ex))
  replace d29 := d29.grow (g30.any (ex := ex))
  replace G := G.trans g30
  have d30 : Db K ex H30' (.ref A30) (.list [.list [.str "a", .str "b"]]) := .lst m30 e30 (.cons d29 .nil)
  clear d29
  refine ⟨by show 2 ≤ sizeLine; decide, fun A31 nA31 => ?_⟩
  obtain ⟨H31', q31, g31, m31, e31, t31, X⟩ := lay2 (o := .tup [.ref A28, .ref A30]) nA31 t30 X
  rw [q31]
  clear q31 nA31
  replace S := S.grow (g31.any (ex := ex))
  replace E := g31.lst (by simp) E
  replace d28 := d28.grow (g31.any (ex := ex))
  replace d30 := d30.grow (g31.any (ex := ex))
  replace G := G.trans g31
  have d31 : Db K ex H31' (.ref A31) (.tuple [.list [.str "a", .str "b"], .list [.list [.str "a", .str "b"]]]) := .tup m31 (.inl (.inl e31)) (.cons d28 (.cons d30 .nil))
  clear d28
  clear d30
  refine ⟨by show 2 ≤ sizeLine; decide, fun A32 nA32 => ?_⟩
  obtain ⟨H32', q32, g32, m32, e32, t32, X⟩ := lay2 (o := .lst [.str "a", .str "b"]) nA32 t31 X
  rw [q32]
  clear q32 nA32
  replace S := S.grow (g32.any (ex := ex))
  replace E := g32.lst (by simp) E
  replace d31 := d31.grow (g32.any (ex := ex))
  replace G := G.trans g32
  have d32 : Db K ex H32' (.ref A32) (.list [.str "a", .str "b"]) := .lst m32 e32 (.cons (.str _) (.cons (.str _) .nil))
  refine ⟨by show 2 ≤ sizeLine; decide, fun A33 nA33 => ?_⟩
  obtain ⟨H33', q33, g33, m33, e33, t33, X⟩ := lay2 (o := .tup [.str "b", .str "a"]) nA33 t32 X
  rw [q33]
  clear q33 nA33
  replace S := S.grow (g33.any (ex := ex))
  replace E := g33.lst (by simp) E
  replace d31 := d31.grow (g33.any (ex := ex))
  replace d32 := d32.grow (g33.any (ex := ex))
  replace G := G.trans g33
  have d33 : Db K ex H33' (.ref A33) (.tuple [.str "b", .str "a"]) := .tup m33 (.inl (.inl e33)) (.cons (.str _) (.cons (.str _) .nil))
  refine ⟨by show 1 ≤ sizeLine; decide, fun A34 nA34 => ?_⟩
  obtain ⟨H34', q34, g34, m34, e34, t34, X⟩ := lay2 (o := .lst [.ref A33]) nA34 t33 X
  rw [q34]
  clear q34 nA34
  replace S := S.grow (g34.any (ex := ex))
  replace E := g34.lst (by simp) E
  replace d31 := d31.grow (g34.any (ex := ex))
  replace d32 := d32.grow (g34.any (ex := ex))
  replace d33 := d33.grow (g34.any (ex := ex))
  replace G := G.trans g34
  have d34 : Db K ex H34' (.ref A34) (.list [.tuple [.str "b", .str "a"]]) := .lst m34 e34 (.cons d33 .nil)
  clear d33
  refine ⟨by show 2 ≤ sizeLine; decide, fun A35 nA35 => ?_⟩
  obtain ⟨H35', q35, g35, m35, e35, t35, X⟩ := lay2 (o := .tup [.ref A32, .ref A34]) nA35 t34 X
  rw [q35]
  clear q35 nA35
  replace S := S.grow (g35.any (ex := ex))
  replace E := g35.lst (by simp) E
  replace d31 := d31.grow (g35.any (ex := ex))
  replace d32 := d32.grow (g35.any (ex := ex))
  replace d34 := d34.grow (g35.any (ex := ex))
  replace G := G.trans g35
  have d35 : Db K ex H35' (.ref A35) (.tuple [.list [.str "a", .str "b"], .list [.tuple [.str "b", .str "a"]]]) := .tup m35 (.inl (.inl e35)) (.cons d32 (.cons d34 .nil))
  clear d32
  clear d34
  refine ⟨by show 1 ≤ sizeLine; decide, fun A36 nA36 => ?_⟩
  obtain ⟨H36', q36, g36, m36, e36, t36, X⟩ := lay2 (o := .lst [.str "a"]) nA36 t35 X
  rw [q36]
  clear q36 nA36
  replace S := S.grow (g36.any (ex := ex))
  replace E := g36.lst (by simp) E
  replace d31 := d31.grow (g36.any (ex := ex))
  replace d35 := d35.grow (g36.any (ex := ex))
  replace G := G.trans g36
  have d36 : Db K ex H36' (.ref A36) (.list [.str "a"]) := .lst m36 e36 (.cons (.str _) .nil)
  refine fun A37 nA37 => ?_
  obtain ⟨H37', q37, g37, m37, e37, t37, X⟩ := lay2 (o := .dK []) nA37 t36 X
  rw [q37]
  clear q37 nA37
  replace S := S.grow (g37.any (ex := ex))
  replace E := g37.lst (by simp) E
  replace d31 := d31.grow (g37.any (ex := ex))
  replace d35 := d35.grow (g37.any (ex := ex))
  replace d36 := d36.grow (g37.any (ex := ex))
  replace G := G.trans g37
  have d37 : Db K ex H37' (.ref A37) (.dict []) := .dic m37 e37 .nil
  refine ⟨by show 2 ≤ sizeLine; decide, fun A38 nA38 => ?_⟩
  obtain ⟨H38', q38, g38, m38, e38, t38, X⟩ := lay2 (o := .tup [.ref A36, .ref A37]) nA38 t37 X
  rw [q38]
  clear q38 nA38
  replace S := S.grow (g38.any (ex := ex))
  replace E := g38.lst (by simp) E
  replace d31 := d31.grow (g38.any (ex := ex))
  replace d35 := d35.grow (g38.any (ex := ex))
  replace d36 := d36.grow (g38.any (ex := ex))
  replace d37 := d37.grow (g38.any (ex := ex))
  replace G := G.trans g38
  have d38 : Db K ex H38' (.ref A38) (.tuple [.list [.str "a"], .dict []]) := .tup m38 (.inl (.inl e38)) (.cons d36 (.cons d37 .nil))
  clear d36
  clear d37
  refine fun A39 nA39 => ⟨upd_same, [((Sum.inr "a" : Key), V.int 1)], rfl, by decide, ?_⟩
  rw [upd_upd]
  obtain ⟨H39', q39, g39, m39, e39, t39, X⟩ := lay2 (o := .dK (mergeK [] [((Sum.inr "a" : Key), V.int 1)])) nA39 t38 X
  rw [q39]
  clear q39 nA39
  replace S := S.grow (g39.any (ex := ex))
  replace E := g39.lst (by simp) E
  replace d31 := d31.grow (g39.any (ex := ex))
  replace d35 := d35.grow (g39.any (ex := ex))
  replace d38 := d38.grow (g39.any (ex := ex))
  replace G := G.trans g39
  have d39 : Db K ex H39' (.ref A39) (.dict [(.str "a", .int 1)]) := .dic m39 e39 (.cons (.int _) rfl .nil)
  refine ⟨by show 0 ≤ sizeLine; decide, fun A40 nA40 => ?_⟩
  obtain ⟨H40', q40, g40, m40, e40, t40, X⟩ := lay2 (o := .lst []) nA40 t39 X
  rw [q40]
  clear q40 nA40
  replace S := S.grow (g40.any (ex := ex))
  replace E := g40.lst (by simp) E
  replace d31 := d31.grow (g40.any (ex := ex))
  replace d35 := d35.grow (g40.any (ex := ex))
  replace d38 := d38.grow (g40.any (ex := ex))
  replace d39 := d39.grow (g40.any (ex := ex))
  replace G := G.trans g40
  have d40 : Db K ex H40' (.ref A40) (.list []) := .lst m40 e40 .nil
  refine ⟨by show 2 ≤ sizeLine; decide, fun A41 nA41 => ?_⟩
  obtain ⟨H41', q41, g41, m41, e41, t41, X⟩ := lay2 (o := .tup [.ref A39, .ref A40]) nA41 t40 X
  rw [q41]
  clear q41 nA41
  replace S := S.grow (g41.any (ex := ex))
  replace E := g41.lst (by simp) E
  replace d31 := d31.grow (g41.any (ex := ex))
  replace d35 := d35.grow (g41.any (ex := ex))
  replace d38 := d38.grow (g41.any (ex := ex))
  replace d39 := d39.grow (g41.any (ex := ex))
  replace d40 := d40.grow (g41.any (ex := ex))
  replace G := G.trans g41
  have d41 : Db K ex H41' (.ref A41) (.tuple [.dict [(.str "a", .int 1)], .list []]) := .tup m41 (.inl (.inl e41)) (.cons d39 (.cons d40 .nil))
  clear d39
  clear d40
  refine ⟨by show 4 ≤ sizeLine; decide, fun A42 nA42 => ?_⟩
  have T2 : Dbs K ex H41' [.ref A31, .ref A35, .ref A38, .ref A41] [.tuple [.list [.str "a", .str "b"], .list [.list [.str "a", .str "b"]]], .tuple [.list [.str "a", .str "b"], .list [.tuple [.str "b", .str "a"]]], .tuple [.list [.str "a"], .dict []], .tuple [.dict [(.str "a", .int 1)], .list []]] := (.cons d31 (.cons d35 (.cons d38 (.cons d41 .nil))))
  clear d31
  clear d35
  clear d38
  clear d41
  obtain ⟨H42', q42, g42, m42, e42, t42, X⟩ := lay2 (o := .lst [.ref A31, .ref A35, .ref A38, .ref A41]) nA42 t41 X
  rw [q42]
  clear q42 nA42
  replace S := S.grow (g42.any (ex := ex))
  replace E := g42.lst (by simp) E
  replace T2 := T2.grow (g42.any (ex := ex))
  replace G := G.trans g42
  refine ⟨A27, A42, _, _, rfl, rfl, E, e42, by show 27 ≤ sizeLine; decide, fun A43 nA43 => ?_⟩
  replace S := S.app T2
  obtain ⟨H43', q43, g43, m43, e43, t43, X⟩ := lay2 (o := .lst _) nA43 t42 X
  rw [q43]
  clear q43 nA43
  replace S := S.grow (g43.any (ex := ex))
  replace G := G.trans g43
  clear E T2
  have E := e43
  have fin : ∃ vs, H43' A43 = some (.lst vs) ∧ Dbs K ex H43' vs oddD := ⟨_, E, S⟩
  clear E S
  obtain ⟨vs, E, S⟩ := fin
  have SL : vs.length = 27 := S.len
  refine ⟨.ref A43, rfl, .ref p, rfl, .ref A43, rfl, A43, vs, rfl, .inl (.inl (.inl E)), p, _, c, rfl, by rw [SL]; decide, by rw [SL]; decide, by omega, t43, fun v H9 v0 v1 g9 pot9 => ?_⟩
  obtain ⟨j, rfl⟩ : ∃ j : Nat, v = j := ⟨v.toNat, by omega⟩
  have jl : j < vs.length := by omega
  have gx : Grow ex H43' H9 := g9.mono fun a ha => by rw [List.mem_singleton.mp ha]; exact pex
  have E9 := gx.lst m43 E
  have S9 := S.grow gx
  have ej : vs[j]? = some vs[j] := List.getElem?_eq_getElem jl
  obtain ⟨d, hd, hdb⟩ := S9.get ej
  refine ⟨A43, vs, j, vs[j], rfl, rfl, .inl (.inl E9), atI_nat ej, ?_⟩
  obtain ⟨o1, o2⟩ := oddB_is (List.all_eq_true.mp odd_all d (List.mem_of_getElem? hd))
  exact q _ _ d ((G.any (ex := [p])).trans g9) hdb o1 o2 pot9
end

end Lw

namespace Lw
open PySem PySem.Spec PyProof.Rows L2 GxR Gx
/-! ### a web with one thing otherwise, as data -/
/-- a road, or what stands in a road's place -/
def RoadLike (r : PyData) : Prop := (∃ zs : List Str, zs.all isNm = true ∧ zs.length ≤ 3 ∧ (r = .tuple (zs.map PyData.str) ∨ r = .list (zs.map PyData.str))) ∨ ∃ z, isNm z = true ∧ r = .str z
theorem str_plain (zs : List Str) : PyData.hasDictAll (zs.map PyData.str) = false := by
  induction zs with
  | nil => rfl
  | cons z r ih => rw [List.map_cons, PyData.hasDictAll, ih]; rfl
theorem str_bulk {zs : List Str} (h : zs.all isNm = true) : PyData.bulkAll (zs.map PyData.str) ≤ zs.length * 9 := by
  induction zs with
  | nil => exact Nat.zero_le _
  | cons z r ih =>
    rw [List.all_cons, Bool.and_eq_true] at h
    have h1 := (sh_name h.1).bulk
    have h2 := ih h.2
    rw [List.map_cons, PyData.bulkAll, List.length_cons]
    omega
theorem str_depth (zs : List Str) : PyData.depthAll (zs.map PyData.str) ≤ 0 := by
  induction zs with
  | nil => exact Nat.zero_le _
  | cons z r ih =>
    rw [List.map_cons, PyData.depthAll]
    exact Nat.max_le.mpr ⟨Nat.le_refl _, ih⟩
theorem sh_strs {zs : List Str} (h : zs.all isNm = true) : Shs (zs.map PyData.str) 0 8 := shs fun d hd => by
  obtain ⟨z, hz, rfl⟩ := List.mem_map.mp hd
  exact sh_name (List.all_eq_true.mp h z hz)
theorem sh_tup {ds : List PyData} {n m : Nat} (h : PyData.showableAll ds = true) (l : PyData.leavesShortAll 20 ds = true) (d : PyData.depthAll ds ≤ n) (b : PyData.bulkAll ds ≤ m) : Sh (.tuple ds) (n + 1) m :=
  ⟨by rw [PyData.showable]; exact h, by rw [PyData.leavesShort]; exact l, by rw [PyData.depth]; exact Nat.succ_le_succ d, by rw [PyData.bulk]; exact b⟩
theorem sh_lst {ds : List PyData} {n m : Nat} (h : PyData.showableAll ds = true) (l : PyData.leavesShortAll 20 ds = true) (d : PyData.depthAll ds ≤ n) (b : PyData.bulkAll ds ≤ m) : Sh (.list ds) (n + 1) m :=
  ⟨by rw [PyData.showable]; exact h, by rw [PyData.leavesShort]; exact l, by rw [PyData.depth]; exact Nat.succ_le_succ d, by rw [PyData.bulk]; exact b⟩
theorem RoadLike.sh {r : PyData} (h : RoadLike r) : Sh r 1 27 := by
  rcases h with ⟨zs, n, l, rfl | rfl⟩ | ⟨z, n, rfl⟩
  · have f := sh_strs n
    exact sh_tup f.show_ f.leaves f.deep (Nat.le_trans (str_bulk n) (by omega))
  · have f := sh_strs n
    exact sh_lst f.show_ f.leaves f.deep (Nat.le_trans (str_bulk n) (by omega))
  · exact (sh_name n).mono (by decide) (by decide)
theorem RoadLike.flat {r : PyData} (h : RoadLike r) : r.hasDict = false ∧ r.depth ≤ 32 ∧ ∀ a b, r = .tuple [a, b] → ∃ y z, a = .str y ∧ b = .str z := by
  have d := h.sh.deep
  refine ⟨?_, by omega, ?_⟩
  · rcases h with ⟨zs, n, l, rfl | rfl⟩ | ⟨z, n, rfl⟩
    · rw [PyData.hasDict]; exact str_plain zs
    · rw [PyData.hasDict]; exact str_plain zs
    · rfl
  · rintro a b rfl
    rcases h with ⟨zs, n, l, e | e⟩ | ⟨z, n, e⟩
    · injection e with e
      match zs, e with
      | [y, z], e =>
        injection e with e1 e
        injection e with e2 _
        exact ⟨y, z, e1, e2⟩
    · cases e
    · cases e
theorem road_enc {r : Str × Str} (h1 : isNm r.1 = true) (h2 : isNm r.2 = true) : RoadLike (encP r) := .inl ⟨[r.1, r.2], by simp [h1, h2], by show 2 ≤ 3; decide, .inl rfl⟩
/-- roads, all but one of two names -/
theorem roads_sh {ds : List PyData} (h : ∀ r ∈ ds, RoadLike r) : Shs ds 1 27 := shs fun d hd => (h d hd).sh
structure Ob (K : PySem.W.Frag) (ex : List Addr) (H : Hp) (v : V) (d : PyData) (n m : Nat) : Prop where
  db : Db K ex H v d
  sh : Sh d n m
theorem Ob.grow {K : PySem.W.Frag} {ex : List Addr} {H H' : Hp} {v : V} {d : PyData} {n m : Nat} (h : Ob K ex H v d n m) (g : Grow ex H H') : Ob K ex H' v d n m := ⟨h.db.grow g, h.sh⟩
/-- what stands in the roads' place -/
def RoadsLike (d : PyData) : Prop := ∃ ds, d = .list ds ∧ ds.length ≤ 100 ∧ ∀ r ∈ ds, RoadLike r
theorem flat_of {d1 d2 : PyData} (h : RoadsLike d2) : RoadsFlat (.tuple [d1, d2]) := by
  obtain ⟨ds, rfl, _, h⟩ := h
  rintro a b e r hr
  injection e with e
  injection e with _ e
  injection e with e _
  injection e with e
  subst e
  exact (h r hr).flat
theorem sh_two {d1 d2 : PyData} {n m1 m2 : Nat} (h1 : Sh d1 n m1) (h2 : Sh d2 n m2) : Sh (.tuple [d1, d2]) (n + 1) (m1 + m2 + 2) ∧ Sh (.list [d1, d2]) (n + 1) (m1 + m2 + 2) := by
  have s : PyData.showableAll [d1, d2] = true := by rw [PyData.showableAll, PyData.showableAll, h1.show_, h2.show_]; rfl
  have l : PyData.leavesShortAll 20 [d1, d2] = true := by rw [PyData.leavesShortAll, PyData.leavesShortAll, h1.leaves, h2.leaves]; rfl
  have d : PyData.depthAll [d1, d2] ≤ n := by
    rw [PyData.depthAll, PyData.depthAll]
    exact Nat.max_le.mpr ⟨h1.deep, Nat.max_le.mpr ⟨h2.deep, Nat.zero_le _⟩⟩
  have b : PyData.bulkAll [d1, d2] ≤ m1 + m2 + 2 := by
    rw [PyData.bulkAll, PyData.bulkAll, PyData.bulkAll]
    have := h1.bulk
    have := h2.bulk
    omega
  exact ⟨sh_tup s l d b, sh_lst s l d b⟩
theorem names_ob {K : PySem.W.Frag} {ex : List Addr} {A : Addr} {H : Hp} {zs : List Str} (n : A ∉ ex) (e : H A = some (.lst (zs.map V.str))) (h : zs.all isNm = true) (l : zs.length ≤ 101) : Ob K ex H (.ref A) (.list (zs.map PyData.str)) 5 909 := by
  have f := sh_strs h
  exact ⟨.lst n e (Dbs.strs zs), (sh_lst f.show_ f.leaves f.deep (Nat.le_trans (str_bulk h) (by omega))).mono (by decide) (Nat.le_refl _)⟩
theorem roads_ob {K : PySem.W.Frag} {ex : List Addr} {A : Addr} {H : Hp} {xs : List V} {ds : List PyData} (n : A ∉ ex) (e : H A = some (.lst xs)) (h : Dbs K ex H xs ds) (r : ∀ r ∈ ds, RoadLike r) (l : ds.length ≤ 100) : Ob K ex H (.ref A) (.list ds) 5 2800 := by
  have f := roads_sh r
  exact ⟨.lst n e h, (sh_lst f.show_ f.leaves f.deep (Nat.le_trans f.bulk (by omega))).mono (by decide) (Nat.le_refl _)⟩
/-- the drawn web as data -/
theorem prs_dbs {K : PySem.W.Frag} {ex : List Addr} {H : Hp} (X : ∀ a ∈ ex, ∃ xs, H a = some (.lst xs)) : ∀ {xs : List V} {rs : List (Str × Str)}, Prs H xs rs → Dbs K ex H xs (rs.map encP)
  | _, _, .nil => .nil
  | _, _, .cons h q => by
    refine .cons ?_ (prs_dbs X q)
    obtain ⟨o, e, d⟩ := id h
    refine .tup (fun z => ?_) h.seq (.cons (.str _) (.cons (.str _) .nil))
    obtain ⟨xs, e2⟩ := X _ z
    rw [e] at e2
    cases e2
theorem keepX {ex : List Addr} {p : Addr} {c : Int} {H H' : Hp} (X : ∀ a ∈ ex, ∃ xs, H a = some (.lst xs)) (g : Grow [p] H H') (t : Pot H' p c) : ∀ a ∈ ex, H' a ≠ none := fun a ha z => by
  by_cases e : a = p
  · subst e
    obtain ⟨x, y, k, e, _⟩ := t
    rw [e] at z
    cases z
  · obtain ⟨xs, e2⟩ := X a ha
    rw [g.lst (by simpa using e) e2] at z
    cases z
theorem sort_any (a b : Str) : ∃ x y, (x = a ∨ x = b) ∧ (y = a ∨ y = b) ∧ [a, b].mergeSort (PySem.W.dataLe false PyData.str) = [x, y] := by
  have p := List.mergeSort_perm [a, b] (PySem.W.dataLe false PyData.str)
  have l := p.length_eq
  generalize [a, b].mergeSort (PySem.W.dataLe false PyData.str) = s at p l
  match s, l with
  | [x, y], _ =>
    refine ⟨x, y, ?_, ?_, rfl⟩
    · have := p.mem_iff.mp (show x ∈ [x, y] by simp)
      simpa using this
    · have := p.mem_iff.mp (show y ∈ [x, y] by simp)
      simpa using this
theorem like_ins {ds : List PyData} {z : PyData} (h : ∀ r ∈ ds, RoadLike r) (hz : RoadLike z) (n : Nat) : ∀ r ∈ ds.take n ++ [z] ++ ds.drop n, RoadLike r := fun r hr => by
  rcases List.mem_append.mp hr with hr | hr
  · rcases List.mem_append.mp hr with hr | hr
    · exact h r (List.mem_of_mem_take hr)
    · rw [List.mem_singleton.mp hr]; exact hz
  · exact h r (List.mem_of_mem_drop hr)
theorem like_set {ds : List PyData} {z : PyData} (h : ∀ r ∈ ds, RoadLike r) (hz : RoadLike z) (n : Nat) : ∀ r ∈ ds.set n z, RoadLike r := fun r hr => by
  rcases List.mem_or_eq_of_mem_set hr with hr | rfl
  · exact h r hr
  · exact hz
theorem len_ins {α : Type} (ds : List α) (z : α) (n : Nat) : (ds.take n ++ [z] ++ ds.drop n).length = ds.length + 1 := by
  rw [List.length_append, List.length_append, List.length_take, List.length_drop, List.length_singleton]
  omega
theorem cut_one (xs : List V) (a : Nat) : cutV xs (some (a : Int)) (some ((a : Int) + 1)) = (xs.drop a).take 1 := by
  unfold cutV
  rw [show ((a : Int) + 1) = ((a + 1 : Nat) : Int) by omega, HT.sIx_nat, HT.sIx_nat]
  by_cases h : a ≤ xs.length
  · rw [Nat.min_eq_left h]
    by_cases h2 : a + 1 ≤ xs.length
    · rw [Nat.min_eq_left h2, show a + 1 - a = 1 by omega]
    · rw [Nat.min_eq_right (by omega), List.take_of_length_le (by rw [List.length_drop]; omega), List.take_of_length_le (by rw [List.length_drop]; omega)]
  · rw [Nat.min_eq_right (by omega), Nat.min_eq_right (by omega), List.drop_of_length_le (by omega), List.drop_of_length_le (by omega)]
    simp
theorem real_ob {K : PySem.W.Frag} {ex : List Addr} {A : Addr} {H : Hp} {xs : List V} {rs : List (Str × Str)} (n : A ∉ ex) (e : H A = some (.lst xs)) (h : Dbs K ex H xs (rs.map encP)) (r : ∀ r ∈ rs, isNm r.1 = true ∧ isNm r.2 = true) (l : rs.length ≤ 100) : Ob K ex H (.ref A) (.list (rs.map encP)) 5 1900 := by
  have f : Shs (rs.map encP) 1 18 := shs fun d hd => by
    obtain ⟨q, hq, rfl⟩ := List.mem_map.mp hd
    have n : [q.1, q.2].all isNm = true := by simp [(r q hq).1, (r q hq).2]
    have f := sh_strs n
    exact sh_tup f.show_ f.leaves f.deep (str_bulk n)
  exact ⟨.lst n e h, (sh_lst f.show_ f.leaves f.deep (Nat.le_trans f.bulk (by rw [List.length_map]; omega))).mono (by decide) (Nat.le_refl _)⟩
mutual
/-- fewer addresses are asked to be apart -/
theorem db_less {K : PySem.W.Frag} {ex ex' : List Addr} {H : Hp} (s : ∀ a ∈ ex', a ∈ ex) : ∀ {v : V} {d : PyData}, Db K ex H v d → Db K ex' H v d
  | _, _, .non => .non
  | _, _, .bl b => .bl b
  | _, _, .int i => .int i
  | _, _, .str x => .str x
  | _, _, .lst n e h => .lst (fun z => n (s _ z)) e (dbs_less s h)
  | _, _, .tup n e h => .tup (fun z => n (s _ z)) e (dbs_less s h)
  | _, _, .dic n e h => .dic (fun z => n (s _ z)) e (dbk_less s h)
theorem dbs_less {K : PySem.W.Frag} {ex ex' : List Addr} {H : Hp} (s : ∀ a ∈ ex', a ∈ ex) : ∀ {vs : List V} {ds : List PyData}, Dbs K ex H vs ds → Dbs K ex' H vs ds
  | _, _, .nil => .nil
  | _, _, .cons h t => .cons (db_less s h) (dbs_less s t)
theorem dbk_less {K : PySem.W.Frag} {ex ex' : List Addr} {H : Hp} (s : ∀ a ∈ ex', a ∈ ex) : ∀ {vs : List (Key × V)} {ds : List (PyData × PyData)}, Dbk K ex H vs ds → Dbk K ex' H vs ds
  | _, _, .nil => .nil
  | _, _, .cons h n t => .cons (db_less s h) n (dbk_less s t)
end
theorem ixN_at {n j : Nat} (hj : j < n) : ixN n (j : Int) = some j := by
  have h1 : (0 : Int) ≤ (j : Nat) := Int.natCast_nonneg j
  have h2 : ((j : Nat) : Int) < (n : Nat) := Int.ofNat_lt.mpr hj
  simp [ixN, h1, h2]

end Lw

namespace Lw
open PySem PySem.Spec PyProof.Rows L2 GxR Gx
section
variable {P : Program} {w : World} {K : PySem.W.Frag} {mg : Str → Option Value} {base : Heap}
/-! ### _law_bent: a web with one thing otherwise -/
def spBent (K : PySem.W.Frag) : Sp := fun vs H Q _ => ∃ (p W : Addr) (ex : List Addr) (c : Int) (hands : List Str) (roads : List (Str × Str)), vs = [.ref p, .ref W] ∧ Pot H p c ∧ c ≤ 2 ^ 18 ∧ p ∈ ex ∧ (∀ a ∈ ex, ∃ xs, H a = some (.lst xs)) ∧ WebAt H W hands roads ∧ WebOk hands roads ∧ hands.length ≤ 100 ∧
  ∀ (x : V) (H' : Hp) (d : PyData), Grow [p] H H' → Ob K ex H' x d 6 4000 → RoadsFlat d → Pot H' p (c + 200) → Q x H'
theorem ok_law_bent {f c : Addr} {fd : FuncData} (B : Nb mg) (D : DefIs K "_law_bent" "_law_bent" st_law_bent f fd (.ref c)) (c_law_dip : Callee P w K mg base CX0 3 "_law_dip" ["pot", "many"] (spDip K)) (c_law_odd : Callee P w K mg base CX0 4 "_law_odd" ["pot"] (spOdd K)) : FnG P w K mg base CX0 5 f fd ["pot", "web"] (spBent K) := by
  refine D.ok0 (k := 4) sc_law_bent (fun vs H Q E h => ?_) (fun A outer s H vs Q E g hr h => ?_)
  · obtain ⟨p, W, ex, c, hands, roads, rfl, _⟩ := h
    rfl
  obtain ⟨p, W, ex, c, hands, roads, rfl, t, hc, pex, XL, hW, wo, h100, q⟩ := h
  have mp : ∀ {A : Addr}, A ∉ ex → A ∉ [p] := fun m z => m (by rw [List.mem_singleton.mp z]; exact pex)
  have gx : ∀ {Ha Hb : Hp}, Grow [p] Ha Hb → Grow ex Ha Hb := fun g => g.mono fun a ha => by rw [List.mem_singleton.mp ha]; exact pex
  have X : ∀ a ∈ ex, H a ≠ none := keepX XL (Grow.refl _ _) t
  obtain ⟨I, hI⟩ : ∃ I : L2.St → Hp → Prop, I = fun σ H' => ∃ (vh vr : V) (dh dr : PyData) (mh mr : Nat) (x4 x5 x6 x7 x8 x9 x10 : Option V), σ = [some (.ref p), some (.ref W), some vh, some vr, x4, x5, x6, x7, x8, x9, x10] ∧ Grow [p] H H' ∧ Ob K ex H' vh dh 5 mh ∧ Ob K ex H' vr dr 5 mr ∧ mh + mr ≤ 3900 ∧ RoadsLike dr ∧ Pot H' p (c + 200) := ⟨_, rfl⟩
  refine ⟨_,
      (pss_cons (ps_par (i := 2) (j := 3) rfl sc_law_bent.nd rfl rfl (by decide) rfl rfl (pa_cons (pe_callTy call_list_of rfl B.n_list (by decide +kernel) (pa_cons (pe_ix ix_tup (pv 1) pe_int (fun _ _ => rfl)) pa_nil)) (pa_cons (pe_callTy call_list_of rfl B.n_list (by decide +kernel) (pa_cons (pe_ix ix_tup (pv 1) pe_int (fun _ _ => rfl)) pa_nil)) pa_nil)) rfl)
      (pss_cons (ps_asg (pe_tup (pa_cons (pe_ix ix_list (pv 2) (pe_g c_law_dip g (hr.mono (by decide)) pass0 (pa_cons (pv 0) (pa_cons (pe_callB call_len_seq rfl B.n_len PySem.boot_len (pa_cons (pv 2) pa_nil)) pa_nil))) (fun _ _ => rfl)) (pa_cons (pe_ix ix_list (pv 2) (pe_g c_law_dip g (hr.mono (by decide)) pass0 (pa_cons (pv 0) (pa_cons (pe_callB call_len_seq rfl B.n_len PySem.boot_len (pa_cons (pv 2) pa_nil)) pa_nil))) (fun _ _ => rfl)) pa_nil))) (pg_tup rfl (pgs_cons (pg_name (i := 4) sc_law_bent.nd rfl (.inr rfl)) (pgs_cons (pg_name (i := 5) sc_law_bent.nd rfl (.inl rfl)) pgs_nil))))
      (pss_cons (ps_set (i := 6) sc_law_bent.nd rfl (.inl rfl) (pe_g c_law_dip g (hr.mono (by decide)) pass0 (pa_cons (pv 0) (pa_cons (pe_op op_add (pe_callB call_len_seq rfl B.n_len PySem.boot_len (pa_cons (pv 3) pa_nil)) pe_int) pa_nil))))
      (pss_cons (ps_set (i := 7) sc_law_bent.nd rfl (.inl rfl) (pe_g c_law_dip g (hr.mono (by decide)) pass0 (pa_cons (pv 0) (pa_cons pe_int pa_nil))))
      (pss_cut I (ps_if (pt_cmpR (op_lt) (pv 7) pe_int (nomark _)) (
        (pss_one (ps_expr (pe_bm PySem.F.plainAttrs_list PySem.F.slot_list_insert PySem.F.type_list_insert mt_insert (pv 3) (pa_cons (pv 6) (pa_cons (pe_ix ix_list (pe_lst (pa_cons (pe_tup (pa_cons (pv 4) (pa_cons (pv 5) pa_nil))) (pa_cons (pe_callTy call_tuple_of rfl B.n_tuple (by decide +kernel) (pa_cons (pe_callB (cr_sortG (val := V.str) (enc := PyData.str) hr.units) rfl B.n_sorted (by decide +kernel) (pa_cons (pe_lst (pa_cons (pv 4) (pa_cons (pv 5) pa_nil))) pa_nil)) pa_nil)) (pa_cons (pe_tup (pa_cons (pv 4) (pa_cons pe_str pa_nil))) pa_nil)))) (pv 7) (fun _ _ => rfl)) pa_nil)))))) (
        (pss_one (ps_if (pt_cmpR (op_lt) (pv 7) pe_int (nomark _)) (
          (pss_cons (ps_set (i := 8) sc_law_bent.nd rfl (.inl rfl) (pe_slice sl_list (pv 3) (po_some (pv 6)) (po_some (pe_op op_add (pv 6) pe_int))))
          (pss_one (ps_set (i := 3) sc_law_bent.nd rfl (.inl rfl) (pe_ix ix_list (pe_lst (pa_cons (pe_op op_cat (pe_slice sl_list (pv 3) po_none (po_some (pv 6))) (pe_slice sl_list (pv 3) (po_some (pe_op op_add (pv 6) pe_int)) po_none)) (pa_cons (pe_op op_cat (pe_op op_cat (pe_slice sl_list (pv 3) po_none (po_some (pv 6))) (pv 8)) (pe_slice sl_list (pv 3) (po_some (pv 6)) po_none)) pa_nil))) (pe_op op_sub (pv 7) pe_int) (fun _ _ => rfl)))))) (
          (pss_one (ps_if (PW.pt (pw_and (pt_cmpR (op_lt) (pv 7) pe_int (nomark _)) (pw_and1 (pt_cmpR (op_lt) (pv 6) (pe_callB call_len_seq rfl B.n_len PySem.boot_len (pa_cons (pv 3) pa_nil)) (nomark _))))) (
            (pss_cons (ps_set (i := 9) sc_law_bent.nd rfl (.inl rfl) (pe_ix ix_list (pv 3) (pv 6) (fun _ _ => rfl)))
            (pss_one (ps_asg (pe_ix ix_list (pe_lst (pa_cons (pe_revT (pv 9)) (pa_cons (pe_callTy call_tuple_of rfl B.n_tuple (by decide +kernel) (pa_cons (pe_callB (cr_sortG (val := V.str) (enc := PyData.str) hr.units) rfl B.n_sorted (by decide +kernel) (pa_cons (pe_lst (pa_cons (pv 4) (pa_cons (pv 5) pa_nil))) pa_nil)) pa_nil)) (pa_cons (pe_callTy call_list_of rfl B.n_list (by decide +kernel) (pa_cons (pv 9) pa_nil)) pa_nil)))) (pe_op op_sub (pv 7) pe_int) (fun _ _ => rfl)) (pg_sub (pv 3) (pv 6) set_list))))) (
            (pss_one (ps_if (pt_cmpR (op_lt) (pv 7) pe_int (nomark _)) (
              (pss_one (ps_set (i := 2) sc_law_bent.nd rfl (.inl rfl) (pe_ix ix_list (pe_lst (pa_cons (pe_op op_cat (pv 2) (pe_lst (pa_cons pe_str pa_nil))) (pa_cons (pe_slice sl_list (pv 2) (po_some pe_int) po_none) (pa_cons (pe_op op_cat (pv 2) (pe_lst (pa_cons (pv 4) pa_nil))) pa_nil)))) (pe_op op_sub (pv 7) pe_int) (fun _ _ => rfl))))) (
              (pss_one (ps_if (pt_cmpR (op_eq) (pv 7) pe_int (nomark _)) (
                (pss_one (ps_setLc (i := 2) (own := [("hand", 10)]) (tt := tYes) (g := (gName 10)) rfl sc_law_bent.nd rfl rfl (sw_true rfl rfl rfl (by decide +kernel)) (pi_list (pv 2)) (blkOk_by (N := N_law_bent) (sc := defScope st_law_bent) (by decide +kernel)) (fun _ _ _ _ _ => (pg_name (i := 10) sc_law_bent.nd rfl (.inl rfl))) (fun _ _ _ _ _ => pts_nil) (fun _ _ _ _ _ => pe_to (pe_ifExp (pt_cmpR (op_ne) (pv 10) (pv 4) (nomark _)) (pv 10) (pe_g c_law_odd g (hr.mono (by decide)) pass0 (pa_cons (pv 0) pa_nil))))))) (
                (pss_one (ps_if (pt_cmpR (op_eq) (pv 7) pe_int (nomark _)) (
                  (pss_one (ps_ret (pe_lst (pa_cons (pv 2) (pa_cons (pv 3) pa_nil)))))) (
                  (pss_one (ps_if (pt_cmpR (op_eq) (pv 7) pe_int (nomark _)) (
                    (pss_one (ps_ret (pe_tup (pa_cons (pe_callTy call_tuple_of rfl B.n_tuple (by decide +kernel) (pa_cons (pv 2) pa_nil)) (pa_cons (pv 3) pa_nil)))))) (
                    (pss_one (ps_if (PW.pt (pw_and (pt_cmpR (op_gt) (pv 7) pe_int (nomark _)) (pw_and1 (pt_cmpR (op_lt) (pv 6) (pe_callB call_len_seq rfl B.n_len PySem.boot_len (pa_cons (pv 3) pa_nil)) (nomark _))))) (
                      (pss_one (ps_asg (pe_ix ix_list (pe_lst (pa_cons (pe_op op_catA (pe_ix ix_list (pv 3) (pv 6) (fun _ _ => rfl)) (pe_tup (pa_cons pe_str pa_nil))) (pa_cons (pe_slice sl_tupA (pe_ix ix_list (pv 3) (pv 6) (fun _ _ => rfl)) po_none (po_some pe_int)) (pa_cons pe_str pa_nil)))) (pe_op op_sub (pv 7) pe_int) (fun _ _ => rfl)) (pg_sub (pv 3) (pv 6) set_list)))) pss_nil))))))))))))))))))))))
      (pss_one (ps_ret (pe_tup (pa_cons (pv 2) (pa_cons (pv 3) pa_nil)))))))))), ?_⟩
  have mk : ∀ {H' : Hp} (vh vr : V) (dh dr : PyData) (mh mr : Nat) (x4 x5 x6 x7 x8 x9 x10 : Option V), Grow [p] H H' → Ob K ex H' vh dh 5 mh → Ob K ex H' vr dr 5 mr → mh + mr ≤ 3900 → RoadsLike dr → Pot H' p (c + 200) → I [some (.ref p), some (.ref W), some vh, some vr, x4, x5, x6, x7, x8, x9, x10] H' := fun vh vr dh dr mh mr x4 x5 x6 x7 x8 x9 x10 h1 h2 h3 h4 h5 h6 => by
    rw [hI]
    exact ⟨vh, vr, dh, dr, mh, mr, _, _, _, _, _, _, _, rfl, h1, h2, h3, h4, h5, h6⟩
  obtain ⟨hs, rs, eW, eh, xs, er, tx⟩ := id hW
  have many := wo.many
  have dx := prs_dbs (K := K) XL tx
  have lx : xs.length = roads.length := tx.length
  have nmH : ∀ z ∈ hands, isNm z = true := fun z hz => List.all_eq_true.mp wo.nm z hz
  have rl : ∀ r ∈ roads.map encP, RoadLike r := fun r hr => by
    obtain ⟨r2, hr2, rfl⟩ := List.mem_map.mp hr
    exact road_enc (nmH _ (wo.ends r2 hr2).1) (nmH _ (wo.ends r2 hr2).2.1)
  refine ⟨.ref W, rfl, W, _, 0, .ref hs, rfl, rfl, .inl (.inl eW), rfl, hs, _, rfl, .inl (.inl (.inl eh)), fun A1 n1 => ?_⟩
  obtain ⟨H1, q1, g1, m1, eA1, t1, X⟩ := lay2 (o := .lst (hands.map V.str)) n1 t X
  rw [q1]
  have fA1 : Fresh H A1 := fresh_none n1
  refine ⟨.ref W, rfl, W, _, 1, .ref rs, rfl, rfl, .inl (.inl (g1.tup (by simp) eW)), rfl, rs, xs, rfl, .inl (.inl (.inl (g1.lst (by simp) er))), fun A2 n2 => ⟨_, _, rfl, ?_⟩⟩
  obtain ⟨H2, q2, g2, m2, eA2, t2, X⟩ := lay2 (o := .lst xs) n2 t1 X
  rw [q2]
  have fA2 : Fresh H A2 := g1.fresh0 n2
  have A12 : A1 ≠ A2 := ne_of_none eA1 n2
  replace eA1 := g2.lst (by simp) eA1
  have G : Grow [p] H H2 := (g1.trans g2).any
  have h0 : 0 < hands.length := List.length_pos_iff.mpr wo.ne
  refine ⟨.ref A1, rfl, .ref p, rfl, .ref A1, rfl, A1, _, rfl, .inl (.inl (.inl eA1)), p, _, c, rfl, by rw [List.length_map]; omega, by rw [List.length_map]; omega, by omega, t2, fun v1 H3 v10 v11 g3 t3 => ?_⟩
  rw [List.length_map] at v11
  obtain ⟨j1, rfl⟩ : ∃ j : Nat, v1 = j := ⟨v1.toNat, by omega⟩
  have l1 : j1 < hands.length := by omega
  replace eA1 := g3.lst (mp m1) eA1
  replace eA2 := g3.lst (mp m2) eA2
  refine ⟨A1, _, j1, .str hands[j1], rfl, rfl, .inl (.inl eA1), atI_nat (by rw [List.getElem?_map, List.getElem?_eq_getElem l1]; rfl), ?_⟩
  refine ⟨.ref A1, rfl, .ref p, rfl, .ref A1, rfl, A1, _, rfl, .inl (.inl (.inl eA1)), p, _, _, rfl, by rw [List.length_map]; omega, by rw [List.length_map]; omega, by omega, t3, fun v2 H4 v20 v21 g4 t4 => ?_⟩
  rw [List.length_map] at v21
  obtain ⟨j2, rfl⟩ : ∃ j : Nat, v2 = j := ⟨v2.toNat, by omega⟩
  have l2 : j2 < hands.length := by omega
  replace eA1 := g4.lst (mp m1) eA1
  replace eA2 := g4.lst (mp m2) eA2
  refine ⟨A1, _, j2, .str hands[j2], rfl, rfl, .inl (.inl eA1), atI_nat (by rw [List.getElem?_map, List.getElem?_eq_getElem l2]; rfl), ?_⟩
  have no := nmH _ (List.getElem_mem l1)
  have nt := nmH _ (List.getElem_mem l2)
  generalize hands[j1] = one at no ⊢
  generalize hands[j2] = other at nt ⊢
  replace X := keepX XL ((G.trans g3).trans g4) t4
  refine ⟨by show 2 ≤ sizeLine; decide, fun T0 nT0 => ?_⟩
  obtain ⟨H4', q4', g4', m4', e4', t4', X⟩ := lay2 (o := .tup [.str one, .str other]) nT0 t4 X
  rw [q4']
  replace eA1 := g4'.lst (by simp) eA1
  replace eA2 := g4'.lst (by simp) eA2
  refine ⟨T0, _, rfl, .inl (.inl e4'), rfl, _, _, rfl, _, _, rfl, rfl, ?_⟩
  refine ⟨.ref p, rfl, .ref A2, rfl, A2, _, rfl, .inl (.inl (.inl eA2)), _, _, rfl, rfl, p, _, _, rfl, by omega, by omega, by omega, t4', fun v3 H5 v30 v31 g5 t5 => ?_⟩
  obtain ⟨at_, rfl⟩ : ∃ j : Nat, v3 = j := ⟨v3.toNat, by omega⟩
  replace eA1 := g5.lst (mp m1) eA1
  replace eA2 := g5.lst (mp m2) eA2
  refine ⟨.ref p, rfl, p, 17, _, rfl, by decide, by decide, by omega, t5, fun way H6 w0 w1 g6 t6 => ?_⟩
  replace eA1 := g6.lst (mp m1) eA1
  replace eA2 := g6.lst (mp m2) eA2
  replace G := ((((G.trans g3).trans g4).trans g4'.any).trans g5).trans g6
  replace X := keepX XL G t6
  clear g1 g2 g3 g4 g5 g6 g4' q4' t4' e4' m4' nT0 q1 q2 t1 t2 t3 t4 t5 n1 n2
  have obH : ∀ {H' : Hp}, H' A1 = some (.lst (hands.map V.str)) → Ob K ex H' (.ref A1) (.list (hands.map PyData.str)) 5 909 := fun e => names_ob m1 e wo.nm (by omega)
  have obR : ∀ {H' : Hp}, Grow [p] H H' → H' A2 = some (.lst xs) → Ob K ex H' (.ref A2) (.list (roads.map encP)) 5 2800 := fun g e => roads_ob m2 e (dx.grow (gx g)) rl (by rw [List.length_map]; omega)
  have rdl : RoadsLike (.list (roads.map encP)) := ⟨_, rfl, by rw [List.length_map]; omega, rl⟩
  replace t6 := t6.mono (show c + 1 + 1 + 1 + 1 ≤ c + 10 by omega)
  refine ⟨?_, fun σ H7 h7 => ?_⟩
  · -- the sorted pair, laid
    have pair : ∀ (x y : Str), (x = one ∨ x = other) → (y = one ∨ y = other) → [x, y].all isNm = true := fun x y hx hy => by
      have h1 : isNm x = true := by rcases hx with rfl | rfl <;> assumption
      have h2 : isNm y = true := by rcases hy with rfl | rfl <;> assumption
      simp [h1, h2]
    refine ⟨.int way, rfl, _, _, rfl, rfl, _, rfl, ?_⟩
    by_cases c1 : way < 3
    · rw [decide_eq_true c1]
      refine iteT ?_
      refine ⟨.ref A2, rfl, tyl eA2, .int at_, rfl, .str one, rfl, .str other, rfl, by show 2 ≤ sizeLine; decide, fun T1 n1 => ?_⟩
      obtain ⟨H7, q7, g7, m7, e7, t7, X⟩ := lay2 (o := .tup [.str one, .str other]) n1 t6 X
      rw [q7]
      replace eA2 := g7.lst (by simp) eA2
      replace eA1 := g7.lst (by simp) eA1
      refine ⟨.str one, rfl, .str other, rfl, by show 2 ≤ sizeLine; decide, fun L nL => ?_⟩
      obtain ⟨H8, q8, g8, m8, e8, t8, X⟩ := lay2 (o := .lst [.str one, .str other]) nL t7 X
      rw [q8]
      replace eA2 := g8.lst (by simp) eA2
      replace eA1 := g8.lst (by simp) eA1
      refine ⟨L, [one, other], rfl, .inl (.inl e8), fun z hz => ⟨.str z, by show 0 ≤ 60; decide⟩, alike_strs _, sortable_strs _, by show 2 ≤ sizeLine; decide, fun S nS => ?_⟩
      obtain ⟨x, y, hx, hy, es⟩ := sort_any one other
      rw [es]
      obtain ⟨H9, q9, g9, m9, e9, t9, X⟩ := lay2 (o := .lst ([x, y].map V.str)) nS t8 X
      rw [q9]
      replace eA2 := g9.lst (by simp) eA2
      replace eA1 := g9.lst (by simp) eA1
      refine ⟨S, _, rfl, .inl ⟨.inl (.inl e9), fun T2 nT2 => ?_⟩⟩
      obtain ⟨H10, q10, g10, m10, e10, t10, X⟩ := lay2 (o := .tup ([x, y].map V.str)) nT2 t9 X
      rw [q10]
      replace eA2 := g10.lst (by simp) eA2
      replace eA1 := g10.lst (by simp) eA1
      refine ⟨.str one, rfl, by show 2 ≤ sizeLine; decide, fun T3 nT3 => ?_⟩
      obtain ⟨H11, q11, g11, m11, e11, t11, X⟩ := lay2 (o := .tup ([one, "zzz"].map V.str)) nT3 t10 X
      rw [show upd H10 T3 (.tup [.str one, .str "zzz"]) = H11 from q11]
      replace eA2 := g11.lst (by simp) eA2
      replace eA1 := g11.lst (by simp) eA1
      refine ⟨by show 3 ≤ sizeLine; decide, fun L3 nL3 => ?_⟩
      obtain ⟨H12, q12, g12, m12, e12, t12, X⟩ := lay2 (o := .lst [.ref T1, .ref T2, .ref T3]) nL3 t11 X
      rw [q12]
      replace eA2 := g12.lst (by simp) eA2
      replace eA1 := g12.lst (by simp) eA1
      have eT1 := (((((g8.trans g9).trans g10).trans g11).trans g12)).tup (by simp) e7
      have eT2 := ((g11.trans g12)).tup (by simp) e10
      have eT3 := g12.tup (by simp) e11
      have g612 := ((((g7.trans g8).trans g9).trans g10).trans g11).trans g12
      obtain ⟨T, zs, hT, eT, mT, nz, l2z⟩ : ∃ (T : Addr) (zs : List Str), atI [V.ref T1, .ref T2, .ref T3] way = some (.ref T) ∧ H12 T = some (.tup (zs.map V.str)) ∧ T ∉ ex ∧ zs.all isNm = true ∧ zs.length = 2 := by
        obtain h | h | h : way = 0 ∨ way = 1 ∨ way = 2 := by omega
        · subst h; exact ⟨T1, [one, other], rfl, eT1, m7, pair _ _ (.inl rfl) (.inr rfl), rfl⟩
        · subst h; exact ⟨T2, [x, y], rfl, eT2, m10, pair _ _ hx hy, rfl⟩
        · subst h; exact ⟨T3, [one, "zzz"], rfl, eT3, m11, by simp [no]; decide +kernel, rfl⟩
      refine ⟨.int way, rfl, L3, _, way, .ref T, rfl, rfl, .inl (.inl e12), hT, A2, xs, at_, .ref T, rfl, rfl, eA2, by unfold sizeLine; omega, by omega, by omega, ?_⟩
      have TA : T ≠ A2 := ne_of eT eA2 (by simp)
      have gA : Grow [p] H (upd H12 A2 (.lst (xs.take (at_ : Int).toNat ++ [.ref T] ++ xs.drop (at_ : Int).toNat))) := (G.trans g612.any).put fA2 eA2 (fun ps z => by cases z)
      have tA : Pot (upd H12 A2 (.lst (xs.take (at_ : Int).toNat ++ [.ref T] ++ xs.drop (at_ : Int).toNat))) p (c + 10) := t12.at (fun z => m2 (by rw [← z]; exact pex))
      have dT : Db K ex (upd H12 A2 (.lst (xs.take (at_ : Int).toNat ++ [.ref T] ++ xs.drop (at_ : Int).toNat))) (.ref T) (.tuple (zs.map PyData.str)) := .tup mT (.inl (.inl (by rw [upd_ne TA]; exact eT))) (Dbs.strs zs)
      have D := dx.grow (gx gA)
      refine mk _ _ _ (.list ((roads.map encP).take (at_ : Int).toNat ++ [.tuple (zs.map PyData.str)] ++ (roads.map encP).drop (at_ : Int).toNat)) _ _ _ _ _ _ _ _ _ gA (obH (by rw [upd_ne A12]; exact eA1)) (roads_ob m2 upd_same (((D.take _).app (.cons dT .nil)).app (D.drop _)) ?_ ?_) (by decide) ⟨_, rfl, ?_, ?_⟩ (tA.mono (by omega))
      · exact like_ins rl (.inl ⟨zs, nz, by omega, .inl rfl⟩) _
      · rw [len_ins, List.length_map]; omega
      · rw [len_ins, List.length_map]; omega
      · exact like_ins rl (.inl ⟨zs, nz, by omega, .inl rfl⟩) _
    rw [decide_eq_false c1]
    refine iteF ⟨.int way, rfl, _, _, rfl, rfl, _, rfl, ?_⟩
    by_cases c2 : way < 5
    · rw [decide_eq_true c2]
      refine iteT ?_
      refine ⟨.ref A2, rfl, .int at_, rfl, _, rfl, .int at_, rfl, _, _, rfl, rfl, _, rfl, A2, xs, rfl, .inl (.inl eA2), fun B1 nB1 => ?_⟩
      rw [cut_one]
      obtain ⟨H7, q7, g7, m7, e7, t7, X⟩ := lay2 (o := .lst ((xs.drop at_).take 1)) nB1 t6 X
      rw [q7]
      replace eA2 := g7.lst (by simp) eA2
      replace eA1 := g7.lst (by simp) eA1
      refine ⟨.ref A2, rfl, .int at_, rfl, _, rfl, A2, xs, rfl, .inl (.inl eA2), fun B2 nB2 => ?_⟩
      rw [cut_hi]
      obtain ⟨H8, q8, g8, m8, e8, t8, X⟩ := lay2 (o := .lst (xs.take at_)) nB2 t7 X
      rw [q8]
      replace eA2 := g8.lst (by simp) eA2
      replace eA1 := g8.lst (by simp) eA1
      refine ⟨.ref A2, rfl, .int at_, rfl, _, _, rfl, rfl, _, rfl, A2, xs, rfl, .inl (.inl eA2), fun B3 nB3 => ?_⟩
      rw [cut_from]
      obtain ⟨H9, q9, g9, m9, e9, t9, X⟩ := lay2 (o := .lst (xs.drop (at_ + 1))) nB3 t8 X
      rw [q9]
      replace eA2 := g9.lst (by simp) eA2
      replace eA1 := g9.lst (by simp) eA1
      refine ⟨B2, B3, _, _, rfl, rfl, g9.lst (by simp) e8, e9, by rw [List.length_take, List.length_drop, sizeLine_eq]; omega, fun B4 nB4 => ?_⟩
      obtain ⟨H10, q10, g10, m10, e10, t10, X⟩ := lay2 (o := .lst (xs.take at_ ++ xs.drop (at_ + 1))) nB4 t9 X
      rw [q10]
      replace eA2 := g10.lst (by simp) eA2
      replace eA1 := g10.lst (by simp) eA1
      refine ⟨.ref A2, rfl, .int at_, rfl, _, rfl, A2, xs, rfl, .inl (.inl eA2), fun B5 nB5 => ?_⟩
      rw [cut_hi]
      obtain ⟨H11, q11, g11, m11, e11, t11, X⟩ := lay2 (o := .lst (xs.take at_)) nB5 t10 X
      rw [q11]
      replace eA2 := g11.lst (by simp) eA2
      replace eA1 := g11.lst (by simp) eA1
      have e7' := (((g8.trans g9).trans g10).trans g11).lst (by simp) e7
      refine ⟨.ref B1, rfl, B5, B1, _, _, rfl, rfl, e11, e7', by rw [List.length_take, List.length_take, List.length_drop, sizeLine_eq]; omega, fun B6 nB6 => ?_⟩
      obtain ⟨H12, q12, g12, m12, e12, t12, X⟩ := lay2 (o := .lst (xs.take at_ ++ (xs.drop at_).take 1)) nB6 t11 X
      rw [q12]
      replace eA2 := g12.lst (by simp) eA2
      replace eA1 := g12.lst (by simp) eA1
      refine ⟨.ref A2, rfl, .int at_, rfl, _, rfl, A2, xs, rfl, .inl (.inl eA2), fun B7 nB7 => ?_⟩
      rw [cut_lo]
      obtain ⟨H13, q13, g13, m13, e13, t13, X⟩ := lay2 (o := .lst (xs.drop at_)) nB7 t12 X
      rw [q13]
      replace eA2 := g13.lst (by simp) eA2
      replace eA1 := g13.lst (by simp) eA1
      refine ⟨B6, B7, _, _, rfl, rfl, g13.lst (by simp) e12, e13, by rw [List.length_append, List.length_take, List.length_take, List.length_drop, sizeLine_eq]; omega, fun B8 nB8 => ?_⟩
      obtain ⟨H14, q14, g14, m14, e14, t14, X⟩ := lay2 (o := .lst (xs.take at_ ++ (xs.drop at_).take 1 ++ xs.drop at_)) nB8 t13 X
      rw [q14]
      replace eA2 := g14.lst (by simp) eA2
      replace eA1 := g14.lst (by simp) eA1
      refine ⟨by show 2 ≤ sizeLine; decide, fun B9 nB9 => ?_⟩
      obtain ⟨H15, q15, g15, m15, e15, t15, X⟩ := lay2 (o := .lst [.ref B4, .ref B8]) nB9 t14 X
      rw [q15]
      replace eA2 := g15.lst (by simp) eA2
      replace eA1 := g15.lst (by simp) eA1
      have g715 := (((((((g7.trans g8).trans g9).trans g10).trans g11).trans g12).trans g13).trans g14).trans g15
      have G15 : Grow [p] H H15 := G.trans g715.any
      have D := dx.grow (gx G15)
      have e4 := ((((g11.trans g12).trans g13).trans g14).trans g15).lst (by simp) e10
      have e8' := g15.lst (by simp) e14
      have rdrop : ∀ n, ∀ r ∈ (roads.map encP).drop n, RoadLike r := fun n r hr => rl r (List.mem_of_mem_drop hr)
      have rtake : ∀ n, ∀ r ∈ (roads.map encP).take n, RoadLike r := fun n r hr => rl r (List.mem_of_mem_take hr)
      refine ⟨.int way, rfl, _, _, rfl, rfl, ?_⟩
      obtain h | h : way = 3 ∨ way = 4 := by omega
      · subst h
        refine ⟨B9, _, _, .ref B4, rfl, rfl, .inl (.inl e15), rfl, ?_⟩
        have r1 : ∀ r ∈ (roads.map encP).take at_ ++ (roads.map encP).drop (at_ + 1), RoadLike r := fun r hr => by
          rcases List.mem_append.mp hr with hr | hr
          · exact rtake _ r hr
          · exact rdrop _ r hr
        have l1 : ((roads.map encP).take at_ ++ (roads.map encP).drop (at_ + 1)).length ≤ 100 := by rw [List.length_append, List.length_take, List.length_drop, List.length_map]; omega
        exact mk _ _ _ _ _ _ _ _ _ _ _ _ _ G15 (obH eA1) (roads_ob m10 e4 ((D.take at_).app (D.drop (at_ + 1))) r1 l1) (by decide) ⟨_, rfl, l1, r1⟩ (t15.mono (by omega))
      · subst h
        refine ⟨B9, _, _, .ref B8, rfl, rfl, .inl (.inl e15), rfl, ?_⟩
        have r1 : ∀ r ∈ (roads.map encP).take at_ ++ ((roads.map encP).drop at_).take 1 ++ (roads.map encP).drop at_, RoadLike r := fun r hr => by
          rcases List.mem_append.mp hr with hr | hr
          · rcases List.mem_append.mp hr with hr | hr
            · exact rtake _ r hr
            · exact rdrop _ r (List.mem_of_mem_take hr)
          · exact rdrop _ r hr
        have l1 : ((roads.map encP).take at_ ++ ((roads.map encP).drop at_).take 1 ++ (roads.map encP).drop at_).length ≤ 100 := by rw [List.length_append, List.length_append, List.length_take, List.length_take, List.length_drop, List.length_map]; omega
        exact mk _ _ _ _ _ _ _ _ _ _ _ _ _ G15 (obH eA1) (roads_ob m14 e8' (((D.take at_).app ((D.drop at_).take 1)).app (D.drop at_)) r1 l1) (by decide) ⟨_, rfl, l1, r1⟩ (t15.mono (by omega))
    rw [decide_eq_false c2]
    refine iteF ⟨.int way, rfl, _, _, rfl, rfl, _, rfl, ?_⟩
    by_cases c3 : way < 8
    · rw [decide_eq_true c3]
      refine iteT ⟨.int at_, rfl, .ref A2, rfl, A2, _, rfl, .inl (.inl (.inl eA2)), _, _, rfl, rfl, _, rfl, ?_⟩
      by_cases c4 : at_ < xs.length
      · rw [decide_eq_true (show (at_ : Int) < (xs.length : Nat) by omega)]
        refine iteT ?_
        obtain ⟨a0, r, ea, er0, p0⟩ := tx.get (List.getElem?_eq_getElem c4)
        have ex0 : xs[at_]? = some (.ref a0) := by rw [List.getElem?_eq_getElem c4, ea]
        have rm := wo.ends r (List.mem_of_getElem? er0)
        have sq6 : SqT K H6 a0 [.str r.1, .str r.2] := (p0.grow G (by
          obtain ⟨o, e, _⟩ := p0
          obtain ⟨x, y, z, ep, _⟩ := t
          simpa using ne_of e ep (by simp))).seq
        refine ⟨.ref A2, rfl, .int at_, rfl, A2, _, at_, .ref a0, rfl, rfl, .inl (.inl eA2), atI_nat ex0, ?_⟩
        refine ⟨.ref a0, rfl, a0, .str r.1, .str r.2, rfl, sq6, fun T1 nT1 => ?_⟩
        obtain ⟨H7, q7, g7, m7, e7, t7, X⟩ := lay2 (o := .tup ([r.2, r.1].map V.str)) nT1 t6 X
        rw [show upd H6 T1 (.tup [.str r.2, .str r.1]) = H7 from q7]
        replace eA2 := g7.lst (by simp) eA2
        replace eA1 := g7.lst (by simp) eA1
        refine ⟨.str one, rfl, .str other, rfl, by show 2 ≤ sizeLine; decide, fun L nL => ?_⟩
        obtain ⟨H8, q8, g8, m8, e8, t8, X⟩ := lay2 (o := .lst [.str one, .str other]) nL t7 X
        rw [q8]
        replace eA2 := g8.lst (by simp) eA2
        replace eA1 := g8.lst (by simp) eA1
        refine ⟨L, [one, other], rfl, .inl (.inl e8), fun z hz => ⟨.str z, by show 0 ≤ 60; decide⟩, alike_strs _, sortable_strs _, by show 2 ≤ sizeLine; decide, fun S nS => ?_⟩
        obtain ⟨x, y, hx, hy, es⟩ := sort_any one other
        rw [es]
        obtain ⟨H9, q9, g9, m9, e9, t9, X⟩ := lay2 (o := .lst ([x, y].map V.str)) nS t8 X
        rw [q9]
        replace eA2 := g9.lst (by simp) eA2
        replace eA1 := g9.lst (by simp) eA1
        refine ⟨S, _, rfl, .inl ⟨.inl (.inl e9), fun T2 nT2 => ?_⟩⟩
        obtain ⟨H10, q10, g10, m10, e10, t10, X⟩ := lay2 (o := .tup ([x, y].map V.str)) nT2 t9 X
        rw [q10]
        replace eA2 := g10.lst (by simp) eA2
        replace eA1 := g10.lst (by simp) eA1
        have sq10 : SqT K H10 a0 [.str r.1, .str r.2] := (((g7.trans g8).trans g9).trans g10).sqt sq6
        refine ⟨.ref a0, rfl, a0, _, rfl, .inr sq10, fun T3 nT3 => ?_⟩
        have T3A : T3 ≠ A2 := (ne_of_none eA2 nT3).symm
        obtain ⟨H11, q11, g11, m11, e11, t11, X⟩ := lay2 (o := .lst ([r.1, r.2].map V.str)) nT3 t10 X
        rw [show upd H10 T3 (.lst [.str r.1, .str r.2]) = H11 from q11]
        replace eA2 := g11.lst (by simp) eA2
        replace eA1 := g11.lst (by simp) eA1
        refine ⟨by show 3 ≤ sizeLine; decide, fun LL nLL => ?_⟩
        obtain ⟨H12, q12, g12, m12, e12, t12, X⟩ := lay2 (o := .lst [.ref T1, .ref T2, .ref T3]) nLL t11 X
        rw [q12]
        replace eA2 := g12.lst (by simp) eA2
        replace eA1 := g12.lst (by simp) eA1
        have eT1 := (((((g8.trans g9).trans g10).trans g11).trans g12)).tup (by simp) e7
        have eT2 := ((g11.trans g12)).tup (by simp) e10
        have eT3 := g12.lst (by simp) e11
        have g612 := ((((g7.trans g8).trans g9).trans g10).trans g11).trans g12
        have nr : ∀ a b, (a = r.1 ∨ a = r.2) → (b = r.1 ∨ b = r.2) → [a, b].all isNm = true := fun a b ha hb => by
          have h1 : isNm a = true := by rcases ha with rfl | rfl <;> first | exact nmH _ rm.1 | exact nmH _ rm.2.1
          have h2 : isNm b = true := by rcases hb with rfl | rfl <;> first | exact nmH _ rm.1 | exact nmH _ rm.2.1
          simp [h1, h2]
        have el : ∃ (v : V) (rd : PyData), atI [V.ref T1, .ref T2, .ref T3] (way - 5) = some v ∧ (∀ H', H' = upd H12 A2 (.lst (xs.set at_ v)) → Db K ex H' v rd) ∧ RoadLike rd := by
          obtain h | h | h : way = 5 ∨ way = 6 ∨ way = 7 := by omega
          · subst h; exact ⟨.ref T1, .tuple ([r.2, r.1].map PyData.str), rfl, fun H' e => by rw [e]; exact .tup m7 (.inl (.inl (by rw [upd_ne (ne_of eT1 eA2 (by simp))]; exact eT1))) (Dbs.strs _), .inl ⟨_, nr _ _ (.inr rfl) (.inl rfl), by show 2 ≤ 3; decide, .inl rfl⟩⟩
          · subst h; exact ⟨.ref T2, .tuple ([x, y].map PyData.str), rfl, fun H' e => by rw [e]; exact .tup m10 (.inl (.inl (by rw [upd_ne (ne_of eT2 eA2 (by simp))]; exact eT2))) (Dbs.strs _), .inl ⟨_, pair _ _ hx hy, by show 2 ≤ 3; decide, .inl rfl⟩⟩
          · subst h; exact ⟨.ref T3, .list ([r.1, r.2].map PyData.str), rfl, fun H' e => by rw [e]; exact .lst m11 (by rw [upd_ne T3A]; exact eT3) (Dbs.strs _), .inl ⟨_, nr _ _ (.inl rfl) (.inr rfl), by show 2 ≤ 3; decide, .inr rfl⟩⟩
        obtain ⟨v, rd, hv, dv, rv⟩ := el
        have gA : Grow [p] H (upd H12 A2 (.lst (xs.set at_ v))) := (G.trans g612.any).put fA2 eA2 (fun ps z => by cases z)
        have tA : Pot (upd H12 A2 (.lst (xs.set at_ v))) p (c + 10) := t12.at (fun z => m2 (by rw [← z]; exact pex))
        refine ⟨.int way, rfl, _, _, rfl, rfl, LL, _, _, v, rfl, rfl, .inl (.inl e12), hv, .ref A2, rfl, .int at_, rfl, A2, xs, at_, at_, rfl, rfl, eA2, ixN_at c4, ?_⟩
        have D := (dx.grow (gx gA)).set at_ (dv _ rfl)
        have l1 : ((roads.map encP).set at_ rd).length ≤ 100 := by rw [List.length_set, List.length_map]; omega
        exact mk _ _ _ _ _ _ _ _ _ _ _ _ _ gA (obH (by rw [upd_ne A12]; exact eA1)) (roads_ob m2 upd_same D (like_set rl rv _) l1) (by decide) ⟨_, rfl, l1, like_set rl rv _⟩ (tA.mono (by omega))
      · rw [decide_eq_false (show ¬ (at_ : Int) < (xs.length : Nat) by omega)]
        refine iteF ?_
        refine ⟨.int way, rfl, _, _, rfl, rfl, _, rfl, ?_⟩
        rw [decide_eq_true (show way < 11 by omega)]
        refine iteT ?_
        refine ⟨.ref A1, rfl, by show 1 ≤ sizeLine; decide, fun B1 nB1 => ?_⟩
        obtain ⟨H7, q7, g7, m7, e7, t7, X⟩ := lay2 (o := .lst [.str "zzz"]) nB1 t6 X
        rw [q7]
        replace eA2 := g7.lst (by simp) eA2
        replace eA1 := g7.lst (by simp) eA1
        refine ⟨A1, B1, _, _, rfl, rfl, eA1, e7, by rw [List.length_map]; show _ + 1 ≤ sizeLine; rw [sizeLine_eq]; omega, fun B2 nB2 => ?_⟩
        obtain ⟨H8, q8, g8, m8, e8, t8, X⟩ := lay2 (o := .lst (hands.map V.str ++ [.str "zzz"])) nB2 t7 X
        rw [q8]
        replace eA2 := g8.lst (by simp) eA2
        replace eA1 := g8.lst (by simp) eA1
        refine ⟨.ref A1, rfl, _, rfl, A1, _, rfl, .inl (.inl eA1), fun B3 nB3 => ?_⟩
        obtain ⟨H9, q9, g9, m9, e9, t9, X⟩ := lay2 (o := .lst (cutV (hands.map V.str) (some 1) none)) nB3 t8 X
        rw [q9]
        replace eA2 := g9.lst (by simp) eA2
        replace eA1 := g9.lst (by simp) eA1
        refine ⟨.ref A1, rfl, .str one, rfl, by show 1 ≤ sizeLine; decide, fun B4 nB4 => ?_⟩
        obtain ⟨H10, q10, g10, m10, e10, t10, X⟩ := lay2 (o := .lst [.str one]) nB4 t9 X
        rw [q10]
        replace eA2 := g10.lst (by simp) eA2
        replace eA1 := g10.lst (by simp) eA1
        refine ⟨A1, B4, _, _, rfl, rfl, eA1, e10, by rw [List.length_map]; show _ + 1 ≤ sizeLine; rw [sizeLine_eq]; omega, fun B5 nB5 => ?_⟩
        obtain ⟨H11, q11, g11, m11, e11, t11, X⟩ := lay2 (o := .lst (hands.map V.str ++ [.str one])) nB5 t10 X
        rw [q11]
        replace eA2 := g11.lst (by simp) eA2
        replace eA1 := g11.lst (by simp) eA1
        refine ⟨by show 3 ≤ sizeLine; decide, fun B6 nB6 => ?_⟩
        obtain ⟨H12, q12, g12, m12, e12, t12, X⟩ := lay2 (o := .lst [.ref B2, .ref B3, .ref B5]) nB6 t11 X
        rw [q12]
        replace eA2 := g12.lst (by simp) eA2
        replace eA1 := g12.lst (by simp) eA1
        have e8' := (((g9.trans g10).trans g11).trans g12).lst (by simp) e8
        have e9' := ((g10.trans g11).trans g12).lst (by simp) e9
        have e11' := g12.lst (by simp) e11
        have g712 := ((((g7.trans g8).trans g9).trans g10).trans g11).trans g12
        have G12 : Grow [p] H H12 := G.trans g712.any
        obtain ⟨B, zs, hB, eB, mB, nz, lz⟩ : ∃ (B : Addr) (zs : List Str), atI [V.ref B2, .ref B3, .ref B5] (way - 8) = some (.ref B) ∧ H12 B = some (.lst (zs.map V.str)) ∧ B ∉ ex ∧ zs.all isNm = true ∧ zs.length ≤ 101 := by
          have h1 : (hands ++ [("zzz" : Str)]).all isNm = true := by rw [List.all_append, wo.nm]; decide +kernel
          have h2 : (hands.drop 1).all isNm = true := List.all_eq_true.mpr fun z hz => nmH z (List.mem_of_mem_drop hz)
          have h3 : (hands ++ [one]).all isNm = true := by rw [List.all_append, wo.nm]; simp [no]
          have k1 : H12 B2 = some (.lst ((hands ++ [("zzz" : Str)]).map V.str)) := by rw [List.map_append]; exact e8'
          have k2 : H12 B3 = some (.lst ((hands.drop 1).map V.str)) := by
            rw [e9', show cutV (hands.map V.str) (some 1) none = (hands.map V.str).drop 1 from cut_lo (hands.map V.str) 1, List.map_drop]
          have k3 : H12 B5 = some (.lst ((hands ++ [one]).map V.str)) := by rw [List.map_append]; exact e11'
          have l1 : (hands ++ [("zzz" : Str)]).length ≤ 101 := by rw [List.length_append]; show _ + 1 ≤ 101; omega
          have l2 : (hands.drop 1).length ≤ 101 := by rw [List.length_drop]; omega
          have l3 : (hands ++ [one]).length ≤ 101 := by rw [List.length_append]; show _ + 1 ≤ 101; omega
          obtain h | h | h | h | h | h : way = 5 ∨ way = 6 ∨ way = 7 ∨ way = 8 ∨ way = 9 ∨ way = 10 := by omega
          · subst h; exact ⟨B2, _, rfl, k1, m8, h1, l1⟩
          · subst h; exact ⟨B3, _, rfl, k2, m9, h2, l2⟩
          · subst h; exact ⟨B5, _, rfl, k3, m11, h3, l3⟩
          · subst h; exact ⟨B2, _, rfl, k1, m8, h1, l1⟩
          · subst h; exact ⟨B3, _, rfl, k2, m9, h2, l2⟩
          · subst h; exact ⟨B5, _, rfl, k3, m11, h3, l3⟩
        refine ⟨.int way, rfl, _, _, rfl, rfl, B6, _, _, .ref B, rfl, rfl, .inl (.inl e12), hB, ?_⟩
        exact mk _ _ _ _ _ _ _ _ _ _ _ _ _ G12 (names_ob mB eB nz lz) (obR G12 eA2) (by decide) rdl (t12.mono (by omega))
    rw [decide_eq_false c3]
    refine iteF (iteF ?_)
    by_cases c5 : way < 11
    · refine ⟨.int way, rfl, _, _, rfl, rfl, _, rfl, ?_⟩
      rw [decide_eq_true (show way < 11 by omega)]
      refine iteT ?_
      refine ⟨.ref A1, rfl, by show 1 ≤ sizeLine; decide, fun B1 nB1 => ?_⟩
      obtain ⟨H7, q7, g7, m7, e7, t7, X⟩ := lay2 (o := .lst [.str "zzz"]) nB1 t6 X
      rw [q7]
      replace eA2 := g7.lst (by simp) eA2
      replace eA1 := g7.lst (by simp) eA1
      refine ⟨A1, B1, _, _, rfl, rfl, eA1, e7, by rw [List.length_map]; show _ + 1 ≤ sizeLine; rw [sizeLine_eq]; omega, fun B2 nB2 => ?_⟩
      obtain ⟨H8, q8, g8, m8, e8, t8, X⟩ := lay2 (o := .lst (hands.map V.str ++ [.str "zzz"])) nB2 t7 X
      rw [q8]
      replace eA2 := g8.lst (by simp) eA2
      replace eA1 := g8.lst (by simp) eA1
      refine ⟨.ref A1, rfl, _, rfl, A1, _, rfl, .inl (.inl eA1), fun B3 nB3 => ?_⟩
      obtain ⟨H9, q9, g9, m9, e9, t9, X⟩ := lay2 (o := .lst (cutV (hands.map V.str) (some 1) none)) nB3 t8 X
      rw [q9]
      replace eA2 := g9.lst (by simp) eA2
      replace eA1 := g9.lst (by simp) eA1
      refine ⟨.ref A1, rfl, .str one, rfl, by show 1 ≤ sizeLine; decide, fun B4 nB4 => ?_⟩
      obtain ⟨H10, q10, g10, m10, e10, t10, X⟩ := lay2 (o := .lst [.str one]) nB4 t9 X
      rw [q10]
      replace eA2 := g10.lst (by simp) eA2
      replace eA1 := g10.lst (by simp) eA1
      refine ⟨A1, B4, _, _, rfl, rfl, eA1, e10, by rw [List.length_map]; show _ + 1 ≤ sizeLine; rw [sizeLine_eq]; omega, fun B5 nB5 => ?_⟩
      obtain ⟨H11, q11, g11, m11, e11, t11, X⟩ := lay2 (o := .lst (hands.map V.str ++ [.str one])) nB5 t10 X
      rw [q11]
      replace eA2 := g11.lst (by simp) eA2
      replace eA1 := g11.lst (by simp) eA1
      refine ⟨by show 3 ≤ sizeLine; decide, fun B6 nB6 => ?_⟩
      obtain ⟨H12, q12, g12, m12, e12, t12, X⟩ := lay2 (o := .lst [.ref B2, .ref B3, .ref B5]) nB6 t11 X
      rw [q12]
      replace eA2 := g12.lst (by simp) eA2
      replace eA1 := g12.lst (by simp) eA1
      have e8' := (((g9.trans g10).trans g11).trans g12).lst (by simp) e8
      have e9' := ((g10.trans g11).trans g12).lst (by simp) e9
      have e11' := g12.lst (by simp) e11
      have g712 := ((((g7.trans g8).trans g9).trans g10).trans g11).trans g12
      have G12 : Grow [p] H H12 := G.trans g712.any
      obtain ⟨B, zs, hB, eB, mB, nz, lz⟩ : ∃ (B : Addr) (zs : List Str), atI [V.ref B2, .ref B3, .ref B5] (way - 8) = some (.ref B) ∧ H12 B = some (.lst (zs.map V.str)) ∧ B ∉ ex ∧ zs.all isNm = true ∧ zs.length ≤ 101 := by
        have h1 : (hands ++ [("zzz" : Str)]).all isNm = true := by rw [List.all_append, wo.nm]; decide +kernel
        have h2 : (hands.drop 1).all isNm = true := List.all_eq_true.mpr fun z hz => nmH z (List.mem_of_mem_drop hz)
        have h3 : (hands ++ [one]).all isNm = true := by rw [List.all_append, wo.nm]; simp [no]
        have k1 : H12 B2 = some (.lst ((hands ++ [("zzz" : Str)]).map V.str)) := by rw [List.map_append]; exact e8'
        have k2 : H12 B3 = some (.lst ((hands.drop 1).map V.str)) := by
          rw [e9', show cutV (hands.map V.str) (some 1) none = (hands.map V.str).drop 1 from cut_lo (hands.map V.str) 1, List.map_drop]
        have k3 : H12 B5 = some (.lst ((hands ++ [one]).map V.str)) := by rw [List.map_append]; exact e11'
        have l1 : (hands ++ [("zzz" : Str)]).length ≤ 101 := by rw [List.length_append]; show _ + 1 ≤ 101; omega
        have l2 : (hands.drop 1).length ≤ 101 := by rw [List.length_drop]; omega
        have l3 : (hands ++ [one]).length ≤ 101 := by rw [List.length_append]; show _ + 1 ≤ 101; omega
        obtain h | h | h | h | h | h : way = 5 ∨ way = 6 ∨ way = 7 ∨ way = 8 ∨ way = 9 ∨ way = 10 := by omega
        · subst h; exact ⟨B2, _, rfl, k1, m8, h1, l1⟩
        · subst h; exact ⟨B3, _, rfl, k2, m9, h2, l2⟩
        · subst h; exact ⟨B5, _, rfl, k3, m11, h3, l3⟩
        · subst h; exact ⟨B2, _, rfl, k1, m8, h1, l1⟩
        · subst h; exact ⟨B3, _, rfl, k2, m9, h2, l2⟩
        · subst h; exact ⟨B5, _, rfl, k3, m11, h3, l3⟩
      refine ⟨.int way, rfl, _, _, rfl, rfl, B6, _, _, .ref B, rfl, rfl, .inl (.inl e12), hB, ?_⟩
      exact mk _ _ _ _ _ _ _ _ _ _ _ _ _ G12 (names_ob mB eB nz lz) (obR G12 eA2) (by decide) rdl (t12.mono (by omega))
    refine ⟨.int way, rfl, _, _, rfl, rfl, _, rfl, ?_⟩
    rw [decide_eq_false c5]
    refine iteF ?_
    have rnm : ∀ r ∈ roads, isNm r.1 = true ∧ isNm r.2 = true := fun r hr => ⟨nmH _ (wo.ends r hr).1, nmH _ (wo.ends r hr).2.1⟩
    refine ⟨.int way, rfl, rfl, _, rfl, ?_⟩
    by_cases c6 : way = 11
    · rw [show decide (V.int way = V.int 11) = true from decide_eq_true (by rw [c6])]
      refine iteT ⟨.ref A1, rfl, A1, rfl, ⟨_, .inl (.inl eA1)⟩, fun D1 nD => ?_⟩
      have m1' : A1 ≠ p := fun z => m1 (by rw [z]; exact pex)
      have D1p : D1 ≠ p := by
        obtain ⟨x, y, z, e, _⟩ := t6
        exact (ne_of_none e nD).symm
      have D1A : D1 ≠ A1 := (ne_of_none eA1 nD).symm
      have D2A : D1 ≠ A2 := (ne_of_none eA2 nD).symm
      refine lc_it (walk_list (xs := hands.map V.str)) (fun j H' => Grow [p] H6 H' ∧ Pot H' p (c + 10 + j) ∧ ∃ (vs : List V) (ds : List PyData), H' D1 = some (.lst vs) ∧ Dbs K (D1 :: ex) H' vs ds ∧ vs.length = j ∧ ∀ d ∈ ds, Sh d 4 12)
        ⟨grow_new nD, (t6.new nD).mono (by omega), [], [], upd_same, .nil, rfl, fun d hd => by cases hd⟩ (fun j H' _ h => .inl (.inl (h.1.lst (mp m1) eA1))) (fun j x Ha Hb hj hp hy => ?_) (fun H7 hp => ?_)
      · obtain ⟨ga, ta, vs, ds, eD, dv, lv, sv⟩ := hp
        obtain ⟨rfl, ey⟩ := hy
        rw [List.length_map] at hj
        rw [List.getElem?_map, List.getElem?_eq_getElem hj] at ey
        cases ey
        refine ⟨rfl, yes_if ⟨.str _, rfl, .str one, rfl, rfl, _, rfl, ite2 (fun _ => ?_) fun _ => ?_⟩⟩
        · have gu : Grow (D1 :: ex) Hb (upd Hb D1 (.lst (vs ++ [.str hands[j]]))) := grow_at eD (fun ps z => by cases z) (by simp)
          refine ⟨.str _, rfl, vs, eD, by rw [sizeLine_eq]; omega, ga.put (fresh_none nD) eD (fun ps z => by cases z), (ta.at (Ne.symm D1p)).mono (by omega), vs ++ [.str hands[j]], ds ++ [.str hands[j]], upd_same, (dv.grow gu).app (.cons (.str _) .nil), by rw [List.length_append, lv]; rfl, fun d hd => ?_⟩
          rcases List.mem_append.mp hd with hd | hd
          · exact sv d hd
          · rw [List.mem_singleton.mp hd]
            exact (sh_name (nmH _ (List.getElem_mem hj))).mono (by decide) (by decide)
        · refine ⟨.ref p, rfl, p, D1 :: ex, _, rfl, ta, by omega, List.mem_cons_of_mem _ pex, fun a ha => ?_, fun y Hc d gc dc sc fc tc => ?_⟩
          · rcases List.mem_cons.mp ha with rfl | ha
            · rw [eD]
              exact fun z => by cases z
            · exact keepX XL (G.trans ga) ta a ha
          · have eDc := gc.lst (by simpa using D1p) eD
            have gu : Grow (D1 :: ex) Hc (upd Hc D1 (.lst (vs ++ [y]))) := grow_at eDc (fun ps z => by cases z) (by simp)
            have gc2 : Grow (D1 :: ex) Hb Hc := gc.mono fun a ha => by rw [List.mem_singleton.mp ha]; exact List.mem_cons_of_mem _ pex
            refine ⟨vs, eDc, by rw [sizeLine_eq]; omega, (ga.trans gc).put (fresh_none nD) eDc (fun ps z => by cases z), (tc.at (Ne.symm D1p)).mono (by omega), vs ++ [y], ds ++ [d], upd_same, ((dv.grow gc2).grow gu).app (.cons (dc.grow gu) .nil), by rw [List.length_append, lv]; rfl, fun e he => ?_⟩
            rcases List.mem_append.mp he with he | he
            · exact sv e he
            · rw [List.mem_singleton.mp he]
              exact sc
      · obtain ⟨g7, t7, vs, ds, eD, dv, lv, sv⟩ := hp
        rw [List.length_map] at t7 lv
        have f := shs sv
        have ld : ds.length = hands.length := by rw [← dv.len, lv]
        have oh : Ob K ex H7 (.ref D1) (.list ds) 5 1300 := ⟨.lst (fun z => X D1 z nD) eD (dbs_less (fun a h => List.mem_cons_of_mem _ h) dv), sh_lst f.show_ f.leaves f.deep (Nat.le_trans f.bulk (by omega))⟩
        have G7 := G.trans g7
        exact mk _ _ _ _ _ _ _ _ _ _ _ _ _ G7 oh (real_ob m2 (g7.lst (mp m2) eA2) (dx.grow (gx G7)) rnm (by omega)) (by decide) rdl (t7.mono (by omega))
    rw [show decide (V.int way = V.int 11) = false from decide_eq_false fun z => c6 (V.int.inj z)]
    refine iteF ⟨.int way, rfl, rfl, _, rfl, ?_⟩
    by_cases c7 : way = 12
    · rw [show decide (V.int way = V.int 12) = true from decide_eq_true (by rw [c7])]
      refine iteT ⟨.ref A1, rfl, .ref A2, rfl, by show 2 ≤ sizeLine; decide, fun L nL => ?_⟩
      obtain ⟨H7, q7, g7, m7, e7, t7, X⟩ := lay2 (o := .lst [.ref A1, .ref A2]) nL t6 X
      rw [q7]
      have G7 := G.trans g7.any
      have b1 := obH (g7.lst (by simp) eA1)
      have b2 := obR G7 (g7.lst (by simp) eA2)
      exact q _ _ _ G7 ⟨.lst m7 e7 (.cons b1.db (.cons b2.db .nil)), (sh_two b1.sh b2.sh).2.mono (Nat.le_refl _) (by decide)⟩ (fun a b e => by cases e) (t7.mono (by omega))
    rw [show decide (V.int way = V.int 12) = false from decide_eq_false fun z => c7 (V.int.inj z)]
    refine iteF ⟨.int way, rfl, rfl, _, rfl, ?_⟩
    by_cases c8 : way = 13
    · rw [show decide (V.int way = V.int 13) = true from decide_eq_true (by rw [c8])]
      refine iteT ⟨.ref A1, rfl, A1, _, rfl, .inl ⟨.inl (.inl eA1), fun T1 nT1 => ?_⟩⟩
      obtain ⟨H7, q7, g7, m7, e7, t7, X⟩ := lay2 (o := .tup (hands.map V.str)) nT1 t6 X
      rw [q7]
      refine ⟨.ref A2, rfl, by show 2 ≤ sizeLine; decide, fun L nL => ?_⟩
      obtain ⟨H8, q8, g8, m8, e8, t8, X⟩ := lay2 (o := .tup [.ref T1, .ref A2]) nL t7 X
      rw [q8]
      have g68 := g7.trans g8
      have G8 := G.trans g68.any
      have f := sh_strs wo.nm
      have b1 : Ob K ex H8 (.ref T1) (.tuple (hands.map PyData.str)) 5 909 := ⟨.tup m7 (.inl (.inl (g8.tup (by simp) e7))) (Dbs.strs hands), (sh_tup f.show_ f.leaves f.deep (Nat.le_trans (str_bulk wo.nm) (by omega))).mono (by decide) (Nat.le_refl _)⟩
      have b2 := obR G8 (g68.lst (by simp) eA2)
      exact q _ _ _ G8 ⟨.tup m8 (.inl (.inl e8)) (.cons b1.db (.cons b2.db .nil)), (sh_two b1.sh b2.sh).1.mono (Nat.le_refl _) (by decide)⟩ (flat_of rdl) (t8.mono (by omega))
    rw [show decide (V.int way = V.int 13) = false from decide_eq_false fun z => c8 (V.int.inj z)]
    refine iteF ⟨.int way, rfl, _, _, rfl, rfl, _, rfl, ?_⟩
    rw [decide_eq_true (show 13 < way by omega)]
    refine iteT ⟨.int at_, rfl, .ref A2, rfl, A2, _, rfl, .inl (.inl (.inl eA2)), _, _, rfl, rfl, _, rfl, ?_⟩
    by_cases c4 : at_ < xs.length
    case neg =>
      rw [decide_eq_false (show ¬ (at_ : Int) < (xs.length : Nat) by omega)]
      exact iteF (mk _ _ _ _ _ _ _ _ _ _ _ _ _ G (obH eA1) (obR G eA2) (by decide) rdl (t6.mono (by omega)))
    rw [decide_eq_true (show (at_ : Int) < (xs.length : Nat) by omega)]
    refine iteT ?_
    obtain ⟨a0, r, ea, er0, p0⟩ := tx.get (List.getElem?_eq_getElem c4)
    have ex0 : xs[at_]? = some (.ref a0) := by rw [List.getElem?_eq_getElem c4, ea]
    have rm := wo.ends r (List.mem_of_getElem? er0)
    have sq6 : SqT K H6 a0 [.str r.1, .str r.2] := (p0.grow G (by
      obtain ⟨o, e, _⟩ := p0
      obtain ⟨x, y, z, ep, _⟩ := t
      simpa using ne_of e ep (by simp))).seq
    refine ⟨.ref A2, rfl, .int at_, rfl, A2, _, at_, .ref a0, rfl, rfl, .inl (.inl eA2), atI_nat ex0, by show 1 ≤ sizeLine; decide, fun T0 nT0 => ?_⟩
    obtain ⟨H7, q7, g7, m7, e7, t7, X⟩ := lay2 (o := .tup [.str "zzz"]) nT0 t6 X
    rw [q7]
    replace eA2 := g7.lst (by simp) eA2
    replace eA1 := g7.lst (by simp) eA1
    refine ⟨a0, T0, _, _, rfl, rfl, g7.sqt sq6, .inl (.inl e7), by show 3 ≤ sizeLine; decide, (fun z => by cases z), (fun _ z => by cases z), fun _ _ T1 nT1 => ?_⟩
    obtain ⟨H8, q8, g8, m8, e8, t8, X⟩ := lay2 (o := .tup ([r.1, r.2, "zzz"].map V.str)) nT1 t7 X
    rw [show upd H7 T1 (.tup ([.str r.1, .str r.2] ++ [.str "zzz"])) = H8 from q8]
    replace eA2 := g8.lst (by simp) eA2
    replace eA1 := g8.lst (by simp) eA1
    refine ⟨.ref A2, rfl, .int at_, rfl, A2, _, at_, .ref a0, rfl, rfl, .inl (.inl eA2), atI_nat ex0, ?_⟩
    refine ⟨_, rfl, a0, _, rfl, (g7.trans g8).sqt sq6, fun z => absurd z (show ¬ (HT.sIx 2 0 none = 0 ∧ HT.sIx 2 2 (some 1) = 2) by decide), fun _ T2 nT2 => ?_⟩
    obtain ⟨H9, q9, g9, m9, e9, t9, X⟩ := lay2 (o := .tup ([r.1].map V.str)) nT2 t8 X
    rw [show upd H8 T2 (.tup (cutV [.str r.1, .str r.2] none (some 1))) = H9 from q9]
    replace eA2 := g9.lst (by simp) eA2
    replace eA1 := g9.lst (by simp) eA1
    refine ⟨by show 3 ≤ sizeLine; decide, fun LL nLL => ?_⟩
    obtain ⟨H12, q12, g12, m12, e12, t12, X⟩ := lay2 (o := .lst [.ref T1, .ref T2, .str "ab"]) nLL t9 X
    rw [q12]
    replace eA2 := g12.lst (by simp) eA2
    replace eA1 := g12.lst (by simp) eA1
    have eT1 := (g9.trans g12).tup (by simp) e8
    have eT2 := g12.tup (by simp) e9
    have g612 := ((g7.trans g8).trans g9).trans g12
    have n1 := nmH _ rm.1
    have n2 := nmH _ rm.2.1
    have n3 : isNm "zzz" = true := by decide +kernel
    have n4 : isNm "ab" = true := by decide +kernel
    have el : ∃ (v : V) (rd : PyData), atI [V.ref T1, .ref T2, .str "ab"] (way - 14) = some v ∧ (∀ H', H' = upd H12 A2 (.lst (xs.set at_ v)) → Db K ex H' v rd) ∧ RoadLike rd := by
      obtain h | h | h : way = 14 ∨ way = 15 ∨ way = 16 := by omega
      · subst h; exact ⟨.ref T1, .tuple ([r.1, r.2, "zzz"].map PyData.str), rfl, fun H' e => by rw [e]; exact .tup m8 (.inl (.inl (by rw [upd_ne (ne_of eT1 eA2 (by simp))]; exact eT1))) (Dbs.strs _), .inl ⟨_, by simp [n1, n2, n3], by show 3 ≤ 3; decide, .inl rfl⟩⟩
      · subst h; exact ⟨.ref T2, .tuple ([r.1].map PyData.str), rfl, fun H' e => by rw [e]; exact .tup m9 (.inl (.inl (by rw [upd_ne (ne_of eT2 eA2 (by simp))]; exact eT2))) (Dbs.strs _), .inl ⟨_, by simp [n1], by show 1 ≤ 3; decide, .inl rfl⟩⟩
      · subst h; exact ⟨.str "ab", .str "ab", rfl, fun H' e => .str _, .inr ⟨_, n4, rfl⟩⟩
    obtain ⟨v, rd, hv, dv, rv⟩ := el
    have gA : Grow [p] H (upd H12 A2 (.lst (xs.set at_ v))) := (G.trans g612.any).put fA2 eA2 (fun ps z => by cases z)
    have tA : Pot (upd H12 A2 (.lst (xs.set at_ v))) p (c + 10) := t12.at (fun z => m2 (by rw [← z]; exact pex))
    refine ⟨.int way, rfl, _, _, rfl, rfl, LL, _, _, v, rfl, rfl, .inl (.inl e12), hv, .ref A2, rfl, .int at_, rfl, A2, xs, at_, at_, rfl, rfl, eA2, ixN_at c4, ?_⟩
    have D := (dx.grow (gx gA)).set at_ (dv _ rfl)
    have l1 : ((roads.map encP).set at_ rd).length ≤ 100 := by rw [List.length_set, List.length_map]; omega
    exact mk _ _ _ _ _ _ _ _ _ _ _ _ _ gA (obH (by rw [upd_ne A12]; exact eA1)) (roads_ob m2 upd_same D (like_set rl rv _) l1) (by decide) ⟨_, rfl, l1, like_set rl rv _⟩ (tA.mono (by omega))
  · rw [hI] at h7
    obtain ⟨vh, vr, dh, dr, mh, mr, _, _, _, _, _, _, _, rfl, g7, b1, b2, l, rk, t7⟩ := h7
    replace X := keepX XL g7 t7
    refine ⟨vh, rfl, vr, rfl, by show 2 ≤ sizeLine; decide, fun T nT => ?_⟩
    obtain ⟨H8, q8, g8, m8, e8, t8, X⟩ := lay2 (o := .tup [vh, vr]) nT t7 X
    rw [q8]
    exact q _ _ _ (g7.trans g8.any) ⟨.tup m8 (.inl (.inl e8)) (.cons (b1.db.grow g8.any) (.cons (b2.db.grow g8.any) .nil)), (sh_two b1.sh b2.sh).1.mono (Nat.le_refl _) (by omega)⟩ (flat_of rk) t8
end

end Lw

namespace Lw
open PySem PySem.Spec PyProof.Rows L2 GxR Gx
/-! ### _law_names -/
def poolA : List Str := ["net", "book", "hear", "open", "none", "a", "ab", "abcdefgh", "abcdefgi", "step", "shout", "lie", "zz"]
def poolB (a : Nat) : List Str := ("lmnopqrstu" : Str).cps.toList.map fun b => (⟨#[a]⟩ : Str) ++ ⟨#[b]⟩
def poolTo (i : Nat) : List Str := poolA ++ (("bcdefghijk" : Str).cps.toList.take i).flatMap poolB
theorem pool_nd : (poolTo 10).Nodup := by decide +kernel
theorem pool_nm : (poolTo 10).all isNm = true := by decide +kernel
theorem pool_len : (poolTo 10).length = 113 := by decide +kernel
section
variable {P : Program} {w : World} {K : PySem.W.Frag} {mg : Str → Option Value} {base : Heap}
def spNames (K : PySem.W.Frag) : Sp := fun vs H Q _ => ∃ (p : Addr) (m : Nat) (c : Int), vs = [.ref p, .int m] ∧ m ≤ 100 ∧ Pot H p c ∧ c ≤ 2 ^ 20 ∧
  ∀ (D : Addr) (H' : Hp) (ys : List Str), Fresh H D → Grow [p] H H' → H' D = some (.lst (ys.map V.str)) → ys.Nodup → ys.all isNm = true → ys.length = m → Pot H' p (c + 200) → Q (.ref D) H'
theorem ok_law_names {f c : Addr} {fd : FuncData} (B : Nb mg) (D : DefIs K "_law_names" "_law_names" st_law_names f fd (.ref c))
    (c_law_dip : Callee P w K mg base CX0 3 "_law_dip" ["pot", "many"] (spDip K)) : FnG P w K mg base CX0 4 f fd ["pot", "many"] (spNames K) := by
  refine D.ok0 (k := 3) sc_law_names (fun vs H Q E h => ?_) (fun A outer s H vs Q E g hr h => ?_)
  · obtain ⟨p, m, c, rfl, _⟩ := h
    rfl
  obtain ⟨p, m, c, rfl, hm, hp, hc, q⟩ := h
  refine ⟨_,
      (pss_cons (ps_set (i := 2) sc_law_names.nd rfl (.inr rfl) (pe_lst (pa_cons pe_str (pa_cons pe_str (pa_cons pe_str (pa_cons pe_str (pa_cons pe_str (pa_cons pe_str (pa_cons pe_str (pa_cons pe_str (pa_cons pe_str (pa_cons pe_str (pa_cons pe_str (pa_cons pe_str (pa_cons pe_str pa_nil)))))))))))))))
      (pss_cons (ps_for PassesOwn.never rfl (pi_str pe_str) (pg_name (i := 3) sc_law_names.nd rfl (.inr rfl)) (
        (pss_one (ps_expr (pe_bm PySem.F.plainAttrs_list PySem.F.slot_list_extend PySem.F.type_list_extend mt_extend (pv 2) (pa_cons (pe_lc (own := [("other", 4)]) (tt := tYes) (g := (gName 4)) rfl sc_law_names.nd (pi_str pe_str) (blkOk_by (N := N_law_names) (sc := defScope st_law_names) (by decide +kernel)) (fun _ _ _ _ _ => (pg_name (i := 4) sc_law_names.nd rfl (.inl rfl))) (fun _ _ _ _ _ => pts_nil) (fun _ _ _ _ _ => pe_to (pe_op op_add_str (pv 3) (pv 4)))) pa_nil))))))
      (pss_cons (ps_set (i := 2) sc_law_names.nd rfl (.inr rfl) (pe_slice sl_list (pv 2) po_none (po_some (pe_ix ix_list (pe_lst (pa_cons pe_int (pa_cons pe_int pa_nil))) (pe_callTy call_int1 rfl B.n_int (by decide +kernel) (pa_cons (pe_cmpR (op_gt) (pv 1) pe_int (nomark _)) pa_nil)) (fun _ _ => rfl)))))
      (pss_one (ps_ret (pe_lc (own := [("k", 5)]) (tt := tYes) (g := (gName 5)) rfl sc_law_names.nd (pi_range1 rfl B.n_range (pa_cons (pv 1) pa_nil)) (blkOk_by (N := N_law_names) (sc := defScope st_law_names) (by decide +kernel)) (fun _ _ _ _ _ => (pg_name (i := 5) sc_law_names.nd rfl (.inl rfl))) (fun _ _ _ _ _ => pts_nil) (fun _ _ _ _ _ => pe_to (pe_bm PySem.F.plainAttrs_list PySem.F.slot_list_pop PySem.F.type_list_pop mt_popAt (pv 2) (pa_cons (pe_g c_law_dip g (hr.mono (by decide)) pass0 (pa_cons (pv 0) (pa_cons (pe_callB call_len_seq rfl B.n_len PySem.boot_len (pa_cons (pv 2) pa_nil)) pa_nil))) pa_nil))))))))), ?_⟩
  refine ⟨by show 13 ≤ sizeLine; decide, fun P0 n0 => ?_⟩
  obtain ⟨pa, pb, pk, ep, pr⟩ := id hp
  have f0 : Fresh H P0 := fresh_none n0
  have g0 : Grow [] H (upd H P0 (.lst ((poolTo 0).map V.str))) := grow_new n0
  refine ⟨_, rfl, ?_⟩
  refine for_it walk_str (fun i σ H' => ∃ a : Option V, σ = [some (.ref p), some (.int m), some (.ref P0), a, none, none] ∧ Grow [] H H' ∧ H' P0 = some (.lst ((poolTo i).map V.str))) ⟨none, rfl, g0, upd_same⟩ (fun _ _ _ _ _ => trivial) (fun i x σ H2 H3 hi hw hy => ?_) (fun σ H2 hw => ?_)
  · obtain ⟨a0, rfl, gr, eP⟩ := hw
    obtain ⟨rfl, a, ea, rfl⟩ := hy
    refine ⟨.ref P0, rfl, tyl eP, _, rfl, fun D1 n1 => ?_⟩
    have fD : Fresh H3 D1 := fresh_none n1
    refine lc_it walk_str (fun j H' => Grow [] H3 H' ∧ H' D1 = some (.lst (((("lmnopqrstu" : Str).cps.toList.take j).map fun b => (⟨#[a]⟩ : Str) ++ ⟨#[b]⟩).map V.str))) ⟨grow_new n1, upd_same⟩ (fun _ _ _ _ => trivial) (fun j x H4 H5 hj hw hy => ?_) (fun H4 hw => ?_)
    · obtain ⟨gj, eD⟩ := hw
      obtain ⟨rfl, b, eb, rfl⟩ := hy
      have tk : ("lmnopqrstu" : Str).cps.toList.take (j + 1) = ("lmnopqrstu" : Str).cps.toList.take j ++ [b] := by
        rw [List.take_add_one, Array.getElem?_toList, eb]
        rfl
      refine ⟨rfl, yes_if ⟨.str _, rfl, .str _, rfl, _, _, rfl, rfl, by show 1 + 1 ≤ sizeLine; decide, _, eD, ?_, gj.put fD eD (fun ps z => by cases z), ?_⟩⟩
      · have h10 : ("lmnopqrstu" : Str).cps.size = 10 := by decide +kernel
        rw [List.length_map, List.length_map, List.length_take]
        unfold sizeLine
        omega
      · rw [upd_same, tk, List.map_append, List.map_append]
        rfl
    · obtain ⟨gj, eD⟩ := hw
      have eP4 := gj.lst (by simp) eP
      have et : ("lmnopqrstu" : Str).cps.toList.take ("lmnopqrstu" : Str).cps.size = ("lmnopqrstu" : Str).cps.toList := List.take_of_length_le (by rw [Array.length_toList]; exact Nat.le_refl _)
      rw [et] at eD
      have tk : ("bcdefghijk" : Str).cps.toList.take (i + 1) = ("bcdefghijk" : Str).cps.toList.take i ++ [a] := by
        rw [List.take_add_one, Array.getElem?_toList, ea]
        rfl
      have nx : poolTo (i + 1) = poolTo i ++ poolB a := by
        unfold poolTo
        rw [tk, List.flatMap_append, List.append_assoc]
        simp
      have ln : ∀ k, (poolTo k).length ≤ 13 + 10 * k := fun k => by
        unfold poolTo
        rw [List.length_append]
        have h1 : poolA.length = 13 := rfl
        have h2 : ∀ l : List Nat, (l.flatMap poolB).length = 10 * l.length := fun l => by
          induction l with
          | nil => rfl
          | cons x r ih =>
            rw [List.flatMap_cons, List.length_append, ih, List.length_cons]
            have : (poolB x).length = 10 := by unfold poolB; rw [List.length_map]; decide +kernel
            omega
        rw [h1, h2, List.length_take]
        omega
      have h10 : ("bcdefghijk" : Str).cps.size = 10 := by decide +kernel
      have l1 := ln (i + 1)
      rw [nx, List.length_append] at l1
      refine ⟨P0, D1, _, _, rfl, rfl, eP4, eD, ?_, _, rfl, (gr.trans gj).put f0 eP4 (fun ps z => by cases z), ?_⟩
      · rw [List.length_map, List.length_map]
        show _ + (poolB a).length ≤ _
        unfold sizeLine
        omega
      · rw [upd_same, nx, List.map_append]
        rfl
  · obtain ⟨a0, rfl, gr, eP⟩ := hw
    have h10 : ("bcdefghijk" : Str).cps.size = 10 := by decide +kernel
    rw [h10] at eP
    refine ⟨.ref P0, rfl, by show 2 ≤ sizeLine; decide, fun L nL => ⟨.int m, rfl, _, _, rfl, rfl, .inr ⟨_, rfl, ?_⟩⟩⟩
    obtain ⟨cut, hcut, hc1, hc2⟩ : ∃ cut : Nat, atI [V.int 13, V.int 113] (if (decide ((13 : Int) < (m : Int))) = true then 1 else 0) = some (.int (cut : Int)) ∧ m ≤ cut ∧ cut ≤ 113 := by
      by_cases h : (13 : Int) < (m : Int)
      · rw [decide_eq_true h]
        exact ⟨113, rfl, by omega, Nat.le_refl _⟩
      · rw [decide_eq_false h]
        exact ⟨13, rfl, by omega, by decide⟩
    have gL := gr.new (o := .lst [.int 13, .int 113]) nL
    have ePL : upd H2 L (.lst [.int 13, .int 113]) P0 = some (.lst ((poolTo 10).map V.str)) := by rw [upd_ne (ne_of_none eP nL)]; exact eP
    refine ⟨L, _, _, .int cut, rfl, rfl, .inl (.inl upd_same), hcut, cut, rfl, P0, _, rfl, .inl (.inl ePL), fun P1 n1 => ?_⟩
    rw [cut_hi, ← List.map_take]
    obtain ⟨pl, hpl⟩ : ∃ pl, (poolTo 10).take cut = pl := ⟨_, rfl⟩
    rw [hpl]
    have pnd : pl.Nodup := by rw [← hpl]; exact pool_nd.sublist (List.take_sublist _ _)
    have pnm : pl.all isNm = true := by
      rw [← hpl]
      exact List.all_eq_true.mpr fun x hx => List.all_eq_true.mp pool_nm x (List.mem_of_mem_take hx)
    have pln : pl.length = cut := by rw [← hpl, List.length_take, pool_len]; omega
    have f1 : Fresh H P1 := gL.fresh0 n1
    have g1 := gL.new (o := .lst (pl.map V.str)) n1
    have p1 : P1 ≠ p := (f1.ne ep (fun ps z => by cases z)).symm
    refine ⟨.int m, rfl, m, rfl, by omega, by omega, fun D1 nD => ?_⟩
    have fD : Fresh H D1 := g1.fresh0 nD
    have pD : D1 ≠ p := (fD.ne ep (fun ps z => by cases z)).symm
    have P1D : P1 ≠ D1 := ne_of_none (upd_same (H := upd H2 L (.lst [.int 13, .int 113])) (o := .lst (pl.map V.str))) nD
    have g2 := g1.new (o := .lst []) nD
    have pot2 : Pot (upd (upd (upd H2 L (.lst [.int 13, .int 113])) P1 (.lst (pl.map V.str))) D1 (.lst [])) p c := ⟨pa, pb, pk, g2.lst (by simp) ep, pr⟩
    refine lc_it walk_range (fun k H' => ∃ fs ls : List Str, fs.length = k ∧ (fs ++ ls).Perm pl ∧ H' P1 = some (.lst (ls.map V.str)) ∧ H' D1 = some (.lst (fs.map V.str)) ∧ Pot H' p (c + k) ∧ Grow [p] H H') ⟨[], pl, rfl, .refl _, by rw [upd_ne P1D]; exact upd_same, upd_same, pot2.mono (by omega), g2.any⟩
      (fun _ _ _ _ => trivial) (fun k x H4 H5 hk hw hy => ?_) (fun H4 hw => ?_)
    · obtain ⟨fs, ls, lf, pm, eP1, eD1, pot, gr4⟩ := hw
      obtain ⟨rfl, rfl⟩ := hy
      have ll : fs.length + ls.length = pl.length := by have := pm.length_eq; rwa [List.length_append] at this
      have hk' : k < m := by omega
      refine ⟨rfl, yes_if ⟨.ref P1, rfl, tyl eP1, .ref p, rfl, .ref P1, rfl, P1, _, rfl, .inl (.inl (.inl eP1)), p, _, _, rfl, by rw [List.length_map]; omega, by rw [List.length_map]; omega, by omega, pot, fun v H6 v0 v1 g6 pot6 => ?_⟩⟩
      rw [List.length_map] at v1
      have eP6 := g6.lst (by simpa using p1) eP1
      have eD6 := g6.lst (by simpa using pD) eD1
      have hv : v.toNat < ls.length := by omega
      refine ⟨P1, _, v, v.toNat, .str ls[v.toNat], rfl, rfl, eP6, by omega, by omega, seqIndex_nat v0 (by rw [List.length_map]; exact v1), by rw [List.getElem?_map, List.getElem?_eq_getElem hv]; rfl, ?_⟩
      have g7 := (gr4.trans g6).put (o := .lst ((ls.map V.str).eraseIdx v.toNat)) f1 eP6 (fun ps z => by cases z)
      have eD7 : upd H6 P1 (.lst ((ls.map V.str).eraseIdx v.toNat)) D1 = some (.lst (fs.map V.str)) := by rw [upd_ne P1D.symm]; exact eD6
      refine ⟨_, eD7, by rw [List.length_map]; unfold sizeLine; omega, fs ++ [ls[v.toNat]], ls.eraseIdx v.toNat, by rw [List.length_append, lf]; rfl, ?_, ?_, by rw [upd_same, List.map_append]; rfl, ?_, g7.put fD eD7 (fun ps z => by cases z)⟩
      · rw [List.append_assoc]
        exact (List.Perm.append_left fs (erase_perm ls v.toNat hv)).trans pm
      · rw [upd_ne P1D, upd_same, erase_map]
      · have := ((pot6.at (o := .lst ((ls.map V.str).eraseIdx v.toNat)) p1.symm).at (o := .lst (fs.map V.str ++ [.str ls[v.toNat]])) pD.symm)
        exact this.mono (by omega)
    · obtain ⟨fs, ls, lf, pm, eP1, eD1, pot, gr4⟩ := hw
      refine q D1 H4 fs fD gr4 eD1 ?_ ?_ (by omega) (pot.mono (by omega))
      · exact (List.nodup_append.mp (pm.nodup_iff.mpr pnd)).1
      · exact List.all_eq_true.mpr fun x hx => List.all_eq_true.mp pnm x (pm.mem_iff.mp (List.mem_append_left _ hx))
end

/-! ### trees that grow -/
structure TreeOk (hs : List Str) (roads : List (Str × Str)) : Prop where
  ends : ∀ a b, Adj roads a b → a ∈ hs ∧ b ∈ hs
  tree : ∀ r ∈ hs, ∃ d, Rooted hs roads r d
theorem TreeOk.one (h : Str) : TreeOk [h] [] := by
  have no : ∀ a b, ¬ Adj [] a b := fun a b z => by rcases z with z | z <;> cases z
  refine ⟨fun a b z => (no a b z).elim, fun r hr => ⟨fun _ => 0, hr, rfl, fun a b z => (no a b z).elim, fun x hx ne => ?_, fun x p q z => (no _ _ z).elim⟩⟩
  rw [List.mem_singleton.mp hx, List.mem_singleton.mp hr] at ne
  exact absurd rfl ne
theorem TreeOk.grow {hs : List Str} {roads roads' : List (Str × Str)} {u v : Str} (T : TreeOk hs roads) (hv : v ∉ hs) (hu : u ∈ hs) (adj : ∀ a b, Adj roads' a b ↔ Adj roads a b ∨ (a = u ∧ b = v) ∨ (a = v ∧ b = u)) : TreeOk (hs ++ [v]) roads' := by
  have mo : ∀ {x}, x ∈ hs → x ∈ hs ++ [v] := fun h => List.mem_append_left _ h
  have mv : v ∈ hs ++ [v] := by simp
  have nv : ∀ {x}, x ∈ hs → x ≠ v := fun h z => hv (z ▸ h)
  have uv : u ≠ v := nv hu
  refine ⟨fun a b h => ?_, fun r hr => ?_⟩
  · rcases (adj a b).mp h with h | ⟨rfl, rfl⟩ | ⟨rfl, rfl⟩
    · exact ⟨mo (T.ends a b h).1, mo (T.ends a b h).2⟩
    · exact ⟨mo hu, mv⟩
    · exact ⟨mv, mo hu⟩
  · rcases List.mem_append.mp hr with hr | hr
    · obtain ⟨d, R⟩ := T.tree r hr
      have dv : (if v = v then d u + 1 else d v) = d u + 1 := if_pos rfl
      have dx : ∀ {x}, x ≠ v → (if x = v then d u + 1 else d x) = d x := fun h => if_neg h
      refine ⟨fun x => if x = v then d u + 1 else d x, mo hr, (dx (nv hr)).trans R.zero, fun a b h => ?_, fun h hh ne => ?_, fun h p q hp hq lp lq => ?_⟩
      · show (if a = v then d u + 1 else d a) + 1 = (if b = v then d u + 1 else d b) ∨ (if b = v then d u + 1 else d b) + 1 = (if a = v then d u + 1 else d a)
        rcases (adj a b).mp h with h | ⟨rfl, rfl⟩ | ⟨rfl, rfl⟩
        · rw [dx (nv (T.ends a b h).1), dx (nv (T.ends a b h).2)]
          exact R.near a b h
        · rw [dv, dx uv]
          exact .inl rfl
        · rw [dv, dx uv]
          exact .inr rfl
      · show ∃ p, Adj roads' h p ∧ (if p = v then d u + 1 else d p) + 1 = (if h = v then d u + 1 else d h)
        rcases List.mem_append.mp hh with hh | hh
        · obtain ⟨p, ap, dp⟩ := R.up h hh ne
          exact ⟨p, (adj h p).mpr (.inl ap), by rw [dx (nv hh), dx (nv (T.ends h p ap).2)]; exact dp⟩
        · rw [List.mem_singleton.mp hh]
          exact ⟨u, (adj v u).mpr (.inr (.inr ⟨rfl, rfl⟩)), by rw [dv, dx uv]⟩
      · replace lp : (if p = v then d u + 1 else d p) < (if h = v then d u + 1 else d h) := lp
        replace lq : (if q = v then d u + 1 else d q) < (if h = v then d u + 1 else d h) := lq
        by_cases e : h = v
        · subst e
          have one : ∀ {x}, Adj roads' h x → x = u := fun {x} hx => by
            rcases (adj h x).mp hx with hx | ⟨e1, _⟩ | ⟨_, e2⟩
            · exact absurd (T.ends h x hx).1 hv
            · exact absurd e1.symm uv
            · exact e2
          rw [one hp, one hq]
        · have old : ∀ {x}, Adj roads' h x → (if x = v then d u + 1 else d x) < (if h = v then d u + 1 else d h) → Adj roads h x ∧ d x < d h := fun {x} hx lx => by
            rcases (adj h x).mp hx with hx | ⟨e1, e2⟩ | ⟨e1, _⟩
            · rw [dx e, dx (nv (T.ends h x hx).2)] at lx
              exact ⟨hx, lx⟩
            · rw [e1, e2, dv, dx uv] at lx
              omega
            · exact absurd e1 e
          exact R.one h p q (old hp lp).1 (old hq lq).1 (old hp lp).2 (old hq lq).2
    · have er : r = v := List.mem_singleton.mp hr
      subst er
      obtain ⟨d, R⟩ := T.tree u hu
      have dv : (if r = r then 0 else d r + 1) = 0 := if_pos rfl
      have dx : ∀ {x}, x ≠ r → (if x = r then 0 else d x + 1) = d x + 1 := fun h => if_neg h
      have d0 := R.zero
      refine ⟨fun x => if x = r then 0 else d x + 1, mv, dv, fun a b h => ?_, fun h hh ne => ?_, fun h p q hp hq lp lq => ?_⟩
      · show (if a = r then 0 else d a + 1) + 1 = (if b = r then 0 else d b + 1) ∨ (if b = r then 0 else d b + 1) + 1 = (if a = r then 0 else d a + 1)
        rcases (adj a b).mp h with h | ⟨rfl, rfl⟩ | ⟨rfl, rfl⟩
        · rw [dx (nv (T.ends a b h).1), dx (nv (T.ends a b h).2)]
          have := R.near a b h
          omega
        · rw [dv, dx uv]
          omega
        · rw [dv, dx uv]
          omega
      · show ∃ p, Adj roads' h p ∧ (if p = r then 0 else d p + 1) + 1 = (if h = r then 0 else d h + 1)
        rcases List.mem_append.mp hh with hh | hh
        · by_cases e : h = u
          · subst e
            exact ⟨r, (adj h r).mpr (.inr (.inl ⟨rfl, rfl⟩)), by rw [dv, dx uv]; omega⟩
          · obtain ⟨p, ap, dp⟩ := R.up h hh e
            exact ⟨p, (adj h p).mpr (.inl ap), by rw [dx (nv hh), dx (nv (T.ends h p ap).2)]; omega⟩
        · exact absurd (List.mem_singleton.mp hh) ne
      · replace lp : (if p = r then 0 else d p + 1) < (if h = r then 0 else d h + 1) := lp
        replace lq : (if q = r then 0 else d q + 1) < (if h = r then 0 else d h + 1) := lq
        by_cases e : h = r
        · rw [e, dv] at lp
          omega
        · have old : ∀ {x}, Adj roads' h x → (if x = r then 0 else d x + 1) < (if h = r then 0 else d h + 1) → (Adj roads h x ∧ d x < d h) ∨ (h = u ∧ x = r) := fun {x} hx lx => by
            rcases (adj h x).mp hx with hx | ⟨e1, e2⟩ | ⟨e1, _⟩
            · rw [dx e, dx (nv (T.ends h x hx).2)] at lx
              exact .inl ⟨hx, by omega⟩
            · exact .inr ⟨e1, e2⟩
            · exact absurd e1 e
          rcases old hp lp with ⟨p1, p2⟩ | ⟨p1, p2⟩
          · rcases old hq lq with ⟨q1, q2⟩ | ⟨q1, q2⟩
            · exact R.one h p q p1 q1 p2 q2
            · rw [q1] at p2
              omega
          · rcases old hq lq with ⟨q1, q2⟩ | ⟨q1, q2⟩
            · rw [p1] at q2
              omega
            · rw [p2, q2]
/-- which hands there are is all that matters -/
theorem Rooted.perm {hs hs' : List Str} {roads : List (Str × Str)} {r : Str} {d : Str → Nat} (R : Rooted hs roads r d) (m : ∀ x, x ∈ hs' ↔ x ∈ hs) : Rooted hs' roads r d :=
  ⟨(m r).mpr R.root, R.zero, R.near, fun h hh ne => R.up h ((m h).mp hh) ne, R.one⟩
theorem Rooted.roads {hs : List Str} {roads roads' : List (Str × Str)} {r : Str} {d : Str → Nat} (R : Rooted hs roads r d) (m : ∀ x, x ∈ roads' ↔ x ∈ roads) : Rooted hs roads' r d := by
  have a : ∀ x y, Adj roads' x y ↔ Adj roads x y := fun x y => by unfold Adj; rw [m, m]
  exact ⟨R.root, R.zero, fun x y h => R.near x y ((a x y).mp h), fun h hh ne => by
    obtain ⟨p, h1, h2⟩ := R.up h hh ne
    exact ⟨p, (a h p).mpr h1, h2⟩, fun h p q h1 h2 => R.one h p q ((a h p).mp h1) ((a h q).mp h2)⟩
/-- two unlike texts, sorted -/
theorem sort_two {a b : Str} (ne : a ≠ b) : ∃ x y, [a, b].mergeSort (PySem.W.dataLe false PyData.str) = [x, y] ∧ x.cps.toList < y.cps.toList ∧ ((x = a ∧ y = b) ∨ (x = b ∧ y = a)) := by
  have p := List.mergeSort_perm [a, b] (PySem.W.dataLe false PyData.str)
  have tot := PySem.W.sortLe_total (listOrd itemOrd) false fun b : Str => PySem.W.keyToks (.str b)
  have pw := PySem.W.sort_pairwise tot [a, b]
  have pw' : ([a, b].mergeSort (PySem.W.dataLe false PyData.str)).Pairwise fun x y => PySem.W.dataLe false PyData.str x y = true := pw
  have ln := p.length_eq
  obtain ⟨x, y, e⟩ : ∃ x y, [a, b].mergeSort (PySem.W.dataLe false PyData.str) = [x, y] := by
    match h : [a, b].mergeSort (PySem.W.dataLe false PyData.str), ln with
    | [x, y], _ => exact ⟨x, y, rfl⟩
  rw [e] at p pw'
  have xy : (x = a ∧ y = b) ∨ (x = b ∧ y = a) := by
    have mx : x = a ∨ x = b := by simpa using p.mem_iff.mp (List.mem_cons_self (a := x) (l := [y]))
    have nd : [x, y].Nodup := p.nodup_iff.mpr (by simpa using ne)
    have nxy : x ≠ y := by simpa using nd
    have my : y = a ∨ y = b := by simpa using p.mem_iff.mp (show y ∈ [x, y] by simp)
    rcases mx with h1 | h1 <;> rcases my with h2 | h2
    · exact absurd (h1.trans h2.symm) nxy
    · exact .inl ⟨h1, h2⟩
    · exact .inr ⟨h1, h2⟩
    · exact absurd (h1.trans h2.symm) nxy
  refine ⟨x, y, e, ?_, xy⟩
  have nxy : x ≠ y := by
    rcases xy with ⟨h1, h2⟩ | ⟨h1, h2⟩
    · rw [h1, h2]
      exact ne
    · rw [h1, h2]
      exact ne.symm
  have le := (List.pairwise_cons.mp pw').1 y List.mem_cons_self
  have le2 : (listOrd itemOrd).blt (PySem.W.keyToks (.str y)) (PySem.W.keyToks (.str x)) = false := by
    simpa [PySem.W.dataLe, PySem.W.sortLe] using le
  have c1 : (listOrd itemOrd).blt (PySem.W.keyToks (.str x)) (PySem.W.keyToks (.str y)) = true := by
    cases h : (listOrd itemOrd).blt (PySem.W.keyToks (.str x)) (PySem.W.keyToks (.str y)) with
    | true => rfl
    | false => exact absurd (toks_str ((listOrd itemOrd).total _ _ h le2)) nxy
  simp only [PySem.W.keyToks] at c1
  rcases lex_true.mp c1 with h | ⟨_, h⟩
  · exact of_decide_eq_true (p := x.cps.toList < y.cps.toList) h
  · cases h

end Lw

namespace Lw
open PySem PySem.Spec PyProof.Rows L2 GxR Gx
/-! ### a web beside what is drawn from -/
theorem WebAt.growP {H H' : Hp} {W p : Addr} {c : Int} {hands : List Str} {roads : List (Str × Str)} (h : WebAt H W hands roads) (ne : hands ≠ []) (pot : Pot H p c) (g : Grow [p] H H') : WebAt H' W hands roads := by
  obtain ⟨hs, rs, h1, h2, h3⟩ := h
  obtain ⟨a, b, k, ep, _⟩ := pot
  obtain ⟨xs, e3, t3⟩ := id h3
  have n1 : W ≠ p := fun z => by rw [z, ep] at h1; cases h1
  have n2 : hs ≠ p := fun z => by
    rw [z, ep] at h2
    cases hands with
    | nil => exact ne rfl
    | cons x r => cases h2
  have n3 : rs ≠ p := fun z => by
    rw [z, ep] at e3
    cases e3
    cases roads with
    | nil => cases t3
    | cons r rs => cases t3
  exact ⟨hs, rs, g.tup (by simpa using n1) h1, g.lst (by simpa using n2) h2, h3.grow g (noFrz_lst ep) (by simpa using n3)⟩

/-! ### _law_web -/
section
variable {P : Program} {w : World} {K : PySem.W.Frag} {mg : Str → Option Value} {base : Heap}
def spWeb (K : PySem.W.Frag) : Sp := fun vs H Q _ => ∃ (p : Addr) (m : Nat) (c : Int), vs = [.ref p, .int m] ∧ 1 ≤ m ∧ m ≤ 100 ∧ Pot H p c ∧ c ≤ 2 ^ 19 ∧
  ∀ (W : Addr) (H' : Hp) (hands : List Str) (roads : List (Str × Str)), Fresh H W → Grow [p] H H' → WebAt H' W hands roads → WebOk hands roads → hands.length = m → Pot H' p (c + 1000) → Q (.ref W) H'
theorem ok_law_web {f c : Addr} {fd : FuncData} (B : Nb mg) (D : DefIs K "_law_web" "_law_web" st_law_web f fd (.ref c))
    (c_law_dip : Callee P w K mg base CX0 3 "_law_dip" ["pot", "many"] (spDip K)) (c_law_names : Callee P w K mg base CX0 4 "_law_names" ["pot", "many"] (spNames K)) : FnG P w K mg base CX0 5 f fd ["pot", "many"] (spWeb K) := by
  refine D.ok0 (k := 4) sc_law_web (fun vs H Q E h => ?_) (fun A outer s H vs Q E g hr h => ?_)
  · obtain ⟨p, m, c, rfl, _⟩ := h
    rfl
  obtain ⟨p, m, c, rfl, m1, m2, hp, hc, q⟩ := h
  refine ⟨_,
      (pss_cons (ps_set (i := 2) sc_law_web.nd rfl (.inl rfl) (pe_g c_law_names g (hr.mono (by decide)) pass0 (pa_cons (pv 0) (pa_cons (pv 1) pa_nil))))
      (pss_cons (ps_set (i := 3) sc_law_web.nd rfl (.inl rfl) (pe_g c_law_dip g (hr.mono (by decide)) pass0 (pa_cons (pv 0) (pa_cons pe_int pa_nil))))
      (pss_cons (ps_set (i := 4) sc_law_web.nd rfl (.inl rfl) (pe_lst pa_nil))
      (pss_cons (ps_for PassesOwn.never rfl (pi_range2 rfl B.n_range (pa_cons pe_int (pa_cons (pv 1) pa_nil))) (pg_name (i := 5) sc_law_web.nd rfl (.inl rfl)) (
        (pss_cons (ps_set (i := 6) sc_law_web.nd rfl (.inl rfl) (pe_ix ix_list (pe_lst (pa_cons (pe_op op_sub (pv 5) pe_int) (pa_cons pe_int (pa_cons (pe_g c_law_dip g (hr.mono (by decide)) pass0 (pa_cons (pv 0) (pa_cons (pv 5) pa_nil))) (pa_cons (pe_callB (call_max2 rfl) rfl B.n_max (by decide +kernel) (pa_cons pe_int (pa_cons (pe_op op_sub (pe_op op_sub (pv 5) pe_int) (pe_g c_law_dip g (hr.mono (by decide)) pass0 (pa_cons (pv 0) (pa_cons pe_int pa_nil)))) pa_nil))) pa_nil))))) (pv 3) (fun _ _ => rfl)))
        (pss_one (ps_expr (pe_bm PySem.F.plainAttrs_list PySem.F.slot_list_insert PySem.F.type_list_insert mt_insert (pv 4) (pa_cons (pe_g c_law_dip g (hr.mono (by decide)) pass0 (pa_cons (pv 0) (pa_cons (pv 5) pa_nil))) (pa_cons (pe_callTy call_tupleF rfl B.n_tuple (by decide +kernel) (pa_cons (pe_callB (cr_sortG (val := V.str) (enc := PyData.str) hr.units) rfl B.n_sorted (by decide +kernel) (pa_cons (pe_lst (pa_cons (pe_ix ix_list (pv 2) (pv 5) (fun _ _ => rfl)) (pa_cons (pe_ix ix_list (pv 2) (pv 6) (fun _ _ => rfl)) pa_nil))) pa_nil)) pa_nil)) pa_nil))))))))
      (pss_one (ps_ret (pe_tup (pa_cons (pe_ifExp (pt_cmpR (op_eq) (pe_g c_law_dip g (hr.mono (by decide)) pass0 (pa_cons (pv 0) (pa_cons pe_int pa_nil))) pe_int (nomark _)) (pe_revL (pv 2)) (pe_callB (cr_sortG (val := V.str) (enc := PyData.str) hr.units) rfl B.n_sorted (by decide +kernel) (pa_cons (pv 2) pa_nil))) (pa_cons (pv 4) pa_nil))))))))), ?_⟩
  obtain ⟨pa, pb, pk, ep, pr⟩ := id hp
  refine ⟨.ref p, rfl, .int m, rfl, p, m, c, rfl, m2, hp, by omega, fun Y H1 ys fY g1 eY nd nm ly pot1 => ?_⟩
  have Yp : Y ≠ p := (fY.ne ep (fun ps z => by cases z)).symm
  refine ⟨.ref p, rfl, p, 4, _, rfl, by decide, by decide, by omega, pot1, fun way H2 w0 w1 g2 pot2 => ⟨by show 0 ≤ sizeLine; decide, fun R nR => ?_⟩⟩
  have g02 := (g1.trans g2)
  have fR : Fresh H R := Fresh.back (fresh_none nR) g02 pot2
  have Rp : R ≠ p := (fR.ne ep (fun ps z => by cases z)).symm
  have eY2 : upd H2 R (.lst []) Y = some (.lst (ys.map V.str)) := by
    have e := g2.lst (p := Y) (by simpa using Yp) eY
    rw [upd_ne (ne_of_none e nR)]
    exact e
  have RY : R ≠ Y := fun z => by
    have e := g2.lst (p := Y) (by simpa using Yp) eY
    rw [← z, nR] at e
    cases e
  have y0 : 0 < ys.length := by omega
  have ynd : ∀ {i : Nat} (hi : i < ys.length), ys[i] ∉ ys.take i := fun {i} hi h => by
    obtain ⟨j, hj⟩ := List.mem_iff_getElem?.mp h
    rw [List.getElem?_take] at hj
    by_cases hji : j < i
    · rw [if_pos hji] at hj
      have := (List.getElem?_inj (List.getElem?_eq_some_iff.mp hj).1 nd).mp (hj.trans (List.getElem?_eq_getElem hi).symm)
      omega
    · rw [if_neg hji] at hj
      cases hj
  have tk : ∀ {i : Nat} (hi : i < ys.length), ys.take (i + 1) = ys.take i ++ [ys[i]] := fun {i} hi => by rw [List.take_add_one, List.getElem?_eq_getElem hi]; rfl
  have T0 : TreeOk (ys.take (0 + 1)) [] := by
    rw [tk y0, List.take_zero]
    exact TreeOk.one _
  refine ⟨.int m, rfl, 1, m, rfl, ⟨by decide, by decide, by omega, by omega⟩, ?_⟩
  refine for_it walk_range (fun i σ H' => ∃ (roads : List (Str × Str)) (a b : Option V), σ = [some (.ref p), some (.int m), some (.ref Y), some (.int way), some (.ref R), a, b] ∧ Grow [p] H H' ∧ H' Y = some (.lst (ys.map V.str)) ∧ RdT H' R roads ∧ TreeOk (ys.take (i + 1)) roads ∧ roads.length = i ∧ (∀ r ∈ roads, r.1.cps.toList < r.2.cps.toList) ∧ Pot H' p (c + 201 + 3 * i))
    ⟨[], none, none, rfl, g02.new nR, eY2, ⟨[], upd_same, .nil⟩, T0, rfl, fun r hr => (by cases hr), (pot2.new nR).mono (by omega)⟩ (fun _ _ _ _ _ => trivial) (fun i x σ H3 H4 hi hw hy => ?_) (fun σ H3 hw => ?_)
  · obtain ⟨roads, a0, b0, rfl, gr, eY3, hR, tree, lr, lt, pot⟩ := hw
    obtain ⟨rfl, ex⟩ := hy
    have im : i + 1 < ys.length := by omega
    have ek : (1 : Int) + (i : Nat) = ((i + 1 : Nat) : Int) := by omega
    replace ex : x = V.int ((i + 1 : Nat) : Int) := Eq.trans ex (congrArg V.int ek)
    subst ex
    refine ⟨.int _, rfl, _, _, rfl, rfl, .ref p, rfl, .int _, rfl, p, _, _, rfl, by omega, by omega, by omega, pot, fun v1 H5 a0 a1 g5 pot5 => ?_⟩
    refine ⟨.int _, rfl, _, _, rfl, rfl, .ref p, rfl, p, 3, _, rfl, by decide, by decide, by omega, pot5, fun v2 H6 b0 b1 g6 pot6 => ⟨_, _, rfl, rfl, _, _, rfl, by show 4 ≤ sizeLine; decide, fun L nL => ?_⟩⟩
    obtain ⟨at_, hat, ati⟩ : ∃ at_ : Nat, atI [V.int (((i + 1 : Nat) : Int) - 1), V.int 0, V.int v1, V.int (if ((i + 1 : Nat) : Int) - 1 - v2 > 0 then ((i + 1 : Nat) : Int) - 1 - v2 else 0)] way = some (.int at_) ∧ at_ ≤ i := by
      have : way = 0 ∨ way = 1 ∨ way = 2 ∨ way = 3 := by omega
      rcases this with rfl | rfl | rfl | rfl
      · exact ⟨i, by show some (V.int (((i + 1 : Nat) : Int) - 1)) = _; congr 2; omega, Nat.le_refl _⟩
      · exact ⟨0, rfl, Nat.zero_le _⟩
      · exact ⟨v1.toNat, by show some (V.int v1) = _; congr 2; omega, by omega⟩
      · refine ⟨(if ((i + 1 : Nat) : Int) - 1 - v2 > 0 then ((i + 1 : Nat) : Int) - 1 - v2 else 0).toNat, ?_, ?_⟩
        · show some (V.int _) = some (V.int _)
          congr 2
          split <;> omega
        · split <;> omega
    have g46 := g5.trans g6
    have eY6 : H6 Y = some (.lst (ys.map V.str)) := g46.lst (by simpa using Yp) eY3
    obtain ⟨_, _, _, eqp, _⟩ := id pot
    have hR6 := hR.grow g46 (noFrz_lst eqp) (by simpa using Rp)
    refine ⟨.int way, rfl, L, _, way, .int at_, rfl, rfl, .inl (.inl upd_same), hat, ?_⟩
    have gr6 := gr.trans g46
    have gL := gr6.new (o := .lst [V.int (((i + 1 : Nat) : Int) - 1), V.int 0, V.int v1, V.int (if ((i + 1 : Nat) : Int) - 1 - v2 > 0 then ((i + 1 : Nat) : Int) - 1 - v2 else 0)]) nL
    have gnL : Grow [] H6 (upd H6 L (.lst [V.int (((i + 1 : Nat) : Int) - 1), V.int 0, V.int v1, V.int (if ((i + 1 : Nat) : Int) - 1 - v2 > 0 then ((i + 1 : Nat) : Int) - 1 - v2 else 0)])) := grow_new nL
    have potL := pot6.new (o := .lst [V.int (((i + 1 : Nat) : Int) - 1), V.int 0, V.int v1, V.int (if ((i + 1 : Nat) : Int) - 1 - v2 > 0 then ((i + 1 : Nat) : Int) - 1 - v2 else 0)]) nL
    have eYL := gnL.lst (by simp) eY6
    have hRL := hR6.grow gnL noFrz_nil (by simp)
    generalize upd H6 L (.lst [V.int (((i + 1 : Nat) : Int) - 1), V.int 0, V.int v1, V.int (if ((i + 1 : Nat) : Int) - 1 - v2 > 0 then ((i + 1 : Nat) : Int) - 1 - v2 else 0)]) = H7 at gL potL eYL hRL ⊢
    obtain ⟨xsL, eRL, _⟩ := id hRL
    refine ⟨.ref R, rfl, tyl eRL, .ref p, rfl, .int _, rfl, p, _, _, rfl, by omega, by omega, by omega, potL, fun v3 H8 c0 c1 g8 pot8 => ?_⟩
    have eY8 : H8 Y = some (.lst (ys.map V.str)) := g8.lst (by simpa using Yp) eYL
    obtain ⟨_, _, _, eqL, _⟩ := id potL
    have hR8 := hRL.grow g8 (noFrz_lst eqL) (by simpa using Rp)
    have gr8 := gL.trans g8
    refine ⟨.ref Y, rfl, .int _, rfl, Y, _, _, .str ys[i + 1], rfl, rfl, .inl (.inl eY8), atI_nat (by rw [List.getElem?_map, List.getElem?_eq_getElem im]; rfl), .ref Y, rfl, .int at_, rfl, Y, _, _, .str (ys[at_]'(by omega)), rfl, rfl, .inl (.inl eY8), atI_nat (by rw [List.getElem?_map, List.getElem?_eq_getElem (by omega)]; rfl), by show 2 ≤ sizeLine; decide, fun L2 n2 => ?_⟩
    have nab : ys[i + 1] ≠ ys[at_]'(by omega) := fun z => by
      have := (List.getElem?_inj (j := at_) im nd).mp (by rw [List.getElem?_eq_getElem im, List.getElem?_eq_getElem (show at_ < ys.length by omega), z])
      omega
    obtain ⟨x, y, es, xy, xab⟩ := sort_two nab
    refine ⟨L2, [ys[i + 1], ys[at_]'(by omega)], rfl, .inl (.inl upd_same), fun z hz => ⟨.str z, by show 0 ≤ 60; decide⟩, alike_strs _, sortable_strs _, by show 2 ≤ sizeLine; decide, fun S nS => ?_⟩
    rw [es]
    refine ⟨S, _, rfl, .inl (.inl upd_same), fun T To nT dT0 => ?_⟩
    have gT : Grow [] H8 (upd (upd (upd H8 L2 (.lst [.str ys[i + 1], .str (ys[at_]'(by omega))])) S (.lst ([x, y].map V.str))) T (.frz To (.tup ([x, y].map V.str)))) := ((grow_new n2).new nS).new nT
    have hRT := hR8.grow gT noFrz_nil (by simp)
    have eT : upd (upd (upd H8 L2 (.lst [.str ys[i + 1], .str (ys[at_]'(by omega))])) S (.lst ([x, y].map V.str))) T (.frz To (.tup ([x, y].map V.str))) T = some (.frz To (.tup [.str x, .str y])) := upd_same
    obtain ⟨xs, eRT, tx⟩ := id hRT
    have lxs : xs.length = i := by rw [tx.length, lr]
    have dT := (⟨To, eT, dT0⟩ : Pr _ T (x, y))
    refine ⟨R, xs, v3, .ref T, rfl, rfl, eRT, by rw [lxs]; unfold sizeLine; omega, c0, by omega, ?_⟩
    have grT := gr8.trans gT.any
    have gP := grow_at (ex := [R]) (o := .lst (xs.take v3.toNat ++ [.ref T] ++ xs.drop v3.toNat)) eRT (fun ps z => by cases z) (by simp)
    have mem : ∀ z, z ∈ roads.take v3.toNat ++ [(x, y)] ++ roads.drop v3.toNat ↔ z = (x, y) ∨ z ∈ roads := fun z => by
      have e : roads = roads.take v3.toNat ++ roads.drop v3.toNat := (List.take_append_drop _ _).symm
      constructor
      · intro h
        rcases List.mem_append.mp h with h | h
        · rcases List.mem_append.mp h with h | h
          · exact .inr (List.mem_of_mem_take h)
          · exact .inl (List.mem_singleton.mp h)
        · exact .inr (List.mem_of_mem_drop h)
      · rintro (h | h)
        · rw [h]
          simp
        · rw [e] at h
          rcases List.mem_append.mp h with h | h
          · exact List.mem_append_left _ (List.mem_append_left _ h)
          · exact List.mem_append_right _ h
    refine ⟨roads.take v3.toNat ++ [(x, y)] ++ roads.drop v3.toNat, _, _, rfl, grT.put fR eRT (fun ps z => by cases z), ?_, ?_, ?_, ?_, ?_, ?_⟩
    · rw [upd_ne RY.symm]
      exact gT.lst (by simp) eY8
    · refine ⟨_, upd_same, ?_⟩
      exact (Prs.ins dT v3.toNat tx).grow gP (noFrz_lst eRT)
    · rw [tk im]
      refine tree.grow (u := ys[at_]'(by omega)) (v := ys[i + 1]) (ynd im) ?_ fun a b => ?_
      · exact List.mem_iff_getElem?.mpr ⟨at_, by rw [List.getElem?_take, if_pos (by omega), List.getElem?_eq_getElem]⟩
      · unfold Adj
        rw [mem, mem, Prod.mk.injEq, Prod.mk.injEq]
        rcases xab with ⟨rfl, rfl⟩ | ⟨rfl, rfl⟩
        · constructor
          · rintro ((h | h) | (h | h))
            · exact .inr (.inr h)
            · exact .inl (.inl h)
            · exact .inr (.inl ⟨h.2, h.1⟩)
            · exact .inl (.inr h)
          · rintro ((h | h) | h | h)
            · exact .inl (.inr h)
            · exact .inr (.inr h)
            · exact .inr (.inl ⟨h.2, h.1⟩)
            · exact .inl (.inl h)
        · constructor
          · rintro ((h | h) | (h | h))
            · exact .inr (.inl h)
            · exact .inl (.inl h)
            · exact .inr (.inr ⟨h.2, h.1⟩)
            · exact .inl (.inr h)
          · rintro ((h | h) | h | h)
            · exact .inl (.inr h)
            · exact .inr (.inr h)
            · exact .inl (.inl h)
            · exact .inr (.inl ⟨h.2, h.1⟩)
    · rw [List.length_append, List.length_append, List.length_take, List.length_drop, List.length_singleton]
      omega
    · intro r hr
      rcases (mem r).mp hr with h | h
      · rw [h]
        exact xy
      · exact lt r h
    · exact ((((pot8.new n2).new nS).new nT).at Rp.symm).mono (by omega)
  · obtain ⟨roads, a0, b0, rfl, gr, eY3, hR, tree, lr, lt, pot⟩ := hw
    have e1 : ((m : Int) - 1).toNat + 1 = ys.length := by omega
    rw [e1, List.take_length] at tree
    obtain ⟨qa, qb, qk, eq3, _⟩ := id pot
    refine ⟨.ref p, rfl, p, 2, _, rfl, by decide, by decide, by omega, pot, fun v H4 v0 v1 g4 pot4 => ⟨rfl, _, rfl, ?_⟩⟩
    have gr4 := gr.trans g4
    have eY4 : H4 Y = some (.lst (ys.map V.str)) := g4.lst (by simpa using Yp) eY3
    have hR4 := hR.grow g4 (noFrz_lst eq3) (by simpa using Rp)
    obtain ⟨xs4, eR4, _⟩ := id hR4
    have fin : ∀ (Z : Addr) (zs : List Str), H4 Z = none → zs.Perm ys → ∀ W, upd H4 Z (.lst (zs.map V.str)) W = none → Q (.ref W) (upd (upd H4 Z (.lst (zs.map V.str))) W (.tup [.ref Z, .ref R])) := fun Z zs nZ pm W nW => by
      have gZ : Grow [] H4 (upd (upd H4 Z (.lst (zs.map V.str))) W (.tup [.ref Z, .ref R])) := (grow_new nZ).new nW
      refine q W _ zs roads (Fresh.back (fresh_none (by rwa [upd_ne (show W ≠ Z from fun z => by rw [z, upd_same] at nW; cases nW)] at nW)) gr4 pot4) (gr4.trans gZ.any) ⟨Z, R, upd_same, ?_, hR4.grow gZ noFrz_nil (by simp)⟩ ?_ (by rw [pm.length_eq, ly]) (((pot4.new nZ).new nW).mono (by omega))
      · rw [upd_ne (ne_of_none upd_same nW)]
        exact upd_same
      · have mm : ∀ x, x ∈ zs ↔ x ∈ ys := fun x => pm.mem_iff
        refine ⟨List.all_eq_true.mpr fun x hx => List.all_eq_true.mp nm x ((mm x).mp hx), pm.nodup_iff.mpr nd, by rw [pm.length_eq]; omega, fun z => ?_, by rw [pm.length_eq]; omega, fun r hr => ?_, fun r hr => ?_⟩
        · have := pm.length_eq
          rw [z] at this
          rw [← this] at y0
          exact absurd y0 (by simp)
        · have := tree.ends r.1 r.2 (.inl hr)
          exact ⟨(mm _).mpr this.1, (mm _).mpr this.2, lt r hr⟩
        · obtain ⟨d, R2⟩ := tree.tree r ((mm r).mp hr)
          exact ⟨d, R2.perm mm⟩
    refine ite2 (fun _ => ?_) fun _ => ?_
    · refine ⟨.ref Y, rfl, Y, _, rfl, .inl (.inl eY4), fun Z nZ => ⟨.ref R, rfl, by show 2 ≤ sizeLine; decide, fun W nW => ?_⟩⟩
      rw [← List.map_reverse] at nW ⊢
      exact fin Z ys.reverse nZ (List.reverse_perm ys) W nW
    · refine ⟨.ref Y, rfl, Y, ys, rfl, .inl (.inl eY4), fun z hz => ⟨.str z, by show 0 ≤ 60; decide⟩, alike_strs _, sortable_strs _, by unfold sizeLine; omega, fun Z nZ => ⟨.ref R, rfl, by show 2 ≤ sizeLine; decide, fun W nW => ?_⟩⟩
      exact fin Z _ nZ (List.mergeSort_perm ys _) W nW
end

end Lw

namespace Lw
open PySem PySem.Spec PyProof.Rows L2 GxR Gx
/-- a thing of the law -/
structure Tgl (K : PySem.W.Frag) (ex : List Addr) (H : Hp) (v : V) (d : PyData) : Prop where
  db : Db K ex H v d
  sh : Sh d 6 4000
  fl : RoadsFlat d
theorem Tgl.grow {K : PySem.W.Frag} {ex : List Addr} {H H' : Hp} {v : V} {d : PyData} (h : Tgl K ex H v d) (g : Grow ex H H') : Tgl K ex H' v d := ⟨h.db.grow g, h.sh, h.fl⟩
theorem shown_small {d : PyData} (h : Sh d 6 4000) : d.shown.length ≤ sizeLine := by
  have h1 := PyData.shown_le_bulk 20 (by decide) _ h.leaves
  have h2 := h.bulk
  rw [sizeLine_eq]
  omega
theorem bl_show (d : Bool) : (PyData.bool d).showable = true ∧ (PyData.bool d).hasDict = false ∧ (PyData.bool d).depth ≤ 60 ∧ (PyData.bool d).shown.length ≤ sizeLine := by
  rw [sizeLine_eq]
  cases d <;> exact ⟨by decide +kernel, by decide +kernel, by decide +kernel, by decide +kernel⟩
theorem web_tgl {K : PySem.W.Frag} {p W : Addr} {c : Int} {H : Hp} {hands : List Str} {roads : List (Str × Str)} (t : Pot H p c) (hW : WebAt H W hands roads) (wo : WebOk hands roads) (l : hands.length ≤ 100) : Tgl K [p] H (.ref W) (webDt hands roads) := by
  obtain ⟨hs, rs, eW, eh, xs, er, tx⟩ := hW
  have m := wo.many
  obtain ⟨x, y, z, ep, _⟩ := id t
  have nmH : ∀ z ∈ hands, isNm z = true := fun z hz => List.all_eq_true.mp wo.nm z hz
  have rnm : ∀ r ∈ roads, isNm r.1 = true ∧ isNm r.2 = true := fun r hr => ⟨nmH _ (wo.ends r hr).1, nmH _ (wo.ends r hr).2.1⟩
  have X : ∀ a ∈ [p], ∃ xs, H a = some (.lst xs) := fun a ha => by rw [List.mem_singleton.mp ha]; exact ⟨_, ep⟩
  have n1 : hs ∉ [p] := by simpa using ne_of eh ep (fun q => by
    injection q with q
    cases hands with
    | nil => exact wo.ne rfl
    | cons _ _ => cases q)
  have n2 : rs ∉ [p] := by simpa using ne_of er ep (fun q => by
    injection q with q
    subst q
    cases tx)
  have b1 := names_ob (K := K) n1 eh wo.nm (by omega)
  have b2 := real_ob (K := K) n2 er (prs_dbs X tx) rnm (by omega)
  refine ⟨.tup (by simpa using ne_of eW ep (by simp)) (.inl (.inl eW)) (.cons b1.db (.cons b2.db .nil)), (sh_two b1.sh b2.sh).1.mono (Nat.le_refl _) (by decide), flat_of ⟨_, rfl, by rw [List.length_map]; omega, fun r hr => ?_⟩⟩
  obtain ⟨q, hq, rfl⟩ := List.mem_map.mp hr
  exact road_enc (rnm q hq).1 (rnm q hq).2
theorem join_signs : ∀ l : List Nat, Str.join Str.empty (l.map fun c => (⟨#[c]⟩ : Str)) = ⟨l.toArray⟩
  | [] => rfl
  | [c] => rfl
  | c :: d :: l => by
    show (⟨#[c]⟩ : Str) ++ Str.empty ++ Str.join Str.empty ((d :: l).map fun c => (⟨#[c]⟩ : Str)) = _
    rw [join_signs (d :: l)]
    refine str_cps ?_
    show ((#[c] ++ #[]) ++ (d :: l).toArray).toList = c :: d :: l
    simp
section
variable {P : Program} {w : World} {K : PySem.W.Frag} {mg : Str → Option Value} {base : Heap}
/-! ### law -/
def spLaw (K : PySem.W.Frag) (T1 T2 T3 : Addr) : Sp := fun vs H Q _ => ∃ (a : Addr) (ns : List Int), vs = [.ref a] ∧ TabG H T1 ∧ TabG H T2 ∧ TabG H T3 ∧ SqL K H a (ns.map V.int) ∧ ∀ (H' : Hp), Grow [] H H' → Q (.bl true) H'
theorem ok_law {f c T1 T2 T3 : Addr} {fd : FuncData} (B : Nb mg) (D : DefIs K "law" "law" st_law f fd (.ref c))
    (c_law_pot : Callee P w K mg base CX0 3 "_law_pot" ["script", "k"] (spPot K)) (c_law_dip : Callee P w K mg base CX0 3 "_law_dip" ["pot", "many"] (spDip K))
    (c_law_web : Callee P w K mg base CX0 5 "_law_web" ["pot", "many"] (spWeb K)) (c_law_odd : Callee P w K mg base CX0 4 "_law_odd" ["pot"] (spOdd K)) (c_law_bent : Callee P w K mg base CX0 5 "_law_bent" ["pot", "web"] (spBent K))
    (c_is_web : Callee P w K mg base CX0 9 "is_web" ["thing"] (spIsWebA K T1 T2 T3)) (c_law_is_web : Callee P w K mg base CX0 6 "_law_is_web" ["thing"] (spLawIsWeb K))
    (c_is_name : Callee P w K mg base CX0 4 "is_name" ["thing"] (spIsName K T1)) (c_law_is_name : Callee P w K mg base CX0 3 "_law_is_name" ["thing"] (spLawName K)) :
    FnG P w K mg base CX0 10 f fd ["script"] (spLaw K T1 T2 T3) := by
  refine D.ok0 (k := 9) sc_law (fun vs H Q E h => ?_) (fun A outer s H vs Q E g hr h => ?_)
  · obtain ⟨a, ns, rfl, _⟩ := h
    rfl
  obtain ⟨a, ns, rfl, t1, t2, t3, ha, q⟩ := h
  refine ⟨_,
      (pss_cons (ps_for PassesOwn.never rfl (pi_range1 rfl B.n_range (pa_cons (pe_callB (call_max2 rfl) rfl B.n_max (by decide +kernel) (pa_cons pe_int (pa_cons (pe_callB (call_min2 rfl) rfl B.n_min (by decide +kernel) (pa_cons pe_int (pa_cons (pe_op op_add (pe_callB call_len_seq rfl B.n_len PySem.boot_len (pa_cons (pv 0) pa_nil)) pe_int) pa_nil))) pa_nil))) pa_nil)) (pg_name (i := 1) sc_law.nd rfl (.inl rfl)) (
        (pss_cons (ps_set (i := 2) sc_law.nd rfl (.inr rfl) (pe_g c_law_pot g (hr.mono (by decide)) pass0 (pa_cons (pv 0) (pa_cons (pv 1) pa_nil))))
        (pss_cons (ps_set (i := 3) sc_law.nd rfl (.inl rfl) (pe_g c_law_web g (hr.mono (by decide)) pass0 (pa_cons (pv 2) (pa_cons (pe_ix ix_list (pe_lst (pa_cons (pe_op op_add pe_int (pe_g c_law_dip g (hr.mono (by decide)) pass0 (pa_cons (pv 2) (pa_cons pe_int pa_nil)))) (pa_cons (pe_op op_add pe_int (pe_g c_law_dip g (hr.mono (by decide)) pass0 (pa_cons (pv 2) (pa_cons pe_int pa_nil)))) (pa_cons pe_int pa_nil)))) (pe_op op_fdiv (pe_g c_law_dip g (hr.mono (by decide)) pass0 (pa_cons (pv 2) (pa_cons pe_int pa_nil))) pe_int) (fun _ _ => rfl)) pa_nil))))
        (pss_cons (ps_set (i := 4) sc_law.nd rfl (.inl rfl) (pe_lst (pa_cons (pv 3) (pa_cons (pe_g c_law_odd g (hr.mono (by decide)) pass0 (pa_cons (pv 2) pa_nil)) (pa_cons (pe_g c_law_odd g (hr.mono (by decide)) pass0 (pa_cons (pv 2) pa_nil)) pa_nil)))))
        (pss_cons (ps_for PassesOwn.never rfl (pi_range1 rfl B.n_range (pa_cons (pe_op op_sub pe_int (pe_op op_mulX pe_int (pe_callTy call_int1 rfl B.n_int (by decide +kernel) (pa_cons (pe_cmpR (op_gt) (pe_callB call_len_seq rfl B.n_len PySem.boot_len (pa_cons (pe_ix ix_tup (pv 3) pe_int (fun _ _ => rfl)) pa_nil)) pe_int (nomark _)) pa_nil)))) pa_nil)) (pg_name (i := 5) sc_law.nd rfl (.inl rfl)) (
          (pss_one (ps_expr (pe_bm PySem.F.plainAttrs_list PySem.F.slot_list_append PySem.F.type_list_append mt_append (pv 4) (pa_cons (pe_g c_law_bent g (hr.mono (by decide)) pass0 (pa_cons (pv 2) (pa_cons (pv 3) pa_nil))) pa_nil))))))
        (pss_cons (ps_for PassesOwn.never rfl (pi_list (pv 4)) (pg_name (i := 6) sc_law.nd rfl (.inl rfl)) (
          (pss_cons (ps_set (i := 7) sc_law.nd rfl (.inl rfl) (pe_callB (cr_reprA g hr.units) rfl B.n_repr (by decide +kernel) (pa_cons (pv 6) pa_nil)))
          (pss_one (ps_if (PW.pt (pw_or (pt_cmpR (op_ne) (pe_callB (cr_repr g hr.units) rfl B.n_repr (by decide +kernel) (pa_cons (pe_g c_is_web g (hr.mono (by decide)) pass0 (pa_cons (pv 6) pa_nil)) pa_nil)) (pe_callB (cr_repr g hr.units) rfl B.n_repr (by decide +kernel) (pa_cons (pe_g c_law_is_web g (hr.mono (by decide)) pass0 (pa_cons (pv 6) pa_nil)) pa_nil)) (nomark _)) (pw_or1 (pt_cmpR (op_ne) (pe_callB (cr_reprA g hr.units) rfl B.n_repr (by decide +kernel) (pa_cons (pv 6) pa_nil)) (pv 7) (nomark _))))) (
            (pss_one (ps_ret pe_bl))) pss_nil)))))
        (pss_cons (ps_set (i := 8) sc_law.nd rfl (.inr rfl) pe_str)
        (pss_cons (ps_set (i := 9) sc_law.nd rfl (.inr rfl) (pe_ix ix_list (pe_lst (pa_cons pe_int (pa_cons pe_int pa_nil))) (pe_g c_law_dip g (hr.mono (by decide)) pass0 (pa_cons (pv 2) (pa_cons pe_int pa_nil))) (fun _ _ => rfl)))
        (pss_cons (ps_set (i := 10) sc_law.nd rfl (.inl rfl) (pe_bm PySem.F.plainAttrs_str PySem.F.slot_str_join PySem.F.type_str_join mt_join pe_str (pa_cons (pe_lc (own := [("turn", 5)]) (tt := tYes) (g := (gName 5)) rfl sc_law.nd (pi_range1 rfl B.n_range (pa_cons (pe_g c_law_dip g (hr.mono (by decide)) pass0 (pa_cons (pv 2) (pa_cons pe_int pa_nil))) pa_nil)) (blkOk_by (N := N_law) (sc := defScope st_law) (by decide +kernel)) (fun _ _ _ _ _ => (pg_name (i := 5) sc_law.nd rfl (.inl rfl))) (fun _ _ _ _ _ => pts_nil) (fun _ _ _ _ _ => pe_to (pe_ix ix_str (pv 8) (pe_g c_law_dip g (hr.mono (by decide)) pass0 (pa_cons (pv 2) (pa_cons (pv 9) pa_nil))) (fun _ _ => rfl)))) pa_nil)))
        (pss_one (ps_for PassesOwn.never rfl (pi_list (pe_lst (pa_cons (pv 10) (pa_cons (pe_g c_law_odd g (hr.mono (by decide)) pass0 (pa_cons (pv 2) pa_nil)) (pa_cons (pe_ix ix_list (pe_ix ix_tup (pv 3) pe_int (fun _ _ => rfl)) pe_int (fun _ _ => rfl)) (pa_cons (pe_op op_add_str (pv 10) pe_str) pa_nil)))))) (pg_name (i := 6) sc_law.nd rfl (.inl rfl)) (
          (pss_one (ps_if (pt_cmpR (op_ne) (pe_callB (cr_repr g hr.units) rfl B.n_repr (by decide +kernel) (pa_cons (pe_g c_is_name g (hr.mono (by decide)) pass0 (pa_cons (pv 6) pa_nil)) pa_nil)) (pe_callB (cr_repr g hr.units) rfl B.n_repr (by decide +kernel) (pa_cons (pe_g c_law_is_name g (hr.mono (by decide)) pass0 (pa_cons (pv 6) pa_nil)) pa_nil)) (nomark _)) (
            (pss_one (ps_ret pe_bl))) pss_nil)))))))))))))))
      (pss_one (ps_ret pe_bl))), ?_⟩
  refine ⟨.ref a, rfl, a, _, rfl, .inl ha, _, _, rfl, rfl, _, _, rfl, _, _, rfl, ?_⟩
  obtain ⟨n, hn, n8⟩ : ∃ n : Int, (if (if ((ns.map V.int).length : Int) + 1 < 10 then ((ns.map V.int).length : Int) + 1 else 10) > 1 then (if ((ns.map V.int).length : Int) + 1 < 10 then ((ns.map V.int).length : Int) + 1 else 10) else 1) = n ∧ 0 ≤ n ∧ n ≤ 10 := ⟨_, rfl, by omega⟩
  rw [hn]
  refine ⟨n, rfl, by omega, by omega, ?_⟩
  refine for_it walk_range (fun i σ H' => ∃ x1 x2 x3 x4 x5 x6 x7 x8 x9 xa : Option V, σ = [some (.ref a), x1, x2, x3, x4, x5, x6, x7, x8, x9, xa] ∧ Grow [] H H') ⟨none, none, none, none, none, none, none, none, none, none, rfl, Grow.refl _ _⟩ (fun _ _ _ _ _ => trivial) (fun i x σ H2 H3 hi hp hy => ?_) (fun σ H2 hp => ?_)
  · obtain ⟨x1, x2, x3, x4, x5, x6, x7, x8, x9, xa, rfl, gr⟩ := hp
    obtain ⟨rfl, rfl⟩ := hy
    refine ⟨.ref a, rfl, .int (0 + i), rfl, a, ns, i, by show [V.ref a, V.int (0 + (i : Int))] = [V.ref a, V.int (i : Int)]; rw [Int.zero_add], gr.seq0 ha, by omega, fun p H4 fp g4 pot4 => ?_⟩
    have gr4 := gr.trans g4
    have fpH := gr.fresh (by simp) fp
    have G4 : Grow [p] H H4 := gr4.any
    refine ⟨.ref p, rfl, .ref p, rfl, p, 13, 0, rfl, by decide, by decide, by decide, pot4, fun v1 H5 v10 v11 g5 pot5 => ⟨_, _, rfl, rfl, ?_⟩⟩
    refine ⟨.ref p, rfl, p, 4, _, rfl, by decide, by decide, by decide, pot5, fun v2 H6 v20 v21 g6 pot6 => ⟨_, _, rfl, rfl, by show 3 ≤ sizeLine; decide, fun L0 nL0 => ?_⟩⟩
    obtain ⟨H7, q7, g7, m7, e7, pot7⟩ := lay (o := .lst [.int (1 + v1), .int (1 + v2), .int 100]) nL0 pot6
    rw [q7]
    refine ⟨.ref p, rfl, p, 9, _, rfl, by decide, by decide, by decide, pot7, fun v3 H8 v30 v31 g8 pot8 => ⟨_, _, rfl, rfl, ⟨by decide, by decide⟩, ?_⟩⟩
    have e8 := g8.lst m7 e7
    obtain ⟨m, hm, m1, m2⟩ : ∃ m : Nat, atI [V.int (1 + v1), .int (1 + v2), .int 100] (v3 / 4) = some (.int m) ∧ 1 ≤ m ∧ m ≤ 100 := by
      obtain h | h | h : v3 / 4 = 0 ∨ v3 / 4 = 1 ∨ v3 / 4 = 2 := by omega
      · exact ⟨(1 + v1).toNat, by rw [h, show (((1 + v1).toNat : Nat) : Int) = 1 + v1 by omega]; rfl, by omega, by omega⟩
      · exact ⟨(1 + v2).toNat, by rw [h, show (((1 + v2).toNat : Nat) : Int) = 1 + v2 by omega]; rfl, by omega, by omega⟩
      · exact ⟨100, by rw [h]; rfl, by decide, by decide⟩
    refine ⟨L0, _, _, .int m, rfl, rfl, .inl (.inl e8), hm, p, m, _, rfl, m1, m2, pot8, by decide, fun W H9 hands roads fW g9 hW wo hl pot9 => ?_⟩
    have G9 : Grow [p] H H9 := (((((G4.trans g5).trans g6).trans g7.any).trans g8).trans g9)
    replace pot9 := pot9.mono (c' := 2000) (by decide)
    clear g5 g6 g7 g8 g9 pot4 pot5 pot6 pot7 pot8 e8 e7 q7 nL0
    have tw := web_tgl (K := K) pot9 hW wo (by omega)
    have Xp : ∀ {H' : Hp} {c : Int}, Pot H' p c → ∀ a ∈ [p], H' a ≠ none := fun t a ha z => by
      obtain ⟨x, y, k, e, _⟩ := t
      rw [List.mem_singleton.mp ha, e] at z
      cases z
    refine ⟨.ref W, rfl, .ref p, rfl, p, [p], _, rfl, pot9, by decide, by simp, Xp pot9, fun o1 H10 d1 g10 db1 sh1 fl1 pot10 => ?_⟩
    refine ⟨.ref p, rfl, p, [p], _, rfl, pot10, by decide, by simp, Xp pot10, fun o2 H11 d2 g11 db2 sh2 fl2 pot11 => ⟨by show 3 ≤ sizeLine; decide, fun L nL => ?_⟩⟩
    have g9b := g10.trans g11
    obtain ⟨H12, q12, g12, m12, e12, pot12⟩ := lay (o := .lst [.ref W, o1, o2]) nL pot11
    rw [q12]
    have Lp : L ≠ p := by simpa using m12
    have fL : Fresh H11 L := fresh_none nL
    have hW11 := hW.growP wo.ne pot9 g9b
    have G11 := G9.trans g9b
    have s11 : ∀ v ∈ [V.ref W, o1, o2], ∃ d, Tgl K [p] H11 v d := fun v hv => by
      rcases List.mem_cons.mp hv with rfl | hv
      · exact ⟨_, tw.grow g9b⟩
      · rcases List.mem_cons.mp hv with rfl | hv
        · exact ⟨_, ⟨db1.grow g11, sh1.mono (by decide) (by decide), fl1⟩⟩
        · rw [List.mem_singleton.mp hv]
          exact ⟨_, ⟨db2, sh2.mono (by decide) (by decide), fl2⟩⟩
    obtain ⟨hs, rs, eW, eh, er⟩ := id (hW11.grow g12)
    refine ⟨.ref W, rfl, W, _, 0, .ref hs, rfl, rfl, .inl (.inl eW), rfl, hs, _, rfl, .inl (.inl (.inl eh)), _, _, rfl, rfl, .inr ⟨_, rfl, _, _, rfl, rfl, ?_⟩⟩
    obtain ⟨b, hb⟩ : ∃ b : Bool, decide ((20 : Int) < ((hands.map V.str).length : Nat)) = b := ⟨_, rfl⟩
    rw [hb]
    have nk : (6 : Int) - 5 * (if b = true then 1 else 0) = 1 ∨ (6 : Int) - 5 * (if b = true then 1 else 0) = 6 := by cases b <;> simp
    obtain ⟨nn, hnn⟩ : ∃ nn : Int, (6 : Int) - 5 * (if b = true then 1 else 0) = nn := ⟨_, rfl⟩
    rw [hnn] at nk
    have cm : CMulX 5 (if b = true then 1 else 0) := by
      unfold CMulX
      cases b <;> decide +kernel
    refine ⟨cm, _, _, rfl, rfl, ?_⟩
    refine ⟨nn, by rw [← hnn], by omega, by omega, ?_⟩
    refine for_it walk_range (fun j σ H' => ∃ (y x5 x6 x7 x8 x9 : Option V) (bs : List V), σ = [some (.ref a), some (.int (0 + (i : Nat))), some (.ref p), some (.ref W), some (.ref L), y, x5, x6, x7, x8, x9] ∧ Grow [p] H11 H' ∧ Pot H' p (3000 + 300 * j) ∧ H' L = some (.lst ([.ref W, o1, o2] ++ bs)) ∧ bs.length = j ∧ ∀ v ∈ bs, ∃ d, Tgl K [p, L] H' v d)
      ⟨_, _, _, _, _, _, [], rfl, g12.any, pot12.mono (by decide), by rw [List.append_nil]; exact e12, rfl, fun v hv => by cases hv⟩ (fun _ _ _ _ _ => trivial) (fun j x σ H13 H14 hj hp hy => ?_) (fun σ H13 hp => ?_)
    · obtain ⟨y, x5, x6, x7, x8, x9, bs, rfl, g13, pot13, eL, lb, hbs⟩ := hp
      obtain ⟨rfl, rfl⟩ := hy
      have j6 : j < 6 := by omega
      refine ⟨.ref L, rfl, tyl eL, .ref p, rfl, .ref W, rfl, p, W, [p, L], _, hands, roads, rfl, pot13, by omega, by simp, fun b hb => ?_, hW11.growP wo.ne pot11 g13, wo, by omega, fun v H15 d g15 ob fl pot15 => ?_⟩
      · rcases List.mem_cons.mp hb with rfl | hb
        · obtain ⟨x, y, z, e, _⟩ := pot13
          exact ⟨_, e⟩
        · rw [List.mem_singleton.mp hb]
          exact ⟨_, eL⟩
      · have eL15 := g15.lst (by simpa using Lp) eL
        have gu : Grow [p, L] H15 (upd H15 L (.lst ([.ref W, o1, o2] ++ bs ++ [v]))) := grow_at eL15 (fun ps z => by cases z) (by simp)
        have g15' : Grow [p, L] H14 H15 := g15.mono fun a ha => by rw [List.mem_singleton.mp ha]; simp
        refine ⟨L, _, _, rfl, rfl, eL15, by rw [List.length_append, lb]; show 3 + j < sizeLine; rw [sizeLine_eq]; omega, _, _, _, _, _, _, bs ++ [v], rfl, (g13.trans g15).put fL eL15 (fun ps z => by cases z), (pot15.at (Ne.symm Lp)).mono (by omega), by rw [upd_same, List.append_assoc], by rw [List.length_append, lb]; rfl, fun u hu => ?_⟩
        rcases List.mem_append.mp hu with hu | hu
        · obtain ⟨d, td⟩ := hbs u hu
          exact ⟨d, (td.grow g15').grow gu⟩
        · rw [List.mem_singleton.mp hu]
          exact ⟨d, ⟨ob.db.grow gu, ob.sh, fl⟩⟩
    obtain ⟨y, x5, x6, x7, x8, x9, bs, rfl, g13, pot13, eL, lb, hbs⟩ := hp
    obtain ⟨vs, hvs⟩ : ∃ vs, [.ref W, o1, o2] ++ bs = vs := ⟨_, rfl⟩
    rw [hvs] at eL
    have svs : ∀ v ∈ vs, ∃ d, Tgl K [p] H13 v d := fun v hv => by
      rw [← hvs] at hv
      rcases List.mem_append.mp hv with hv | hv
      · obtain ⟨d, td⟩ := s11 v hv
        exact ⟨d, td.grow g13⟩
      · obtain ⟨d, td⟩ := hbs v hv
        exact ⟨d, ⟨db_less (by simp) td.db, td.sh, td.fl⟩⟩
    have lvs : vs.length ≤ 20 := by
      rw [← hvs, List.length_append, lb]
      show 3 + nn.toNat ≤ 20
      omega
    have gr13 : Grow [] H H13 := (G11.trans g13).drop fpH
    have hW13 := hW11.growP wo.ne pot11 g13
    replace pot13 := pot13.mono (c' := 6000) (by omega)
    clear hbs hvs
    refine ⟨.ref L, rfl, L, rfl, ⟨_, .inl (.inl eL)⟩, ?_⟩
    refine for_it (walk_list (xs := vs)) (fun j σ H' => ∃ (y x5 x6 x7 x8 x9 : Option V), σ = [some (.ref a), some (.int (0 + (i : Nat))), some (.ref p), some (.ref W), some (.ref L), y, x5, x6, x7, x8, x9] ∧ Grow [] H13 H')
      ⟨_, _, _, _, _, _, rfl, Grow.refl _ _⟩ (fun j σ H' _ h => by
        obtain ⟨_, _, _, _, _, _, _, g⟩ := h
        exact .inl (.inl (g.lst (by simp) eL))) (fun j x σ H14 H15 hj hp hy => ?_) (fun σ H14 hp => ?_)
    · obtain ⟨y, x5, x6, x7, x8, x9, rfl, g14⟩ := hp
      obtain ⟨rfl, ex⟩ := hy
      obtain ⟨d, td0⟩ := svs x (List.mem_of_getElem? ex)
      have td := td0.grow g14.any
      have dd : d.depth ≤ 60 := Nat.le_trans td.sh.deep (by decide)
      have gr15 := gr13.trans g14
      refine ⟨x, rfl, [p], x, d, rfl, td.db, td.sh.show_, dd, shown_small td.sh, ?_⟩
      refine ⟨x, rfl, [p], x, d, rfl, gr15.tabs _ t1, gr15.tabs _ t2, gr15.tabs _ t3, td.db, td.sh.bulk, fun H16 g16 => ?_⟩
      obtain ⟨b1, b2, b3, b4⟩ := bl_show (webD d)
      refine ⟨_, _, rfl, .bl _, b1, b2, b3, b4, ?_⟩
      refine ⟨x, rfl, [p], x, d, rfl, (td.grow g16.any).db, td.sh.bulk, td.fl, fun H17 g17 => ?_⟩
      refine ⟨_, _, rfl, .bl _, b1, b2, b3, b4, ?_⟩
      refine ⟨rfl, ?_⟩
      refine ⟨false, by rw [decide_eq_true rfl]; rfl, iteF ?_⟩
      have g17' := g16.trans g17
      refine ⟨x, rfl, [p], x, d, rfl, (td.grow g17'.any).db, td.sh.show_, dd, shown_small td.sh, .str d.shown, rfl, rfl, false, by rw [decide_eq_true rfl]; rfl, iteF ?_⟩
      exact ⟨_, _, _, _, _, _, rfl, g14.trans g17'⟩
    obtain ⟨y, x5, x6, x7, x8, x9, rfl, g14⟩ := hp
    have pot14 : Pot H14 p 6000 := by
      obtain ⟨q1, q2, q3, e, r⟩ := pot13
      exact ⟨q1, q2, q3, g14.lst (by simp) e, r⟩
    have gr14 := gr13.trans g14
    have hW14 := hW13.grow g14
    clear svs g14 eL s11
    refine ⟨by show 2 ≤ sizeLine; decide, fun L2 nL2 => ?_⟩
    obtain ⟨H15, q15, g15, m15, e15, pot15⟩ := lay (o := .lst [.int 3, .int 8]) nL2 pot14
    rw [q15]
    refine ⟨.ref p, rfl, p, 2, _, rfl, by decide, by decide, by decide, pot15, fun v4 H16 v40 v41 g16 pot16 => ?_⟩
    have e16 := g16.lst m15 e15
    obtain ⟨wide, hwide, wd⟩ : ∃ wide : Int, atI [V.int 3, .int 8] v4 = some (.int wide) ∧ (wide = 3 ∨ wide = 8) := by
      obtain h | h : v4 = 0 ∨ v4 = 1 := by omega
      · exact ⟨3, by rw [h]; rfl, .inl rfl⟩
      · exact ⟨8, by rw [h]; rfl, .inr rfl⟩
    refine ⟨L2, _, _, .int wide, rfl, rfl, .inl (.inl e16), hwide, ?_⟩
    refine ⟨rfl, .ref p, rfl, p, 11, _, rfl, by decide, by decide, by decide, pot16, fun v5 H17 v50 v51 g17 pot17 => ?_⟩
    have G17 : Grow [p] H14 H17 := (g15.any.trans g16).trans g17
    have hW17 := hW14.growP wo.ne pot14 G17
    have gr17 : Grow [] H H17 := ((gr14.any (ex := [p])).trans G17).drop fpH
    clear g15 g16 g17 e15 e16 pot15 pot16
    refine ⟨v5, rfl, by omega, by omega, fun D1 nD => ?_⟩
    have D1p : D1 ≠ p := by
      obtain ⟨x, y, z, e, _⟩ := pot17
      exact (ne_of_none e nD).symm
    refine lc_it walk_range (fun k H' => Grow [p] H17 H' ∧ Pot H' p (7000 + k) ∧ ∃ cs : List Nat, H' D1 = some (.lst ((cs.map fun c => (⟨#[c]⟩ : Str)).map V.str)) ∧ cs.length = k) ⟨grow_new nD, (pot17.new nD).mono (by decide), [], upd_same, rfl⟩ (fun _ _ _ _ => trivial) (fun k x Ha Hb hk hp hy => ?_) (fun H18 hp => ?_)
    · obtain ⟨ga, pa, cs, eD, ly⟩ := hp
      obtain ⟨rfl, rfl⟩ := hy
      refine ⟨rfl, yes_if ⟨.str _, rfl, .ref p, rfl, .int wide, rfl, p, wide, _, rfl, by omega, by omega, by omega, pa, fun v6 Hc v60 v61 gc pc => ?_⟩⟩
      have eDc := gc.lst (by simpa using D1p) eD
      obtain ⟨j6, rfl⟩ : ∃ j : Nat, v6 = j := ⟨v6.toNat, by omega⟩
      have hj6 : j6 < (Str.ofString "abz-A 1\n").cps.toList.length := by show j6 < 8; omega
      refine ⟨_, j6, _, rfl, rfl, by decide +kernel, atI_nat (List.getElem?_eq_getElem hj6), _, eDc, by rw [List.length_map, List.length_map, ly, sizeLine_eq]; omega, (ga.trans gc).put (fresh_none nD) eDc (fun ps z => by cases z), (pc.at (Ne.symm D1p)).mono (by omega), cs ++ [_], by rw [upd_same, List.map_append, List.map_append]; rfl, by rw [List.length_append, ly]; rfl⟩
    obtain ⟨ga, pa, cs, eD, ly⟩ := hp
    have e1 : ∀ l : List Nat, ((l.map fun c => (⟨#[c]⟩ : Str)).map fun s => s.length).sum = l.length := by
      intro l
      induction l with
      | nil => rfl
      | cons x l ih =>
        rw [List.map_cons, List.map_cons, List.sum_cons, ih, List.length_cons]
        show 1 + l.length = l.length + 1
        omega
    dsimp only [tNil]
    refine ⟨Str.empty, D1, _, rfl, rfl, .inl (.inl (.inl eD)), by rw [e1, List.length_map]; show _ + _ * 0 ≤ _; omega, ?_⟩
    rw [TL.join_eq, join_signs]
    obtain ⟨z, hz⟩ : ∃ z : Str, (⟨cs.toArray⟩ : Str) = z := ⟨_, rfl⟩
    have lz : z.length ≤ 10 := by
      rw [← hz]
      show cs.toArray.size ≤ 10
      rw [List.size_toArray, ly]
      omega
    rw [hz]
    clear hz eD
    have G18 := G17.trans ga
    have hW18 := hW14.growP wo.ne pot14 G18
    replace pa := pa.mono (c' := 8000) (by omega)
    refine ⟨.str z, rfl, .ref p, rfl, p, [p], _, rfl, pa, by decide, by simp, Xp pa, fun o3 H19 d3 g19 db3 sh3 fl3 pot19 => ?_⟩
    have hW19 := hW18.growP wo.ne pa g19
    obtain ⟨hs2, rs2, eW2, eh2, er2⟩ := id hW19
    have h00 : 0 < hands.length := by omega
    refine ⟨.ref W, rfl, W, _, 0, .ref hs2, rfl, rfl, .inl (.inl eW2), rfl, hs2, _, 0, .str hands[0], rfl, rfl, .inl (.inl eh2), atI_nat (j := 0) (by rw [List.getElem?_map, List.getElem?_eq_getElem h00]; rfl), .str z, rfl, z, "a", rfl, rfl, by show z.length + 1 ≤ sizeLine; rw [sizeLine_eq]; omega, by show 4 ≤ sizeLine; decide, fun L3 nL3 => ?_⟩
    obtain ⟨H20, q20, g20, m20, e20, pot20⟩ := lay (o := .lst [.str z, o3, .str hands[0], .str (z ++ "a")]) nL3 pot19
    rw [q20]
    have gr20 : Grow [] H H20 := (((gr14.any (ex := [p])).trans G18).trans (g19.trans g20.any)).drop fpH
    have nh0 : isNm hands[0] = true := List.all_eq_true.mp wo.nm _ (List.getElem_mem h00)
    have sL : ∀ v ∈ [V.str z, o3, .str hands[0], .str (z ++ "a")], ∃ d, Db K [p] H20 v d ∧ d.bulk ≤ 4000 := fun v hv => by
      have sb : ∀ s : Str, s.length ≤ 11 → ∃ d, Db K [p] H20 (.str s) d ∧ d.bulk ≤ 4000 := fun s l => ⟨.str s, .str s, by rw [PyData.bulk]; show s.length ≤ 4000; omega⟩
      simp only [List.mem_cons, List.not_mem_nil, or_false] at hv
      rcases hv with rfl | rfl | rfl | rfl
      · exact sb z (by omega)
      · exact ⟨d3, db3.grow g20.any, Nat.le_trans sh3.bulk (by decide)⟩
      · exact sb _ (by have := (sh_name nh0).bulk; rw [PyData.bulk] at this; exact Nat.le_trans this (by decide))
      · refine sb _ ?_
        show (z.cps ++ (Str.ofString "a").cps).size ≤ 11
        rw [Array.size_append]
        show z.length + 1 ≤ 11
        omega
    generalize [V.str z, o3, .str hands[0], .str (z ++ "a")] = us at e20 sL ⊢
    refine ⟨L3, rfl, ⟨_, .inl (.inl e20)⟩, ?_⟩
    refine for_it (D := ⟨fun σ H1 => ∃ x1 x2 x3 x4 x5 x6 x7 x8 x9 xa : Option V, σ = [some (.ref a), x1, x2, x3, x4, x5, x6, x7, x8, x9, xa] ∧ Grow [] H H1, Q, fun _ _ => False, fun _ _ => False⟩) (walk_list (xs := us)) (fun j σ H' => ∃ (x1 x5 x6 x7 x8 x9 xa : Option V), σ = [some (.ref a), x1, some (.ref p), some (.ref W), some (.ref L), x5, x6, x7, x8, x9, xa] ∧ Grow [] H20 H') ⟨_, _, _, _, _, _, _, rfl, Grow.refl _ _⟩ (fun j σ H' _ h => by
        obtain ⟨_, _, _, _, _, _, _, _, g⟩ := h
        exact .inl (.inl (g.lst (by simp) e20))) (fun j x σ H21 H22 hj hp hy => ?_) (fun σ H21 hp => ?_)
    · obtain ⟨x1, x5, x6, x7, x8, x9, xa, rfl, g21⟩ := hp
      obtain ⟨rfl, ex⟩ := hy
      obtain ⟨d, hd0, hb⟩ := sL x (List.mem_of_getElem? ex)
      have hd := hd0.grow g21.any
      have gr22 := gr20.trans g21
      obtain ⟨b1, b2, b3, b4⟩ := bl_show (nmD d)
      refine ⟨x, rfl, x, rfl, gr22.tabs _ t1, ?_⟩
      by_cases c : tyD d = "str"
      · obtain ⟨s, rfl, rfl⟩ := db_str hd c
        have ls : s.length ≤ sizeLine := by
          rw [PyData.bulk] at hb
          rw [sizeLine_eq]
          exact Nat.le_trans hb (by decide)
        refine .inl ⟨s, rfl, ls, fun H23 g23 => ⟨_, _, rfl, .bl _, b1, b2, b3, b4, ?_⟩⟩
        refine ⟨.str s, rfl, [p], .str s, .str s, rfl, .str s, hb, fun H24 g24 => ⟨_, _, rfl, .bl _, b1, b2, b3, b4, rfl, false, by show V.bl (!decide (V.str (PyData.bool (isNm s)).shown = V.str (PyData.bool (isNm s)).shown)) = _; rw [decide_eq_true rfl]; rfl, iteF ?_⟩⟩
        exact ⟨_, _, _, _, _, _, _, rfl, (g21.trans g23).trans g24⟩
      · rw [nmD_no c] at b1 b2 b3 b4
        refine .inr ⟨_, c, hd.ty, ⟨_, _, rfl, .bl _, b1, b2, b3, b4, ?_⟩⟩
        refine ⟨x, rfl, [p], x, d, rfl, hd, hb, fun H24 g24 => ?_⟩
        rw [nmD_no c]
        refine ⟨_, _, rfl, .bl _, b1, b2, b3, b4, rfl, false, by rw [decide_eq_true rfl]; rfl, iteF ?_⟩
        exact ⟨_, _, _, _, _, _, _, rfl, g21.trans g24⟩
    · obtain ⟨x1, x5, x6, x7, x8, x9, xa, rfl, g21⟩ := hp
      exact ⟨_, _, _, _, _, _, _, _, _, _, rfl, gr20.trans g21⟩
  · obtain ⟨x1, x2, x3, x4, x5, x6, x7, x8, x9, xa, rfl, gr⟩ := hp
    exact q _ gr
end
theorem law_start {K : PySem.W.Frag} {H : Hp} {a : Addr} {ns : List Int} {c1 c2 c3 : Addr × Addr} (t : ∀ p ∈ [c1, c2, c3], TabG H p.2) (_ : ns.length ≤ 63) (_ : ∀ z ∈ ns, Builtin.Int.intBits z ≤ 1048576) (h : SqL K H a (ns.map V.int)) :
    spLaw K c1.2 c2.2 c3.2 [.ref a] H (fun v _ => v = .bl true) E0 := ⟨a, ns, rfl, t _ List.mem_cons_self, t _ (List.mem_cons_of_mem _ List.mem_cons_self), t _ (List.mem_cons_of_mem _ (List.mem_cons_of_mem _ List.mem_cons_self)), h, fun _ _ => rfl⟩

end Lw
namespace Lw
open PySem PySem.Spec PyProof.Rows L2 GxR Gx
/-! ### the head -/
def d_is_name : He.DefD := ⟨("is_name", none), "is_name", "is_name", defArgs st_is_name, defBody st_is_name, defScope st_is_name, [], []⟩
def d_are_unlike_names : He.DefD := ⟨("are_unlike_names", none), "are_unlike_names", "are_unlike_names", defArgs st_are_unlike_names, defBody st_are_unlike_names, defScope st_are_unlike_names, [], []⟩
def d_is_pair : He.DefD := ⟨("is_pair", none), "is_pair", "is_pair", defArgs st_is_pair, defBody st_is_pair, defScope st_is_pair, [], []⟩
def d_is_road : He.DefD := ⟨("is_road", none), "is_road", "is_road", defArgs st_is_road, defBody st_is_road, defScope st_is_road, [], []⟩
def d_is_web : He.DefD := ⟨("is_web", none), "is_web", "is_web", defArgs st_is_web, defBody st_is_web, defScope st_is_web, [], []⟩
def d_neighbours_in : He.DefD := ⟨("neighbours_in", none), "neighbours_in", "neighbours_in", defArgs st_neighbours_in, defBody st_neighbours_in, defScope st_neighbours_in, [], []⟩
def d_hands_ahead : He.DefD := ⟨("hands_ahead", none), "hands_ahead", "hands_ahead", defArgs st_hands_ahead, defBody st_hands_ahead, defScope st_hands_ahead, [], []⟩
def d_law_pot : He.DefD := ⟨("_law_pot", none), "_law_pot", "_law_pot", defArgs st_law_pot, defBody st_law_pot, defScope st_law_pot, [], []⟩
def d_law_dip : He.DefD := ⟨("_law_dip", none), "_law_dip", "_law_dip", defArgs st_law_dip, defBody st_law_dip, defScope st_law_dip, [], []⟩
def d_law_names : He.DefD := ⟨("_law_names", none), "_law_names", "_law_names", defArgs st_law_names, defBody st_law_names, defScope st_law_names, [], []⟩
def d_law_web : He.DefD := ⟨("_law_web", none), "_law_web", "_law_web", defArgs st_law_web, defBody st_law_web, defScope st_law_web, [], []⟩
def d_law_odd : He.DefD := ⟨("_law_odd", none), "_law_odd", "_law_odd", defArgs st_law_odd, defBody st_law_odd, defScope st_law_odd, [], []⟩
def d_law_is_name : He.DefD := ⟨("_law_is_name", none), "_law_is_name", "_law_is_name", defArgs st_law_is_name, defBody st_law_is_name, defScope st_law_is_name, [], []⟩
def d_law_has_form : He.DefD := ⟨("_law_has_form", none), "_law_has_form", "_law_has_form", defArgs st_law_has_form, defBody st_law_has_form, defScope st_law_has_form, [], []⟩
def d_law_is_web : He.DefD := ⟨("_law_is_web", none), "_law_is_web", "_law_is_web", defArgs st_law_is_web, defBody st_law_is_web, defScope st_law_is_web, [], []⟩
def d_law_bent : He.DefD := ⟨("_law_bent", none), "_law_bent", "_law_bent", defArgs st_law_bent, defBody st_law_bent, defScope st_law_bent, [], []⟩
def d_law : He.DefD := ⟨("law", none), "law", "law", defArgs st_law, defBody st_law, defScope st_law, [], []⟩
def hdDefs : List He.DefD := [d_is_name, d_are_unlike_names, d_is_pair, d_is_road, d_is_web, d_neighbours_in, d_hands_ahead, d_law_pot, d_law_dip, d_law_names, d_law_web, d_law_odd, d_law_is_name, d_law_has_form, d_law_is_web, d_law_bent, d_law]
def hdFacts : List He.Fa := [.glo "is_name", .glo "are_unlike_names", .glo "is_pair", .glo "is_road", .glo "is_web", .glo "neighbours_in", .glo "hands_ahead", .glo "_law_pot", .glo "_law_dip", .glo "_law_names", .glo "_law_web", .glo "_law_odd", .glo "_law_is_name", .glo "_law_has_form", .glo "_law_is_web", .glo "_law_bent", .glo "law", .free "all", .free "int", .free "isinstance", .free "len", .free "list", .free "max", .free "min", .free "range", .free "repr", .free "set", .free "sorted", .free "str", .free "tuple", .free "type", .int "MOST_LETTERS" 8]
def hdTabs : List He.Defn := [("is_name", none), ("are_unlike_names", none), ("is_web", none)]
def hdLoose : List Str := (["MOST_LETTERS", "is_name", "are_unlike_names", "is_pair", "is_road", "is_web", "neighbours_in", "hands_ahead", "_law_pot", "_law_dip", "_law_names", "_law_web", "_law_odd", "_law_is_name", "_law_has_form", "_law_is_web", "_law_bent"] : List Str)
abbrev hdRow : PySem.W.OpenRow := PySem.W.OpenLaw.row PySem.Challenge.rw_heardapart_k01_names_and_webs
abbrev hdView : Program := PySem.W.view hdRow.prog [19]
abbrev hdTop : DefRec := HandSHeadRun.topDef hdRow.prog 19
def hdTs : List He.Tab := []
abbrev hdHook : PySem.W.Hook := He.hookX 4 hdFacts hdDefs hdTs hdTabs (fun _ => true)
def hdOb (s : PySem.W.SharedT) : He.AlX := He.obsX 4 hdFacts hdDefs hdTs hdTabs (fun _ => true) (HandSHeadRun.getT s)
theorem hdOb_eq (s : PySem.W.SharedT) : hdOb s = hdHook.obs s.abs := He.obsX_eq (HandSHeadRun.getT_eq s)
theorem hdRun (w : World) : HandSHeadRun.RunEq hdRow hdView hdHook hdOb 4000 hdLoose w := by
  intro os
  kernel_rfl
theorem triples_none : TriplesOk (#[] : Array Value).toList := trivial
/-- the law's promise, from the head's word -/
theorem hd_all {w : World} {K : PySem.W.Frag} {h : Heap} {mg : Str → Option Value} {f : Addr} (X : K.In h) (G : h.Ns mainGlobals mg) (hfa : mg ("law" : Str) = some (.ref f)) (c : He.SaysX hdFacts hdDefs hdTs hdTabs (fun _ => true) w h K) :
    LawG PySem.Challenge.rw_heardapart_k01_names_and_webs w K 10 63 "script" mg f h := by
  have glo : ∀ x : Str, He.Fa.glo x ∈ hdFacts → mg x = some (.ref (He.ga K x)) := fun x hx => He.glo_ok X G (c.t.d.facts hx)
  have free : ∀ x : Str, He.Fa.free x ∈ hdFacts → mg x = none := fun x hx => He.free_ok X G (c.t.d.facts hx)
  have e := hfa.symm.trans (glo "law" (by simp [hdFacts]))
  cases e
  obtain ⟨fd_is_name, F_is_name⟩ := c.t.d.def_ 0 (d := d_is_name) rfl
  have D_is_name : DefIs K "is_name" "is_name" st_is_name _ fd_is_name _ := DefIs.of (p := ("is_name", none)) F_is_name
  have b_is_name : Binds K fd_is_name ["thing"] [] := D_is_name.binds fun _ _ _ _ _ us hl => match us, hl with | [_], _ => rfl
  have g_is_name := glo "is_name" (by simp [hdFacts])
  obtain ⟨fd_are_unlike_names, F_are_unlike_names⟩ := c.t.d.def_ 1 (d := d_are_unlike_names) rfl
  have D_are_unlike_names : DefIs K "are_unlike_names" "are_unlike_names" st_are_unlike_names _ fd_are_unlike_names _ := DefIs.of (p := ("are_unlike_names", none)) F_are_unlike_names
  have b_are_unlike_names : Binds K fd_are_unlike_names ["thing"] [] := D_are_unlike_names.binds fun _ _ _ _ _ us hl => match us, hl with | [_], _ => rfl
  have g_are_unlike_names := glo "are_unlike_names" (by simp [hdFacts])
  obtain ⟨fd_is_pair, F_is_pair⟩ := c.t.d.def_ 2 (d := d_is_pair) rfl
  have D_is_pair : DefIs K "is_pair" "is_pair" st_is_pair _ fd_is_pair _ := DefIs.of (p := ("is_pair", none)) F_is_pair
  have b_is_pair : Binds K fd_is_pair ["thing"] [] := D_is_pair.binds fun _ _ _ _ _ us hl => match us, hl with | [_], _ => rfl
  have g_is_pair := glo "is_pair" (by simp [hdFacts])
  obtain ⟨fd_is_road, F_is_road⟩ := c.t.d.def_ 3 (d := d_is_road) rfl
  have D_is_road : DefIs K "is_road" "is_road" st_is_road _ fd_is_road _ := DefIs.of (p := ("is_road", none)) F_is_road
  have b_is_road : Binds K fd_is_road ["thing", "hands"] [] := D_is_road.binds fun _ _ _ _ _ us hl => match us, hl with | [_, _], _ => rfl
  have g_is_road := glo "is_road" (by simp [hdFacts])
  obtain ⟨fd_is_web, F_is_web⟩ := c.t.d.def_ 4 (d := d_is_web) rfl
  have D_is_web : DefIs K "is_web" "is_web" st_is_web _ fd_is_web _ := DefIs.of (p := ("is_web", none)) F_is_web
  have b_is_web : Binds K fd_is_web ["thing"] [] := D_is_web.binds fun _ _ _ _ _ us hl => match us, hl with | [_], _ => rfl
  have g_is_web := glo "is_web" (by simp [hdFacts])
  obtain ⟨fd_neighbours_in, F_neighbours_in⟩ := c.t.d.def_ 5 (d := d_neighbours_in) rfl
  have D_neighbours_in : DefIs K "neighbours_in" "neighbours_in" st_neighbours_in _ fd_neighbours_in _ := DefIs.of (p := ("neighbours_in", none)) F_neighbours_in
  have b_neighbours_in : Binds K fd_neighbours_in ["web"] [] := D_neighbours_in.binds fun _ _ _ _ _ us hl => match us, hl with | [_], _ => rfl
  have g_neighbours_in := glo "neighbours_in" (by simp [hdFacts])
  obtain ⟨fd_hands_ahead, F_hands_ahead⟩ := c.t.d.def_ 6 (d := d_hands_ahead) rfl
  have D_hands_ahead : DefIs K "hands_ahead" "hands_ahead" st_hands_ahead _ fd_hands_ahead _ := DefIs.of (p := ("hands_ahead", none)) F_hands_ahead
  have b_hands_ahead : Binds K fd_hands_ahead ["web", "start", "barred"] [] := D_hands_ahead.binds fun _ _ _ _ _ us hl => match us, hl with | [_, _, _], _ => rfl
  have g_hands_ahead := glo "hands_ahead" (by simp [hdFacts])
  obtain ⟨fd_law_pot, F_law_pot⟩ := c.t.d.def_ 7 (d := d_law_pot) rfl
  have D_law_pot : DefIs K "_law_pot" "_law_pot" st_law_pot _ fd_law_pot _ := DefIs.of (p := ("_law_pot", none)) F_law_pot
  have b_law_pot : Binds K fd_law_pot ["script", "k"] [] := D_law_pot.binds fun _ _ _ _ _ us hl => match us, hl with | [_, _], _ => rfl
  have g_law_pot := glo "_law_pot" (by simp [hdFacts])
  obtain ⟨fd_law_dip, F_law_dip⟩ := c.t.d.def_ 8 (d := d_law_dip) rfl
  have D_law_dip : DefIs K "_law_dip" "_law_dip" st_law_dip _ fd_law_dip _ := DefIs.of (p := ("_law_dip", none)) F_law_dip
  have b_law_dip : Binds K fd_law_dip ["pot", "many"] [] := D_law_dip.binds fun _ _ _ _ _ us hl => match us, hl with | [_, _], _ => rfl
  have g_law_dip := glo "_law_dip" (by simp [hdFacts])
  obtain ⟨fd_law_names, F_law_names⟩ := c.t.d.def_ 9 (d := d_law_names) rfl
  have D_law_names : DefIs K "_law_names" "_law_names" st_law_names _ fd_law_names _ := DefIs.of (p := ("_law_names", none)) F_law_names
  have b_law_names : Binds K fd_law_names ["pot", "many"] [] := D_law_names.binds fun _ _ _ _ _ us hl => match us, hl with | [_, _], _ => rfl
  have g_law_names := glo "_law_names" (by simp [hdFacts])
  obtain ⟨fd_law_web, F_law_web⟩ := c.t.d.def_ 10 (d := d_law_web) rfl
  have D_law_web : DefIs K "_law_web" "_law_web" st_law_web _ fd_law_web _ := DefIs.of (p := ("_law_web", none)) F_law_web
  have b_law_web : Binds K fd_law_web ["pot", "many"] [] := D_law_web.binds fun _ _ _ _ _ us hl => match us, hl with | [_, _], _ => rfl
  have g_law_web := glo "_law_web" (by simp [hdFacts])
  obtain ⟨fd_law_odd, F_law_odd⟩ := c.t.d.def_ 11 (d := d_law_odd) rfl
  have D_law_odd : DefIs K "_law_odd" "_law_odd" st_law_odd _ fd_law_odd _ := DefIs.of (p := ("_law_odd", none)) F_law_odd
  have b_law_odd : Binds K fd_law_odd ["pot"] [] := D_law_odd.binds fun _ _ _ _ _ us hl => match us, hl with | [_], _ => rfl
  have g_law_odd := glo "_law_odd" (by simp [hdFacts])
  obtain ⟨fd_law_is_name, F_law_is_name⟩ := c.t.d.def_ 12 (d := d_law_is_name) rfl
  have D_law_is_name : DefIs K "_law_is_name" "_law_is_name" st_law_is_name _ fd_law_is_name _ := DefIs.of (p := ("_law_is_name", none)) F_law_is_name
  have b_law_is_name : Binds K fd_law_is_name ["thing"] [] := D_law_is_name.binds fun _ _ _ _ _ us hl => match us, hl with | [_], _ => rfl
  have g_law_is_name := glo "_law_is_name" (by simp [hdFacts])
  obtain ⟨fd_law_has_form, F_law_has_form⟩ := c.t.d.def_ 13 (d := d_law_has_form) rfl
  have D_law_has_form : DefIs K "_law_has_form" "_law_has_form" st_law_has_form _ fd_law_has_form _ := DefIs.of (p := ("_law_has_form", none)) F_law_has_form
  have b_law_has_form : Binds K fd_law_has_form ["thing"] [] := D_law_has_form.binds fun _ _ _ _ _ us hl => match us, hl with | [_], _ => rfl
  have g_law_has_form := glo "_law_has_form" (by simp [hdFacts])
  obtain ⟨fd_law_is_web, F_law_is_web⟩ := c.t.d.def_ 14 (d := d_law_is_web) rfl
  have D_law_is_web : DefIs K "_law_is_web" "_law_is_web" st_law_is_web _ fd_law_is_web _ := DefIs.of (p := ("_law_is_web", none)) F_law_is_web
  have b_law_is_web : Binds K fd_law_is_web ["thing"] [] := D_law_is_web.binds fun _ _ _ _ _ us hl => match us, hl with | [_], _ => rfl
  have g_law_is_web := glo "_law_is_web" (by simp [hdFacts])
  obtain ⟨fd_law_bent, F_law_bent⟩ := c.t.d.def_ 15 (d := d_law_bent) rfl
  have D_law_bent : DefIs K "_law_bent" "_law_bent" st_law_bent _ fd_law_bent _ := DefIs.of (p := ("_law_bent", none)) F_law_bent
  have b_law_bent : Binds K fd_law_bent ["pot", "web"] [] := D_law_bent.binds fun _ _ _ _ _ us hl => match us, hl with | [_, _], _ => rfl
  have g_law_bent := glo "_law_bent" (by simp [hdFacts])
  obtain ⟨fd_law, F_law⟩ := c.t.d.def_ 16 (d := d_law) rfl
  have D_law : DefIs K "law" "law" st_law _ fd_law _ := DefIs.of (p := ("law", none)) F_law
  have b_law : Binds K fd_law ["script"] [] := D_law.binds fun _ _ _ _ _ us hl => match us, hl with | [_], _ => rfl
  have g_law := glo "law" (by simp [hdFacts])
  have B : Nb mg := ⟨free "all" (by simp [hdFacts]), free "int" (by simp [hdFacts]), free "isinstance" (by simp [hdFacts]), free "len" (by simp [hdFacts]), free "list" (by simp [hdFacts]), free "max" (by simp [hdFacts]), free "min" (by simp [hdFacts]), free "range" (by simp [hdFacts]), free "repr" (by simp [hdFacts]), free "set" (by simp [hdFacts]), free "sorted" (by simp [hdFacts]), free "str" (by simp [hdFacts]), free "tuple" (by simp [hdFacts]), free "type" (by simp [hdFacts])⟩
  obtain ⟨tk_MOST_LETTERS, k_MOST_LETTERS⟩ := He.int_ok X G (c.t.d.facts (f := .int "MOST_LETTERS" 8) (by simp [hdFacts]))
  refine ⟨fd_law, [He.cT K ("is_name", none), He.cT K ("are_unlike_names", none), He.cT K ("is_web", none)], (spLaw K (He.cT K ("is_name", none)).2 (He.cT K ("are_unlike_names", none)).2 (He.cT K ("is_web", none)).2), fun p hp => ?_, fun s u => ?_, fun H a ns hl hbits hT hS => law_start (fun p hp => ⟨#[], hT p hp, triples_none⟩) hl hbits hS, fun base KX GX TB => ?_⟩
  · obtain ⟨q, hq, rfl⟩ := List.mem_map.mp (show p ∈ hdTabs.map (He.cT K) from hp)
    exact ⟨c.empty q hq, c.out q hq, PySem.W.codeHd_of_K X (c.hd q hq)⟩
  · exact FunD.bindsA (ps := ["script"]) F_law (fun _ _ _ _ _ _ us hl => match us, hl with | [_], _ => rfl) s [u] rfl
  · have X_is_name := TB _ List.mem_cons_self
    have X_are_unlike_names := TB _ (List.mem_cons_of_mem _ List.mem_cons_self)
    have X_is_web := TB _ (List.mem_cons_of_mem _ (List.mem_cons_of_mem _ List.mem_cons_self))
    have c_is_name : Callee PySem.Challenge.rw_heardapart_k01_names_and_webs.prog w K mg base CX0 4 "is_name" ["thing"] (spIsName K (He.cT K ("is_name", none)).2) := ⟨_, fd_is_name, ok_is_name B D_is_name X_is_name k_MOST_LETTERS, g_is_name, F_is_name.kp, b_is_name⟩
    have c_are_unlike_names : Callee PySem.Challenge.rw_heardapart_k01_names_and_webs.prog w K mg base CX0 8 "are_unlike_names" ["thing"] (spUnlike K (He.cT K ("is_name", none)).2 (He.cT K ("are_unlike_names", none)).2) := ⟨_, fd_are_unlike_names, ok_are_unlike_names B D_are_unlike_names X_are_unlike_names c_is_name, g_are_unlike_names, F_are_unlike_names.kp, b_are_unlike_names⟩
    have c_law_pot : Callee PySem.Challenge.rw_heardapart_k01_names_and_webs.prog w K mg base CX0 3 "_law_pot" ["script", "k"] (spPot K) := ⟨_, fd_law_pot, ok_law_pot B D_law_pot, g_law_pot, F_law_pot.kp, b_law_pot⟩
    have c_law_dip : Callee PySem.Challenge.rw_heardapart_k01_names_and_webs.prog w K mg base CX0 3 "_law_dip" ["pot", "many"] (spDip K) := ⟨_, fd_law_dip, ok_law_dip B D_law_dip, g_law_dip, F_law_dip.kp, b_law_dip⟩
    have c_is_pair : Callee PySem.Challenge.rw_heardapart_k01_names_and_webs.prog w K mg base CX0 2 "is_pair" ["thing"] (spIsPair K) := ⟨_, fd_is_pair, ok_is_pair B D_is_pair, g_is_pair, F_is_pair.kp, b_is_pair⟩
    have c_is_road : Callee PySem.Challenge.rw_heardapart_k01_names_and_webs.prog w K mg base CX0 3 "is_road" ["thing", "hands"] (spIsRoad K) := ⟨_, fd_is_road, ok_is_road B D_is_road c_is_pair, g_is_road, F_is_road.kp, b_is_road⟩
    have c_neighbours_in : Callee PySem.Challenge.rw_heardapart_k01_names_and_webs.prog w K mg base CX0 2 "neighbours_in" ["web"] (spNearG K) := ⟨_, fd_neighbours_in, ok_neighbours_in B D_neighbours_in, g_neighbours_in, F_neighbours_in.kp, b_neighbours_in⟩
    have c_hands_ahead : Callee PySem.Challenge.rw_heardapart_k01_names_and_webs.prog w K mg base CX0 3 "hands_ahead" ["web", "start", "barred"] (spAheadG K) := ⟨_, fd_hands_ahead, ok_hands_ahead B D_hands_ahead c_neighbours_in, g_hands_ahead, F_hands_ahead.kp, b_hands_ahead⟩
    have c_is_web : Callee PySem.Challenge.rw_heardapart_k01_names_and_webs.prog w K mg base CX0 9 "is_web" ["thing"] (spIsWebA K (He.cT K ("is_name", none)).2 (He.cT K ("are_unlike_names", none)).2 (He.cT K ("is_web", none)).2) := ⟨_, fd_is_web, ok_is_web B D_is_web X_is_web c_is_pair c_are_unlike_names c_is_road c_hands_ahead, g_is_web, F_is_web.kp, b_is_web⟩
    have c_law_is_name : Callee PySem.Challenge.rw_heardapart_k01_names_and_webs.prog w K mg base CX0 3 "_law_is_name" ["thing"] (spLawName K) := ⟨_, fd_law_is_name, ok_law_is_name B D_law_is_name, g_law_is_name, F_law_is_name.kp, b_law_is_name⟩
    have c_law_has_form : Callee PySem.Challenge.rw_heardapart_k01_names_and_webs.prog w K mg base CX0 5 "_law_has_form" ["thing"] (spHasForm K) := ⟨_, fd_law_has_form, ok_law_has_form B D_law_has_form c_law_is_name, g_law_has_form, F_law_has_form.kp, b_law_has_form⟩
    have c_law_is_web : Callee PySem.Challenge.rw_heardapart_k01_names_and_webs.prog w K mg base CX0 6 "_law_is_web" ["thing"] (spLawIsWeb K) := ⟨_, fd_law_is_web, ok_law_is_web B D_law_is_web c_law_has_form, g_law_is_web, F_law_is_web.kp, b_law_is_web⟩
    have c_law_odd : Callee PySem.Challenge.rw_heardapart_k01_names_and_webs.prog w K mg base CX0 4 "_law_odd" ["pot"] (spOdd K) := ⟨_, fd_law_odd, ok_law_odd B D_law_odd c_law_dip, g_law_odd, F_law_odd.kp, b_law_odd⟩
    have c_law_bent : Callee PySem.Challenge.rw_heardapart_k01_names_and_webs.prog w K mg base CX0 5 "_law_bent" ["pot", "web"] (spBent K) := ⟨_, fd_law_bent, ok_law_bent B D_law_bent c_law_dip c_law_odd, g_law_bent, F_law_bent.kp, b_law_bent⟩
    have c_law_names : Callee PySem.Challenge.rw_heardapart_k01_names_and_webs.prog w K mg base CX0 4 "_law_names" ["pot", "many"] (spNames K) := ⟨_, fd_law_names, ok_law_names B D_law_names c_law_dip, g_law_names, F_law_names.kp, b_law_names⟩
    have c_law_web : Callee PySem.Challenge.rw_heardapart_k01_names_and_webs.prog w K mg base CX0 5 "_law_web" ["pot", "many"] (spWeb K) := ⟨_, fd_law_web, ok_law_web B D_law_web c_law_dip c_law_names, g_law_web, F_law_web.kp, b_law_web⟩
    exact ok_law B D_law c_law_pot c_law_dip c_law_web c_law_odd c_law_bent c_is_web c_law_is_web c_is_name c_law_is_name
end Lw
open PyProof.Rows PySem PySem.W PySem.Calls
theorem PySem.Challenge.cw_heardapart_k01_names_and_webs_holds : PySem.Challenge.rw_heardapart_k01_names_and_webs.Holds := by
  w_on; o_law
  refine HandSHeadRun.head_any (r := Lw.hdRow) (q := Lw.hdView) (H := Lw.hdHook) (ob := Lw.hdOb) (M := 4000) (loose := Lw.hdLoose) (d := Lw.hdTop) (kwd := []) Lw.hdOb_eq
    (by kernel_rfl) (fun s => by kernel_rfl) Lw.hdRun (by kernel_rfl) (by kernel_rfl) (by kernel_rfl) (by rfl) (by first | assumption | decide +kernel) (by decide +kernel) ⟨rfl, rfl, rfl, rfl, rfl, by decide +kernel⟩ ?hw ?hc
  case hw => w_witness2
  case hc =>
    refine Gx.walk_GE (l := PySem.Challenge.rw_heardapart_k01_names_and_webs) (n := 63) (k := 10) (x := "script") rfl (by decide) (by kernel_rfl) ⟨rfl, by decide, by decide⟩ ?F
    intro w mg fa h Y G hmg0
    obtain ⟨K, KX, c⟩ := Y
    have hmg : mg ("law" : PySem.Str) = some (.ref fa) := by
      have e : Lw.hdTop.name = ("law" : PySem.Str) := by kernel_rfl
      rw [← e]
      exact hmg0
    exact ⟨K, KX, Lw.hd_all KX G hmg c⟩

