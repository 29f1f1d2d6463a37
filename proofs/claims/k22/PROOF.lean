import PyProof.Rows.All
import Wide.All
import OpenK.AllK
import Wide.FinOn
import HandS.ForMost
import HandS.AnyAll
import HandS.GenList
import HandS.EndTab
import KE.SortData
import HandS.WideBits
import HandS.DictComp
import HandS.More
import HandS.TupAny
import HandS.TupLe
import HandS.Walk
import HandS.SortKw
import HandS.Conv
import HandS.Dict
import PyProof.RowDictHeap
import KE.KEqNest
import HandS.Text
import HandS.SetFor
import PyProof.NeKinds
import HandS.NoneIn
import HandS.IsInst
import HandS.DictTup
import HandS.Iter
import KE.KDictZip
import PyProof.StrBlock2
import HandS.HeadHook4
import HandS.Head4
import HandS.SortInts
import HandS.Strs
import HandS.Exc
import HandS.ExcOwn
import HandS.ExcIs
import PyProof.ExcBaseAll.ValueError
import KE.DataFind
import PyProof.EqKinds
import PyProof.ZipIter
import PyProof.CallType
import PyProof.TupleOfSeq
import PyProof.Walk
import PyProof.WalkLemmas
import PyProof.RulesTry
import HandS.Zip
import PyProof.AutoSeq1
import HandS.Style
import HandS.Small
import HandS.Deep
import HandS.Codes
import PySem.Challenge.RW_heardapart_k22_fewest_hearings
set_option Elab.async false
set_option linter.all false
set_option maxRecDepth 100000
set_option maxHeartbeats 8000000
/-! A generator expression whose element may do anything, under all( ) and any( ). -/
namespace Gx
open PySem PySem.Spec PyProof.Rows L2 GxR GenW

abbrev genv (X : Cx) (sc : Scope) (C : Addr) (code : Value) : Env :=
  genEnv sc (cloFrom X.env.cells sc.names []) C code builtinsNs X.env
abbrev gcx (X : Cx) (s : Shared) (H : Hp) (sc : Scope) (C : Addr) (code : Value) (fp : List Addr) : Cx :=
  { X with
    A := X.A.in1.in1.deeper (genv X sc C code)
    s_0 := s
    H_0 := H
    env := genv X sc C code
    outer := X.stack
    stack := genv X sc C code :: X.stack
    ex := fp
    fn := fun _ => false
    calm := true
    pn := []
    xe := fun _ _ => False }

theorem over_loop_gx {A : Around} {elt : Expr} {gs : List Comprehension} {sc : Scope} {pos : Pos} {it acc : Value} {env : Env} :
    A.over (.compLoop (.GeneratorExp elt gs sc pos) 0 it acc env) [] = A.deeper env := by
  obtain ⟨a, b, c, d, e⟩ := A
  cases c <;> cases d <;>
  simp [Around.over, Around.deeper, marksOver, frameCount, unitsOf, envsOf, guardsOf, pushEnvs, pushGuards, Code.envs, Code.env?, Code.isFrame, Code.guards, Code.isGuard, Code.weight, Code.frames, Code.isCreation, Code.isCaller, Code.cUnits]
theorem over_start_gx {A : Around} {elt : Expr} {gs : List Comprehension} {sc : Scope} {pos : Pos} {it acc : Value} {env : Env} :
    A.over (.compStart (.GeneratorExp elt gs sc pos) 0 it acc env) [] = A.deeper env := by
  obtain ⟨a, b, c, d, e⟩ := A
  cases c <;> cases d <;>
  simp [Around.over, Around.deeper, marksOver, frameCount, unitsOf, envsOf, guardsOf, pushEnvs, pushGuards, Code.envs, Code.env?, Code.isFrame, Code.guards, Code.isGuard, Code.weight, Code.frames, Code.isCreation, Code.isCaller, Code.cUnits]

section
variable {X : Cx} {pins : List (Addr × Obj)} {σ : L2.St} {H : Hp} {s : Shared}

theorem clo_look {cells : List (Str × Addr)} {names : List (Str × NameKind)} {y : Str} {c : Addr} (hf : ∀ z ∈ names, z.2 = .free → ∃ c, cells.lookup z.1 = some c)
    (h : (cloFrom cells names []).lookup y = some c) : cells.lookup y = some c ∧ (y, NameKind.free) ∈ names := by
  rcases cloFrom_mem (PySem.mem_of_lookup h) with q | ⟨q1, q2⟩
  · cases q
  · obtain ⟨c', e⟩ := hf _ q1 rfl
    rw [e] at q2
    have q3 : c = c' := q2
    exact ⟨by rw [q3]; exact e, q1⟩
theorem clo_has {cells : List (Str × Addr)} {names : List (Str × NameKind)} {y : Str} (hf : ∀ z ∈ names, z.2 = .free → ∃ c, cells.lookup z.1 = some c)
    (h : (y, NameKind.free) ∈ names) : ∃ c, (cloFrom cells names []).lookup y = some c ∧ cells.lookup y = some c := by
  obtain ⟨c, e⟩ := mem_lookup (cloFrom_has (cells := cells) (acc := []) h)
  exact ⟨c, e, (clo_look hf e).1⟩

/-- the generator's frame has been made: the state as its body sees it -/
theorem gx_start {sc : Scope} {own : List (Str × Nat)} {fp : List Addr} {C : Addr} {code : Value} {h' : Heap} {g' : Array GenState} {d' : Drawn} {t' : Nat}
    (I : Inv X pins σ H s) (hh : X.A.handled = none) (ok : BlkOk X.N X.env.scope sc own) (hN : X.N.Nodup) (hcell : ∀ y ∈ sc.names, y.2 ≠ .cell)
    (hfp : ∀ b ∈ fp, FpOk X pins H b ∧ b < s.heap.objs.size) (hC : C = s.heap.objs.size) (hns : ∃ m, h'.Ns C m)
    (kp : ∀ b o, s.heap.get? b = some o → h'.get? b = some o) (hg : AllBare g') :
    Inv (gcx X s H sc C code fp) [] (wipe σ (own.map (·.2))) H { s with heap := h', gens := g', drawn := d', toks := t' } := by
  have hf : ∀ z ∈ sc.names, z.2 = .free → ∃ c, X.env.cells.lookup z.1 = some c := fun z hz e => by
    rcases ok.free z hz e with k | k
    · exact I.ok.has _ (.inl k)
    · exact I.ok.has _ (.inr k)
  have cl : ∀ {y c}, (genv X sc C code).cells.lookup y = some c → X.env.cells.lookup y = some c ∧ (y, NameKind.free) ∈ sc.names := fun {y c} e => clo_look hf e
  have clt : ∀ {y c}, X.env.cells.lookup y = some c → c < s.heap.objs.size := fun {y c} e => by
    obtain ⟨w, z⟩ := I.cell y c e
    exact z.lt
  have free_of : ∀ {y}, (genv X sc C code).kindOf y = some .cell ∨ (genv X sc C code).kindOf y = some .free → (y, NameKind.free) ∈ sc.names := fun {y} hy => by
    rcases hy with hy | hy
    · exact absurd rfl (hcell _ (PySem.mem_of_lookup (show sc.names.lookup y = some .cell from hy)))
    · exact PySem.mem_of_lookup (show sc.names.lookup y = some .free from hy)
  have okY : (gcx X s H sc C code fp).Ok :=
    { mod := I.ok.mod
      kind := ok.kind
      glob := I.ok.glob
      blt := rfl
      above := Nat.le_of_eq hC.symm
      inj := fun y z c e1 e2 => I.ok.inj y z c (cl e1).1 (cl e2).1
      has := fun y hy => by
        obtain ⟨c, e, _⟩ := clo_has (cells := X.env.cells) hf (free_of hy)
        exact ⟨c, e⟩
      cab := fun y c e => by cases e
      hd := fun _ => hh
      frames := by
        have q := I.ok.frames
        show X.A.frames.map (genv X sc C code :: ·) = _
        rw [q]
        rfl
      stk := .inr ⟨rfl, rfl⟩
      exf := fun b hb => ⟨by
          show b ≠ C
          rw [hC]
          exact Nat.ne_of_lt (hfp b hb).2, fun y c e => (hfp b hb).1.2.2.2.2.1 y c (cl e).1⟩
      bs := I.bs
      bsz := Nat.le_trans I.ok.bsz I.sz
      noex := fun b o e hb => by
        rcases (hfp b hb).1.2.2.2.1 with z | z
        · exact I.ok.noex b o e z
        · exact absurd (Nat.lt_of_lt_of_le (Heap.lt_size e) (Nat.le_trans I.ok.bsz z)) (Nat.lt_irrefl _)
      exfs := fun b hb z => by
        rcases List.mem_cons.mp (I.stkSub b z) with z | z
        · exact (hfp b hb).1.2.1 z
        · exact (hfp b hb).1.2.2.1 z
      funs := I.stack
      frf := I.stkFree }
  obtain ⟨m, hm⟩ := hns
  have hn : ∀ b, s.heap.objs.size ≤ b → H b = none := fun b hb => I.hok.fresh hb
  refine { ok := okY, os := rfl, bare := hg, base := Un.kept kp, loc := ⟨m, hm, fun i y v e1 e2 e3 => ?_⟩, cell := fun y c e => ?_, free := hn C (Nat.le_of_eq hC.symm), freeC := fun y c e => I.freeC y c (cl e).1,
           pin := fun p hp => absurd (show p ∈ ([] : List (Addr × Obj)) ++ [] from hp) (by simp), hok := I.hok.kept kp, len := by rw [wipe_length]; exact I.len }
  · obtain ⟨e2, hne⟩ := wipe_some e2
    have hfr : (y, NameKind.free) ∈ sc.names := by
      have e3' : sc.names.lookup y = some .local ∨ sc.names.lookup y = some .cell ∨ sc.names.lookup y = some .free := e3
      have own : ∀ k, (y, k) ∈ sc.names → k = .local ∨ k = .cell → False := fun k hk hk2 => by
        rcases ok.own _ hk hk2 with q | q
        · obtain ⟨p, hp, hpy⟩ := List.mem_map.mp q
          have q3 := ok.ix p hp
          rw [show p.1 = y from hpy] at q3
          exact hne (List.mem_map.mpr ⟨p, hp, nodup_ix hN q3 e1⟩)
        · exact q (List.mem_of_getElem? e1)
      rcases e3' with q | q | q
      · exact (own _ (PySem.mem_of_lookup q) (.inl rfl)).elim
      · exact (own _ (PySem.mem_of_lookup q) (.inr rfl)).elim
      · exact PySem.mem_of_lookup q
    obtain ⟨m0, _, hl⟩ := I.loc
    have vis : Vis X.env.scope y := (ok.free _ hfr rfl).elim (fun k => .inr (.inl k)) fun k => .inr (.inr k)
    obtain ⟨w, r, q⟩ := hl i y v e1 e2 vis
    obtain ⟨c, h1, h2⟩ := clo_has (cells := X.env.cells) hf hfr
    have kf : (genv X sc C code).kindOf y = some .free := ok.uniq _ hfr
    refine ⟨w, r, .inr ⟨.inr kf, c, h1, ?_⟩⟩
    rcases q with ⟨k, _⟩ | ⟨_, c', e', z⟩
    · have k' : X.env.scope.names.lookup y = some .local := k
      rcases ok.free _ hfr rfl with k2 | k2 <;> rw [show X.env.scope.names.lookup y = _ from k2] at k' <;> cases k'
    · rw [h2] at e'
      cases e'
      exact z.keeps kp
  · obtain ⟨w, z⟩ := I.cell y c (cl e).1
    exact ⟨w, z.keeps kp⟩

/-- generators, tokens and what was drawn are no matter -/
theorem inv_gens {g' : Array GenState} {d' : Drawn} {t' : Nat} (I : Inv X pins σ H s) (hg : AllBare g') : Inv X pins σ H { s with gens := g', drawn := d', toks := t' } :=
  I.step (h' := s.heap) (ch := []) (fun b hb => absurd hb (by simp)) (fun _ _ _ _ _ e _ => e) (fun _ o _ _ _ e _ => ⟨o.slots, e⟩) (fun _ _ _ _ n => n) (fun _ o _ e => ⟨o, e⟩)
    (fun _ _ e => e) (fun _ _ _ e => e) (fun _ ps e => ⟨#[], by rw [e]; simp⟩) (fun _ hm => hm) I.hok hg
theorem inv_like {s' : Shared} (I : Inv X pins σ H s) (hh : s'.heap = s.heap) (ho : s'.os = s.os) (hg : AllBare s'.gens) : Inv X pins σ H s' := by
  have J := inv_gens (g' := s'.gens) (d' := s'.drawn) (t' := s'.toks) I hg
  rw [← hh] at J
  rw [sh_eta s s' ho] at J
  exact J

/-- what is known once and for all of one run of the generator -/
structure Run (X : Cx) (s0 : Shared) (H0 : Hp) (sc : Scope) (C : Addr) (code : Value) (fp : List Addr) (tg elt : Expr) (g : TG) (te : TE) (J : It) (it : Addr) (tn : Nat → Heap → Prop) (vs : List Nat) (σ0 : L2.St)
    (sb : Bool) (W : Nat → Nat → Hp → Prop) (Q : VK) : Prop where
  turns : Turn X.prog X.w X.K tg J fp it tn
  target : PG (gcx X s0 H0 sc C code fp) tg g
  element : PE (gcx X s0 H0 sc C code fp) elt te
  nocor : sc.isCoroutine = false
  step : ∀ i m H, W i m H → (J.stop i H ∧ Q (.bl (!sb)) H) ∨ (J.go i H ∧ ∃ Nx : Hp → Prop, (∀ H', Nx H' → ∃ m', m' < m ∧ W (i + 1) m' H') ∧
    ∀ x H', J.yld i H x H' → g x σ0 H' fun σ2 H2 => wipe σ2 vs = σ0 ∧ te σ2 H2 fun y H4 => ∃ b, y = .bl b ∧ if b = sb then Q (.bl sb) H4 else Nx H4)

/-- the generator stands ahead of its i-th turn, with room for n more -/
def Ahead (X : Cx) (s0 : Shared) (H0 : Hp) (sc : Scope) (C : Addr) (code : Value) (fp : List Addr) (tn : Nat → Heap → Prop) (σ0 : L2.St) (W : Nat → Nat → Hp → Prop) (pin : Addr × Obj) (i n : Nat) (s : Shared) : Prop :=
  ∃ H m, Inv (gcx X s0 H0 sc C code fp) [pin] σ0 H s ∧ tn i s.heap ∧ (∀ b ∈ fp, H b = none) ∧ m ≤ n ∧ W i m H
/-- it hands out a truth -/
def Out (X : Cx) (s0 : Shared) (H0 : Hp) (sc : Scope) (C : Addr) (code : Value) (fp : List Addr) (pin : Addr × Obj) (sb : Bool) (Q : VK) : Protocol := fun n s₀ v s kap =>
  ∃ (b : Bool) (σ1 : L2.St) (H1 : Hp), v = .bool b ∧ Inv (gcx X s0 H0 sc C code fp) [pin] σ1 H1 s ∧ (b = sb → Q (.bl sb) H1) ∧
    (b ≠ sb → ∀ s'', s''.heap = s.heap → s''.os = s.os → AllBare s''.gens → kap (.send .none) s'')
/-- it has come to its end -/
def Over (X : Cx) (s0 : Shared) (H0 : Hp) (sc : Scope) (C : Addr) (code : Value) (fp : List Addr) (pin : Addr × Obj) (sb : Bool) (Q : VK) (n : Nat) (s₀ s : Shared) : Prop :=
  ∃ (σ1 : L2.St) (H1 : Hp), Inv (gcx X s0 H0 sc C code fp) [pin] σ1 H1 s ∧ Q (.bl (!sb)) H1

section
variable {s0 : Shared} {H0 : Hp} {sc : Scope} {C : Addr} {code : Value} {fp : List Addr} {tg elt iter : Expr} {g : TG} {te : TE} {J : It} {it : Addr} {tn : Nat → Heap → Prop} {vs : List Nat} {σ0 : L2.St} {sb : Bool} {W : Nat → Nat → Hp → Prop} {Q : VK}
  {pin : Addr × Obj} {pos : Pos}

theorem ahead_like {i n : Nat} {s s' : Shared} (h : Ahead X s0 H0 sc C code fp tn σ0 W pin i n s) (hh : s'.heap = s.heap) (ho : s'.os = s.os) (hg : AllBare s'.gens) : Ahead X s0 H0 sc C code fp tn σ0 W pin i n s' := by
  obtain ⟨H, m, I, st, n, le, w⟩ := h
  exact ⟨H, m, inv_like I hh ho hg, by rw [hh]; exact st, n, le, w⟩

abbrev LoopC (X : Cx) (elt tg iter : Expr) (sc : Scope) (pos : Pos) (it C : Addr) (code : Value) : Code := .compLoop (.GeneratorExp elt [⟨tg, iter, [], 0⟩] sc pos) 0 (.ref it) .none (genv X sc C code)
abbrev SegX (X : Cx) (s0 : Shared) (H0 : Hp) (sc : Scope) (C : Addr) (code : Value) (fp : List Addr) (pin : Addr × Obj) (sb : Bool) (Q : VK) (n : Nat) (s₀ : Shared) (c : Code) (t : Sem PySem.Fin) (s : Shared) : Prop :=
  Seg (model X.prog X.w) X.A.in1.in1 (fun n s₀ r s₁ => r = .ok .next ∧ Over X s0 H0 sc C code fp pin sb Q n s₀ s₁) (Out X s0 H0 sc C code fp pin sb Q) n s₀ c t [] s

theorem seg_turn (R : Run X s0 H0 sc C code fp tg elt g te J it tn vs σ0 sb W Q) (hp : pin.1 ∉ fp) (n i : Nat) (s₀ s : Shared) (h : Ahead X s0 H0 sc C code fp tn σ0 W pin i n s)
    (again : ∀ n' s'', n = n' + 1 → Ahead X s0 H0 sc C code fp tn σ0 W pin (i + 1) n' s'' → SegX X s0 H0 sc C code fp pin sb Q (n' + 1) s'' (LoopC X elt tg iter sc pos it C code) ((model X.prog X.w).den (LoopC X elt tg iter sc pos it C code)) s'') :
    SegX X s0 H0 sc C code fp pin sb Q (n + 1) s₀ (LoopC X elt tg iter sc pos it C code) ((model X.prog X.w).den (LoopC X elt tg iter sc pos it C code)) s := by
  have T := R.turns
  have eA : (X.A.in1.in1).over (LoopC X elt tg iter sc pos it C code) [] = (gcx X s0 H0 sc C code fp).A := over_loop_gx
  obtain ⟨H, m, I, st, nf, le, w⟩ := h
  have stat : ∀ {σ' : L2.St} {H' : Hp} {s' : Shared}, Inv (gcx X s0 H0 sc C code fp) [pin] σ' H' s' → (∀ b ∈ fp, H' b = none) → ∀ b ∈ fp, FpOk (gcx X s0 H0 sc C code fp) [pin] H' b := fun {σ' H' s'} I' hn b hb =>
    ⟨hn b hb, (I'.ok.exf b hb).1, I'.ok.exfs b hb, .inl hb, fun x c e => (I'.ok.exf b hb).2 x c e, fun p hp' => by
      have e : p = pin := by simpa using hp'
      rw [e]
      exact fun z => hp (z ▸ hb)⟩
  show Seg _ _ _ _ _ _ _ ((compTurn (.GeneratorExp elt [⟨tg, iter, [], 0⟩] sc pos) 0 (.ref it) .none (genv X sc C code)).onRaise (leaving (genv X sc C code))) _ _
  rw [compTurn_gen, Sem.onRaise_eq_wrap]
  refine seg_bind_wrap (wpAny_standAt ?_)
  rcases R.step i m H w with ⟨stop, q⟩ | ⟨go, Nx, hNx, turn⟩
  · refine seg_bind_wrap ?_
    rw [eA]
    refine wpAny_mono (T.done (gcx X s0 H0 sc C code fp) rfl rfl rfl rfl i [pin] s σ0 H (fun _ _ => False) I (stat I nf) st stop) (fun r s1 h1 => ?_) fun e s z => z.elim
    obtain ⟨hr, I1⟩ := h1
    subst hr
    exact seg_end (.ok .next) ⟨rfl, σ0, H, I1, q⟩
  · refine seg_bind_wrap ?_
    rw [eA]
    refine wpAny_mono (T.item (gcx X s0 H0 sc C code fp) rfl rfl rfl rfl i [pin] s σ0 H (fun _ _ => False) I (stat I nf) st go) (fun r s1 h1 => ?_) fun e s z => z.elim
    obtain ⟨u, hr, h1⟩ := h1
    subst hr
    refine seg_bind_wrap ?_
    rw [eA]
    refine wpAny_mono h1 (fun _ s2 h2 => ?_) fun e s z => z.elim
    obtain ⟨x, H2, I2, r2, y2, st2, nf2⟩ := h2
    have I2' := I2.pinned (stat I2 nf2) (T.obj _ _ st2)
    refine seg_bind_wrap ?_
    rw [eA]
    refine wpAny_mono (R.target.run _ s2 σ0 H2 x u _ I2' r2 (turn x H2 y2)) (fun _ s3 h3 => ?_) fun e s z => z.elim
    obtain ⟨σ3, H3, I3, hw3, q3⟩ := h3
    refine seg_bind_wrap ?_
    rw [List.forIn_nil]
    refine wpAny_pure ?_
    simp only [if_true]
    have hy : ∀ v, yieldOut (genv X sc C code) v = yieldValue v := fun v => by
      have e : (genv X sc C code).scope.isCoroutine = false := R.nocor
      simp only [yieldOut, e, Bool.false_eq_true, if_false]
    simp only [hy]
    rw [Sem.bind_eq_wrap', Sem.bind_eq_wrap', Sem.wrap_wrap, Sem.wrap_wrap]
    refine seg_wrap ?_
    rw [eA]
    refine wpAny_mono (R.element.run _ s3 σ3 H3 _ I3 q3) (fun y s4 h4 => ?_) fun e s z => z.elim
    obtain ⟨yv, H4, I4, r4, b, ey, q4⟩ := h4
    subst ey
    have er : y = Value.bool b := r4
    subst er
    have pinK : ∀ b ∈ fp, ∀ o, s2.heap.get? b = some o → s4.heap.get? b = some o ∧ H4 b = none := fun b hb o e =>
      let z := I4.pin (b, o) (List.mem_append_right _ (List.mem_append_right _ (mem_pinsAt hb e)))
      ⟨z.1, z.2.1⟩
    have hl : σ0.length = σ3.length := by rw [← hw3, wipe_length]
    have I4' : Inv (gcx X s0 H0 sc C code fp) [pin] σ0 H4 s4 := (I4.unpinned (pins := [pin])).weak hl fun j v e => by
      rw [← hw3] at e
      exact (wipe_some e).1
    refine seg_at (seg_yield rfl rfl rfl ⟨b, σ0, H4, rfl, I4', fun e => ?_, fun ne s'' hh ho hg => ?_⟩)
    · rw [if_pos e] at q4
      exact q4
    · rw [if_neg ne] at q4
      obtain ⟨m', hm, w'⟩ := hNx H4 q4
      obtain ⟨n', rfl⟩ : ∃ n', n = n' + 1 := ⟨n - 1, by omega⟩
      refine seg_again rfl (again n' s'' rfl (ahead_like (s := s4) ⟨H4, m', I4', T.keep _ _ _ st2 fun b hb o e => (pinK b hb o e).1, fun b hb => ?_, by omega, w'⟩ hh ho hg))
      obtain ⟨o, e, _⟩ := T.obj _ _ st2 b hb
      exact (pinK b hb o e).2
theorem seg_turns (R : Run X s0 H0 sc C code fp tg elt g te J it tn vs σ0 sb W Q) (hp : pin.1 ∉ fp) : ∀ (n i : Nat) (s₀ s : Shared), Ahead X s0 H0 sc C code fp tn σ0 W pin i n s →
    SegX X s0 H0 sc C code fp pin sb Q (n + 1) s₀ (LoopC X elt tg iter sc pos it C code) ((model X.prog X.w).den (LoopC X elt tg iter sc pos it C code)) s := by
  intro n
  induction n with
  | zero => exact fun i s₀ s h => seg_turn R hp 0 i s₀ s h fun n' s'' e _ => by omega
  | succ n ih =>
    refine fun i s₀ s h => seg_turn R hp (n + 1) i s₀ s h fun n' s'' e h' => ?_
    have e' : n' = n := by omega
    rw [e'] at h' ⊢
    exact ih (i + 1) s'' s'' h'
abbrev StartC (X : Cx) (elt tg iter : Expr) (sc : Scope) (pos : Pos) (it C : Addr) (code : Value) : Code := .compStart (.GeneratorExp elt [⟨tg, iter, [], 0⟩] sc pos) 0 (.ref it) .none (genv X sc C code)
theorem seg_begin (R : Run X s0 H0 sc C code fp tg elt g te J it tn vs σ0 sb W Q) (hp : pin.1 ∉ fp) (n : Nat) (s₀ s : Shared) (h : Ahead X s0 H0 sc C code fp tn σ0 W pin 0 n s) :
    SegX X s0 H0 sc C code fp pin sb Q (n + 1) s₀ (StartC X elt tg iter sc pos it C code) ((model X.prog X.w).den (StartC X elt tg iter sc pos it C code)) s := by
  have loop := seg_turns (iter := iter) (pos := pos) R hp n 0 s₀ s h
  obtain ⟨H, m, I, st, _⟩ := h
  show Seg _ _ _ _ _ _ _ ((compStart (.GeneratorExp elt [⟨tg, iter, [], 0⟩] sc pos) 0 (.ref it) .none (genv X sc C code)).onRaise (leaving (genv X sc C code))) _ _
  unfold compStart
  rw [Sem.onRaise_eq_wrap]
  show Seg _ _ _ _ _ _ _ ((ask >>= _).wrap _ _ _ _) _ _
  refine seg_bind_wrap (wpAny_askSetting ?_)
  split
  · exact seg_again rfl loop
  · refine seg_bind_wrap (wpAny_rule ?_)
    show Seg _ _ _ _ _ _ _ ((standAt iter.pos >>= _).wrap _ _ _ _) _ _
    refine seg_bind_wrap (wpAny_standAt (seg_bind_wrap ?_))
    exact R.turns.self _ 0 s _ _ st (seg_again rfl loop)
end
end
end Gx

namespace Gx
open PySem PySem.Spec PyProof.Rows L2 GxR GenW
section
variable {X : Cx} {s0 : Shared} {H0 : Hp} {sc : Scope} {C : Addr} {code : Value} {fp : List Addr} {sb : Bool} {Q : VK} {a : Addr} {go : Obj} {gi : Nat}

abbrev EndX (X : Cx) (s0 : Shared) (H0 : Hp) (sc : Scope) (C : Addr) (code : Value) (fp : List Addr) (pin : Addr × Obj) (sb : Bool) (Q : VK) : GenEnd := fun n s₀ r s₁ => r = .ok .next ∧ Over X s0 H0 sc C code fp pin sb Q n s₀ s₁
/-- the generator sleeps, n turns at most are ahead -/
def Awake (X : Cx) (s0 : Shared) (H0 : Hp) (sc : Scope) (C : Addr) (code : Value) (fp : List Addr) (sb : Bool) (Q : VK) (a : Addr) (go : Obj) (gi n : Nat) (s : Shared) : Prop :=
  (∃ σ1 H1, Inv (gcx X s0 H0 sc C code fp) [(a, go)] σ1 H1 s) ∧
  ∃ gs, s.gens[gi]? = some gs ∧ ∀ s'', s''.heap = s.heap → s''.os = s.os → AllBare s''.gens →
    gs.Goes (model X.prog X.w) X.A.in1.in1 (EndX X s0 H0 sc C code fp (a, go) sb Q) (Out X s0 H0 sc C code fp (a, go) sb Q) n (.send .none) s''
/-- what is wanted of the whole -/
def Fin' (X : Cx) (s0 : Shared) (H0 : Hp) (sc : Scope) (C : Addr) (code : Value) (fp : List Addr) (Q : VK) (a : Addr) (go : Obj) (R : Result → Shared → Prop) : Prop :=
  ∀ b σ1 H1 s1, Inv (gcx X s0 H0 sc C code fp) [(a, go)] σ1 H1 s1 → Q (.bl b) H1 → ∀ s', s'.os = s1.os → AllBare s'.gens → (∀ b o, s1.heap.get? b = some o → s'.heap.get? b = some o) → R (.ok (.ret (.bool b))) s'

theorem pin_at {σ1 : L2.St} {H1 : Hp} {s : Shared} (I : Inv (gcx X s0 H0 sc C code fp) [(a, go)] σ1 H1 s) : s.heap.get? a = some go := (I.pin (a, go) (by simp)).1

/-- one next( ) of it: a truth, or the end -/
theorem next_truth (hh : X.A.handled = none) (hd : X.A.depth < recursionLimit) (hgo : ∀ h : Heap, h.get? a = some go → h.IsGen a gi) {n : Nat} {s : Shared} (h : Awake X s0 H0 sc C code fp sb Q a go gi n s) {P : Option Value → Shared → Prop} {E : Value → Shared → Prop}
    (stop : ∀ σ1 H1 s1 s2, Inv (gcx X s0 H0 sc C code fp) [(a, go)] σ1 H1 s1 → Q (.bl sb) H1 → s2.os = s1.os → AllBare s2.gens → s2.heap = s1.heap → P (some (.bool sb)) s2)
    (more : ∀ n' s2, n = n' + 1 → Awake X s0 H0 sc C code fp sb Q a go gi n' s2 → P (some (.bool (!sb))) s2)
    (done : ∀ σ1 H1 s1 s2, Inv (gcx X s0 H0 sc C code fp) [(a, go)] σ1 H1 s1 → Q (.bl (!sb)) H1 → s2.os = s1.os → AllBare s2.gens → (∀ b o, s1.heap.get? b = some o → s2.heap.get? b = some o) → P none s2) :
    wpAny (model X.prog X.w) X.A.in1 (pyNext (.ref a)) P E s := by
  obtain ⟨⟨σ1, H1, I⟩, gs, hgs, goes⟩ := h
  have hlt : gi < s.gens.size := (Array.getElem?_eq_some_iff.mp hgs).1
  have hrun : AllBare (s.setGen gi .running).gens := allBare_setGen I.bare rfl
  refine wpAny_gsz (n := gi + 1) hlt (wpAny_pyNext_genexpQ (A := X.A.in1) (P := Over X s0 H0 sc C code fp (a, go) sb Q) hh I.nolimit hd (hgo _ (pin_at I)) hgs (goes _ rfl rfl hrun) (fun v s1 gs' hb hv => ?_) fun s1 hp h' hk => ?_)
  · intro hsz
    obtain ⟨b, σ2, H2, ev, I2, hst, hmore⟩ := hv
    subst ev
    have hb2 : AllBare (s1.setGen gi gs').gens := allBare_setGen I2.bare hb
    by_cases e : b = sb
    · rw [e]
      exact stop σ2 H2 s1 _ I2 (hst e) rfl hb2 rfl
    · have e2 : b = !sb := by cases b <;> cases sb <;> simp_all
      have q := hmore e
      cases n with
      | zero => exact (q s1 rfl rfl I2.bare).elim
      | succ n' =>
        rw [e2]
        have hlt2 : gi < s1.gens.size := by
          have z : (s1.setGen gi gs').gens.size = s1.gens.size := setGen_size _ _ _
          omega
        refine more n' _ rfl ⟨⟨σ2, H2, inv_like I2 rfl rfl hb2⟩, gs', setGen_at hlt2, fun s'' h1 h2 h3 => q s'' h1 h2 h3⟩
  · intro hsz
    obtain ⟨σ2, H2, I2, q⟩ := hp
    exact done σ2 H2 s1 _ I2 q rfl (allBare_setGen I2.bare rfl) hk

theorem all_turns (hh : X.A.handled = none) (hd : X.A.depth < recursionLimit) (hgo : ∀ h : Heap, h.get? a = some go → h.IsGen a gi) {R : Result → Shared → Prop} (fin : Fin' X s0 H0 sc C code fp Q a go R) :
    ∀ (n : Nat) (s : Shared), Awake X s0 H0 sc C code fp false Q a go gi n s → codeAny (model X.prog X.w) X.A (.builtin "all.loop" ⟨[.ref a], []⟩) R s := by
  intro n
  induction n with
  | zero =>
    intro s h
    refine codeAny_builtin F.entry_all_loop ?_
    rw [Around.under_plainId F.plain_all_loop _]
    show wpAny _ X.A.in1 (pyNext (.ref a) >>= _) _ _ s
    refine wpAny_bind (next_truth hh hd hgo h (fun σ1 H1 s1 s2 I q e1 e2 e3 => ?_) (fun n' s2 e _ => by omega) fun σ1 H1 s1 s2 I q e1 e2 e3 => ?_)
    · refine wpAny_bind (wpAny_holding (wpAny_truthy_bool ?_))
      refine wpAny_bind (wpAny_letGo ?_)
      simp only [Bool.false_eq_true, if_false]
      exact wpAny_bind (wpAny_rule (wpAny_pure (fin false σ1 H1 s1 I q s2 e1 e2 fun b o e => by rw [e3]; exact e)))
    · exact wpAny_bind (wpAny_rule (wpAny_pure (fin true σ1 H1 s1 I q s2 e1 e2 e3)))
  | succ n ih =>
    intro s h
    refine codeAny_builtin F.entry_all_loop ?_
    rw [Around.under_plainId F.plain_all_loop _]
    show wpAny _ X.A.in1 (pyNext (.ref a) >>= _) _ _ s
    refine wpAny_bind (next_truth hh hd hgo h (fun σ1 H1 s1 s2 I q e1 e2 e3 => ?_) (fun n' s2 e h2 => ?_) fun σ1 H1 s1 s2 I q e1 e2 e3 => ?_)
    · refine wpAny_bind (wpAny_holding (wpAny_truthy_bool ?_))
      refine wpAny_bind (wpAny_letGo ?_)
      simp only [Bool.false_eq_true, if_false]
      exact wpAny_bind (wpAny_rule (wpAny_pure (fin false σ1 H1 s1 I q s2 e1 e2 fun b o e => by rw [e3]; exact e)))
    · refine wpAny_bind (wpAny_holding (wpAny_truthy_bool ?_))
      refine wpAny_bind (wpAny_letGo ?_)
      simp only [Bool.not_false, if_true]
      have en : n' = n := by omega
      rw [en] at h2
      exact wpAny_pure ⟨plainId_quiet F.plain_all_loop _, ih s2 h2⟩
    · exact wpAny_bind (wpAny_rule (wpAny_pure (fin true σ1 H1 s1 I q s2 e1 e2 e3)))
theorem any_turns (hh : X.A.handled = none) (hd : X.A.depth < recursionLimit) (hgo : ∀ h : Heap, h.get? a = some go → h.IsGen a gi) {R : Result → Shared → Prop} (fin : Fin' X s0 H0 sc C code fp Q a go R) :
    ∀ (n : Nat) (s : Shared), Awake X s0 H0 sc C code fp true Q a go gi n s → codeAny (model X.prog X.w) X.A (.builtin "any.loop" ⟨[.ref a], []⟩) R s := by
  intro n
  induction n with
  | zero =>
    intro s h
    refine codeAny_builtin F.entry_any_loop ?_
    rw [Around.under_plainId F.plain_any_loop _]
    show wpAny _ X.A.in1 (pyNext (.ref a) >>= _) _ _ s
    refine wpAny_bind (next_truth hh hd hgo h (fun σ1 H1 s1 s2 I q e1 e2 e3 => ?_) (fun n' s2 e _ => by omega) fun σ1 H1 s1 s2 I q e1 e2 e3 => ?_)
    · refine wpAny_bind (wpAny_holding (wpAny_truthy_bool ?_))
      refine wpAny_bind (wpAny_letGo ?_)
      simp only [if_true]
      exact wpAny_bind (wpAny_rule (wpAny_pure (fin true σ1 H1 s1 I q s2 e1 e2 fun b o e => by rw [e3]; exact e)))
    · exact wpAny_bind (wpAny_rule (wpAny_pure (fin false σ1 H1 s1 I q s2 e1 e2 e3)))
  | succ n ih =>
    intro s h
    refine codeAny_builtin F.entry_any_loop ?_
    rw [Around.under_plainId F.plain_any_loop _]
    show wpAny _ X.A.in1 (pyNext (.ref a) >>= _) _ _ s
    refine wpAny_bind (next_truth hh hd hgo h (fun σ1 H1 s1 s2 I q e1 e2 e3 => ?_) (fun n' s2 e h2 => ?_) fun σ1 H1 s1 s2 I q e1 e2 e3 => ?_)
    · refine wpAny_bind (wpAny_holding (wpAny_truthy_bool ?_))
      refine wpAny_bind (wpAny_letGo ?_)
      simp only [if_true]
      exact wpAny_bind (wpAny_rule (wpAny_pure (fin true σ1 H1 s1 I q s2 e1 e2 fun b o e => by rw [e3]; exact e)))
    · refine wpAny_bind (wpAny_holding (wpAny_truthy_bool ?_))
      refine wpAny_bind (wpAny_letGo ?_)
      simp only [Bool.not_true, Bool.false_eq_true, if_false]
      have en : n' = n := by omega
      rw [en] at h2
      exact wpAny_pure ⟨plainId_quiet F.plain_any_loop _, ih s2 h2⟩
    · exact wpAny_bind (wpAny_rule (wpAny_pure (fin false σ1 H1 s1 I q s2 e1 e2 e3)))
end
end Gx

namespace Gx
open PySem PySem.Spec PyProof.Rows L2 GxR GenW
section
variable {X : Cx} {pins : List (Addr × Obj)} {σ : L2.St} {H : Hp} {s : Shared}

/-- what stands once the generator has been made, ahead of its first turn -/
structure Made (X : Cx) (pins : List (Addr × Obj)) (σ : L2.St) (P : Addr) (elt tg iter : Expr) (sc : Scope) (pos : Pos) (vs : List Nat) (J : It) (H1 H2 : Hp) (it : Addr) (fp : List Addr) (tn : Nat → Heap → Prop) (s0 : Shared) (C : Addr) (code : Value) (a : Addr) (go : Obj) (gi : Nat) (s5 : Shared) : Prop where
  tab : Tabbed P H1 H2
  turns : Turn X.prog X.w X.K tg J fp it tn
  st : tn 0 s5.heap
  i0 : Inv X pins σ H2 s0
  fpo : ∀ b ∈ fp, FpOk X pins H2 b ∧ b < s0.heap.objs.size
  i5 : Inv (gcx X s0 H2 sc C code fp) [(a, go)] (wipe σ vs) H2 s5
  apart : a ∉ fp
  gens : s5.gens[gi]? = some (.fresh (StartC X elt tg iter sc pos it C code))
  isgen : ∀ h : Heap, h.get? a = some go → h.IsGen a gi

theorem gen_made {c P : Addr} {elt tg iter : Expr} {gpos : Pos} {sc : Scope} {own : List (Str × Nat)} {wi : TI} {k : Nat} {Q' : Value → Shared → Prop} {R : It → Hp → Prop}
    (hr : Room k X.A) (TB : TabB X.base X.mg c P) (hcode : X.env.code = .ref c) (ok : BlkOk X.N X.env.scope sc own) (hN : X.N.Nodup) (hcell : ∀ y ∈ sc.names, y.2 ≠ .cell) (hdot : sc.names.lookup (".0" : Str) = some NameKind.local)
    (hco : sc.isCoroutine = false) (hi : PI X tg iter wi) (hs : ∀ v, genFold iter X.env v = pure v) (I : Inv X pins σ H s) (h : wi σ H fun J H1 => TabG H1 P ∧ R J H1)
    (hQ : ∀ J H1 H2 it fp tn s0 C code a go gi s5, R J H1 → Made X pins σ P elt tg iter sc gpos (own.map (·.2)) J H1 H2 it fp tn s0 C code a go gi s5 → Q' (.ref a) s5) :
    wpAny (model X.prog X.w) X.A (eval (.GeneratorExp elt [⟨tg, iter, [], 0⟩] sc gpos) X.env) Q' X.xe s := by
  have hf : ∀ z ∈ sc.names, z.2 = .free → ∃ c, X.env.cells.lookup z.1 = some c := fun z hz e => by
    rcases ok.free z hz e with k | k
    · exact I.ok.has _ (.inl k)
    · exact I.ok.has _ (.inr k)
  refine wpAny_GeneratorExp_make hco (closure_ok hf) hcell hdot ok.kind (by have := hr.dp; omega) ?_ hs
  refine thn (hi.run pins s σ H _ I h) fun xv s1 h1 => thn h1 fun itv s2 h2 => ?_
  obtain ⟨it, fp, tn, J, H1, e, I1, T, st, f1, ⟨ps, hP, htr⟩, q⟩ := h2
  subst e
  refine ⟨I1.nolimit, ?_⟩
  have hPs : s2.heap.get? P = some { cls := .none, data := .fields ps } := I1.hok P _ hP
  have cd : PySem.W.CodeHd s2.heap c P := TB.code.keeps I1.bk
  -- behind the making of the code object
  have cont : ∀ (cv : Value) (h3 : Heap) (tk : Nat) (more : Array Value), (∀ b o, b ≠ P → s2.heap.get? b = some o → h3.get? b = some o) → h3.get? P = some { cls := .none, data := .fields (ps ++ more) } → TriplesOk (ps ++ more).toList →
      wpAny (model X.prog X.w) X.A (builtinsFor X.env.globals X.env.builtins) (fun bi s4 => ∀ h', h'.Ns s4.heap.objs.size (fun y => if y = ".0" then some (.ref it) else none) → Heap.SameBut s4.heap.objs.size (s4.heap.push { cls := .type "frame", data := .dict #[] }) h' →
        Q' (.ref h'.objs.size) { s4 with
          gens := s4.gens.push (.fresh (.compStart (.GeneratorExp elt [⟨tg, iter, [], 0⟩] sc gpos) 0 (.ref it) .none (genEnv sc (cloFrom X.env.cells sc.names []) s4.heap.objs.size cv bi X.env))),
          toks := s4.toks + 1 + 1 + 1,
          heap := h'.push { cls := .type "generator", data := .fields #[.int s4.gens.size 0, .str "<genexpr>" (s4.toks + 1), .str (X.env.qual ++ "<genexpr>") (s4.toks + 1 + 1)] } }) X.xe { s2 with heap := h3, toks := tk } := by
    intro cv h3 tk more k3 hP3 ht3
    have I3 : Inv X pins σ (upd H1 P (.tbl (ps ++ more))) { s2 with heap := h3, toks := tk } := inv_tab (g' := s2.gens) (d' := s2.drawn) (t' := tk) I1 hP k3 hP3 I1.bare
    have tbd : Tabbed P H1 (upd H1 P (.tbl (ps ++ more))) := ⟨⟨ps ++ more, upd_same, ht3⟩, fun b hb => upd_ne hb⟩
    obtain ⟨bm, ob, e1, e2, e3, e4, e5, e6, e7, e8⟩ := TB.bm
    have gNs := I3.mod.glob.keeps I3.bk
    refine wpAny_builtinsFor (m := X.mg) (by rw [I3.ok.glob]; exact gNs) e1 e2 (I3.bk _ _ e5) e6 e7 e8 ?_
    intro h' hns' hsb
    generalize hH2 : upd H1 P (.tbl (ps ++ more)) = H2 at I3 tbd
    have n2 : ∀ b, H1 b = none → H2 b = none := fun b e => by
      have hne : b ≠ P := fun z => by rw [z, hP] at e; cases e
      rw [tbd.2 b hne]
      exact e
    have f3 : ∀ b ∈ fp, FpOk X pins H2 b ∧ b < h3.objs.size := fun b hb => by
      have hne : b ≠ P := fun z => by
        have := (f1 b hb).1
        rw [z, hP] at this
        cases this
      obtain ⟨o, e, _⟩ := T.obj _ _ st b hb
      exact ⟨⟨n2 b (f1 b hb).1, (f1 b hb).2⟩, Heap.lt_size (k3 b o hne e)⟩
    have hsz : h'.objs.size = h3.objs.size + 1 := by
      have z := hsb.1
      rw [Heap.size_push] at z
      exact z
    have kp : ∀ b o, h3.get? b = some o → h'.get? b = some o := fun b o e => hsb.extBut b o (Nat.ne_of_lt (Heap.lt_size e)) (Heap.get?_push_of_some _ e)
    generalize hgo : ({ cls := .type "generator", data := .fields #[.int s2.gens.size 0, .str "<genexpr>" (tk + 1), .str (X.env.qual ++ "<genexpr>") (tk + 1 + 1)] } : Obj) = go
    have ggo : (h'.push go).get? h'.objs.size = some go := Heap.get?_push_size _ (by rw [← hgo]; rfl)
    have kp5 : ∀ b o, h3.get? b = some o → (h'.push go).get? b = some o := fun b o e => Heap.get?_push_of_some _ (kp b o e)
    have bg : AllBare (s2.gens.push (.fresh (.compStart (.GeneratorExp elt [⟨tg, iter, [], 0⟩] sc gpos) 0 (.ref it) .none (genv X sc h3.objs.size cv)))) := I1.bare.push rfl
    have I5 := gx_start (C := h3.objs.size) (code := cv) (d' := s2.drawn) (t' := tk + 1 + 1 + 1) (h' := h'.push go) (s := { s2 with heap := h3, toks := tk }) I3 hr.hd ok hN hcell f3 rfl ⟨_, hns'.push _⟩ kp5 bg
    have na : h3.objs.size ≤ h'.objs.size := by rw [hsz]; exact Nat.le_succ _
    have I5' := I5.pins_of (pins' := [(h'.objs.size, go)]) fun p hp => by
      have ep : p = (h'.objs.size, go) := by simpa using hp
      subst ep
      refine ⟨ggo, I3.hok.fresh na, ?_, fun z => ?_, fun v z => ?_⟩
      · show h'.objs.size ≠ h3.objs.size
        rw [hsz]
        exact Nat.succ_ne_self _
      · rcases List.mem_cons.mp (I3.stkSub _ z) with y | y
        · have l : X.env.locals < h3.objs.size := I3.lt
          rw [← show h'.objs.size = X.env.locals from y] at l
          exact Nat.lt_irrefl _ (Nat.lt_of_lt_of_le l na)
        · exact I3.nofs (a := h'.objs.size) na y
      · rw [← hgo] at z
        cases z
    refine hQ J H1 H2 it fp tn { s2 with heap := h3, toks := tk } h3.objs.size cv h'.objs.size go s2.gens.size _ q ⟨tbd, T, ?_, I3, f3, I5', fun z => ?_, Array.getElem?_push_size .., fun h e => ⟨go, _, _, e, by rw [← hgo], by rw [← hgo], by rw [← hgo]⟩⟩
    · refine T.keep _ _ _ st fun b hb o e => kp5 b o (k3 b o (fun z => ?_) e)
      have := (f1 b hb).1
      rw [z, hP] at this
      cases this
    · exact Nat.lt_irrefl _ (Nat.lt_of_lt_of_le (f3 _ z).2 na)
  cases hf2 : codeAmong gpos ps.toList with
  | none =>
    refine wpAny_genexprCodeX hcode (cd.code hPs htr) (cd.tab hPs) hf2 fun c' h' tk hx hge hlt hco' _ htab' _ => ?_
    obtain ⟨o1, us, f1', tf, fl, tg', inF, tx, tt, op, _, _, _, _, _, _, _, _, _, htr', _⟩ := hco'
    exact cont _ h' tk _ (fun b o hb e => hx b o hb e) htab'.2 htr'
  | some cv =>
    refine wpAny_genexprCode_hit hcode (cd.code hPs htr) hf2 ?_
    exact cont cv s2.heap s2.toks #[] (fun b o _ e => e) (by rw [Array.append_empty]; exact hPs) (by rw [Array.append_empty]; exact htr)

/-- all( ), any( ) of a generator expression: sb is the truth at which it stops -/
def rTruth (P : Addr) (sb : Bool) (g : TG) (te : TE) (vs : List Nat) (σ : L2.St) (Q : VK) (J : It) (H1 : Hp) : Prop := ∀ H2, Tabbed P H1 H2 → ∃ W : Nat → Nat → Hp → Prop, (∃ m, W 0 m H2) ∧
  ∀ i m H, W i m H → (J.stop i H ∧ Q (.bl (!sb)) H) ∨ (J.go i H ∧ ∃ Nx : Hp → Prop, (∀ H', Nx H' → ∃ m', m' < m ∧ W (i + 1) m' H') ∧
    ∀ x H', J.yld i H x H' → g x (wipe σ vs) H' fun σ2 H2 => wipe σ2 vs = wipe σ vs ∧ te σ2 H2 fun y H4 => ∃ b, y = .bl b ∧ if b = sb then Q (.bl sb) H4 else Nx H4)
def tTruthG (P : Addr) (sb : Bool) (wi : TI) (g : TG) (te : TE) (vs : List Nat) : TE := fun σ H Q => wi σ H fun J H1 => TabG H1 P ∧ rTruth P sb g te vs σ Q J H1
/-- how a run of it is told -/
def Told (X : Cx) (pins : List (Addr × Obj)) (σ : L2.St) (sc : Scope) (sb : Bool) (Q : VK) (a : Addr) (s5 : Shared) : Prop :=
  ∀ R : Result → Shared → Prop, (∀ b s', EP X pins σ Q (.bool b) s' → R (.ok (.ret (.bool b))) s') → ∃ s0 H0 C code fp go gi n, Awake X s0 H0 sc C code fp sb Q a go gi n s5 ∧ (∀ h : Heap, h.get? a = some go → h.IsGen a gi) ∧ Fin' X s0 H0 sc C code fp Q a go R
/-- what the generator expression must have; the two names of it that are the program's -/
structure GxOk (X : Cx) (sc : Scope) (own : List (Str × Nat)) (c P : Addr) : Prop where
  tb : TabB X.base X.mg c P
  code : X.env.code = .ref c
  blk : BlkOk X.N X.env.scope sc own
  nd : X.N.Nodup
  nocell : ∀ y ∈ sc.names, y.2 ≠ .cell
  dot : sc.names.lookup (".0" : Str) = some NameKind.local
  nocor : sc.isCoroutine = false

section
variable {c P : Addr} {elt tg iter : Expr} {gpos p pos : Pos} {sc : Scope} {own : List (Str × Nat)} {wi : TI} {g : TG} {te : TE} {k : Nat}
theorem truth_core {sb : Bool} {Q : VK} (hr : Room k X.A) (G : GxOk X sc own c P) (hi : PI X tg iter wi) (hs : ∀ v, genFold iter X.env v = pure v)
    (hg : ∀ (s : Shared) (H : Hp) (C : Addr) (code : Value) (fp : List Addr), PG (gcx X s H sc C code fp) tg g) (he : ∀ (s : Shared) (H : Hp) (C : Addr) (code : Value) (fp : List Addr), PE (gcx X s H sc C code fp) elt te)
    (I : Inv X pins σ H s) (h : tTruthG P sb wi g te (own.map (·.2)) σ H Q) {Q' : Value → Shared → Prop}
    (hQ : ∀ a s5, s5.heap.NoLimit → (∃ gi, s5.heap.IsGen a gi) →
      Told X pins σ sc sb Q a s5 → Q' (.ref a) s5) :
    wpAny (model X.prog X.w) X.A (eval (.GeneratorExp elt [⟨tg, iter, [], 0⟩] sc gpos) X.env) Q' X.xe s := by
  have h' : wi σ H fun J H1 => TabG H1 P ∧ rTruth P sb g te (own.map (·.2)) σ Q J H1 := h
  refine gen_made (own := own)
    hr G.tb G.code G.blk G.nd G.nocell G.dot G.nocor hi hs I h' fun J H1 H2 it fp tn s0 C code a go gi s5 hR M => ?_
  obtain ⟨W, ⟨m, w0⟩, step⟩ := hR H2 M.tab
  have I5 := M.i5
  have n2 : ∀ b ∈ fp, H2 b = none := fun b hb => (M.fpo b hb).1.1
  have RR : Run X s0 H2 sc C code fp tg elt g te J it tn (own.map (·.2)) (wipe σ (own.map (·.2))) sb W Q := ⟨M.turns, hg _ _ _ _ _, he _ _ _ _ _, G.nocor, step⟩
  refine hQ a s5 I5.nolimit ⟨gi, M.isgen _ (pin_at I5)⟩ fun R hRR => ⟨s0, H2, C, code, fp, go, gi, m + 1, ⟨⟨_, _, I5⟩, _, M.gens, fun s'' e1 e2 e3 => ⟨rfl, seg_begin RR M.apart m s'' s'' (ahead_like ⟨H2, m, I5, M.st, n2, Nat.le_refl _, w0⟩ e1 e2 e3)⟩⟩, M.isgen, ?_⟩
  intro b σ1 H3 s1 I1 q s' ho hgs hk
  refine hRR b s' ⟨.bl b, H3, ?_, rfl, q⟩
  have un := I1.base.trans (Un.kept hk)
  exact M.i0.call' (ch := fp) (ho.trans I1.os) un (I1.hok.kept hk) hgs fun b hb => ⟨(M.fpo b hb).1.2.2.2.1, (M.fpo b hb).1.2.1, (M.fpo b hb).1.2.2.2.2.1, (M.fpo b hb).1.2.2.2.2.2⟩

theorem told_all {Q : VK} {a : Addr} {s5 : Shared} {R : Result → Shared → Prop} (hr : Room k X.A) (h : Told X pins σ sc false Q a s5) (hR : ∀ b s', EP X pins σ Q (.bool b) s' → R (.ok (.ret (.bool b))) s') :
    codeAny (model X.prog X.w) X.A (.builtin "all.loop" ⟨[.ref a], []⟩) R s5 := by
  obtain ⟨s0, H0, C, code, fp, go, gi, n, aw, hgo, fin⟩ := h R hR
  exact all_turns hr.hd (by have := hr.dp; omega) hgo fin n s5 aw
theorem told_any {Q : VK} {a : Addr} {s5 : Shared} {R : Result → Shared → Prop} (hr : Room k X.A) (h : Told X pins σ sc true Q a s5) (hR : ∀ b s', EP X pins σ Q (.bool b) s' → R (.ok (.ret (.bool b))) s') :
    codeAny (model X.prog X.w) X.A (.builtin "any.loop" ⟨[.ref a], []⟩) R s5 := by
  obtain ⟨s0, H0, C, code, fp, go, gi, n, aw, hgo, fin⟩ := h R hR
  exact any_turns hr.hd (by have := hr.dp; omega) hgo fin n s5 aw
theorem pe_allG (hr : Room k X.A) (G : GxOk X sc own c P) (hga : Gl X "all") (hma : X.mg "all" = none) (hb : bootBuiltins "all" = some (.builtin "all")) (hi : PI X tg iter wi)
    (hg : ∀ (s : Shared) (H : Hp) (C : Addr) (code : Value) (fp : List Addr), PG (gcx X s H sc C code fp) tg g) (he : ∀ (s : Shared) (H : Hp) (C : Addr) (code : Value) (fp : List Addr), PE (gcx X s H sc C code fp) elt te)
    (hs : ∀ v, genFold iter X.env v = pure v := by intro _; rfl)
    (hst : starEach [.GeneratorExp elt [⟨tg, iter, [], 0⟩] sc gpos] X.env = (false, eval (.GeneratorExp elt [⟨tg, iter, [], 0⟩] sc gpos) X.env) :: starEach [] X.env := by rfl) :
    PE X (.Call (.Name "all" p) [.GeneratorExp elt [⟨tg, iter, [], 0⟩] sc gpos] [] pos) (tTruthG P false wi g te (own.map (·.2))) := by
  refine ⟨fun pins s σ H Q I h => ?_⟩
  refine wpAny_Call_Name_kw (ld_blt I hga hma hb ?_)
  refine PyProof.Rows.callWith_builtin1 ?_ hst (by rfl)
  rw [hst]
  show wpAny _ _ (spliced ((false, eval (.GeneratorExp elt [⟨tg, iter, [], 0⟩] sc gpos) X.env) :: backTo pos (starEach [] X.env))) _ _ s
  refine Calls.spliced_cons (truth_core hr G hi hs hg he I h fun a s5 hl hgn hall => ?_)
  refine Calls.spliced_nil ?_
  refine call_function_tree F.kind_all F.plain_all F.entry_all (F.args_all1 _) ?_
  unfold Builtin.«all»
  refine wpAny_bind (m := oneArg "all" _) (wpAny_pure ?_)
  obtain ⟨gi, hgn⟩ := hgn
  refine wpAny_bind (wpAny_pyIter_gen hgn ?_)
  exact wpAny_pure ⟨plainId_quiet F.plain_all_loop _, told_all hr hall fun b s' h => h⟩
theorem pe_anyG (hr : Room k X.A) (G : GxOk X sc own c P) (hga : Gl X "any") (hma : X.mg "any" = none) (hb : bootBuiltins "any" = some (.builtin "any")) (hi : PI X tg iter wi)
    (hg : ∀ (s : Shared) (H : Hp) (C : Addr) (code : Value) (fp : List Addr), PG (gcx X s H sc C code fp) tg g) (he : ∀ (s : Shared) (H : Hp) (C : Addr) (code : Value) (fp : List Addr), PE (gcx X s H sc C code fp) elt te)
    (hs : ∀ v, genFold iter X.env v = pure v := by intro _; rfl)
    (hst : starEach [.GeneratorExp elt [⟨tg, iter, [], 0⟩] sc gpos] X.env = (false, eval (.GeneratorExp elt [⟨tg, iter, [], 0⟩] sc gpos) X.env) :: starEach [] X.env := by rfl) :
    PE X (.Call (.Name "any" p) [.GeneratorExp elt [⟨tg, iter, [], 0⟩] sc gpos] [] pos) (tTruthG P true wi g te (own.map (·.2))) := by
  refine ⟨fun pins s σ H Q I h => ?_⟩
  refine wpAny_Call_Name_kw (ld_blt I hga hma hb ?_)
  refine PyProof.Rows.callWith_builtin1 ?_ hst (by rfl)
  rw [hst]
  show wpAny _ _ (spliced ((false, eval (.GeneratorExp elt [⟨tg, iter, [], 0⟩] sc gpos) X.env) :: backTo pos (starEach [] X.env))) _ _ s
  refine Calls.spliced_cons (truth_core hr G hi hs hg he I h fun a s5 hl hgn hall => ?_)
  refine Calls.spliced_nil ?_
  refine call_function_tree F.kind_any F.plain_any F.entry_any (F.args_any1 _) ?_
  unfold Builtin.«any»
  refine wpAny_bind (m := oneArg "any" _) (wpAny_pure ?_)
  obtain ⟨gi, hgn⟩ := hgn
  refine wpAny_bind (wpAny_pyIter_gen hgn ?_)
  exact wpAny_pure ⟨plainId_quiet F.plain_any_loop _, told_any hr hall fun b s' h => h⟩
end
end
end Gx

/-! Defs whose callers run no repr; how they are called; repr and sorted of data; the end of a law. -/
namespace Gx
open PySem PySem.Spec PyProof.Rows L2 GxR GenW

/-- a def's promise where no repr is running around -/
structure FnG (P : Program) (w : World) (K : PySem.W.Frag) (mg : Str → Option Value) (base : Heap) (CX : CXT) (k : Nat) (f : Addr) (fd : FuncData) (ps : List Str) (sp : Sp) : Prop where
  many : ∀ vs H Q E, sp vs H Q E → vs.length = ps.length
  runs : ∀ (A : Around) (outer : List Env) (s : Shared) (H : Hp) (args : Args) (us : List Value) (vs : List V) (Q : VK) (E : XK), A.guards = some [] → Room k A →
    Env0 P w K mg base A outer s H → BindsTo s fd args (ps.zip us) → Vals vs us → sp vs H Q E → codeAny (model P w) A (.call (.ref f) args) (CR CX outer P w H s Q E) s
/-- a def of the text, with its code object's value -/
structure DefIs (K : PySem.W.Frag) (x qual : Str) (st : Stmt) (f : Addr) (fd : FuncData) (cdv : Value) : Prop where
  at_ : ∃ (oc : Value) (od : Option Addr) (kV doc pm : Value) (an : Option Addr) (ct : Value) (osl : Array (Option Value)),
    fd = PySem.W.fnOf x qual (defArgs st) (defBody st) (defScope st) .none kV doc pm an cdv ct ∧ K.lookup f = some ⟨oc, od, .func fd, osl⟩
  code : PySem.W.codeIn K cdv qual = true
  keep : PySem.W.keepIn K (.ref f) = true
theorem defIs_mk {K : PySem.W.Frag} {x qual : Str} {st : Stmt} {f : Addr} {oc : Value} {od an : Option Addr} {osl : Array (Option Value)} {kV doc pm cdv ct : Value}
    (l : K.lookup f = some ⟨oc, od, .func (PySem.W.fnOf x qual (defArgs st) (defBody st) (defScope st) .none kV doc pm an cdv ct), osl⟩) (c : PySem.W.codeIn K cdv qual = true) (kp : PySem.W.keepIn K (.ref f) = true) :
    DefIs K x qual st f (PySem.W.fnOf x qual (defArgs st) (defBody st) (defScope st) .none kV doc pm an cdv ct) cdv := ⟨⟨oc, od, kV, doc, pm, an, ct, osl, rfl, l⟩, c, kp⟩

section
variable {P : Program} {w : World} {K : PySem.W.Frag} {mg : Str → Option Value} {base : Heap} {CX : CXT}
theorem FnG.less {j k : Nat} {f : Addr} {fd : FuncData} {ps : List Str} {sp : Sp} (F : FnG P w K mg base CX j f fd ps sp) (h : j ≤ k) : FnG P w K mg base CX k f fd ps sp :=
  ⟨F.many, fun A outer s H args us vs Q E g r => F.runs A outer s H args us vs Q E g (r.mono h)⟩
/-- by its body -/
theorem DefIs.ok {x qual : Str} {st : Stmt} {f : Addr} {fd : FuncData} {cdv : Value} {N ps : List Str} {k : Nat} {sp : Sp} (D : DefIs K x qual st f fd cdv) (S : FnScope N ps (defScope st)) (len : ∀ vs H Q E, sp vs H Q E → vs.length = ps.length)
    (body : ∀ (A : Around) (outer : List Env) (s : Shared) (H : Hp) (vs : List V) (Q : VK) (E : XK), A.guards = some [] → Room k (A.deeper (envOfC qual (defScope st) s.heap.objs.size f cdv)) → sp vs H Q E →
      ∃ t, PSs (cxOf CX P w K mg base N qual (defScope st) f cdv A outer s H E) (defBody st) t ∧ t { nx := fun _ H' => Q .non H', rt := Q } (start N vs) H) : FnG P w K mg base CX (k + 1) f fd ps sp := by
  obtain ⟨oc, od, kV, doc, pm, an, ct, osl, rfl, lk⟩ := D.at_
  refine ⟨len, fun A outer s H args us vs Q E g hr e0 hb r hsp => ?_⟩
  have KX : K.In s.heap := e0.mod.kin.keeps fun b o e => (e0.bs b o e).1
  have inits : ∀ y ∈ ps.zip us, (defScope st).names.lookup y.1 = some .local ∨ ((defScope st).names.lookup y.1 = some .cell ∧ ((cellsFrom (s.heap.objs.size + 1) (defScope st).names []).lookup y.1).isSome = true) := by
    rintro ⟨n, v⟩ hy
    exact (S.par n (List.of_mem_zip hy).1).elim .inl fun q => .inr ⟨q, PySem.W.cellsFrom_some _ _ _ (.inl q)⟩
  refine codeAny_call_function hr.depth (KX _ _ lk) rfl S.co S.gen rfl (PySem.W.codeRec_of KX D.code) (hb _ _ _ _ (wpAny_newFunctionEnv_cells S.kind inits fun env he s1 x => ?_))
  subst he
  refine ⟨(e0.mod.nolimit.keeps fun b o e => (e0.bs b o e).1).keeps x.toInCall.keep, codeAny_func ?_⟩
  obtain ⟨t, ht, hq⟩ := body A outer s H vs Q E g (hr.deeper _) hsp
  refine wpAny_mono (ht.run [] s1 (start N vs) H _ (inv_start S hr.hd e0 (len _ _ _ _ hsp) r x) hq) (fun fl s' hs => ?_) fun e s' hs => hs
  cases fl with
  | ret u =>
    obtain ⟨v, σ', H', J, rv, q⟩ := hs
    exact ⟨v, H', J.os, J.bare, J.base, J.hok, rv, q⟩
  | next =>
    obtain ⟨σ', H', J, q⟩ := hs
    exact ⟨V.non, H', J.os, J.bare, J.base, J.hok, rfl, q⟩
  | brk => exact hs.elim fun _ z => z.elim fun _ y => False.elim y.2
  | cont => exact hs.elim fun _ z => z.elim fun _ y => False.elim y.2
/-- .. that nothing raised leaves -/
theorem DefIs.ok0 {x qual : Str} {st : Stmt} {f : Addr} {fd : FuncData} {cdv : Value} {N ps : List Str} {k : Nat} {sp : Sp} (D : DefIs K x qual st f fd cdv) (S : FnScope N ps (defScope st)) (len : ∀ vs H Q E, sp vs H Q E → vs.length = ps.length)
    (body : ∀ (A : Around) (outer : List Env) (s : Shared) (H : Hp) (vs : List V) (Q : VK) (E : XK), A.guards = some [] → Room k (A.deeper (envOfC qual (defScope st) s.heap.objs.size f cdv)) → sp vs H Q E →
      ∃ t, PSs (cxOf CX P w K mg base N qual (defScope st) f cdv A outer s H E).nox (defBody st) t ∧ t { nx := fun _ H' => Q .non H', rt := Q } (start N vs) H) : FnG P w K mg base CX (k + 1) f fd ps sp :=
  D.ok S len fun A outer s H vs Q E g hr hsp => let ⟨t, ht, q⟩ := body A outer s H vs Q E g hr hsp; ⟨t, ht.nox, q⟩
theorem DefIs.binds {x qual : Str} {st : Stmt} {f : Addr} {fd : FuncData} {cdv : Value} {ps : List Str} (D : DefIs K x qual st f fd cdv)
    (h : ∀ (kV doc pm : Value) (an : Option Addr) (ct : Value) (us : List Value), us.length = ps.length → bindArgs (PySem.W.fnOf x qual (defArgs st) (defBody st) (defScope st) .none kV doc pm an cdv ct) ⟨us, []⟩ = pure (ps.zip us)) : Binds K fd ps [] := by
  obtain ⟨oc, od, kV, doc, pm, an, ct, osl, rfl, lk⟩ := D.at_
  exact .all (h kV doc pm an ct)
end

/-- a def that can be called by its name: its promise, its place, how it binds -/
structure Callee (P : Program) (w : World) (K : PySem.W.Frag) (mg : Str → Option Value) (base : Heap) (CX : CXT) (k : Nat) (x : Str) (ps : List Str) (sp : Sp) : Prop where
  is : ∃ f fd, FnG P w K mg base CX k f fd ps sp ∧ mg x = some (.ref f) ∧ PySem.W.keepIn K (.ref f) = true ∧ Binds K fd ps []

section
variable {X : Cx} {CX : CXT} {k : Nat} {x : Str} {ps : List Str} {sp : Sp} {E : XK} {p pos : Pos} {e : Expr} {es : List Expr} {t : TA}
theorem run_g {pins : List (Addr × Obj)} {σ : L2.St} {H : Hp} {s : Shared} {Q : VK} {us : List Value} {vs : List V} {f : Addr} {fd : FuncData} (F : FnG X.prog X.w X.K X.mg X.base CX k f fd ps sp) (g : X.A.guards = some []) (hr : Room k X.A) (hb : Binds X.K fd ps []) (hx : Passes CX X E)
    (I : Inv X pins σ H s) (r : Vals vs us) (h : sp vs H Q E) : wpAny (model X.prog X.w) X.A (call (.ref f) us) (EP X pins σ Q) X.xe s := by
  have hl : (us ++ ([] : List Value)).length = ps.length := by rw [List.append_nil, ← r.length]; exact F.many _ _ _ _ h
  have hB := hb s us I.kIn hl
  rw [List.append_nil] at hB
  refine wpAny_call (codeAny_mono (F.runs X.A X.stack s H ⟨us, []⟩ us vs Q E g hr I.env0 hB r h) fun q s' hq => ?_)
  match q, hq with
  | .error e, hq => exact hx pins σ H s e s' I hq
  | .ok (.ret u), hq => exact I.after hq
/-- f(e, ..) -/
theorem pe_g (C : Callee X.prog X.w X.K X.mg X.base CX k x ps sp) (g : X.A.guards = some []) (hr : Room k X.A) (hx : Passes CX X E) (ha : PA X (e :: es) t) (hg : Gl X x := by rfl)
    (hdb : (x == ("__debug__" : Str)) = false := by decide) (he : starEach (e :: es) X.env = (false, eval e X.env) :: starEach es X.env := by rfl) (hpl : (backTo pos (starEach es X.env)).any (·.1) = false := by rfl) :
    PE X (.Call (.Name x p) (e :: es) [] pos) (tCall sp [] E t) := by
  obtain ⟨f, fd, F, hm, hk, hb⟩ := C.is
  refine ⟨fun pins s σ H Q I h => wpAny_Call_Name_kw (ld_glob I hg hm (PySem.W.callWith_K (h₀ := X.base) I.ok.mod.kin hk (thn (ha.run pos pins s σ H _ I h) fun us s1 h1 => ?_) he hpl) hdb)⟩
  obtain ⟨vs, H1, I1, r, q⟩ := h1
  rw [List.append_nil] at q
  exact ⟨I1.kIn, run_g F g hr hb hx I1 r q⟩
theorem pe_g0 (C : Callee X.prog X.w X.K X.mg X.base CX k x ps sp) (g : X.A.guards = some []) (hr : Room k X.A) (hx : Passes CX X E) (hg : Gl X x := by rfl) (hdb : (x == ("__debug__" : Str)) = false := by decide) :
    PE X (.Call (.Name x p) [] [] pos) (tCall sp [] E tNil) := by
  obtain ⟨f, fd, F, hm, hk, hb⟩ := C.is
  exact ⟨fun pins s σ H Q I h => wpAny_Call_Name_kw (ld_glob I hg hm (PySem.W.callWith_K0 I.kIn hk (run_g (us := []) F g hr hb hx I .nil h)) hdb)⟩
/-- a statement, a block that is never come to -/
theorem ps_dead {st : Stmt} : PS X st (fun _ _ _ => False) := ⟨fun _ _ _ _ _ _ h => h.elim⟩
theorem pss_dead {st : List Stmt} : PSs X st (fun _ _ _ => False) := ⟨fun _ _ _ _ _ _ h => h.elim⟩
theorem pe_dead {e : Expr} : PE X e (fun _ _ _ => False) := ⟨fun _ _ _ _ _ _ h => h.elim⟩
end
end Gx

namespace Gx
open PySem PySem.Spec PyProof.Rows L2 GxR GenW

/-! ### repr and sorted of data -/
section
variable {X : Cx}
def rRepr (K : PySem.W.Frag) : List V → Hp → VK → Prop := fun xs H Q => ∃ x d, xs = [x] ∧ Dp K H x d ∧ d.showable = true ∧ d.hasDict = false ∧ d.depth ≤ 60 ∧ d.shown.length ≤ sizeLine ∧ Q (.str d.shown) H
theorem cr_repr (g : X.A.guards = some []) (hu : X.A.units + 64 < cLine) : CallR X (.builtin "repr") (rRepr X.K) := by
  intro pins s σ H xs us Q I r h
  obtain ⟨x, d, rfl, hD, hs, hd, hp, hz, q⟩ := h
  obtain ⟨u, rfl, rx⟩ : ∃ u, us = [u] ∧ RelV x u := by
    cases r with
    | cons r1 r2 => cases r2; exact ⟨_, rfl, r1⟩
  obtain ⟨as, rd⟩ := Dp.reads I d x u hD rx
  have refs : ∀ a, x = .ref a → wpAny (model X.prog X.w) X.A (call (.builtin "repr") [u]) (EP X pins σ Q) X.xe s := fun a e => by
    subst e
    have e2 : u = .ref a := rx
    subst e2
    exact repr_of_reads' rd hs (PyData.noDict_hsm hd) g (by omega) (fun _ _ e => e) (fun h' v tk hk => ⟨.str _, H, I.kept hk, ⟨_, rfl⟩, q⟩) hz
  cases hD with
  | non =>
    have e2 : u = .none := rx
    subst e2
    exact PySem.P.repr_of_none ⟨.str _, H, I.tok _, ⟨_, rfl⟩, q⟩
  | bl b =>
    have e2 : u = .bool b := rx
    subst e2
    refine PySem.P.repr_of_bool ⟨.str _, H, I.tok _, ⟨_, rfl⟩, ?_⟩
    cases b <;> exact q
  | int i =>
    obtain ⟨t, rfl⟩ := rx
    exact PySem.P.repr_of_int (of_decide_eq_true hs) ⟨.str _, H, I.tok _, ⟨_, rfl⟩, q⟩
  | str z =>
    obtain ⟨t, rfl⟩ := rx
    exact PySem.P.repr_of_str ⟨.str _, H, I.tok _, ⟨_, rfl⟩, q⟩ hz
  | lst h1 h2 => exact refs _ rfl
  | tup h1 h2 => exact refs _ rfl

/-- sorted of a list of data, all of one shape -/
def rSortG (K : PySem.W.Frag) {β : Type} (val : β → V) (enc : β → PyData) : List V → Hp → VK → Prop := fun vs H Q => ∃ (a : Addr) (bs : List β), vs = [V.ref a] ∧ SqL K H a (bs.map val) ∧
  (∀ b ∈ bs, Dp K H (val b) (enc b) ∧ (enc b).depth ≤ 60) ∧ PySem.W.AllAlike (bs.map enc) ∧ PySem.W.Sortable (bs.map enc) ∧ bs.length ≤ sizeLine ∧
  ∀ p, H p = none → Q (.ref p) (upd H p (.lst ((bs.mergeSort (PySem.W.dataLe false enc)).map val)))
theorem each_vals {β : Type} {val : β → V} : ∀ {bs : List β} {us : List Value}, Vals (bs.map val) us → PySem.W.EachIs (fun u b => RelV (val b) u) us bs
  | [], _, .nil => .nil
  | _ :: _, _, .cons r t => .cons r (each_vals t)
theorem vals_each {β : Type} {val : β → V} : ∀ {bs : List β} {us : List Value}, PySem.W.EachIs (fun u b => RelV (val b) u) us bs → Vals (bs.map val) us
  | _, _, .nil => .nil
  | _, _, .cons r t => .cons r (vals_each t)
theorem each_mem {α β : Type} {R S : α → β → Prop} : ∀ {as : List α} {bs : List β}, PySem.W.EachIs R as bs → (∀ a b, b ∈ bs → R a b → S a b) → PySem.W.EachIs S as bs
  | _, _, .nil, _ => .nil
  | _, _, .cons r t, f => .cons (f _ _ List.mem_cons_self r) (each_mem t fun a b hb => f a b (List.mem_cons_of_mem _ hb))
theorem cr_sortG {β : Type} {val : β → V} {enc : β → PyData} (hu : X.A.units + 64 < cLine) : CallR X (.builtin "sorted") (rSortG X.K val enc) := by
  intro pins s σ H xs us Q I r h
  obtain ⟨a, bs, rfl, hL, hD, hal, hk, hz, q⟩ := h
  obtain ⟨u, rfl, rx⟩ : ∃ u, us = [u] ∧ RelV (.ref a) u := by
    cases r with
    | cons r1 r2 => cases r2; exact ⟨_, rfl, r1⟩
  have e2 : u = .ref a := rx
  subst e2
  obtain ⟨its, rv, pl, hz'⟩ := I.list hL
  have ev := each_vals rv
  have er : PySem.W.EachIs (fun v b => ∃ as, Reads s.heap v (enc b) as) its bs := each_mem ev fun v b hb rb => Dp.reads I (enc b) (val b) v (hD b hb).1 rb
  refine PySem.W.sorted_data pl.isList ev er hal hk hz (fun b hb => by have := (hD b hb).2; omega) fun out ho eo => ?_
  obtain ⟨n, hat⟩ := sortedAll_at s.heap its out.toArray
  have rout : Vals ((bs.mergeSort (PySem.W.dataLe false enc)).map val) out := vals_each eo
  have hlen : ((bs.mergeSort (PySem.W.dataLe false enc)).map val).length ≤ sizeLine := by rw [rout.length, ho]; exact hz
  have hf : H (s.heap.objs.size + 1) = none := I.hok.fresh (Nat.le_succ _)
  exact ⟨.ref (s.heap.objs.size + 1), upd H (s.heap.objs.size + 1) (.lst _), I.laid (t' := s.toks) (fun b o e => sortedAll_old e) (Nat.le_succ _) ⟨hlen, out, n, rout, hat⟩, rfl, q _ hf⟩
end

/-! ### the end of a law -/
section
variable {P : Program} {w : World} {K : PySem.W.Frag} {mg mb : Str → Option Value} {k : Nat} {fa a : Addr} {cs : List (Addr × Addr)} {fd : FuncData} {x : Str} {sp : Sp} {s₁ : Shared} {vs : List Value} {ns : List Int}
abbrev scriptObj (vs : List Value) : Obj := { cls := .type "list", data := .seq vs.toArray }
abbrev tabObj : Obj := { cls := .none, data := .fields #[] }
/-- the law's call from a heap in which the script and the tables alone are told -/
theorem law_from (H : Hp) (hT : ∀ p ∈ cs, H p.2 = some (.tbl #[])) (hall : ∀ b u, H b = some u → (b ∈ cs.map Prod.snd ∧ u = .tbl #[]) ∨ (b = a ∧ K.lookup a = none ∧ u = .frz (scriptObj vs) (.lst (ns.map V.int))))
    (KX : K.In s₁.heap) (hns : s₁.heap.Ns mainGlobals mg) (hb : s₁.heap.Ns builtinsNs mb) (hbb : ∀ x : Str, x ≠ "__name__" → mb x = bootBuiltins x) (hlim : s₁.heap.NoLimit) (hg : s₁.gens = #[])
    (tabs : ∀ p ∈ cs, s₁.heap.get? p.2 = some tabObj ∧ K.lookup p.2 = none ∧ PySem.W.CodeHd s₁.heap p.1 p.2)
    (hbm : ∃ (bm : Addr) (ob : Obj), mg "__builtins__" = some (.ref bm) ∧ bm ≠ builtinsNs ∧ s₁.heap.get? bm = some ob ∧ ob.cls = .type "module" ∧ ob.dict = some builtinsNs ∧ ob.data = .plain)
    (ha : s₁.heap.get? a = some (scriptObj vs)) (rv : Vals (ns.map V.int) vs) (hl : ns.length ≤ sizeLine) (hS : SqL K H a (ns.map V.int)) (hr : Room k callerA)
    (F : ∀ base : Heap, K.In base → base.Ns mainGlobals mg → (∀ p ∈ cs, TabB base mg p.1 p.2) → FnG P w K mg base CX0 k fa fd [x] sp) (hbind : ∀ (s : Shared) (u : Value), BindsTo s fd ⟨[u], []⟩ [(x, u)])
    (hsp : sp [.ref a] H (fun v _ => v = .bl true) E0) :
    codeAny (model P w) callerA (.call (.ref fa) ⟨[.ref a], []⟩) (fun r s' => r = .ok (.ret (.bool true)) ∧ OldK s₁.heap s'.heap ∧ s'.os = s₁.os ∧ AllBare s'.gens) s₁ := by
  have isT : ∀ b ∈ cs.map Prod.snd, s₁.heap.get? b = some tabObj := fun b h => by
    obtain ⟨p, hp, rfl⟩ := List.mem_map.mp h
    exact (tabs p hp).1
  -- what is of another kind is not told of
  have un : ∀ {b : Addr} {o : Obj}, s₁.heap.get? b = some o → o.data ≠ (scriptObj vs).data → o.data ≠ tabObj.data → H b = none := fun {b o} e n1 n2 => by
    cases q : H b with
    | none => rfl
    | some u =>
      rcases hall b u q with ⟨hm, _⟩ | ⟨rfl, _, _⟩
      · rw [isT b hm] at e
        exact (n2 (by rw [← Option.some.inj e])).elim
      · rw [ha] at e
        exact (n1 (by rw [← Option.some.inj e])).elim
  have unD : ∀ {b : Addr} {o : Obj} {es : Array DictEntry} {ep : Nat}, s₁.heap.get? b = some o → o.data = .dict es ep → H b = none := fun e d => un e (fun z => by rw [d] at z; cases z) fun z => by rw [d] at z; cases z
  have nsK : ∀ {b : Addr} {m : Str → Option Value}, s₁.heap.Ns b m → (hidT s₁.heap H).Ns b m := fun ⟨o, es, ep, e, d, r⟩ => ⟨o, es, ep, hidT_get e (unD e d), d, r⟩
  have hKb : K.In (hidT s₁.heap H) := fun b o e => hidT_get (KX b o e) (by
    cases q : H b with
    | none => rfl
    | some u =>
      rcases hall b u q with ⟨hm, _⟩ | ⟨rfl, hk, _⟩
      · obtain ⟨p, hp, rfl⟩ := List.mem_map.mp hm
        rw [(tabs p hp).2.1] at e
        cases e
      · rw [hk] at e
        cases e)
  have hok : HOk P w H s₁.heap := fun b u q => by
    rcases hall b u q with ⟨hm, rfl⟩ | ⟨rfl, _, rfl⟩
    · exact isT b hm
    · exact ⟨ha, by rw [List.length_map]; exact hl, vs, _, rv, ha⟩
  have TB : ∀ p ∈ cs, TabB (hidT s₁.heap H) mg p.1 p.2 := fun p hp => by
    obtain ⟨t1, t2, o, us, file, tf, flags, tg, inF, text, tt, e1, r1, r2, r3, rr⟩ := tabs p hp
    have nMain : mainGlobals ≠ p.2 := fun z => by
      obtain ⟨o, es, ep, e, d, _⟩ := hns
      rw [z, t1] at e
      cases e
      cases d
    refine ⟨⟨o, us, file, tf, flags, tg, inF, text, tt, hidT_get e1 (un e1 (fun z => ?_) fun z => ?_), r1, r2, r3, rr⟩, ?_, nMain⟩
    · rw [r2] at z
      cases z
    · rw [r2] at z
      cases z
      simp at r3
    · obtain ⟨bm, ob, b1, b2, b3, b4, b5, b6⟩ := hbm
      refine ⟨bm, ob, b1, b2, fun z => ?_, fun z => ?_, hidT_get b3 (un b3 (fun z => ?_) fun z => ?_), b4, b5, b6⟩
      · obtain ⟨o, es, ep, e, d, _⟩ := hns
        rw [z, e] at b3
        cases b3
        rw [d] at b6
        cases b6
      · rw [z, t1] at b3
        cases b3
        cases b6
      · rw [b6] at z
        cases z
      · rw [b6] at z
        cases z
  have lim2 : (hidT s₁.heap H).NoLimit := hlim.elim fun mc h => ⟨mc, nsK h.1, h.2⟩
  have e0 : Env0 P w K mg (hidT s₁.heap H) callerA [] s₁ H :=
    { frames := rfl, mod := ⟨hKb, nsK hns, ⟨mb, nsK hb, hbb⟩, lim2⟩, bs := fun b o e => of_hidT e, bsz := Nat.le_of_eq (hidT_size _ _), funs := trivial, frf := fun b hb => absurd (show b ∈ ([] : List Addr) from hb) (by simp), hok := hok, bare := .of_eq hg }
  refine codeAny_mono ((F _ hKb (nsK hns) TB).runs callerA [] s₁ H ⟨[.ref a], []⟩ [.ref a] [.ref a] _ _ rfl hr e0 (hbind s₁ (.ref a)) (.cons rfl .nil) hsp) fun r s' h => ?_
  match r, h with
  | .ok (.ret u), h =>
    obtain ⟨v, H', os, bare, U, hok', ru, ev⟩ := h
    subst ev
    have eu : u = .bool true := ru
    subst eu
    have kept : ∀ b o, b ∉ cs.map Prod.snd → s₁.heap.get? b = some o → s'.heap.get? b = some o := fun b o nb e => by
      cases q : H b with
      | none => exact U.keep b o e q (fun z => absurd (show b ∈ ([] : List Addr) from z) (by simp)) (by simp)
      | some u =>
        rcases hall b u q with ⟨hm, _⟩ | ⟨rfl, _, rfl⟩
        · exact (nb hm).elim
        · obtain ⟨e1, _⟩ := hok b _ q
          obtain ⟨e2, _⟩ := hok' b _ (U.frzs b _ _ q)
          rw [e] at e1
          rw [e1]
          exact e2
    have grown : ∀ p ∈ cs, ∃ more : Array Value, s'.heap.get? p.2 = some { cls := .none, data := .fields more } := fun p hp => by
      obtain ⟨more, z⟩ := U.tbls p.2 #[] (hT p hp)
      exact ⟨_, hok' p.2 _ z⟩
    refine ⟨rfl, ⟨fun b o e => ?_, fun b o e => ?_⟩, os, bare⟩
    · by_cases hm : b ∈ cs.map Prod.snd
      · obtain ⟨p, hp, rfl⟩ := List.mem_map.mp hm
        obtain ⟨more, hmore⟩ := grown p hp
        rw [(tabs p hp).1] at e
        cases e
        exact .inr (.inl ⟨((tabs p hp).2.2.tab (tabs p hp).1).isCodeTable, rfl, #[], more, rfl, by rw [Array.empty_append]; exact hmore⟩)
      · exact .inl (kept b o hm e)
    · by_cases hm : b ∈ cs.map Prod.snd
      · obtain ⟨p, hp, rfl⟩ := List.mem_map.mp hm
        exact (grown p hp).elim fun more h => ⟨_, h⟩
      · exact ⟨o, kept b o hm e⟩
/-- what is known of the law's promise at the heap h behind the top -/
def LawG (l : PySem.W.OpenLaw) (w : World) (K : PySem.W.Frag) (k n : Nat) (x : Str) (mg : Str → Option Value) (fa : Addr) (h : Heap) : Prop :=
  ∃ (fd : FuncData) (cs : List (Addr × Addr)) (sp : Sp), (∀ p ∈ cs, h.get? p.2 = some tabObj ∧ K.lookup p.2 = none ∧ PySem.W.CodeHd h p.1 p.2) ∧ (∀ (s : Shared) (u : Value), BindsTo s fd ⟨[u], []⟩ [(x, u)]) ∧
    (∀ (H : Hp) (a : Addr) (ns : List Int), ns.length ≤ n → (∀ z ∈ ns, Builtin.Int.intBits z ≤ 1048576) → (∀ p ∈ cs, H p.2 = some (.tbl #[])) → SqL K H a (ns.map V.int) → sp [.ref a] H (fun v _ => v = .bl true) E0) ∧
    ∀ base : Heap, K.In base → base.Ns mainGlobals mg → (∀ p ∈ cs, TabB base mg p.1 p.2) → FnG l.prog w K mg base CX0 k fa fd [x] sp
theorem walk_G {l : PySem.W.OpenLaw} {n k : Nat} {q : Program} {loose : List Str} {XP : (Str → Option Value) → Heap → Prop} {YP : World → Heap → Prop} {d : DefRec} {K : Params → PySem.W.Frag} {x : Str}
    (hn : l.most = some n) (hn2 : n ≤ sizeLine) (hdf : d.params.defaults = []) (hr : Room k callerA) (hY : ∀ (w : World) (h : Heap), YP w h → (K w.params).In h)
    (F : ∀ (w : World) (mg : Str → Option Value) (fa : Addr) (h : Heap), YP w h → (K w.params).In h → h.Ns mainGlobals mg → mg d.name = some (.ref fa) → LawG l w (K w.params) k n x mg fa h) :
    PySem.W.WalkO q loose XP YP l.row.toRowW d [] (fun f vs => PySem.call f vs) := by
  refine Att.attach_callB hn hdf fun w s₀ s₁ mg mb fa o pm cd doc a vs ns G Y ho hd hcd hmg hobj hints hlen hbits hg => ?_
  have KX := hY w _ Y
  obtain ⟨fd, cs, sp, hT, hb, hsp, hF⟩ := F w mg fa _ Y KX G.T.g hmg
  have aT : a ∉ cs.map Prod.snd := fun z => by
    obtain ⟨p, hp, e⟩ := List.mem_map.mp z
    have q := (hT p hp).1
    rw [e, hobj] at q
    have z' : Data.seq vs.toArray _ = Data.fields #[] := congrArg Obj.data (Option.some.inj q)
    cases z'
  have rv := vals_ints hints
  cases hk : (K w.params).lookup a with
  | some o2 =>
    have e := KX a o2 hk
    rw [hobj] at e
    cases e
    have sl : SqL (K w.params) (fun b => if b ∈ cs.map Prod.snd then some (.tbl #[]) else none) a (ns.map V.int) :=
      .inr ⟨_, vs.toArray, _, hk, rfl, rfl, rfl, by rw [List.size_toArray, hints.length]; exact Nat.le_trans hlen hn2, by simpa using rv⟩
    have hT' : ∀ p ∈ cs, (fun b => if b ∈ cs.map Prod.snd then some (HO.tbl #[]) else none) p.2 = some (.tbl #[]) := fun p hp => if_pos (List.mem_map.mpr ⟨p, hp, rfl⟩)
    refine law_from _ hT' (fun b u z => ?_) KX G.T.g G.T.b G.T.builtins G.T.nolimit hg hT G.T.bmain hobj rv (Nat.le_trans hlen hn2) sl hr hF hb (hsp _ a ns hlen hbits hT' sl)
    by_cases hm : b ∈ cs.map Prod.snd
    · exact .inl ⟨hm, Option.some.inj (z.symm.trans (if_pos hm))⟩
    · have z' := z.symm.trans (if_neg hm)
      cases z'
  | none =>
    have sl : SqL (K w.params) (fun b => if b = a then some (.frz (scriptObj vs) (.lst (ns.map V.int))) else if b ∈ cs.map Prod.snd then some (.tbl #[]) else none) a (ns.map V.int) := .inl (.inr ⟨scriptObj vs, if_pos rfl⟩)
    have hT' : ∀ p ∈ cs, (fun b => if b = a then some (HO.frz (scriptObj vs) (.lst (ns.map V.int))) else if b ∈ cs.map Prod.snd then some (.tbl #[]) else none) p.2 = some (.tbl #[]) := fun p hp =>
      (if_neg (show ¬ p.2 = a from fun z => aT (by rw [← z]; exact List.mem_map.mpr ⟨p, hp, rfl⟩))).trans (if_pos (List.mem_map.mpr ⟨p, hp, rfl⟩))
    refine law_from _ hT' (fun b u z => ?_) KX G.T.g G.T.b G.T.builtins G.T.nolimit hg hT G.T.bmain hobj rv (Nat.le_trans hlen hn2) sl hr hF hb (hsp _ a ns hlen hbits hT' sl)
    by_cases hm : b = a
    · exact .inr ⟨hm, hk, Option.some.inj (z.symm.trans (if_pos hm))⟩
    · have z1 := z.symm.trans (if_neg hm)
      by_cases hm2 : b ∈ cs.map Prod.snd
      · exact .inl ⟨hm2, Option.some.inj (z1.trans (if_pos hm2))⟩
      · have z' := z1.trans (if_neg hm2)
        cases z'
end
end Gx

/-! set( ) of a list of keys of any kind, fewer than 4,000; len(set( )) of a list of texts -/
namespace Gx
open PySem PySem.Spec PyProof.Rows L2 GxR GenW
/-- the unlike ones, in their order -/
def uq {κ : Type} [DecidableEq κ] : List κ → List κ → List κ
  | acc, [] => acc
  | acc, x :: r => uq (if x ∈ acc then acc else acc ++ [x]) r
theorem uq_append {κ : Type} [DecidableEq κ] : ∀ (l acc : List κ) (x : κ), uq acc (l ++ [x]) = if x ∈ uq acc l then uq acc l else uq acc l ++ [x]
  | [], acc, x => rfl
  | y :: r, acc, x => uq_append r _ x
theorem uq_len {κ : Type} [DecidableEq κ] : ∀ (l acc : List κ), (uq acc l).length ≤ acc.length + l.length
  | [], acc => Nat.le_refl _
  | x :: r, acc => by
    have h := uq_len r (if x ∈ acc then acc else acc ++ [x])
    have e : (if x ∈ acc then acc else acc ++ [x]).length ≤ acc.length + 1 := by split <;> simp
    show (uq _ r).length ≤ acc.length + (r.length + 1)
    omega
theorem uq_mem {κ : Type} [DecidableEq κ] : ∀ (l acc : List κ) (k : κ), k ∈ uq acc l ↔ k ∈ acc ∨ k ∈ l
  | [], acc, k => by simp [uq]
  | x :: r, acc, k => by
    show k ∈ uq (if x ∈ acc then acc else acc ++ [x]) r ↔ _
    rw [uq_mem r]
    by_cases h : x ∈ acc
    · rw [if_pos h]
      constructor
      · rintro (h1 | h1)
        · exact .inl h1
        · exact .inr (List.mem_cons_of_mem _ h1)
      · rintro (h1 | h1)
        · exact .inl h1
        · rcases List.mem_cons.mp h1 with e | h2
          · exact .inl (e ▸ h)
          · exact .inr h2
    · rw [if_neg h]
      simp only [List.mem_append, List.mem_cons, List.not_mem_nil, or_false]
      constructor
      · rintro ((h1 | h1) | h1)
        · exact .inl h1
        · exact .inr (.inl h1)
        · exact .inr (.inr h1)
      · rintro (h1 | h1 | h1)
        · exact .inl (.inl h1)
        · exact .inl (.inr h1)
        · exact .inr h1
theorem uq_nodup {κ : Type} [DecidableEq κ] : ∀ (l acc : List κ), (acc ++ l).Nodup → uq acc l = acc ++ l
  | [], acc, _ => by simp [uq]
  | x :: r, acc, h => by
    have hx : x ∉ acc := fun hm => by
      rw [List.nodup_append] at h
      exact h.2.2 x hm x List.mem_cons_self rfl
    show uq (if x ∈ acc then acc else acc ++ [x]) r = _
    rw [if_neg hx]
    have e : acc ++ x :: r = (acc ++ [x]) ++ r := by simp
    rw [e] at h ⊢
    exact uq_nodup r _ h
theorem uq_short {κ : Type} [DecidableEq κ] : ∀ (l acc : List κ), acc.Nodup → ¬ (acc ++ l).Nodup → (uq acc l).length < acc.length + l.length
  | [], acc, h, h2 => absurd (by simpa using h) h2
  | x :: r, acc, h, h2 => by
    show (uq (if x ∈ acc then acc else acc ++ [x]) r).length < acc.length + (r.length + 1)
    by_cases hx : x ∈ acc
    · rw [if_pos hx]
      have := uq_len r acc
      omega
    · rw [if_neg hx]
      have hn : (acc ++ [x]).Nodup := by
        rw [List.nodup_append]
        refine ⟨h, by simp, fun a ha b hb => ?_⟩
        have e : b = x := by simpa using hb
        rw [e]
        exact fun z => hx (z ▸ ha)
      have e : acc ++ x :: r = (acc ++ [x]) ++ r := by simp
      rw [e] at h2
      have := uq_short r (acc ++ [x]) hn h2
      rw [List.length_append, List.length_singleton] at this
      omega

section
variable {prog : Program} {w : World} {A : Around} {κ : Type} [DecidableEq κ] {knd : PySem.KeyKind prog w κ}
/-- the loop that fills it -/
theorem fill_set {R : Result → Shared → Prop} {it : Addr} {fp wr : List Addr} {G : Array GenState → Array GenState → Prop} {n : Nat} {P : Nat → Value → Prop} {St : Nat → Shared → Prop} (W : WalksS prog w A.in1 it fp wr G n P St) {Z : Addr} (zf : Z ∉ fp)
    (ks : List κ) (hn : ks.length = n) (hv : ∀ (i : Nat) (v : Value), P i v → v.scannable = true ∧ ∃ k, ks[i]? = some k ∧ knd.is k v = true) (hb : n + 1 < scanBound) :
    ∀ (m i : Nat) (s : Shared), n = i + m → St i s → s.heap.SetOf knd Z (fun k => decide (k ∈ ks.take i)) (uq [] (ks.take i)).length →
      (∀ s', Moved (Z :: wr) G s s' → s'.heap.SetOf knd Z (fun k => decide (k ∈ ks)) (uq [] ks).length → R (.ok (.ret .none)) s') →
      codeAny (model prog w) A (.builtin "set.update.loop" ⟨[.ref Z, .ref it], []⟩) R s := by
  have zw : Z ∉ wr := fun z => zf (W.sub _ z)
  have more : ∀ b ∈ wr, b ∈ Z :: wr := fun b hb => List.mem_cons_of_mem _ hb
  have stays : ∀ {s s' : Shared} {T : κ → Bool} {c : Nat}, Moved wr G s s' → s.heap.SetOf knd Z T c → s'.heap.SetOf knd Z T c := fun mv ⟨o, es, ep, tb, ho, r⟩ => ⟨o, es, ep, tb, mv.heap Z _ zw ho, r⟩
  intro m
  induction m with
  | zero =>
    intro i s hi hst hS hR
    have e1 : i = n := by omega
    subst e1
    have e2 : ks.take ks.length = ks := List.take_length
    refine codeAny_builtin PyProof.Rows.F.entry_set_update_loop ?_
    rw [Around.under_plainId PyProof.Rows.F.plain_set_update_loop _]
    show wpAny (model prog w) A.in1 (pyNext (.ref it) >>= _) _ _ s
    refine wpAny_bind (W.done s _ _ hst fun s' mv => ?_)
    show wpAny (model prog w) A.in1 (ret Value.none) _ _ s'
    refine wpAny_pure (hR s' (mv.mono more) ?_)
    have q := stays mv hS
    rw [← hn, e2] at q
    exact q
  | succ m ih =>
    intro i s hi hst hS hR
    have il : i < n := by omega
    refine codeAny_builtin PyProof.Rows.F.entry_set_update_loop ?_
    rw [Around.under_plainId PyProof.Rows.F.plain_set_update_loop _]
    show wpAny (model prog w) A.in1 (pyNext (.ref it) >>= _) _ _ s
    refine wpAny_bind (W.item i s _ _ il hst fun v s' hP hst' mv => ?_)
    obtain ⟨hsc, k, hk, his⟩ := hv i v hP
    have hS' := stays mv hS
    show wpAny (model prog w) A.in1 (holding [v] (setAdd Z v) >>= _) _ _ s'
    refine wpAny_bind (wpAny_holding ?_)
    unfold setAdd
    refine wpAny_holding (wpAny_bind (knd.pyHash his ?_))
    have room : (uq [] (ks.take i)).length + 1 < scanBound := by
      have h1 := uq_len (ks.take i) ([] : List κ)
      have h2 : (ks.take i).length ≤ i := by rw [List.length_take]; omega
      simp only [List.length_nil] at h1
      omega
    refine wpAny_setAddHashed_of (knd := knd) (s := { s' with toks := s'.toks + 1 }) his hsc hS' room fun h' sb hS2 => ?_
    have et : ks.take (i + 1) = ks.take i ++ [k] := by rw [List.take_add_one, hk]; rfl
    have hS3 : h'.SetOf knd Z (fun k => decide (k ∈ ks.take (i + 1))) (uq [] (ks.take (i + 1))).length := by
      have e1 : (fun k' => decide (k' ∈ ks.take i) || decide (k' = k)) = fun k' => decide (k' ∈ ks.take (i + 1)) := by
        funext k'
        rw [et]
        by_cases c1 : k' ∈ ks.take i <;> by_cases c2 : k' = k <;> simp [c1, c2]
      have e2 : (if decide (k ∈ ks.take i) = true then (uq [] (ks.take i)).length else (uq [] (ks.take i)).length + 1) = (uq [] (ks.take (i + 1))).length := by
        rw [et, uq_append]
        by_cases c : k ∈ ks.take i
        · have c2 : k ∈ uq [] (ks.take i) := (uq_mem _ _ _).mpr (.inr c)
          rw [if_pos c2, if_pos (decide_eq_true c)]
        · have c2 : k ∉ uq [] (ks.take i) := fun z => by
            rcases (uq_mem _ _ _).mp z with y | y
            · cases y
            · exact c y
          rw [if_neg c2, if_neg (by simpa using c), List.length_append, List.length_singleton]
      rw [← e1, ← e2]
      exact hS2
    have same : ∀ b o, b ≠ Z → s'.heap.get? b = some o → h'.get? b = some o := fun b o hb e => by rw [sb.2 b hb]; exact e
    refine wpAny_pure ⟨plainId_quiet PyProof.Rows.F.plain_set_update_loop _, ih (i + 1) _ (by omega) (W.frame _ s' _ _ hst' (Nat.le_succ _) fun b hb o e => same b o (fun z => zf (z ▸ hb)) e) hS3 fun s'' mv2 hS4 => ?_⟩
    exact hR s'' (Moved.trans W.gtrans ((mv.mono more).then_heap (Nat.le_succ _) fun b o hb e => same b o (fun z => hb (by rw [z]; exact List.mem_cons_self)) e) mv2) hS4

/-- set(l), l a list of keys -/
theorem set_of_list {E : Value → Shared → Prop} {s : Shared} {l : Addr} {items : Array Value} {ks : List κ} {Q : Value → Shared → Prop} (hh : A.handled = none) (hl : s.heap.IsList l items) (hn : ks.length = items.size)
    (hv : ∀ (i : Nat) (v : Value), items[i]? = some v → v.scannable = true ∧ ∃ k, ks[i]? = some k ∧ knd.is k v = true) (hb : items.size + 1 < scanBound)
    (h : ∀ (h' : Heap) (tk : Nat), h'.SetOf knd s.heap.objs.size (fun k => decide (k ∈ ks)) (uq [] ks).length → (∀ b o, s.heap.get? b = some o → h'.get? b = some o) → Q (.ref s.heap.objs.size) { s with heap := h', toks := tk }) :
    wpAny (model prog w) A (call (.type "set") [.ref l]) Q E s := by
  obtain ⟨c0, tl0, mro0⟩ := PySem.F.called_set.mro
  have made0 := PySem.F.called_set.made; have sub0 := PySem.F.called_set.sub
  have nt0 := PySem.F.called_set.notType; have cc0 := PySem.F.called_set.canCreate
  have tc0 := PySem.F.typeCall_set_1 (.ref l)
  refine wpAny_call (codeAny_of_tree ?_)
  show wpAny (model prog w) _ (callAny (.type "set") _) _ _ _
  refine wpAny_pure ⟨Code.quiet_builtin _ (by decide +kernel), codeAny_builtin PySem.F.entry_type_call ?_⟩
  rw [Around.under_plain (weight_type_call_type "set" [.ref l] []) rfl]
  repeat any_goals first | assumption | wp_step
  refine codeAny_mono (code_set_new_1 (.ref l) (E := E) (Q₁ := fun z t => ∃ led : Bool, z = .ref s.heap.objs.size ∧ t = { s with heap := s.heap.push { cls := .type "set", dict := none, data := .set #[] 0 (.fresh 0 0 led) } }) fun led => ⟨led, rfl, rfl⟩) fun r1 t1 q1 => ?_
  match r1, q1 with
  | .error e, q1 => exact q1
  | .ok (.ret z), q1 =>
    obtain ⟨led, rfl, rfl⟩ := q1
    have gS : (s.heap.push { cls := .type "set", dict := none, data := .set #[] 0 (.fresh 0 0 led) }).get? s.heap.objs.size = some { cls := .type "set", dict := none, data := .set #[] 0 (.fresh 0 0 led) } := Heap.get?_push_size _ rfl
    have tS : Shared.TypeIs { s with heap := s.heap.push { cls := .type "set", dict := none, data := .set #[] 0 (.fresh 0 0 led) } } (.ref s.heap.objs.size) "set" := ⟨_, gS, rfl⟩
    have li := PySem.F.called_set.init.lookup; have bi := PySem.F.called_set.init.bind (.ref s.heap.objs.size)
    repeat any_goals first | assumption | wp_step
    refine codeAny_mono (codeAny_call_builtin (R := wants (fun r t => r = .none ∧ ∃ h' tk, t = { s with heap := h', toks := tk } ∧ h'.SetOf knd s.heap.objs.size (fun k => decide (k ∈ ks)) (uq [] ks).length ∧
        ∀ b o, s.heap.get? b = some o → h'.get? b = some o) E) PySem.F.called_set.init.plain PySem.F.entry_set_init (check_set_init_1 tS ?_)) fun r2 t2 q2 => ?_
    · obtain ⟨ol, gl, cl, nl, dl⟩ := hl
      obtain ⟨oc, od, ot, os⟩ := ol
      simp only at cl dl
      subst cl; subst dl
      have ll : l < s.heap.objs.size := Heap.lt_size gl
      have gl' : (s.heap.push { cls := .type "set", dict := none, data := .set #[] 0 (.fresh 0 0 led) }).get? l = some { cls := .type "list", dict := od, data := .seq items nl, slots := os } := Heap.get?_push_of_some _ gl
      have il : (s.heap.push { cls := .type "set", dict := none, data := .set #[] 0 (.fresh 0 0 led) }).IsList l items := ⟨_, gl', rfl, nl, rfl⟩
      have s1 := PySem.F.sub_list_set; have s2 := PySem.F.sub_list_frozenset
      have nd : (Value.type "list" == Value.type "dict") = false := by decide
      unfold Builtin.«set.__init__» noKeywords Builtin.Frozenset.updateFrom
      generalize hp : pyIter = pI
      wp_walk
      subst hp
      refine wpAny_pyIter_list il (wpAny_bind (wpAny_runValue ?_))
      have h3 : A.in1.in1.in1.handled = none := by simp [hh]
      have ni : l ≠ (s.heap.push { cls := .type "set", dict := none, data := .set #[] 0 (.fresh 0 0 led) }).objs.size := by rw [Heap.size_push]; exact Nat.ne_of_lt (Nat.lt_succ_of_lt ll)
      have zf : s.heap.objs.size ∉ [(s.heap.push { cls := .type "set", dict := none, data := .set #[] 0 (.fresh 0 0 led) }).objs.size, l] := by
        rw [Heap.size_push]; simp only [List.mem_cons, List.mem_singleton, List.not_mem_nil, or_false, not_or]
        exact ⟨Nat.ne_of_lt (Nat.lt_succ_self _), Nat.ne_of_gt ll⟩
      refine fill_set ((Walks.list h3 _ l ni items).toS) zf ks hn hv hb items.size 0 _ (by omega) ⟨⟨_, Heap.get?_push_size _ rfl, rfl, rfl⟩, il.push _⟩ ?_ fun t mv hS => ?_
      · have g2 : ((s.heap.push { cls := .type "set", dict := none, data := .set #[] 0 (.fresh 0 0 led) }).push { cls := .type "list_iterator", data := .fields #[.ref l, .int 0 0] }).get? s.heap.objs.size =
            some { cls := .type "set", dict := none, data := .set #[] 0 (.fresh 0 0 led) } := Heap.get?_push_of_some _ gS
        have q := (PyProof.Rows.setObjOf_fresh (knd := knd) led).setOf g2 (by unfold scanBound; omega)
        have e : (fun k => decide (k ∈ ks.take 0)) = fun _ : κ => false := by funext k; simp
        rw [e]
        exact q
      · obtain ⟨h', g', d', tk', os'⟩ := t
        obtain rfl : g' = s.gens := mv.gens
        obtain rfl : d' = s.drawn := mv.drawn
        obtain rfl : os' = s.os := mv.os
        show wpAny (model prog w) _ _ _ _ _
        refine wpAny_pure ?_
        show wpAny (model prog w) _ (ret Value.none) _ _ _
        refine wpAny_pure ⟨rfl, h', tk', rfl, hS, fun b o e => ?_⟩
        have lb := Heap.lt_size e
        refine mv.heap b o (fun z => ?_) (Heap.get?_push_of_some _ (Heap.get?_push_of_some _ e))
        rcases List.mem_cons.mp z with y | y
        · exact Nat.ne_of_lt lb y
        · rcases List.mem_cons.mp y with y | y
          · rw [Heap.size_push] at y
            exact Nat.ne_of_lt (Nat.lt_succ_of_lt lb) y
          · cases y
    · match r2, q2 with
      | .error e, q2 => exact q2
      | .ok (.ret r), q2 =>
        obtain ⟨rfl, h', tk, rfl, hS, hk⟩ := q2
        repeat any_goals first | assumption | wp_step
        exact h _ _ hS hk
end
end Gx
namespace Gx
open PySem PySem.Spec PyProof.Rows L2 GxR GenW
section
variable {X : Cx}
/-- len(set(xs)) of a list of texts -/
def tLenSetS (K : PySem.W.Frag) (ta : TE) : TE := fun σ H Q => ta σ H fun x H1 => ∃ (l : Addr) (xs : List Str), x = .ref l ∧ SqL K H1 l (xs.map V.str) ∧ xs.length ≤ 4000 ∧ Q (.int ((uq [] xs).length : Nat)) H1
theorem pe_lenSetS {a : Expr} {ta : TE} {p p2 q pos : Pos} (hg : Gl X "len") (hm : X.mg "len" = none) (hg2 : Gl X "set") (hm2 : X.mg "set" = none) (hh : X.A.handled = none) (ha : PE X a ta)
    (na : starEach [a] X.env = (false, eval a X.env) :: starEach [] X.env := by rfl) : PE X (.Call (.Name "len" p) [.Call (.Name "set" p2) [a] [] q] [] pos) (tLenSetS X.K ta) := by
  refine ⟨fun pins s σ H Q I h => Call_ (ld_blt I hg hm boot_len (PyProof.Rows.callWith_builtin1 (PyProof.Rows.args_cons (Call_ (ld_blt I hg2 hm2 boot_set ?_)) rfl) rfl rfl))⟩
  refine PyProof.Rows.callWith_type1 (PyProof.Rows.args_cons (thn (ha.run pins s σ H _ I h) fun v s1 h1 => PyProof.Rows.args_nil ?_) na) na rfl
  obtain ⟨x, H1, I1, r1, l, xs, rfl, hq, hz, q1⟩ := h1
  have e : v = .ref l := r1
  subst e
  obtain ⟨its, rv, pl, _⟩ := I1.list hq
  have hlen : xs.length = its.length := by have := rv.length; rw [List.length_map] at this; exact this
  refine set_of_list (knd := PySem.strKind X.prog X.w) hh pl.isList (ks := xs) (by rw [List.size_toArray]; exact hlen) (fun i v hv => ?_) (by rw [List.size_toArray, ← hlen]; unfold scanBound; omega) fun h' tk hS hk => ?_
  · have hv' : its[i]? = some v := by simpa using hv
    have hi : i < xs.length := by rw [hlen]; exact (List.getElem?_eq_some_iff.mp hv').1
    have e1 : (xs.map V.str)[i]? = some (V.str xs[i]) := by rw [List.getElem?_map, List.getElem?_eq_getElem hi]; rfl
    obtain ⟨u, hu, t, rfl⟩ := rv.get e1
    rw [hv'] at hu
    obtain rfl := Option.some.inj hu
    exact ⟨rfl, xs[i], List.getElem?_eq_getElem hi, PySem.strKind_is _ _ _ _⟩
  · obtain ⟨o, es, ep, t, ho, hex, hd, _, _, _, hf, hn⟩ := hS
    have I2 : Inv X pins σ H1 { s1 with heap := h', toks := tk } := I1.kept hk
    have hle : (uq ([] : List Str) xs).length ≤ 4000 := by have := uq_len xs ([] : List Str); simp only [List.length_nil] at this; omega
    exact PyProof.Rows.args_nil (call_len_set ho hex hd hf (by rw [hn]; omega) ⟨.int _, H1, I2.tok _, ⟨_, by rw [hn]⟩, q1⟩)
end
end Gx

/-! What else the programs want: powers, generator expressions by their scopes, what stays of a heap. -/
namespace Gx
open PySem PySem.Spec PyProof.Rows L2 GxR GenW
theorem bits_le {x : Int} {n : Nat} (h0 : 0 < n) (h : x.natAbs < 2 ^ n) : Builtin.Int.intBits x ≤ n := by
  have l := PySem.Flt.log2_lt_of h0 h
  unfold Builtin.Int.intBits
  split <;> omega
section
variable {X : Cx}
/-- ** of any base, together below 2 ^ 27 bits -/
def CPowX (i j : Int) : Prop := 0 ≤ j ∧ (Builtin.Int.intBits i : Int) * j ≤ 2 ^ 27
theorem op_powX : OpR X (binaryOp .Pow) (rI CPowX fun i j => .int (i ^ j.toNat)) := opI fun _ _ _ _ _ _ _ hc q => pow_int hc.1 hc.2 q
theorem room_gx {k : Nat} {s : Shared} {H : Hp} {sc : Scope} {C : Addr} {code : Value} {fp : List Addr} (r : Room (k + 3) X.A) : Room k (gcx X s H sc C code fp).A := r.in1.in1.deeper _
def gxC (sc : Scope) : Bool := (sc.names.all fun y => match y.2 with | .cell => false | _ => true) && (match sc.names.lookup (".0" : Str) with | some .local => true | _ => false) && !sc.isCoroutine
theorem gx_ok {gsc dsc : Scope} {own : List (Str × Nat)} {c P : Addr} {N : List Str} (tb : TabB X.base X.mg c P) (nd : N.Nodup) (b : blkC N dsc gsc own = true) (h2 : gxC gsc = true)
    (e1 : X.N = N := by rfl) (e2 : X.env.scope = dsc := by rfl) (e3 : X.env.code = .ref c := by rfl) : GxOk X gsc own c P := by
  unfold gxC at h2
  rw [Bool.and_eq_true, Bool.and_eq_true, List.all_eq_true] at h2
  refine ⟨tb, e3, ?_, by rw [e1]; exact nd, fun y hy e => ?_, ?_, ?_⟩
  · rw [e1, e2]
    exact blkOk_by b
  · have := h2.1.1 y hy
    rw [e] at this
    cases this
  · have := h2.1.2
    split at this
    · assumption
    · cases this
  · simpa using h2.2
end

/-! ### what stays -/
/-- all but tables and what stands at ex is as it was; tables may have grown -/
structure Grow (ex : List Addr) (H H' : Hp) : Prop where
  keep : ∀ b o, b ∉ ex → H b = some o → (∀ ps, o ≠ .tbl ps) → H' b = some o
  tabs : ∀ b, TabG H b → TabG H' b
theorem Grow.refl (ex : List Addr) (H : Hp) : Grow ex H H := ⟨fun _ _ _ e _ => e, fun _ t => t⟩
theorem Grow.trans {ex : List Addr} {H H1 H2 : Hp} (a : Grow ex H H1) (b : Grow ex H1 H2) : Grow ex H H2 := ⟨fun c o h e t => b.keep c o h (a.keep c o h e t) t, fun c t => b.tabs c (a.tabs c t)⟩
theorem Grow.mono {ex ex' : List Addr} {H H1 : Hp} (a : Grow ex H H1) (h : ∀ b ∈ ex, b ∈ ex') : Grow ex' H H1 := ⟨fun c o n e t => a.keep c o (fun z => n (h c z)) e t, a.tabs⟩
theorem Grow.any {ex : List Addr} {H H1 : Hp} (a : Grow [] H H1) : Grow ex H H1 := a.mono fun _ z => by cases z
theorem Grow.lst {ex : List Addr} {H H' : Hp} (a : Grow ex H H') {p : Addr} {xs : List V} (n : p ∉ ex) (h : H p = some (.lst xs)) : H' p = some (.lst xs) := a.keep p _ n h fun ps z => by cases z
theorem Grow.tup {ex : List Addr} {H H' : Hp} (a : Grow ex H H') {p : Addr} {xs : List V} (n : p ∉ ex) (h : H p = some (.tup xs)) : H' p = some (.tup xs) := a.keep p _ n h fun ps z => by cases z
theorem Grow.seq {K : PySem.W.Frag} {ex : List Addr} {H H' : Hp} (a : Grow ex H H') {p : Addr} {xs : List V} (n : p ∉ ex) (h : SqL K H p xs) : SqL K H' p xs := by
  rcases h with (h | ⟨o, h⟩) | h
  · exact .inl (.inl (a.lst n h))
  · exact .inl (.inr ⟨o, a.keep p _ n h fun ps z => by cases z⟩)
  · exact .inr h
theorem Grow.seq0 {K : PySem.W.Frag} {H H' : Hp} (a : Grow [] H H') {p : Addr} {xs : List V} (h : SqL K H p xs) : SqL K H' p xs := a.seq (by simp) h
/-- a new object -/
theorem grow_new {ex : List Addr} {H : Hp} {p : Addr} {o : HO} (h : H p = none) : Grow ex H (upd H p o) :=
  ⟨fun b u _ e _ => by rw [upd_ne (ne_of_none e h)]; exact e, fun b ⟨ps, e, t⟩ => ⟨ps, by rw [upd_ne (ne_of_none e h)]; exact e, t⟩⟩
/-- what stands at p, no table, is changed -/
theorem grow_at {ex : List Addr} {H : Hp} {p : Addr} {o u : HO} (h : H p = some u) (hu : ∀ ps, u ≠ .tbl ps) (hp : p ∈ ex) : Grow ex H (upd H p o) :=
  ⟨fun b v n e _ => by rw [upd_ne (show b ≠ p from fun z => n (by rw [z]; exact hp))]; exact e, fun b ⟨ps, e, t⟩ => ⟨ps, by rw [upd_ne (show b ≠ p from fun z => by rw [z, h] at e; exact hu ps (Option.some.inj e))]; exact e, t⟩⟩
theorem grow_tab {ex : List Addr} {P : Addr} {H H' : Hp} (h : TabG H P) (t : Tabbed P H H') : Grow ex H H' :=
  ⟨fun b o _ e no => by
    have n : b ≠ P := fun z => by
      obtain ⟨ps, e2, _⟩ := h
      rw [z, e2] at e
      exact no ps (Option.some.inj e).symm
    rw [t.2 b n]
    exact e, fun b ht => by
    by_cases z : b = P
    · rw [z]
      exact t.1
    · obtain ⟨ps, e, q⟩ := ht
      exact ⟨ps, by rw [t.2 b z]; exact e, q⟩⟩
/-- what was not told of before may be dropped from ex -/
theorem Grow.less {ex : List Addr} {p : Addr} {H H' : Hp} (a : Grow (p :: ex) H H') (h : H p = none) : Grow ex H H' :=
  ⟨fun b o n e t => a.keep b o (fun z => by
    rcases List.mem_cons.mp z with y | y
    · rw [y, h] at e
      cases e
    · exact n y) e t, a.tabs⟩
/-- nothing stood there, or a table did -/
def Fresh (H : Hp) (p : Addr) : Prop := ∀ o, H p = some o → ∃ ps, o = .tbl ps
theorem fresh_none {H : Hp} {p : Addr} (h : H p = none) : Fresh H p := fun o e => by
  rw [h] at e
  cases e
theorem Grow.fresh {ex : List Addr} {H H' : Hp} (a : Grow ex H H') {p : Addr} (n : p ∉ ex) (h : Fresh H' p) : Fresh H p := fun o e => by
  cases o with
  | tbl ps => exact ⟨ps, rfl⟩
  | _ => exact h _ (a.keep p _ n e (fun ps z => by cases z))
theorem Grow.fresh0 {H H' : Hp} (a : Grow [] H H') {p : Addr} (h : H' p = none) : Fresh H p := a.fresh (by simp) (fresh_none h)
theorem Fresh.ne {H : Hp} {p b : Addr} {o : HO} (n : Fresh H p) (h : H b = some o) (ho : ∀ ps, o ≠ .tbl ps) : b ≠ p := fun z => by
  rw [z] at h
  obtain ⟨ps, e⟩ := n o h
  exact ho ps e
/-- what is new may be changed -/
theorem Grow.put {ex : List Addr} {p : Addr} {o u : HO} {H H' : Hp} (a : Grow ex H H') (n : Fresh H p) (h : H' p = some u) (hu : ∀ ps, u ≠ .tbl ps) : Grow ex H (upd H' p o) :=
  ⟨fun b v z e t => by
    rw [upd_ne (n.ne e t)]
    exact a.keep b v z e t, fun b t => by
    obtain ⟨ps, e, q⟩ := a.tabs b t
    exact ⟨ps, by rw [upd_ne (show b ≠ p from fun z => by rw [z, h] at e; exact hu ps (Option.some.inj e))]; exact e, q⟩⟩
theorem Grow.drop {ex : List Addr} {p : Addr} {H H' : Hp} (a : Grow (p :: ex) H H') (n : Fresh H p) : Grow ex H H' :=
  ⟨fun b o nb e t => a.keep b o (fun z => by
    rcases List.mem_cons.mp z with y | y
    · exact n.ne e t y
    · exact nb y) e t, a.tabs⟩
theorem Grow.new {ex : List Addr} {p : Addr} {o : HO} {H H' : Hp} (a : Grow ex H H') (h : H' p = none) : Grow ex H (upd H' p o) := a.trans (grow_new h)
/-! ### data -/
mutual
theorem Dp.grow {K : PySem.W.Frag} {H H' : Hp} (a : Grow [] H H') : ∀ {x : V} {d : PyData}, Dp K H x d → Dp K H' x d
  | _, _, .non => .non
  | _, _, .bl b => .bl b
  | _, _, .int i => .int i
  | _, _, .str x => .str x
  | _, _, .lst h1 h2 => .lst (a.seq0 h1) (DpAll.grow a h2)
  | _, _, .tup h1 h2 => .tup (by
      rcases h1 with (h | ⟨o, h⟩) | h
      · exact .inl (.inl (a.keep _ _ (by simp) h fun ps z => by cases z))
      · exact .inl (.inr ⟨o, a.keep _ _ (by simp) h fun ps z => by cases z⟩)
      · exact .inr h) (DpAll.grow a h2)
theorem DpAll.grow {K : PySem.W.Frag} {H H' : Hp} (a : Grow [] H H') : ∀ {x : List V} {d : List PyData}, DpAll K H x d → DpAll K H' x d
  | _, _, .nil => .nil
  | _, _, .cons h t => .cons (Dp.grow a h) (DpAll.grow a t)
end
theorem dp_strs {K : PySem.W.Frag} {H : Hp} : ∀ xs : List Str, DpAll K H (xs.map V.str) (xs.map PyData.str)
  | [] => .nil
  | x :: r => .cons (.str x) (dp_strs r)
theorem dp_book {K : PySem.W.Frag} {H : Hp} {p : Addr} {xs : List Str} (h : SqL K H p (xs.map V.str)) : Dp K H (.ref p) (.list (xs.map PyData.str)) := .lst h (dp_strs xs)

theorem tyB_str {K : PySem.W.Frag} {H : Hp} {z : Str} {p : String → Prop} : (∃ U, TyB K H (.str z) U ∧ p U) ↔ p "str" := by
  constructor
  · rintro ⟨U, t, h⟩
    cases t
    exact h
  · exact fun h => ⟨_, .str z, h⟩
theorem tyB_int {K : PySem.W.Frag} {H : Hp} {z : Int} {p : String → Prop} : (∃ U, TyB K H (.int z) U ∧ p U) ↔ p "int" := by
  constructor
  · rintro ⟨U, t, h⟩
    cases t
    exact h
  · exact fun h => ⟨_, .int z, h⟩

/-! ### all( ), any( ) over items that are known -/
section
variable {sb : Bool} {g : TG} {te : TE} {vs : List Nat} {σ : L2.St} {Q : VK} {P : Addr} {J : It} {H1 : Hp}
theorem truth_by {items : List V} (Pv : Nat → Hp → Prop) (h0 : ∀ H2, Tabbed P H1 H2 → Pv 0 H2) (yld : ∀ i H x H', Pv i H → J.yld i H x H' → H' = H ∧ items[i]? = some x) (go : ∀ i H, i < items.length → Pv i H → J.go i H)
    (stop : ∀ H, Pv items.length H → J.stop items.length H) (step : ∀ i x H, items[i]? = some x → Pv i H → g x (wipe σ vs) H fun σ2 H2 => wipe σ2 vs = wipe σ vs ∧ te σ2 H2 fun y H4 => ∃ b, y = .bl b ∧ if b = sb then Q (.bl sb) H4 else Pv (i + 1) H4)
    (fin : ∀ H, Pv items.length H → Q (.bl (!sb)) H) : rTruth P sb g te vs σ Q J H1 := by
  refine fun H2 t => ⟨fun i m H => m = items.length - i ∧ i ≤ items.length ∧ Pv i H, ⟨_, rfl, Nat.zero_le _, h0 H2 t⟩, fun i m H hw => ?_⟩
  obtain ⟨rfl, hi, hp⟩ := hw
  by_cases hl : i < items.length
  · refine .inr ⟨go i H hl hp, Pv (i + 1), fun H' h' => ⟨items.length - (i + 1), by omega, rfl, hl, h'⟩, fun x H' hy => ?_⟩
    obtain ⟨rfl, hx⟩ := yld i H x H' hp hy
    exact step i x _ hx hp
  · have e : i = items.length := by omega
    subst e
    exact .inl ⟨stop H hp, fin H hp⟩
theorem truth_list {K : PySem.W.Frag} {a : Addr} {xs : List V} (Pv : Nat → Hp → Prop) (h0 : ∀ H2, Tabbed P H1 H2 → Pv 0 H2) (hl : ∀ i H, Pv i H → SqL K H a xs)
    (step : ∀ i x H, xs[i]? = some x → Pv i H → g x (wipe σ vs) H fun σ2 H2 => wipe σ2 vs = wipe σ vs ∧ te σ2 H2 fun y H4 => ∃ b, y = .bl b ∧ if b = sb then Q (.bl sb) H4 else Pv (i + 1) H4)
    (fin : ∀ H, Pv xs.length H → Q (.bl (!sb)) H) : rTruth P sb g te vs σ Q (Itl K a) H1 :=
  truth_by (items := xs) Pv h0 (fun i H x H' hp hy => ⟨hy.1, hy.2 xs (hl i H hp)⟩) (fun i H hi hp => ⟨xs, xs[i], hl i H hp, List.getElem?_eq_getElem hi⟩) (fun H hp => ⟨xs, hl _ H hp, Nat.le_refl _⟩) step fin
theorem truth_text {z : Str} (Pv : Nat → Hp → Prop) (h0 : ∀ H2, Tabbed P H1 H2 → Pv 0 H2)
    (step : ∀ (i : Nat) (c : Nat) H, z.cps.toList[i]? = some c → Pv i H → g (.str ⟨#[c]⟩) (wipe σ vs) H fun σ2 H2 => wipe σ2 vs = wipe σ vs ∧ te σ2 H2 fun y H4 => ∃ b, y = .bl b ∧ if b = sb then Q (.bl sb) H4 else Pv (i + 1) H4)
    (fin : ∀ H, Pv z.cps.toList.length H → Q (.bl (!sb)) H) : rTruth P sb g te vs σ Q (Its z) H1 := by
  have el : (z.cps.toList.map fun c => V.str ⟨#[c]⟩).length = z.cps.toList.length := by rw [List.length_map]
  refine truth_by (items := z.cps.toList.map fun c => V.str ⟨#[c]⟩) Pv h0 (fun i H x H' hp hy => ?_) (fun i H hi hp => ?_) (fun H hp => ?_) (fun i x H hx hp => ?_) fun H hp => fin H (by rw [← el]; exact hp)
  · obtain ⟨e, c, hc, rfl⟩ := hy
    refine ⟨e, ?_⟩
    rw [List.getElem?_map, Array.getElem?_toList, hc]
    rfl
  · rw [el] at hi
    show i < z.cps.size
    simpa using hi
  · show z.cps.size ≤ _
    rw [el]
    simp
  · rw [List.getElem?_map] at hx
    cases hc : z.cps.toList[i]? with
    | none => rw [hc] at hx; cases hx
    | some c =>
      rw [hc] at hx
      cases hx
      exact step i c H hc hp
end

theorem put_len {κ : Type} [DecidableEq κ] (c : List (κ × V)) (k : κ) (x : V) : (putK c k x).length ≤ c.length + 1 := by
  unfold putK
  split
  · rw [List.length_map]
    omega
  · rw [List.length_append]
    exact Nat.le_refl _
/-! ### readings within a block -/
section
variable {X : Cx}
theorem blk_K {s : Shared} {H : Hp} {sc : Scope} {ce : Env} {fp : List Addr} : (X.blk s H sc ce fp).K = X.K := rfl
theorem gcx_K {s : Shared} {H : Hp} {sc : Scope} {C : Addr} {code : Value} {fp : List Addr} : (gcx X s H sc C code fp).K = X.K := rfl
theorem pe_to {e : Expr} {t t' : TE} (p : PE X e t) (h : t = t' := by first | exact rfl | (simp only [Gx.blk_K, Gx.gcx_K]; exact rfl)) : PE X e t' := h ▸ p
theorem pg_to {e : Expr} {t t' : TG} (p : PG X e t) (h : t = t' := by first | exact rfl | (simp only [Gx.blk_K, Gx.gcx_K]; exact rfl)) : PG X e t' := h ▸ p
theorem pts_to {e : List Expr} {t t' : TT} (p : PTs X e t) (h : t = t' := by first | exact rfl | (simp only [Gx.blk_K, Gx.gcx_K]; exact rfl)) : PTs X e t' := h ▸ p
theorem pi_to {tg e : Expr} {t t' : TI} (p : PI X tg e t) (h : t = t' := by first | exact rfl | (simp only [Gx.blk_K, Gx.gcx_K]; exact rfl)) : PI X tg e t' := h ▸ p
end
/-! ### things that are known, lists that are names -/
theorem _root_.L2.TyB.grow {K : PySem.W.Frag} {H H' : Hp} {x : V} {U : String} (g : Grow [] H H') (t : TyB K H x U) : TyB K H' x U := by
  cases t with
  | non => exact .non
  | bl b => exact .bl b
  | int i => exact .int i
  | str z => exact .str z
  | byt b => exact .byt b
  | lst h => exact .lst (g.seq0 h)
  | @tup p xs h =>
    refine .tup (xs := xs) ?_
    rcases h with (h | ⟨o, h⟩) | h
    · exact .inl (.inl (g.keep _ _ (by simp) h fun ps z => by cases z))
    · exact .inl (.inr ⟨o, g.keep _ _ (by simp) h fun ps z => by cases z⟩)
    · exact .inr h
  | dK h => exact .dK (g.keep _ _ (by simp) h fun ps z => by cases z)
/-- a text of no great length, or of a kind that is told -/
def Known (K : PySem.W.Frag) (H : Hp) (x : V) : Prop := (∃ z : Str, x = .str z ∧ z.length ≤ sizeLine) ∨ ∃ U, U ≠ "str" ∧ TyB K H x U
theorem Known.grow {K : PySem.W.Frag} {H H' : Hp} {x : V} (g : Grow [] H H') : Known K H x → Known K H' x
  | .inl h => .inl h
  | .inr ⟨U, n, t⟩ => .inr ⟨U, n, t.grow g⟩
/-- a text's own -/
def theStr : V → Str
  | .str z => z
  | _ => Str.empty
theorem strs_of {p : V → Bool} (hp : ∀ x, p x = true → ∃ z, x = .str z) : ∀ {xs : List V}, xs.all p = true → xs = (xs.map theStr).map V.str
  | [], _ => rfl
  | x :: r, h => by
    rw [List.all_cons, Bool.and_eq_true] at h
    obtain ⟨z, rfl⟩ := hp x h.1
    show V.str z :: r = V.str z :: (r.map theStr).map V.str
    rw [← strs_of hp h.2]
theorem nodup_str {zs : List Str} : (zs.map V.str).Nodup ↔ zs.Nodup := by
  constructor
  · exact fun h => (List.pairwise_map.mp h).imp fun q e => q (congrArg V.str e)
  · exact fun h => List.pairwise_map.mpr (h.imp fun q e => q (V.str.inj e))
theorem uq_same {κ : Type} [DecidableEq κ] (l : List κ) : decide (((uq [] l).length : Int) = (l.length : Int)) = decide l.Nodup := by
  by_cases h : l.Nodup
  · rw [decide_eq_true h, uq_nodup l [] (by simpa using h)]
    exact decide_eq_true rfl
  · rw [decide_eq_false h]
    have := uq_short l [] List.nodup_nil (by simpa using h)
    simp only [List.length_nil] at this
    exact decide_eq_false (by omega)
end Gx

/-! Dict comprehensions and comprehensions of two clauses over walks; data that no list is in. -/
namespace Gx
open PySem PySem.Spec PyProof.Rows L2 GxR
section
variable {J J1 : It} {n : Nat} {G : Hp → Prop} {Y : Nat → Hp → V → Hp → Prop}
theorem dc_it (w : Walk J n G Y) {g : TG} {tt : TT} {tk tv : TE} {vs : List Nat} {σ : L2.St} {H1 : Hp} {D : Addr} {Qd : Hp → Prop} (Pv : Nat → Hp → Prop) (h0 : Pv 0 (upd H1 D (.dK []))) (hG : ∀ i H, i ≤ n → Pv i H → G H)
    (hs : ∀ i x H H', i < n → Pv i H → Y i H x H' → g x (wipe σ vs) H' fun σ2 H2 => wipe σ2 vs = wipe σ vs ∧ tt σ2 H2 fun b H3 =>
      if b = true then tk σ2 H3 fun y H4 => tv σ2 H4 fun z H5 => ∃ kvs k, y = kV k ∧ H5 D = some (.dK kvs) ∧ kvs.length < sizeLine ∧ Pv (i + 1) (upd H5 D (.dK (putK kvs k z))) else Pv (i + 1) H3) (hd : ∀ H, Pv n H → Qd H) :
    ∃ W : Nat → Nat → Hp → Prop, (∃ m, W 0 m (upd H1 D (.dK []))) ∧ ∀ i m H, W i m H →
      (J.stop i H ∧ Qd H) ∨ (J.go i H ∧ ∃ Nx : Hp → Prop, (∀ H', Nx H' → ∃ m', m' < m ∧ W (i + 1) m' H') ∧ ∀ x H', J.yld i H x H' → g x (wipe σ vs) H' fun σ2 H2 => wipe σ2 vs = wipe σ vs ∧ tt σ2 H2 fun b H3 =>
        if b = true then tk σ2 H3 fun y H4 => tv σ2 H4 fun z H5 => ∃ kvs k, y = kV k ∧ H5 D = some (.dK kvs) ∧ kvs.length < sizeLine ∧ Nx (upd H5 D (.dK (putK kvs k z))) else Nx H3) := by
  refine ⟨fun i m H => m = n - i ∧ i ≤ n ∧ Pv i H, ⟨n, by simp, Nat.zero_le _, h0⟩, ?_⟩
  rintro i m H ⟨rfl, hi, p⟩
  by_cases hlt : i < n
  · exact .inr ⟨w.goes i H hlt (hG i H hi p), Pv (i + 1), fun H' p' => ⟨n - (i + 1), by omega, rfl, hlt, p'⟩, fun x H' y => hs i x H H' hlt p (w.yields i H x H' hlt (hG i H hi p) y)⟩
  · have e : i = n := by omega
    subst e
    exact .inl ⟨w.stops H (hG _ H hi p), hd H p⟩
/-- the loop of the second clause -/
abbrev In1 (D : Addr) (g1 : TG) (tt1 : TT) (te : TE) (vs1 : List Nat) (σ2 : L2.St) (Nx : Hp → Prop) (J1 : It) (H4 : Hp) : Prop := ∃ W1 : Nat → Nat → Hp → Prop, (∃ m, W1 0 m H4) ∧ ∀ j k H, W1 j k H →
  (J1.stop j H ∧ Nx H) ∨ (J1.go j H ∧ ∃ Nx1 : Hp → Prop, (∀ H', Nx1 H' → ∃ k', k' < k ∧ W1 (j + 1) k' H') ∧ ∀ x H', J1.yld j H x H' → g1 x (wipe σ2 vs1) H' fun σ3 H5 => wipe σ3 vs1 = wipe σ2 vs1 ∧ tt1 σ3 H5 fun b H6 =>
    if b = true then te σ3 H6 fun y H7 => ∃ acc, H7 D = some (.lst acc) ∧ acc.length < sizeLine ∧ Nx1 (upd H7 D (.lst (acc ++ [y]))) else Nx1 H6)
theorem lc2_it (w : Walk J n G Y) {g g1 : TG} {tt tt1 : TT} {wi1 : TI} {te : TE} {vs vs1 : List Nat} {σ : L2.St} {H1 : Hp} {D : Addr} {Qd : Hp → Prop} (Pv : Nat → Hp → Prop) (h0 : Pv 0 (upd H1 D (.lst []))) (hG : ∀ i H, i ≤ n → Pv i H → G H)
    (hs : ∀ i x H H', i < n → Pv i H → Y i H x H' → g x (wipe σ vs) H' fun σ2 H2 => wipe σ2 vs = wipe σ vs ∧ tt σ2 H2 fun b H3 =>
      if b = true then wi1 σ2 H3 fun J1 H4 => In1 D g1 tt1 te vs1 σ2 (Pv (i + 1)) J1 H4 else Pv (i + 1) H3) (hd : ∀ H, Pv n H → Qd H) :
    ∃ W : Nat → Nat → Hp → Prop, (∃ m, W 0 m (upd H1 D (.lst []))) ∧ ∀ i m H, W i m H →
      (J.stop i H ∧ Qd H) ∨ (J.go i H ∧ ∃ Nx : Hp → Prop, (∀ H', Nx H' → ∃ m', m' < m ∧ W (i + 1) m' H') ∧ ∀ x H', J.yld i H x H' → g x (wipe σ vs) H' fun σ2 H2 => wipe σ2 vs = wipe σ vs ∧ tt σ2 H2 fun b H3 =>
        if b = true then wi1 σ2 H3 fun J1 H4 => In1 D g1 tt1 te vs1 σ2 Nx J1 H4 else Nx H3) := by
  refine ⟨fun i m H => m = n - i ∧ i ≤ n ∧ Pv i H, ⟨n, by simp, Nat.zero_le _, h0⟩, ?_⟩
  rintro i m H ⟨rfl, hi, p⟩
  by_cases hlt : i < n
  · exact .inr ⟨w.goes i H hlt (hG i H hi p), Pv (i + 1), fun H' p' => ⟨n - (i + 1), by omega, rfl, hlt, p'⟩, fun x H' y => hs i x H H' hlt p (w.yields i H x H' hlt (hG i H hi p) y)⟩
  · have e : i = n := by omega
    subst e
    exact .inl ⟨w.stops H (hG _ H hi p), hd H p⟩
theorem in1_it (w : Walk J1 n G Y) {g1 : TG} {tt1 : TT} {te : TE} {vs1 : List Nat} {σ2 : L2.St} {H4 : Hp} {D : Addr} {Nx : Hp → Prop} (Pw : Nat → Hp → Prop) (h0 : Pw 0 H4) (hG : ∀ i H, i ≤ n → Pw i H → G H)
    (hs : ∀ i x H H', i < n → Pw i H → Y i H x H' → g1 x (wipe σ2 vs1) H' fun σ3 H5 => wipe σ3 vs1 = wipe σ2 vs1 ∧ tt1 σ3 H5 fun b H6 =>
      if b = true then te σ3 H6 fun y H7 => ∃ acc, H7 D = some (.lst acc) ∧ acc.length < sizeLine ∧ Pw (i + 1) (upd H7 D (.lst (acc ++ [y]))) else Pw (i + 1) H6) (hd : ∀ H, Pw n H → Nx H) :
    In1 D g1 tt1 te vs1 σ2 Nx J1 H4 := by
  refine ⟨fun i m H => m = n - i ∧ i ≤ n ∧ Pw i H, ⟨n, by simp, Nat.zero_le _, h0⟩, ?_⟩
  rintro i m H ⟨rfl, hi, p⟩
  by_cases hlt : i < n
  · exact .inr ⟨w.goes i H hlt (hG i H hi p), Pw (i + 1), fun H' p' => ⟨n - (i + 1), by omega, rfl, hlt, p'⟩, fun x H' y => hs i x H H' hlt p (w.yields i H x H' hlt (hG i H hi p) y)⟩
  · have e : i = n := by omega
    subst e
    exact .inl ⟨w.stops H (hG _ H hi p), hd H p⟩
end

theorem yes_if {σ : L2.St} {H : Hp} {A B : Hp → Prop} (h : A H) : tYes σ H fun b H3 => if b = true then A H3 else B H3 := by
  show if true = true then A H else B H
  rw [if_pos rfl]
  exact h
theorem if_yes {A B : Hp → Prop} {H : Hp} (h : A H) : (fun (b : Bool) H3 => if b = true then A H3 else B H3) true H := by
  show if true = true then A H else B H
  rw [if_pos rfl]
  exact h
theorem if_no {A B : Hp → Prop} {H : Hp} (h : B H) : (fun (b : Bool) H3 => if b = true then A H3 else B H3) false H := by
  show if false = true then A H else B H
  rw [if_neg Bool.false_ne_true]
  exact h
theorem tyl {K : PySem.W.Frag} {H : Hp} {p : Addr} {xs : List V} (h : H p = some (.lst xs)) : tyV K "list" (.ref p) H := .inl ⟨rfl, xs, .inl (.inl h)⟩
theorem erase_map {α β} (f : α → β) (l : List α) (i : Nat) : (l.map f).eraseIdx i = (l.eraseIdx i).map f := by
  simp [List.eraseIdx_eq_take_drop_succ, List.map_take, List.map_drop]
theorem erase_perm {α} : ∀ (l : List α) (i : Nat) (h : i < l.length), (l[i] :: l.eraseIdx i).Perm l
  | x :: r, 0, _ => .refl _
  | x :: r, i + 1, h => (List.Perm.swap x _ _).trans ((erase_perm r i (Nat.lt_of_succ_lt_succ h)).cons x)
theorem cut_lo (xs : List V) (k : Nat) : cutV xs (some (k : Int)) none = xs.drop k := by
  unfold cutV
  rw [HT.sIx_none, HT.sIx_nat]
  by_cases h : k ≤ xs.length
  · rw [Nat.min_eq_left h]
    exact List.take_of_length_le (by rw [List.length_drop]; exact Nat.le_refl _)
  · rw [Nat.min_eq_right (by omega), Nat.sub_self, List.take_zero, List.drop_of_length_le (by omega)]
theorem cut_hi (xs : List V) (k : Nat) : cutV xs none (some (k : Int)) = xs.take k := by
  unfold cutV
  rw [HT.sIx_none, HT.sIx_nat, List.drop_zero, Nat.sub_zero]
  by_cases h : k ≤ xs.length
  · rw [Nat.min_eq_left h]
  · rw [Nat.min_eq_right (by omega), List.take_length, List.take_of_length_le (by omega)]
theorem swap_perm {α : Type} (xs : List α) (a : Nat) (h : a + 1 < xs.length) : (xs.take a ++ [xs[a + 1], xs[a]] ++ xs.drop (a + 2)).Perm xs := by
  have e : xs = xs.take a ++ [xs[a], xs[a + 1]] ++ xs.drop (a + 2) := by
    have h1 : xs.drop a = xs[a] :: xs[a + 1] :: xs.drop (a + 2) := by rw [List.drop_eq_getElem_cons (by omega), List.drop_eq_getElem_cons h]
    conv => lhs; rw [← List.take_append_drop a xs, h1]
    simp
  conv => rhs; rw [e]
  exact List.Perm.append_right _ (List.Perm.append_left _ (List.Perm.swap _ _ _))
theorem turn_perm {α : Type} (xs : List α) (a : Nat) : (xs.drop a ++ xs.take a).Perm xs := List.perm_append_comm.trans (by rw [List.take_append_drop])
theorem cut_from (xs : List V) (k : Nat) : cutV xs (some ((k : Int) + 1)) none = xs.drop (k + 1) := by
  unfold cutV
  have e : ((k : Int) + 1) = ((k + 1 : Nat) : Int) := by omega
  rw [e, HT.sIx_none, HT.sIx_nat]
  by_cases h : k + 1 ≤ xs.length
  · rw [Nat.min_eq_left h]
    exact List.take_of_length_le (by rw [List.length_drop]; exact Nat.le_refl _)
  · rw [Nat.min_eq_right (by omega), Nat.sub_self, List.take_zero, List.drop_of_length_le (by omega)]
/-- a cut: what holds behind the statement, and from there the rest -/
def tCut (I : L2.St → Hp → Prop) (t u : TS) : TS := fun D σ H => t { D with nx := I } σ H ∧ ∀ σ' H', I σ' H' → u D σ' H'
theorem pss_cut {X : Cx} {st : Stmt} {rest : List Stmt} {t u : TS} (I : L2.St → Hp → Prop) (h1 : PS X st t) (h2 : PSs X rest u) : PSs X (st :: rest) (tCut I t u) := by
  refine ⟨fun pins s σ H D J h => ?_⟩
  refine wpAny_execs_cons (thn (h1.run pins s σ H { D with nx := I } J h.1) fun f s1 q => ?_)
  cases f with
  | next =>
    obtain ⟨σ', H', I', q⟩ := q
    exact h2.run pins s1 σ' H' D I' (h.2 σ' H' q)
  | ret v => exact q
  | brk => exact q
  | cont => exact q
theorem valV_none {κ : Type} [DecidableEq κ] {k : κ} : ∀ {kvs : List (κ × V)}, k ∉ kvs.map Prod.fst → valV kvs k = none
  | [], _ => rfl
  | p :: r, h => by
    rw [valV_neg fun e => h (by rw [← e]; exact List.mem_cons_self)]
    exact valV_none fun z => h (List.mem_cons_of_mem _ z)
theorem valV_some {κ : Type} [DecidableEq κ] {k : κ} {v : V} : ∀ {kvs : List (κ × V)} {j : Nat}, (kvs.map Prod.fst).Nodup → kvs[j]? = some (k, v) → valV kvs k = some v
  | p :: r, 0, _, e => by
    cases e
    exact valV_pos rfl
  | p :: r, j + 1, nd, e => by
    obtain ⟨h1, h2⟩ := List.nodup_cons.mp nd
    have hk : k ∈ r.map Prod.fst := List.mem_map.mpr ⟨(k, v), List.mem_of_getElem? (i := j) e, rfl⟩
    rw [valV_neg fun q => h1 (by rw [q]; exact hk)]
    exact valV_some (j := j) h2 e
/-! ### data that no list is in -/
mutual
inductive DpT (K : PySem.W.Frag) (H : Hp) : V → PyData → Prop
  | non : DpT K H .non .none
  | bl (b : Bool) : DpT K H (.bl b) (.bool b)
  | int (i : Int) : DpT K H (.int i) (.int i)
  | str (z : Str) : DpT K H (.str z) (.str z)
  | tup {a : Addr} {xs : List V} {ds : List PyData} : H a = some (.tup xs) → DpTs K H xs ds → DpT K H (.ref a) (.tuple ds)
inductive DpTs (K : PySem.W.Frag) (H : Hp) : List V → List PyData → Prop
  | nil : DpTs K H [] []
  | cons {x : V} {d : PyData} {xs : List V} {ds : List PyData} : DpT K H x d → DpTs K H xs ds → DpTs K H (x :: xs) (d :: ds)
end
mutual
theorem DpT.dp {K : PySem.W.Frag} {H : Hp} : ∀ {x : V} {d : PyData}, DpT K H x d → Dp K H x d
  | _, _, .non => .non
  | _, _, .bl b => .bl b
  | _, _, .int i => .int i
  | _, _, .str z => .str z
  | _, _, .tup h t => .tup (.inl (.inl h)) (DpTs.dp t)
theorem DpTs.dp {K : PySem.W.Frag} {H : Hp} : ∀ {x : List V} {d : List PyData}, DpTs K H x d → DpAll K H x d
  | _, _, .nil => .nil
  | _, _, .cons h t => .cons (DpT.dp h) (DpTs.dp t)
end
/-- where only lists (or nothing) stood, they stay -/
def Lists (ex : List Addr) (H : Hp) : Prop := ∀ b ∈ ex, ∀ xs, H b ≠ some (.tup xs)
theorem lists_none (H : Hp) : Lists [] H := fun b h => by cases h
theorem lists_one {H : Hp} {a : Addr} {xs : List V} (h : H a = some (.lst xs)) : Lists [a] H := fun b hb ys e => by
  rw [List.mem_singleton.mp hb, h] at e
  cases e
mutual
theorem DpT.grow {K : PySem.W.Frag} {ex : List Addr} {H H' : Hp} (a : Grow ex H H') (l : Lists ex H) : ∀ {x : V} {d : PyData}, DpT K H x d → DpT K H' x d
  | _, _, .non => .non
  | _, _, .bl b => .bl b
  | _, _, .int i => .int i
  | _, _, .str z => .str z
  | _, _, .tup (a := p) (xs := xs) h t => .tup (a.keep p _ (fun z => l p z xs h) h fun ps z => by cases z) (DpTs.grow a l t)
theorem DpTs.grow {K : PySem.W.Frag} {ex : List Addr} {H H' : Hp} (a : Grow ex H H') (l : Lists ex H) : ∀ {x : List V} {d : List PyData}, DpTs K H x d → DpTs K H' x d
  | _, _, .nil => .nil
  | _, _, .cons h t => .cons (DpT.grow a l h) (DpTs.grow a l t)
end
theorem dpT_str {K : PySem.W.Frag} {H : Hp} (z : Str) : DpT K H (.str z) (.str z) := .str z
theorem dpT_int {K : PySem.W.Frag} {H : Hp} (z : Int) : DpT K H (.int z) (.int z) := .int z
theorem dpT_strs {K : PySem.W.Frag} {H : Hp} : ∀ xs : List Str, DpTs K H (xs.map V.str) (xs.map PyData.str)
  | [] => .nil
  | x :: r => .cons (dpT_str x) (dpT_strs r)
theorem DpTs.snoc {K : PySem.W.Frag} {H : Hp} : ∀ {xs : List V} {ds : List PyData} {x : V} {d : PyData}, DpTs K H xs ds → DpT K H x d → DpTs K H (xs ++ [x]) (ds ++ [d])
  | _, _, _, _, .nil, q => .cons q .nil
  | _, _, _, _, .cons h t, q => .cons h (t.snoc q)
theorem DpTs.app {K : PySem.W.Frag} {H : Hp} : ∀ {xs ys : List V} {ds es : List PyData}, DpTs K H xs ds → DpTs K H ys es → DpTs K H (xs ++ ys) (ds ++ es)
  | _, _, _, _, .nil, q => q
  | _, _, _, _, .cons h t, q => .cons h (t.app q)
theorem DpTs.get {K : PySem.W.Frag} {H : Hp} : ∀ {xs : List V} {ds : List PyData} {i : Nat} {x : V}, DpTs K H xs ds → xs[i]? = some x → ∃ d, ds[i]? = some d ∧ DpT K H x d
  | _, _, 0, _, .cons h _, e => ⟨_, rfl, by cases e; exact h⟩
  | _, _, _ + 1, _, .cons _ t, e => t.get e
theorem DpTs.zip {K : PySem.W.Frag} {H : Hp} : ∀ {xs : List V} {ds : List PyData}, DpTs K H xs ds → ∀ b ∈ xs.zip ds, DpT K H b.1 b.2
  | _, _, .nil, b, hb => by cases hb
  | _, _, .cons h t, b, hb => by
    rcases List.mem_cons.mp hb with rfl | hb
    · exact h
    · exact t.zip b hb
theorem dpTs_of {K : PySem.W.Frag} {H : Hp} : ∀ {bs : List (V × PyData)}, (∀ b ∈ bs, DpT K H b.1 b.2) → DpTs K H (bs.map Prod.fst) (bs.map Prod.snd)
  | [], _ => .nil
  | b :: r, h => .cons (h b List.mem_cons_self) (dpTs_of fun c hc => h c (List.mem_cons_of_mem _ hc))
theorem DpTs.length {K : PySem.W.Frag} {H : Hp} : ∀ {xs : List V} {ds : List PyData}, DpTs K H xs ds → xs.length = ds.length
  | _, _, .nil => rfl
  | _, _, .cons _ t => congrArg (· + 1) t.length
/-- a list of such data -/
def LstT (K : PySem.W.Frag) (H : Hp) (D : Addr) (ds : List PyData) : Prop := ∃ xs, H D = some (.lst xs) ∧ DpTs K H xs ds
theorem LstT.dp {K : PySem.W.Frag} {H : Hp} {D : Addr} {ds : List PyData} (h : LstT K H D ds) : Dp K H (.ref D) (.list ds) := by
  obtain ⟨xs, h1, h2⟩ := h
  exact .lst (.inl (.inl h1)) h2.dp
theorem LstT.grow {K : PySem.W.Frag} {ex : List Addr} {H H' : Hp} {D : Addr} {ds : List PyData} (h : LstT K H D ds) (a : Grow ex H H') (l : Lists ex H) (n : D ∉ ex) : LstT K H' D ds := by
  obtain ⟨xs, h1, h2⟩ := h
  exact ⟨xs, a.lst n h1, h2.grow a l⟩
/-- one more at the end -/
theorem LstT.push {K : PySem.W.Frag} {H H' : Hp} {D : Addr} {ds : List PyData} {x : V} {d : PyData} (h : LstT K H D ds) (g : Grow [] H H') (q : DpT K H' x d) :
    ∃ acc, H' D = some (.lst acc) ∧ acc.length = ds.length ∧ LstT K (upd H' D (.lst (acc ++ [x]))) D (ds ++ [d]) := by
  obtain ⟨xs, h1, h2⟩ := h
  have e := g.lst (p := D) (by simp) h1
  have gr : Grow [D] H' (upd H' D (.lst (xs ++ [x]))) := grow_at e (fun ps z => by cases z) (by simp)
  exact ⟨xs, e, h2.length, _, upd_same, ((h2.grow g (lists_none H)).snoc q).grow gr (lists_one e)⟩
/-- the items of another such list behind them -/
theorem LstT.ext {K : PySem.W.Frag} {H : Hp} {D F : Addr} {ds es : List PyData} (h : LstT K H D ds) (k : LstT K H F es) :
    ∃ xs zs, H D = some (.lst xs) ∧ H F = some (.lst zs) ∧ xs.length = ds.length ∧ zs.length = es.length ∧ LstT K (upd H D (.lst (xs ++ zs))) D (ds ++ es) := by
  obtain ⟨xs, h1, h2⟩ := h
  obtain ⟨zs, k1, k2⟩ := k
  have gr : Grow [D] H (upd H D (.lst (xs ++ zs))) := grow_at h1 (fun ps z => by cases z) (by simp)
  exact ⟨xs, zs, h1, k1, h2.length, k2.length, _, upd_same, (h2.app k2).grow gr (lists_one h1)⟩
/-- list.index of a text that is in -/
theorem index_str {K : PySem.W.Frag} {H : Hp} {m : Addr} {ws : List Str} {b : Str} {Q : VK} (h : SqL K H m (ws.map V.str)) (hb : b ∈ ws) (q : Q (.int (ws.idxOf b : Nat)) H) : rIndex K (.ref m) [.str b] H Q := by
  have h1 := List.idxOf_lt_length_of_mem hb
  refine ⟨m, ws.map V.str, .str b, ws.idxOf b, .str b, rfl, rfl, h, rfl, ?_, ?_, by simp [eqV], fun j z' hj hz => ?_, q⟩
  · rw [List.all_map, List.all_eq_true]
    exact fun x _ => rfl
  · rw [List.getElem?_map, List.getElem?_eq_getElem h1, List.getElem_idxOf h1]
    rfl
  · rw [List.getElem?_map] at hz
    cases hw : ws[j]? with
    | none => rw [hw] at hz; cases hz
    | some z =>
      rw [hw] at hz
      cases hz
      have : z ≠ b := fun e => by
        subst e
        have h2 := List.not_of_lt_findIdx (p := (· == z)) (xs := ws) hj
        obtain ⟨h3, h4⟩ := List.getElem?_eq_some_iff.mp hw
        rw [h4] at h2
        simp at h2
      simp [eqV, this]
end Gx

/-! Sorted rows of data: what is a rearrangement of another sorts alike. -/
namespace Gx
open PySem PySem.Spec PyProof.Rows L2 GxR
open PySem.W in
theorem sort_same {β : Type} {enc : β → PyData} {xs ys : List β} (p : xs.Perm ys) (inj : ∀ a b, keyToks (enc a) = keyToks (enc b) → a = b) : xs.mergeSort (dataLe false enc) = ys.mergeSort (dataLe false enc) := by
  have tot := sortLe_total (listOrd itemOrd) false fun b => keyToks (enc b)
  refine List.Perm.eq_of_pairwise (le := fun a b => dataLe false enc a b = true) (fun a b _ _ h h' => ?_) (sort_pairwise tot xs) (sort_pairwise tot ys) ((List.mergeSort_perm xs _).trans (p.trans (List.mergeSort_perm ys _).symm))
  have h1 : (listOrd itemOrd).blt (keyToks (enc b)) (keyToks (enc a)) = false := by simpa [dataLe, sortLe] using h
  have h2 : (listOrd itemOrd).blt (keyToks (enc a)) (keyToks (enc b)) = false := by simpa [dataLe, sortLe] using h'
  exact inj a b ((listOrd itemOrd).total _ _ h2 h1)
theorem str_cps {x y : Str} (h : x.cps.toList = y.cps.toList) : x = y := by
  cases x; cases y
  congr 1
  exact Array.ext' h
theorem toks_str {a b : Str} (h : PySem.W.keyToks (.str a) = PySem.W.keyToks (.str b)) : a = b := by
  simp only [PySem.W.keyToks] at h
  exact str_cps (by simpa using h)
/-- a pair of texts -/
def encP (p : Str × Str) : PyData := .tuple [.str p.1, .str p.2]
theorem toks_pair {a b : Str × Str} (h : PySem.W.keyToks (encP a) = PySem.W.keyToks (encP b)) : a = b := by
  unfold encP at h
  simp only [PySem.W.keyToks, PySem.W.keyToksAll] at h
  simp at h
  exact Prod.ext (by have := h.1; exact str_cps (by simpa using this)) (by have := h.2; exact str_cps (by simpa using this))
theorem alike_strs (zs : List Str) : PySem.W.AllAlike (zs.map PyData.str) := PySem.W.AllAlike.of fun b b' => by simp [PySem.W.alike]
theorem sortable_strs (zs : List Str) : PySem.W.Sortable (zs.map PyData.str) := PySem.W.Sortable.others (enc := PyData.str) fun b => ⟨(nomatch ·), fun xs => (nomatch ·)⟩
theorem alike_pairs (ps : List (Str × Str)) : PySem.W.AllAlike (ps.map encP) := PySem.W.AllAlike.of fun b b' => by simp [encP, PySem.W.alike, PySem.W.alikeAll]
theorem sortable_pairs (ps : List (Str × Str)) : PySem.W.Sortable (ps.map encP) := PySem.W.Sortable.tuples fun b => ⟨_, _, rfl⟩

/-- of a pair of texts -/
theorem pair_inv {K : PySem.W.Frag} {H : Hp} {x : V} {p : Str × Str} (h : DpT K H x (encP p)) : ∃ r, x = .ref r ∧ H r = some (.tup [.str p.1, .str p.2]) := by
  unfold encP at h
  cases h with
  | tup e t =>
    cases t with
    | cons a t =>
      cases t with
      | cons b t =>
        cases t
        cases a
        cases b
        exact ⟨_, rfl, e⟩
/-- sorted of a list of pairs of texts -/
theorem sort_pairs {K : PySem.W.Frag} {H : Hp} {D : Addr} {ps : List (Str × Str)} {Q : VK} (h : LstT K H D (ps.map encP)) (hl : ps.length ≤ 1000000)
    (q : ∀ p o, H p = none → LstT K (upd H p o) p ((ps.mergeSort (PySem.W.dataLe false encP)).map encP) → Q (.ref p) (upd H p o)) : rSortG K Prod.fst Prod.snd [.ref D] H Q := by
  obtain ⟨xs, e, t⟩ := h
  have hlen := t.length
  have m1 : (xs.zip (ps.map encP)).map Prod.fst = xs := List.map_fst_zip (Nat.le_of_eq hlen)
  have m2 : (xs.zip (ps.map encP)).map Prod.snd = ps.map encP := List.map_snd_zip (Nat.le_of_eq hlen.symm)
  refine ⟨D, xs.zip (ps.map encP), rfl, .inl (.inl (by rw [m1]; exact e)), fun b hb => ⟨(t.zip b hb).dp, ?_⟩, by rw [m2]; exact alike_pairs ps, by rw [m2]; exact sortable_pairs ps, ?_, fun p np => q p _ np ⟨_, upd_same, ?_⟩⟩
  · have := List.mem_map_of_mem (f := Prod.snd) hb
    rw [m2] at this
    obtain ⟨y, _, hy⟩ := List.mem_map.mp this
    rw [← hy]
    simp [encP, PyData.depth, PyData.depthAll]
  · rw [List.length_zip, hlen, Nat.min_self, List.length_map]
    unfold sizeLine
    omega
  · have k : ((xs.zip (ps.map encP)).mergeSort (PySem.W.dataLe false Prod.snd)).map Prod.snd = (ps.mergeSort (PySem.W.dataLe false encP)).map encP := by
      rw [List.map_mergeSort (f := Prod.snd) (r := PySem.W.dataLe false Prod.snd) (s := PySem.W.dataLe false id) fun a _ b _ => rfl, m2,
        ← List.map_mergeSort (f := encP) (r := PySem.W.dataLe false encP) (s := PySem.W.dataLe false id) fun a _ b _ => rfl]
    rw [← k]
    exact (dpTs_of fun b hb => t.zip b ((List.mergeSort_perm _ _).mem_iff.mp hb)).grow (grow_new (ex := []) np) (lists_none _)
/-- data that can be shown, compared, sorted: no deeper than n, no more than m -/
structure Fine (d : PyData) (n m : Nat) : Prop where
  lay : d.canLay0 = true
  show_ : d.showable = true
  nod : d.hasDict = false
  leaves : d.leavesShort 8 = true
  deep : d.depth ≤ n
  bulk : d.bulk ≤ m
structure Fines (ds : List PyData) (n m : Nat) : Prop where
  lay : PyData.canLayAll0 ds = true
  show_ : PyData.showableAll ds = true
  nod : PyData.hasDictAll ds = false
  leaves : PyData.leavesShortAll 8 ds = true
  deep : PyData.depthAll ds ≤ n
  bulk : PyData.bulkAll ds ≤ ds.length * (m + 1)
theorem fines {n m : Nat} : ∀ {ds : List PyData}, (∀ d ∈ ds, Fine d n m) → Fines ds n m
  | [], _ => ⟨rfl, rfl, rfl, rfl, Nat.zero_le _, by simp [PyData.bulkAll]⟩
  | d :: r, h => by
    have h1 := h d List.mem_cons_self
    have h2 := fines (ds := r) fun d q => h d (List.mem_cons_of_mem _ q)
    refine ⟨?_, ?_, ?_, ?_, ?_, ?_⟩
    · rw [PyData.canLayAll0, h1.lay, h2.lay]; rfl
    · rw [PyData.showableAll, h1.show_, h2.show_]; rfl
    · rw [PyData.hasDictAll, h1.nod, h2.nod]; rfl
    · rw [PyData.leavesShortAll, h1.leaves, h2.leaves]; rfl
    · rw [PyData.depthAll]
      exact Nat.max_le.mpr ⟨h1.deep, h2.deep⟩
    · rw [PyData.bulkAll, List.length_cons, Nat.succ_mul]
      have := h1.bulk
      have := h2.bulk
      omega
theorem Fine.list {n m k : Nat} {ds : List PyData} (h : ∀ d ∈ ds, Fine d n m) (hk : ds.length * (m + 1) ≤ k) : Fine (.list ds) (n + 1) k := by
  have f := fines h
  exact ⟨by rw [PyData.canLay0]; exact f.lay, by rw [PyData.showable]; exact f.show_, by rw [PyData.hasDict]; exact f.nod, by rw [PyData.leavesShort]; exact f.leaves, by rw [PyData.depth]; exact Nat.succ_le_succ f.deep, by rw [PyData.bulk]; exact Nat.le_trans f.bulk hk⟩
theorem Fine.tuple {n m k : Nat} {ds : List PyData} (h : ∀ d ∈ ds, Fine d n m) (hk : ds.length * (m + 1) ≤ k) : Fine (.tuple ds) (n + 1) k := by
  have f := fines h
  exact ⟨by rw [PyData.canLay0]; exact f.lay, by rw [PyData.showable]; exact f.show_, by rw [PyData.hasDict]; exact f.nod, by rw [PyData.leavesShort]; exact f.leaves, by rw [PyData.depth]; exact Nat.succ_le_succ f.deep, by rw [PyData.bulk]; exact Nat.le_trans f.bulk hk⟩
theorem Fine.str {z : Str} {m : Nat} (h : ∀ c ∈ z.cps.toList, c < 0x110000) (l : z.length ≤ m) : Fine (.str z) 0 m := by
  refine ⟨?_, rfl, rfl, ?_, Nat.le_refl _, l⟩
  · show PyData.strOk z = true
    unfold PyData.strOk
    rw [← Array.all_toList, List.all_eq_true]
    exact fun c hc => decide_eq_true (h c hc)
  · show (z.cps.toList.all fun c => decide (c < 16 ^ 8)) = true
    rw [List.all_eq_true]
    exact fun c hc => decide_eq_true (Nat.lt_of_lt_of_le (h c hc) (by decide))
theorem Fine.shaped {d : PyData} {n m : Nat} (f : Fine d n m) (hn : n ≤ 60) : SeqAt.shaped d = true := by
  unfold SeqAt.shaped
  rw [f.lay, decide_eq_true (by have := f.deep; omega)]
  rfl
theorem Fine.shown {d : PyData} {n m : Nat} (f : Fine d n m) (h : 10 * m + 8 ≤ sizeLine) : d.shown.length ≤ sizeLine := by
  have := PyData.shown_le_bulk 8 (by decide) d f.leaves
  have := f.bulk
  omega
theorem Fine.eqv {d : PyData} {n m : Nat} (f : Fine d n m) : PyData.eqv d d = true := PySem.SeqAt.eqv_refl d f.lay
end Gx

/-! heapq -/
namespace Gx
open PySem PySem.Spec PyProof.Rows L2
theorem hq_entS : entryFor table "_heapq.heapify.sift" = some Builtin.«_heapq.heapify.sift» := entryFor_of_tree (by kernel_rfl)
theorem hq_entP : entryFor table "_heapq.heappop" = some Builtin.«_heapq.heappop» := entryFor_of_tree (by kernel_rfl)
theorem hq_entU : entryFor table "_heapq.heappush" = some Builtin.«_heapq.heappush» := entryFor_of_tree (by kernel_rfl)
theorem hq_entY : entryFor table "_heapq.heapify" = some Builtin.«_heapq.heapify» := entryFor_of_tree (by kernel_rfl)
theorem hq_kS : builtinKind "_heapq.heapify.sift" = none := by decide +kernel
theorem hq_kP : builtinKind "_heapq.heappop" = none := by decide +kernel
theorem hq_kU : builtinKind "_heapq.heappush" = none := by decide +kernel
theorem hq_kY : builtinKind "_heapq.heapify" = none := by decide +kernel
theorem hq_plS : plainId "_heapq.heapify.sift" = true := by decide +kernel
theorem hq_plP : plainId "_heapq.heappop" = true := by decide +kernel
theorem hq_plU : plainId "_heapq.heappush" = true := by decide +kernel
theorem hq_plY : plainId "_heapq.heapify" = true := by decide +kernel
theorem hq_argP (a : Value) : argsOk "_heapq.heappop" { pos := [a] } := by
  unfold argsOk
  kernel_rfl
theorem hq_argY (a : Value) : argsOk "_heapq.heapify" { pos := [a] } := by
  unfold argsOk
  kernel_rfl
theorem hq_argU (a b : Value) : argsOk "_heapq.heappush" { pos := [a, b] } := by
  unfold argsOk
  kernel_rfl
end Gx

/-! a heap in a list: what sifting does -/
namespace Gx
structure Lts {β : Type} (lt : β → β → Bool) : Prop where
  asym : ∀ a b, lt a b = true → lt b a = false
  tr : ∀ a b c, lt b a = false → lt c b = false → lt c a = false
variable {β : Type} {lt : β → β → Bool}
theorem Lts.irr (o : Lts lt) (a : β) : lt a a = false := by
  cases h : lt a a with
  | false => rfl
  | true => rw [o.asym a a h] at h; cases h
/-- parent no greater -/
def RelH (lt : β → β → Bool) (xs : List β) (i : Nat) : Prop := ∀ x y, xs[(i - 1) / 2]? = some x → xs[i]? = some y → lt y x = false
def HeapT (lt : β → β → Bool) (xs : List β) (t : Nat) : Prop := ∀ i, 0 < i → t ≤ (i - 1) / 2 → RelH lt xs i
def GrandH (lt : β → β → Bool) (xs : List β) (t p : Nat) : Prop := ∀ i, 0 < i → (i - 1) / 2 = p → 0 < p → t ≤ (p - 1) / 2 → ∀ x y, xs[(p - 1) / 2]? = some x → xs[i]? = some y → lt y x = false
def HoleH (lt : β → β → Bool) (xs : List β) (t p : Nat) : Prop := (∀ i, 0 < i → t ≤ (i - 1) / 2 → i ≠ p → (i - 1) / 2 ≠ p → RelH lt xs i) ∧ GrandH lt xs t p
def UpH (lt : β → β → Bool) (xs : List β) (t p : Nat) : Prop := (∀ i, 0 < i → t ≤ (i - 1) / 2 → i ≠ p → RelH lt xs i) ∧ GrandH lt xs t p
inductive AncH (t : Nat) : Nat → Prop
  | here : AncH t t
  | child {q c : Nat} : AncH t q → 0 < c → (c - 1) / 2 = q → AncH t c
theorem AncH.le {t p : Nat} (h : AncH t p) : t ≤ p := by
  induction h with
  | here => exact Nat.le_refl _
  | child _ h1 h2 ih => omega
theorem AncH.up {t p : Nat} (h : AncH t p) (l : t < p) : AncH t ((p - 1) / 2) := by
  cases h with
  | here => omega
  | child h1 h2 h3 => rw [h3]; exact h1
theorem AncH.zero : ∀ p, AncH 0 p := fun p => by
  induction p using Nat.strongRecOn with
  | _ p ih =>
    by_cases h : p = 0
    · rw [h]; exact .here
    · exact .child (ih ((p - 1) / 2) (by omega)) (by omega) rfl
/-- two exchanged -/
def swpH (xs : List β) (i j : Nat) (x y : β) : List β := (xs.set i y).set j x
theorem swp_get {xs : List β} {i j : Nat} {x y : β} (hi : xs[i]? = some x) (hj : xs[j]? = some y) (k : Nat) : (swpH xs i j x y)[k]? = if k = j then some x else if k = i then some y else xs[k]? := by
  have li := (List.getElem?_eq_some_iff.mp hi).1
  have lj := (List.getElem?_eq_some_iff.mp hj).1
  unfold swpH
  by_cases c : k = j
  · rw [if_pos c, c, List.getElem?_set_self (by rw [List.length_set]; exact lj)]
  · rw [if_neg c, List.getElem?_set_ne (Ne.symm c)]
    by_cases d : k = i
    · rw [if_pos d, d, List.getElem?_set_self li]
    · rw [if_neg d, List.getElem?_set_ne (Ne.symm d)]
theorem swp_len (xs : List β) (i j : Nat) (x y : β) : (swpH xs i j x y).length = xs.length := by unfold swpH; rw [List.length_set, List.length_set]
theorem swp_perm {xs : List β} {i j : Nat} {x y : β} (hi : xs[i]? = some x) (hj : xs[j]? = some y) : (swpH xs i j x y).Perm xs := by
  obtain ⟨li, ei⟩ := List.getElem?_eq_some_iff.mp hi
  obtain ⟨lj, ej⟩ := List.getElem?_eq_some_iff.mp hj
  unfold swpH
  rw [← ei, ← ej]
  exact List.set_set_perm li lj
theorem down_stepH (o : Lts lt) {xs : List β} {t p c : Nat} {x y : β} (h : HoleH lt xs t p) (tp : t ≤ p) (c0 : 0 < c) (cp : (c - 1) / 2 = p) (hc : xs[c]? = some x) (hp : xs[p]? = some y)
    (mn : ∀ i z, 0 < i → (i - 1) / 2 = p → xs[i]? = some z → lt z x = false) : HoleH lt (swpH xs c p x y) t c := by
  have g := swp_get hc hp
  refine ⟨fun i i0 ti ic pc u v hu hv => ?_, fun i i0 ic _ _ u v hu hv => ?_⟩
  · rw [g] at hu hv
    by_cases e : i = p
    · rw [if_pos e] at hv
      rw [if_neg (by omega), if_neg pc] at hu
      cases hv
      subst e
      exact h.2 c c0 cp i0 ti u x hu hc
    · rw [if_neg e, if_neg ic] at hv
      by_cases e2 : (i - 1) / 2 = p
      · rw [if_pos e2] at hu
        cases hu
        exact mn i v i0 e2 hv
      · rw [if_neg e2, if_neg pc] at hu
        exact h.1 i i0 ti e e2 u v hu hv
  · rw [g] at hu hv
    rw [if_pos cp] at hu
    rw [if_neg (by omega), if_neg (by omega)] at hv
    cases hu
    exact h.1 i i0 (by omega) (by omega) (by omega) x v (by rw [ic]; exact hc) hv
theorem down_endH {xs : List β} {t p : Nat} (h : HoleH lt xs t p) (hp : xs.length / 2 ≤ p) : UpH lt xs t p := by
  refine ⟨fun i i0 ti ip => ?_, h.2⟩
  by_cases e : (i - 1) / 2 = p
  · intro u v hu hv
    have := (List.getElem?_eq_some_iff.mp hv).1
    omega
  · exact h.1 i i0 ti ip e
theorem up_stepH (o : Lts lt) {xs : List β} {t p : Nat} {x y : β} (h : UpH lt xs t p) (tp : t ≤ (p - 1) / 2) (p0 : 0 < p) (hq : xs[(p - 1) / 2]? = some x) (hp : xs[p]? = some y) (l : lt y x = true) : UpH lt (swpH xs ((p - 1) / 2) p x y) t ((p - 1) / 2) := by
  have g := swp_get hq hp
  have l2 := o.asym _ _ l
  refine ⟨fun i i0 ti iq u v hu hv => ?_, fun i i0 ic q0 tq u v hu hv => ?_⟩
  · rw [g] at hu hv
    by_cases e : i = p
    · rw [if_pos e] at hv
      cases hv
      subst e
      rw [if_neg (by omega), if_pos rfl] at hu
      cases hu
      exact l2
    · rw [if_neg e, if_neg iq] at hv
      by_cases e2 : (i - 1) / 2 = p
      · rw [if_pos e2] at hu
        cases hu
        exact h.2 i i0 e2 p0 tp x v hq hv
      · rw [if_neg e2] at hu
        by_cases e3 : (i - 1) / 2 = (p - 1) / 2
        · rw [if_pos e3] at hu
          cases hu
          exact o.tr y x v l2 (h.1 i i0 ti e x v (by rw [e3]; exact hq) hv)
        · rw [if_neg e3] at hu
          exact h.1 i i0 ti e u v hu hv
  · rw [g] at hu hv
    rw [if_neg (by omega), if_neg (by omega)] at hu
    have hx := h.1 ((p - 1) / 2) q0 tq (by omega) u x hu hq
    by_cases e : i = p
    · rw [if_pos e] at hv
      cases hv
      exact hx
    · rw [if_neg e, if_neg (by omega)] at hv
      exact o.tr u x v hx (h.1 i i0 (by omega) e x v (by rw [ic]; exact hq) hv)
theorem up_endH {xs : List β} {t p : Nat} (h : UpH lt xs t p) (e : p ≤ t ∨ RelH lt xs p) : HeapT lt xs t := fun i i0 ti => by
  by_cases c : i = p
  · rcases e with e | e
    · omega
    · rw [c]; exact e
  · exact h.1 i i0 ti c
theorem next_topH {xs : List β} {t : Nat} (h : HeapT lt xs t) (t0 : 0 < t) : HoleH lt xs (t - 1) (t - 1) := by
  refine ⟨fun i i0 ti ip pc => h i i0 (by omega), fun i i0 _ _ tq => ?_⟩
  omega
theorem half_heapH (xs : List β) : HeapT lt xs (xs.length / 2) := fun i i0 ti u v hu hv => by
  have := (List.getElem?_eq_some_iff.mp hv).1
  omega
theorem heap_minH (o : Lts lt) {xs : List β} (h : HeapT lt xs 0) {x : β} (h0 : xs[0]? = some x) : ∀ (i : Nat) (y : β), xs[i]? = some y → lt y x = false := fun i => by
  induction i using Nat.strongRecOn with
  | _ i ih =>
    intro y hy
    by_cases c : i = 0
    · rw [c, h0] at hy
      cases hy
      exact o.irr x
    · have li := (List.getElem?_eq_some_iff.mp hy).1
      obtain ⟨z, hz⟩ : ∃ z, xs[(i - 1) / 2]? = some z := ⟨_, List.getElem?_eq_getElem (show (i - 1) / 2 < xs.length by omega)⟩
      exact o.tr x z y (ih _ (by omega) z hz) (h i (by omega) (Nat.zero_le _) z y hz hy)
/-- a new last one -/
theorem push_upH {xs : List β} (h : HeapT lt xs 0) (x : β) : UpH lt (xs ++ [x]) 0 xs.length := by
  have old : ∀ (i : Nat) (y : β), i ≠ xs.length → (xs ++ [x])[i]? = some y → xs[i]? = some y := fun i y ne hy => by
    have := (List.getElem?_eq_some_iff.mp hy).1
    rw [List.length_append] at this
    have : i < xs.length + 1 := this
    rw [List.getElem?_append_left (by omega)] at hy
    exact hy
  refine ⟨fun i i0 ti ip u v hu hv => ?_, fun i i0 ic _ _ u v hu hv => ?_⟩
  · have li := (List.getElem?_eq_some_iff.mp hv).1
    rw [List.length_append] at li
    have li : i < xs.length + 1 := li
    exact h i i0 ti u v (old _ _ (by omega) hu) (old _ _ ip hv)
  · have li := (List.getElem?_eq_some_iff.mp hv).1
    rw [List.length_append] at li
    have li : i < xs.length + 1 := li
    omega
/-- the last one in place of the first -/
theorem pop_holeH {xs : List β} {z : β} (h : HeapT lt (xs ++ [z]) 0) : HoleH lt (xs.set 0 z) 0 0 := by
  refine ⟨fun i i0 ti ip pc u v hu hv => ?_, fun i i0 ic c0 => by omega⟩
  rw [List.getElem?_set_ne (by omega)] at hu hv
  have lv := (List.getElem?_eq_some_iff.mp hv).1
  exact h i i0 (Nat.zero_le _) u v (by rw [List.getElem?_append_left (by omega)]; exact hu) (by rw [List.getElem?_append_left lv]; exact hv)
end Gx

namespace Gx
open PySem PySem.Spec PyProof.Rows L2
section
variable {prog : Program} {w : World} {A : Around} {R : Result → Shared → Prop} {a : Addr} {β : Type} {lt : β → β → Bool} {val : β → Value}
abbrev LsAt (h : Heap) (a : Addr) (val : β → Value) (xs : List β) (n : Nat) : Prop := h.get? a = some (seqObj "list" (xs.map val).toArray n)
/-- comparing, in any heap that differs only at the list -/
def CmpH (A : Around) (lt : β → β → Bool) (val : β → Value) (a : Addr) (s : Shared) (xs : List β) : Prop := ∀ (h' : Heap), (∀ b, b ≠ a → h'.get? b = s.heap.get? b) → ∀ x ∈ xs, ∀ y ∈ xs, Ob.RcOp .Lt A { s with heap := h' } (val x) (val y) (lt x y)
def siftC (a : Addr) (down : Bool) (p t : Nat) (res : Value) : Code := .builtin "_heapq.heapify.sift" ⟨[.ref a, .bool false, .bool down, rawInt p, rawInt t, res, rawInt ((t : Int) - 1)], []⟩
theorem swap_at {h : Heap} {val : β → Value} {xs : List β} {n i j : Nat} {x y : β} (e : LsAt h a val xs n) (hi : xs[i]? = some x) (hj : xs[j]? = some y) : ∃ n', LsAt (h.update a (Obj.mapSeq fun zs => (zs.setIfInBounds i (val y)).setIfInBounds j (val x))) a val (swpH xs i j x y) n' := by
  refine ⟨n, ?_⟩
  unfold LsAt
  rw [Heap.get?_update_self _ e (by rfl)]
  unfold swpH
  simp [Obj.mapSeq, seqObj, List.setIfInBounds_toArray, List.map_set]
theorem sift_ok (o : Lts lt) (res : Value) : ∀ (M : Nat) (down : Bool) (p t : Nat) (xs : List β) (n : Nat) (s : Shared), t * (3 * xs.length + 3) + (if down then (xs.length + 1) + (xs.length - p) else p) = M → LsAt s.heap a val xs n → p < xs.length → AncH t p → (if down = true then HoleH lt xs t p else UpH lt xs t p) →
    xs.length ≤ sizeLine → CmpH A.in1 lt val a s xs →
    (∀ (xs' : List β) h' n', xs'.Perm xs → HeapT lt xs' 0 → LsAt h' a val xs' n' → (∀ b, b ≠ a → h'.get? b = s.heap.get? b) → h'.objs.size = s.heap.objs.size → R (.ok (.ret res)) { s with heap := h' }) →
    codeAny (model prog w) A (siftC a down p t res) R s := by
  intro M
  induction M using Nat.strongRecOn with
  | _ M ih =>
    intro down p t xs n s hM e pl an hh hz hc fin
    refine codeAny_builtin hq_entS ?_
    rw [Around.under_plainId hq_plS _]
    show wpAny _ A.in1 ((seqItems? (.ref a) >>= _) >>= _) _ _ s
    refine wpAny_bind (wpAny_bind (wpAny_seqItems e rfl (wpAny_pure ?_)))
    have es : (List.map val xs).toArray.size = xs.length := by simp
    cases down with
    | true =>
      simp only [if_true] at hh hM
      simp only [Int.toNat_natCast, es, if_true, Bool.false_eq_true, if_false, gt_iff_lt]
      by_cases c : p < xs.length / 2
      · rw [if_pos c]
        by_cases c2 : 2 * p + 1 + 1 < xs.length
        · rw [if_pos c2]
          obtain ⟨x, hx⟩ : ∃ x, xs[2 * p + 1]? = some x := ⟨_, List.getElem?_eq_getElem (by omega)⟩
          obtain ⟨z, hr⟩ : ∃ z, xs[2 * p + 1 + 1]? = some z := ⟨_, List.getElem?_eq_getElem c2⟩
          obtain ⟨y, hy⟩ : ∃ y, xs[p]? = some y := ⟨_, List.getElem?_eq_getElem pl⟩
          refine wpAny_bind ?_
          show wpAny _ _ (match (List.map val xs).toArray[2 * p + 1]? with | some v => pure v | none => _) _ _ _
          rw [show (List.map val xs).toArray[2 * p + 1]? = some (val x) by rw [List.getElem?_toArray, List.getElem?_map, hx]; rfl]
          refine wpAny_pure ?_
          refine wpAny_bind ?_
          show wpAny _ _ (match (List.map val xs).toArray[2 * p + 1 + 1]? with | some v => pure v | none => _) _ _ _
          rw [show (List.map val xs).toArray[2 * p + 1 + 1]? = some (val z) by rw [List.getElem?_toArray, List.getElem?_map, hr]; rfl]
          refine wpAny_pure ?_
          refine wpAny_bind ?_
          show wpAny _ _ (holding [val x, val z] (richCompare .Lt (val x) (val z) >>= _) >>= _) _ _ _
          refine wpAny_bind (wpAny_holding (wpAny_bind (hc s.heap (fun _ _ => rfl) x (List.mem_of_getElem? hx) z (List.mem_of_getElem? hr) _ _ _ _ ?_)))
          refine wpAny_truthy_bool ?_
          show wpAny _ _ ((seqItems? (.ref a) >>= _) >>= _) _ _ _
          refine wpAny_bind (wpAny_bind (wpAny_seqItems e rfl (wpAny_pure ?_)))
          rw [es, if_neg (show ¬((xs.length != xs.length) = true) by simp)]
          refine wpAny_pure ?_
          cases hl : lt x z with
          | true =>
            rw [if_neg (by simp)]
            have mnL : ∀ i u, 0 < i → (i - 1) / 2 = p → xs[i]? = some u → lt u x = false := fun i u i0 ip hu => by
              have : i = 2 * p + 1 ∨ i = 2 * p + 1 + 1 := by omega
              rcases this with rfl | rfl
              · rw [hx] at hu; cases hu; exact o.irr x
              · rw [hr] at hu; cases hu; exact o.asym _ _ hl
            refine wpAny_bind ?_
            show wpAny _ _ ((seqItems? (.ref a) >>= _) >>= _) _ _ _
            refine wpAny_bind (wpAny_bind (wpAny_seqItems e rfl (wpAny_pure ?_)))
            refine wpAny_bind ?_
            show wpAny _ _ (match (List.map val xs).toArray[2 * p + 1]? with | some v => pure v | none => _) _ _ _
            rw [show (List.map val xs).toArray[2 * p + 1]? = some (val x) by rw [List.getElem?_toArray, List.getElem?_map, hx]; rfl]
            refine wpAny_pure ?_
            refine wpAny_bind ?_
            show wpAny _ _ (match (List.map val xs).toArray[p]? with | some v => pure v | none => _) _ _ _
            rw [show (List.map val xs).toArray[p]? = some (val y) by rw [List.getElem?_toArray, List.getElem?_map, hy]; rfl]
            refine wpAny_pure ?_
            obtain ⟨n', e'⟩ := swap_at e hx hy
            refine wpAny_updateSeq e rfl ?_ (by rw [es]; exact hz) (by rw [Array.size_setIfInBounds, Array.size_setIfInBounds, es]; omega)
            refine wpAny_pure ⟨plainId_quiet hq_plS _, ?_⟩
            have pm := swp_perm hx hy
            have sl := swp_len xs (2 * p + 1) p x y
            refine ih _ ?_ true (2 * p + 1) t (swpH xs (2 * p + 1) p x y) n' _ rfl e' (by rw [sl]; omega) (.child an (by omega) (by omega)) (by simp only [if_true]; exact down_stepH o hh an.le (by omega) (by omega) hx hy fun i u i0 ip hu => mnL i u i0 ip hu) (by rw [sl]; exact hz) (fun h' hk x hx y hy => hc h' (fun b hb => (hk b hb).trans (Heap.get?_update_other _ _ (Ne.symm hb))) x (pm.mem_iff.mp hx) y (pm.mem_iff.mp hy)) (fun xs' h' n2 p1 p2 p3 p4 p5 => fin xs' h' n2 (p1.trans pm) p2 p3 (fun b hb => (p4 b hb).trans (Heap.get?_update_other _ _ (Ne.symm hb))) (p5.trans (Heap.size_update _ _ _)))
            rw [sl]
            simp only [Bool.false_eq_true, if_false, if_true]
            omega
          | false =>
            rw [if_pos (by simp)]
            have mnL : ∀ i u, 0 < i → (i - 1) / 2 = p → xs[i]? = some u → lt u z = false := fun i u i0 ip hu => by
              have : i = 2 * p + 1 ∨ i = 2 * p + 1 + 1 := by omega
              rcases this with rfl | rfl
              · rw [hx] at hu; cases hu; exact hl
              · rw [hr] at hu; cases hu; exact o.irr z
            refine wpAny_bind ?_
            show wpAny _ _ ((seqItems? (.ref a) >>= _) >>= _) _ _ _
            refine wpAny_bind (wpAny_bind (wpAny_seqItems e rfl (wpAny_pure ?_)))
            refine wpAny_bind ?_
            show wpAny _ _ (match (List.map val xs).toArray[2 * p + 1 + 1]? with | some v => pure v | none => _) _ _ _
            rw [show (List.map val xs).toArray[2 * p + 1 + 1]? = some (val z) by rw [List.getElem?_toArray, List.getElem?_map, hr]; rfl]
            refine wpAny_pure ?_
            refine wpAny_bind ?_
            show wpAny _ _ (match (List.map val xs).toArray[p]? with | some v => pure v | none => _) _ _ _
            rw [show (List.map val xs).toArray[p]? = some (val y) by rw [List.getElem?_toArray, List.getElem?_map, hy]; rfl]
            refine wpAny_pure ?_
            obtain ⟨n', e'⟩ := swap_at e hr hy
            refine wpAny_updateSeq e rfl ?_ (by rw [es]; exact hz) (by rw [Array.size_setIfInBounds, Array.size_setIfInBounds, es]; omega)
            refine wpAny_pure ⟨plainId_quiet hq_plS _, ?_⟩
            have pm := swp_perm hr hy
            have sl := swp_len xs (2 * p + 1 + 1) p z y
            refine ih _ ?_ true (2 * p + 1 + 1) t (swpH xs (2 * p + 1 + 1) p z y) n' _ rfl e' (by rw [sl]; omega) (.child an (by omega) (by omega)) (by simp only [if_true]; exact down_stepH o hh an.le (by omega) (by omega) hr hy fun i u i0 ip hu => mnL i u i0 ip hu) (by rw [sl]; exact hz) (fun h' hk x hx y hy => hc h' (fun b hb => (hk b hb).trans (Heap.get?_update_other _ _ (Ne.symm hb))) x (pm.mem_iff.mp hx) y (pm.mem_iff.mp hy)) (fun xs' h' n2 p1 p2 p3 p4 p5 => fin xs' h' n2 (p1.trans pm) p2 p3 (fun b hb => (p4 b hb).trans (Heap.get?_update_other _ _ (Ne.symm hb))) (p5.trans (Heap.size_update _ _ _)))
            rw [sl]
            simp only [Bool.false_eq_true, if_false, if_true]
            omega
        · rw [if_neg c2]
          obtain ⟨x, hx⟩ : ∃ x, xs[2 * p + 1]? = some x := ⟨_, List.getElem?_eq_getElem (by omega)⟩
          obtain ⟨y, hy⟩ : ∃ y, xs[p]? = some y := ⟨_, List.getElem?_eq_getElem pl⟩
          have mnL : ∀ i u, 0 < i → (i - 1) / 2 = p → xs[i]? = some u → lt u x = false := fun i u i0 ip hu => by
            have := (List.getElem?_eq_some_iff.mp hu).1
            have : i = 2 * p + 1 := by omega
            subst this
            rw [hx] at hu
            cases hu
            exact o.irr x
          refine wpAny_bind ?_
          show wpAny _ _ ((seqItems? (.ref a) >>= _) >>= _) _ _ _
          refine wpAny_bind (wpAny_bind (wpAny_seqItems e rfl (wpAny_pure ?_)))
          refine wpAny_bind ?_
          show wpAny _ _ (match (List.map val xs).toArray[2 * p + 1]? with | some v => pure v | none => _) _ _ _
          rw [show (List.map val xs).toArray[2 * p + 1]? = some (val x) by rw [List.getElem?_toArray, List.getElem?_map, hx]; rfl]
          refine wpAny_pure ?_
          refine wpAny_bind ?_
          show wpAny _ _ (match (List.map val xs).toArray[p]? with | some v => pure v | none => _) _ _ _
          rw [show (List.map val xs).toArray[p]? = some (val y) by rw [List.getElem?_toArray, List.getElem?_map, hy]; rfl]
          refine wpAny_pure ?_
          obtain ⟨n', e'⟩ := swap_at e hx hy
          refine wpAny_updateSeq e rfl ?_ (by rw [es]; exact hz) (by rw [Array.size_setIfInBounds, Array.size_setIfInBounds, es]; omega)
          refine wpAny_pure ⟨plainId_quiet hq_plS _, ?_⟩
          have pm := swp_perm hx hy
          have sl := swp_len xs (2 * p + 1) p x y
          refine ih _ ?_ true (2 * p + 1) t (swpH xs (2 * p + 1) p x y) n' _ rfl e' (by rw [sl]; omega) (.child an (by omega) (by omega)) (by simp only [if_true]; exact down_stepH o hh an.le (by omega) (by omega) hx hy fun i u i0 ip hu => mnL i u i0 ip hu) (by rw [sl]; exact hz) (fun h' hk x hx y hy => hc h' (fun b hb => (hk b hb).trans (Heap.get?_update_other _ _ (Ne.symm hb))) x (pm.mem_iff.mp hx) y (pm.mem_iff.mp hy)) (fun xs' h' n2 p1 p2 p3 p4 p5 => fin xs' h' n2 (p1.trans pm) p2 p3 (fun b hb => (p4 b hb).trans (Heap.get?_update_other _ _ (Ne.symm hb))) (p5.trans (Heap.size_update _ _ _)))
          rw [sl]
          simp only [Bool.false_eq_true, if_false, if_true]
          omega
      · rw [if_neg c]
        refine wpAny_pure ⟨plainId_quiet hq_plS _, ?_⟩
        exact ih _ (by simp only [Bool.false_eq_true, if_false]; omega) false p t xs n s rfl e pl an (by simp only [Bool.false_eq_true, if_false]; exact down_endH hh (by omega)) hz hc fin
    | false =>
      simp only [Bool.false_eq_true, if_false] at hh hM
      simp only [Int.toNat_natCast, es, if_true, Bool.false_eq_true, if_false, gt_iff_lt]
      have fini : HeapT lt xs t → t ≠ 0 → codeAny (model prog w) A (siftC a true (t - 1) (t - 1) res) R s := fun ht t0 => by
        have tp := an.le
        have m1 : (t - 1) * (3 * xs.length + 3) + (3 * xs.length + 3) = t * (3 * xs.length + 3) := by
          rw [← Nat.succ_mul]
          congr 1
          omega
        refine ih _ ?_ true (t - 1) (t - 1) xs n s rfl e (by omega) .here (by simp only [if_true]; exact next_topH ht (by omega)) hz hc fin
        simp only [if_true]
        omega
      have et : ((t : Int) - 1).toNat = t - 1 := by omega
      by_cases c : t < p
      · rw [if_pos c]
        obtain ⟨y, hy⟩ : ∃ y, xs[p]? = some y := ⟨_, List.getElem?_eq_getElem pl⟩
        obtain ⟨x, hx⟩ : ∃ x, xs[(p - 1) / 2]? = some x := ⟨_, List.getElem?_eq_getElem (by omega)⟩
        have an2 := an.up c
        refine wpAny_bind ?_
        show wpAny _ _ (match (List.map val xs).toArray[p]? with | some v => pure v | none => _) _ _ _
        rw [show (List.map val xs).toArray[p]? = some (val y) by rw [List.getElem?_toArray, List.getElem?_map, hy]; rfl]
        refine wpAny_pure ?_
        refine wpAny_bind ?_
        show wpAny _ _ (match (List.map val xs).toArray[(p - 1) / 2]? with | some v => pure v | none => _) _ _ _
        rw [show (List.map val xs).toArray[(p - 1) / 2]? = some (val x) by rw [List.getElem?_toArray, List.getElem?_map, hx]; rfl]
        refine wpAny_pure ?_
        refine wpAny_bind ?_
        show wpAny _ _ (holding [val y, val x] (richCompare .Lt (val y) (val x) >>= _) >>= _) _ _ _
        refine wpAny_bind (wpAny_holding (wpAny_bind (hc s.heap (fun _ _ => rfl) y (List.mem_of_getElem? hy) x (List.mem_of_getElem? hx) _ _ _ _ ?_)))
        refine wpAny_truthy_bool ?_
        show wpAny _ _ ((seqItems? (.ref a) >>= _) >>= _) _ _ _
        refine wpAny_bind (wpAny_bind (wpAny_seqItems e rfl (wpAny_pure ?_)))
        rw [es, if_neg (show ¬((xs.length != xs.length) = true) by simp)]
        refine wpAny_pure ?_
        cases hl : lt y x with
        | true =>
          rw [if_pos rfl]
          refine wpAny_bind ?_
          show wpAny _ _ ((seqItems? (.ref a) >>= _) >>= _) _ _ _
          refine wpAny_bind (wpAny_bind (wpAny_seqItems e rfl (wpAny_pure ?_)))
          refine wpAny_bind ?_
          show wpAny _ _ (match (List.map val xs).toArray[(p - 1) / 2]? with | some v => pure v | none => _) _ _ _
          rw [show (List.map val xs).toArray[(p - 1) / 2]? = some (val x) by rw [List.getElem?_toArray, List.getElem?_map, hx]; rfl]
          refine wpAny_pure ?_
          refine wpAny_bind ?_
          show wpAny _ _ (match (List.map val xs).toArray[p]? with | some v => pure v | none => _) _ _ _
          rw [show (List.map val xs).toArray[p]? = some (val y) by rw [List.getElem?_toArray, List.getElem?_map, hy]; rfl]
          refine wpAny_pure ?_
          obtain ⟨n', e'⟩ := swap_at e hx hy
          refine wpAny_updateSeq e rfl ?_ (by rw [es]; exact hz) (by rw [Array.size_setIfInBounds, Array.size_setIfInBounds, es]; omega)
          refine wpAny_pure ⟨plainId_quiet hq_plS _, ?_⟩
          have pm := swp_perm hx hy
          have sl := swp_len xs ((p - 1) / 2) p x y
          refine ih _ ?_ false ((p - 1) / 2) t (swpH xs ((p - 1) / 2) p x y) n' _ rfl e' (by rw [sl]; omega) an2 (by simp only [Bool.false_eq_true, if_false]; exact up_stepH o hh an2.le (by omega) hx hy hl) (by rw [sl]; exact hz) (fun h' hk x hx y hy => hc h' (fun b hb => (hk b hb).trans (Heap.get?_update_other _ _ (Ne.symm hb))) x (pm.mem_iff.mp hx) y (pm.mem_iff.mp hy)) (fun xs' h' n2 p1 p2 p3 p4 p5 => fin xs' h' n2 (p1.trans pm) p2 p3 (fun b hb => (p4 b hb).trans (Heap.get?_update_other _ _ (Ne.symm hb))) (p5.trans (Heap.size_update _ _ _)))
          rw [sl]
          simp only [Bool.false_eq_true, if_false, if_true]
          omega
        | false =>
          rw [if_neg (by simp)]
          have := up_endH hh (.inr fun u v hu hv => by
            rw [hx] at hu
            rw [hy] at hv
            cases hu
            cases hv
            exact hl)
          by_cases t0 : t = 0
          · rw [if_pos (by omega)]
            subst t0
            exact wpAny_pure (fin xs s.heap n (List.Perm.refl _) this e (fun _ _ => rfl) rfl)
          · rw [if_neg (by omega), et, show (t : Int) - 1 - 1 = ((t - 1 : Nat) : Int) - 1 by omega]
            exact wpAny_pure ⟨plainId_quiet hq_plS _, fini this t0⟩
      · rw [if_neg c]
        have := up_endH hh (.inl (by omega))
        by_cases t0 : t = 0
        · rw [if_pos (by omega)]
          subst t0
          exact wpAny_pure (fin xs s.heap n (List.Perm.refl _) this e (fun _ _ => rfl) rfl)
        · rw [if_neg (by omega), et, show (t : Int) - 1 - 1 = ((t - 1 : Nat) : Int) - 1 by omega]
          exact wpAny_pure ⟨plainId_quiet hq_plS _, fini this t0⟩
end
end Gx

/-! ### repr of a list in which dicts from texts to whole numbers stand -/
namespace Gx
open PySem PySem.Spec PyProof.Rows L2 GxR GenW
def encN (ps : List (Str × Int)) : PyData := .dict (ps.map fun p => (.str p.1, .int p.2))
inductive Dm (K : PySem.W.Frag) (H : Hp) : V → PyData → Prop
  | p {v : V} {d : PyData} : Dp K H v d → d.hasDict = false → Dm K H v d
  | k {a : Addr} {ps : List (Str × Int)} : H a = some (.dK (ps.map fun p => ((Sum.inr p.1 : Key), V.int p.2))) → Dm K H (.ref a) (encN ps)
inductive Dms (K : PySem.W.Frag) (H : Hp) : List V → List PyData → Prop
  | nil : Dms K H [] []
  | cons {v : V} {d : PyData} {vs : List V} {ds : List PyData} : Dm K H v d → Dms K H vs ds → Dms K H (v :: vs) (d :: ds)
section
variable {X : Cx} {pins : List (Addr × Obj)} {σ : L2.St} {H : Hp} {s : Shared}
theorem pairs_read {h : Heap} : ∀ {ps : List (Str × Int)} {vs : List (Key × Value)}, KV (ps.map fun p => ((Sum.inr p.1 : Key), V.int p.2)) vs →
    PyProof.V.PairsRead h (fun k : Key => match k with | .inl i => PyData.int i | .inr x => PyData.str x) vs (ps.map fun p => (.str p.1, .int p.2)) []
  | [], _, h => by
    unfold KV at h
    rw [List.map_nil] at h
    cases h
    exact .nil
  | p :: ps, _, h => by
    unfold KV at h
    rw [List.map_cons] at h
    cases h with
    | @cons a b as bs r t =>
      obtain ⟨k, u⟩ := b
      obtain ⟨e, t2, eu⟩ := r
      have e : Sum.inr p.1 = k := e
      have eu : u = Value.int p.2 t2 := eu
      subst e eu
      exact PyProof.V.PairsRead.cons (as := []) (bs := []) (Reads.int _ _) (pairs_read t)
theorem Dm.shows (I : Inv X pins σ H s) {v : V} {u : Value} {d : PyData} (h : Dm X.K H v d) (r : RelV v u) (hs : d.showable = true) (hz : d.shown.length ≤ sizeLine) :
    ∃ as bs, Reads s.heap u d as ∧ ReadAtMost s.heap d.depth bs ∧ ReprK X.prog X.w bs s.heap d.depth u d.shown := by
  cases h with
  | p hd nod =>
    obtain ⟨as, rd⟩ := Dp.reads I d v u hd r
    obtain ⟨bs, h1, h2⟩ := ReprK.of_reads (prog := X.prog) (w := X.w) rd hs (PyData.noDict_hsm nod) hz
    exact ⟨as, bs, rd, h1, h2⟩
  | @k a ps e =>
    cases r
    obtain ⟨_, lo, vs, rel, dd⟩ := dk_of I.hok e
    have rd : Reads s.heap (.ref a) (encN ps) [a] := PyProof.V.reads_dictOf (fun k key hk => by
      rcases keyIs_shape hk with ⟨i, t, rfl, rfl⟩ | ⟨x, t, rfl, rfl⟩
      · exact Reads.int i t
      · exact Reads.str x t) dd (pairs_read rel)
    obtain ⟨bs, h1, h2⟩ := ReprK.of_reads (prog := X.prog) (w := X.w) rd hs (fun _ hm => by
      rw [List.mem_singleton.mp hm] at lo
      exact absurd lo (by simp)) hz
    exact ⟨_, bs, rd, h1, h2⟩
theorem Dms.shows (I : Inv X pins σ H s) : ∀ {vs : List V} {us : List Value} {ds : List PyData}, Dms X.K H vs ds → Vals vs us → PyData.showableAll ds = true → (∀ t ∈ PyData.shownAll ds, t.length ≤ sizeLine) →
    ∃ as bs, ReadsAll s.heap us ds as ∧ ReadAtMost s.heap (PyData.depthAll ds) bs ∧ ReprAllK X.prog X.w bs s.heap (PyData.depthAll ds) us (PyData.shownAll ds)
  | _, _, _, .nil, r, _, _ => by
    cases r
    exact ⟨[], [], .nil, (fun _ h => nomatch h), by simp only [PyData.shownAll]; exact .nil⟩
  | _, _, _, .cons (d := d) (ds := ds) h t, r, hs, hz => by
    cases r with
    | cons r1 r2 =>
      rw [PyData.showableAll, Bool.and_eq_true] at hs
      obtain ⟨as, bs, a1, a2, a3⟩ := h.shows I r1 hs.1 (hz _ (by rw [PyData.shownAll]; exact List.mem_cons_self))
      obtain ⟨cs, ds', b1, b2, b3⟩ := t.shows I r2 hs.2 fun t ht => hz t (by rw [PyData.shownAll]; exact List.mem_cons_of_mem _ ht)
      refine ⟨_, bs ++ ds', .cons a1 b1, (a2.mono ?_).append (b2.mono ?_), ?_⟩
      · rw [PyData.depthAll]
        exact Nat.le_max_left _ _
      · rw [PyData.depthAll]
        exact Nat.le_max_right _ _
      · rw [PyData.shownAll, PyData.depthAll]
        exact .cons ((a3.more fun b hb => List.mem_append_left _ hb).level_le (Nat.le_max_left _ _)) (b3.more_le (fun b hb => List.mem_append_right _ hb) (Nat.le_max_right _ _))
end
section
variable {X : Cx}
def rReprM (K : PySem.W.Frag) : List V → Hp → VK → Prop := fun xs H Q => ∃ (L : Addr) (v : V) (vs : List V) (ds : List PyData), xs = [.ref L] ∧ H L = some (.lst (v :: vs)) ∧ Dms K H (v :: vs) ds ∧ PyData.showableAll ds = true ∧
  PyData.depthAll ds ≤ 60 ∧ (PyData.list ds).shown.length ≤ sizeLine ∧ Q (.str (PyData.list ds).shown) H
theorem cr_reprM (g : X.A.guards = some []) (hu : X.A.units + 64 < cLine) : CallR X (.builtin "repr") (rReprM X.K) := by
  intro pins s σ H xs us Q I r h
  obtain ⟨L, v, vs, ds, rfl, hL, hD, hs, hd, hz, q⟩ := h
  obtain ⟨u, rfl, rx⟩ : ∃ u, us = [u] ∧ RelV (.ref L) u := by
    cases r with
    | cons r1 r2 => cases r2; exact ⟨_, rfl, r1⟩
  cases rx
  obtain ⟨z, its, n, ri, hl, e⟩ := I.lstM hL
  have hz2 : (listText (PyData.shownAll ds)).length ≤ sizeLine := by simpa only [PyData.shown] using hz
  obtain ⟨as, bs, a1, a2, a3⟩ := hD.shows I ri hs fun t ht => Nat.le_trans (listText_mem_le ht) hz2
  have rd : Reads s.heap (.ref L) (.list ds) (L :: as) := Reads.list e rfl rfl (by simpa using a1)
  have hna : L ∉ bs := not_mem_of_deeper rd (by simp only [PyData.depth]; omega) a2
  cases ri with
  | @cons _ y _ ys r1 r2 =>
    refine call_repr_slot (T := "list") (by omega) ⟨_, e, rfl⟩ F.slot_list_repr.toG ?_
    refine call_list_reprK e rfl rfl hna (by simpa using a3.length_eq) (fun i y e => a3.item i y (by simpa using e)) g (fun b _ => Clear.nil b) (by show X.A.units + 1 + (_ + 1) < cLine; omega) (fun _ _ e => e) (fun h' u tk hk => ?_) hz2
    refine ⟨_, _, rfl, .str _, H, I.kept hk, ⟨_, rfl⟩, ?_⟩
    have : (PyData.list ds).shown = listText (PyData.shownAll ds) := by simp only [PyData.shown]
    rw [this] at q
    exact q
end
end Gx

/-! ### tuples in which dicts with text keys stand: repr, == -/
namespace Gx
open PySem PySem.Spec PyProof.Rows L2 GxR GenW
inductive KvD (K : PySem.W.Frag) (H : Hp) : List (Key × V) → List (Str × PyData) → Prop
  | nil : KvD K H [] []
  | cons {x : Str} {v : V} {d : PyData} {r : List (Key × V)} {t : List (Str × PyData)} : Dp K H v d → d.hasDict = false → KvD K H r t → KvD K H ((Sum.inr x, v) :: r) ((x, d) :: t)
def dicD (ps : List (Str × PyData)) : PyData := .dict (ps.map fun p => (.str p.1, p.2))
/-- data, or a dict of data -/
inductive Di (K : PySem.W.Frag) (H : Hp) : V → PyData → Prop
  | p {v : V} {d : PyData} : Dp K H v d → d.hasDict = false → Di K H v d
  | k {a : Addr} {kvs : List (Key × V)} {ps : List (Str × PyData)} : H a = some (.dK kvs) → KvD K H kvs ps → Di K H (.ref a) (dicD ps)
inductive Dis (K : PySem.W.Frag) (H : Hp) : List V → List PyData → Prop
  | nil : Dis K H [] []
  | cons {v : V} {d : PyData} {vs : List V} {ds : List PyData} : Di K H v d → Dis K H vs ds → Dis K H (v :: vs) (d :: ds)
theorem kvd_plain {K : PySem.W.Frag} {H : Hp} {kvs : List (Key × V)} {ps : List (Str × PyData)} (h : KvD K H kvs ps) : PyData.hasDictAll ((ps.map fun p => ((.str p.1 : PyData), p.2)).map (·.2)) = false ∧ PyData.hasDictAll ((ps.map fun p => ((.str p.1 : PyData), p.2)).map (·.1)) = false := by
  induction h with
  | nil => exact ⟨rfl, rfl⟩
  | cons h1 h2 _ ih =>
    refine ⟨?_, ?_⟩
    · rw [List.map_cons, List.map_cons, PyData.hasDictAll, ih.1, h2]
      rfl
    · rw [List.map_cons, List.map_cons, PyData.hasDictAll, ih.2]
      rfl
section
variable {X : Cx} {pins : List (Addr × Obj)} {σ : L2.St} {H : Hp} {s : Shared}
theorem kvd_read (I : Inv X pins σ H s) {kvs : List (Key × V)} {ps : List (Str × PyData)} (h : KvD X.K H kvs ps) : ∀ {vs : List (Key × Value)}, KV kvs vs →
    ∃ bs, PyProof.V.PairsRead s.heap (fun k : Key => match k with | .inl i => PyData.int i | .inr x => PyData.str x) vs (ps.map fun p => (.str p.1, p.2)) bs := by
  induction h with
  | nil =>
    intro vs r
    cases r
    exact ⟨[], .nil⟩
  | cons h1 h2 _ ih =>
    intro vs r
    cases r with
    | @cons a b as bs r t =>
      obtain ⟨k, u⟩ := b
      obtain ⟨e, ru⟩ := r
      have e : Sum.inr _ = k := e
      subst e
      obtain ⟨as, rd⟩ := Dp.reads I _ _ u h1 ru
      obtain ⟨bs, pb⟩ := ih t
      exact ⟨_, .cons rd pb⟩
theorem Di.shows (I : Inv X pins σ H s) {v : V} {u : Value} {d : PyData} (h : Di X.K H v d) (r : RelV v u) (hs : d.showable = true) (hz : d.shown.length ≤ sizeLine) :
    ∃ as bs, Reads s.heap u d as ∧ ReadAtMost s.heap d.depth bs ∧ ReprK X.prog X.w bs s.heap d.depth u d.shown := by
  cases h with
  | p hd nod =>
    obtain ⟨as, rd⟩ := Dp.reads I d v u hd r
    obtain ⟨bs, h1, h2⟩ := ReprK.of_reads (prog := X.prog) (w := X.w) rd hs (PyData.noDict_hsm nod) hz
    exact ⟨as, bs, rd, h1, h2⟩
  | @k a kvs ps e kd =>
    cases r
    obtain ⟨_, lo, vs, rel, o, es, ep, ho, hx, hdat, c1, hp, c2⟩ := dk_of I.hok e
    obtain ⟨bs0, pr⟩ := kvd_read I kd rel
    obtain ⟨r1, r2⟩ := PyProof.V.readsAll_of_pairs (fun k key hk => by
      rcases keyIs_shape hk with ⟨i, t, rfl, rfl⟩ | ⟨x, t, rfl, rfl⟩
      · exact Reads.int i t
      · exact Reads.str x t) hp pr
    have rd : Reads s.heap (.ref a) (dicD ps) _ := Reads.dict ho hx.1 hdat r1 r2
    have big : (dictText (PyData.shownKv (ps.map fun p => ((.str p.1 : PyData), p.2)))).length ≤ sizeLine := by
      have e2 : (dicD ps).shown = dictText (PyData.shownKv (ps.map fun p => ((.str p.1 : PyData), p.2))) := by
        unfold dicD
        rw [PyData.shown]
      rw [← e2]
      exact hz
    obtain ⟨s1, s2⟩ := PyData.showableKv_split (ps.map fun p => ((.str p.1 : PyData), p.2)) (by
      unfold dicD at hs
      rwa [PyData.showable] at hs)
    obtain ⟨n2, n1⟩ := kvd_plain kd
    obtain ⟨b1, m1, k1⟩ := ReprAllK.of_readsAll (prog := X.prog) (w := X.w) r1 s1 (fun q => by rw [n1] at q; cases q) (fun t ht => by
      obtain ⟨q, hq, l⟩ := PyData.shownKv_key_le _ t ht
      exact Nat.le_trans (Nat.le_trans l (dictText_mem_le hq)) big)
    obtain ⟨b2, m2, k2⟩ := ReprAllK.of_readsAll (prog := X.prog) (w := X.w) r2 s2 (fun q => by rw [n2] at q; cases q) (fun t ht => by
      obtain ⟨q, hq, l⟩ := PyData.shownKv_val_le _ t ht
      exact Nat.le_trans (Nat.le_trans l (dictText_mem_le hq)) big)
    have dd : (dicD ps).depth = PyData.depthKv (ps.map fun p => ((.str p.1 : PyData), p.2)) + 1 := by
      unfold dicD
      rw [PyData.depth]
    have both : ReadAtMost s.heap (PyData.depthKv (ps.map fun p => ((.str p.1 : PyData), p.2))) (b1 ++ b2) := (m1.mono (PyData.depthAll_keys_le _)).append (m2.mono (PyData.depthAll_vals_le _))
    have out : a ∉ b1 ++ b2 := not_mem_of_deeper rd (by rw [dd]; omega) both
    refine ⟨_, a :: (b1 ++ b2), rd, ReadAtMost.cons rd (by rw [dd]; omega) both, ?_⟩
    rw [dd]
    unfold dicD
    rw [PyData.shown, PyData.shownKv_eq]
    exact ReprK.dict ho hx.1 hdat lo out (ReprEntriesK.of_two es.toList _ _ (k1.more_le (fun b hb => List.mem_append_left b2 hb) (PyData.depthAll_keys_le _)) (k2.more_le (fun b hb => List.mem_append_right b1 hb) (PyData.depthAll_vals_le _)))
theorem Dis.shows (I : Inv X pins σ H s) {vs : List V} {ds : List PyData} (h : Dis X.K H vs ds) : ∀ {us : List Value}, Vals vs us → PyData.showableAll ds = true → (∀ t ∈ PyData.shownAll ds, t.length ≤ sizeLine) →
    ∃ as bs, ReadsAll s.heap us ds as ∧ ReadAtMost s.heap (PyData.depthAll ds) bs ∧ ReprAllK X.prog X.w bs s.heap (PyData.depthAll ds) us (PyData.shownAll ds) := by
  induction h with
  | nil =>
    intro us r _ _
    cases r
    exact ⟨[], [], .nil, (fun _ h => nomatch h), by simp only [PyData.shownAll]; exact .nil⟩
  | @cons v d vs ds h t ih =>
    intro us r hs hz
    cases r with
    | cons r1 r2 =>
      rw [PyData.showableAll, Bool.and_eq_true] at hs
      obtain ⟨as, bs, a1, a2, a3⟩ := h.shows I r1 hs.1 (hz _ (by rw [PyData.shownAll]; exact List.mem_cons_self))
      obtain ⟨cs, ds', b1, b2, b3⟩ := ih r2 hs.2 fun t ht => hz t (by rw [PyData.shownAll]; exact List.mem_cons_of_mem _ ht)
      refine ⟨_, bs ++ ds', .cons a1 b1, (a2.mono ?_).append (b2.mono ?_), ?_⟩
      · rw [PyData.depthAll]
        exact Nat.le_max_left _ _
      · rw [PyData.depthAll]
        exact Nat.le_max_right _ _
      · rw [PyData.shownAll, PyData.depthAll]
        exact .cons ((a3.more fun b hb => List.mem_append_left _ hb).level_le (Nat.le_max_left _ _)) (b3.more_le (fun b hb => List.mem_append_right _ hb) (Nat.le_max_right _ _))
end
section
variable {X : Cx}
def rReprT (K : PySem.W.Frag) : List V → Hp → VK → Prop := fun xs H Q => ∃ (T : Addr) (vs : List V) (ds : List PyData), xs = [.ref T] ∧ SqT K H T vs ∧ Dis K H vs ds ∧ PyData.showableAll ds = true ∧
  PyData.depthAll ds ≤ 60 ∧ (PyData.tuple ds).shown.length ≤ sizeLine ∧ Q (.str (PyData.tuple ds).shown) H
theorem cr_reprT (g : X.A.guards = some []) (hu : X.A.units + 64 < cLine) : CallR X (.builtin "repr") (rReprT X.K) := by
  intro pins s σ H xs us Q I r h
  obtain ⟨T, vs, ds, rfl, hT, hD, hs, hd, hz, q⟩ := h
  obtain ⟨u, rfl, rx⟩ : ∃ u, us = [u] ∧ RelV (.ref T) u := by
    cases r with
    | cons r1 r2 => cases r2; exact ⟨_, rfl, r1⟩
  cases rx
  obtain ⟨its, ri, ⟨o, ho, hc, n, hdat⟩, hl⟩ := I.tuple hT
  have e0 : (PyData.tuple ds).shown = tupleText (PyData.shownAll ds) := by rw [PyData.shown]
  have hz2 : (tupleText (PyData.shownAll ds)).length ≤ sizeLine := by rw [← e0]; exact hz
  obtain ⟨as, bs, a1, a2, a3⟩ := hD.shows I ri hs fun t ht => Nat.le_trans (tupleText_mem_le ht) hz2
  have rd : Reads s.heap (.ref T) (.tuple ds) as := Reads.tuple ho hc hdat (by simpa using a1)
  have hna : T ∉ bs := not_mem_of_deeper rd (by simp only [PyData.depth]; omega) a2
  refine call_repr_slot (T := "tuple") (by omega) ⟨_, ho, hc⟩ F.slot_tuple_repr ?_
  refine call_tuple_reprK ho hc hdat hna (by simpa using a3) g (fun b _ => Clear.nil b) (by show X.A.units + 1 + (_ + 1) < cLine; omega) (fun _ _ e => e) (fun h' u tk hk => ?_) hz2
  refine ⟨_, _, rfl, .str _, H, I.kept hk, ⟨_, rfl⟩, ?_⟩
  rw [e0] at q
  exact q
end
/-! ### == -/
/-- the values of two dicts, key by key -/
def Hits (K : PySem.W.Frag) (H : Hp) (kvs lvs : List (Key × V)) (e : Key → Bool) : Prop := ∀ k v w, (k, v) ∈ kvs → valV lvs k = some w → ∃ d d', Dp K H v d ∧ Dp K H w d' ∧ SeqAt.shaped d = true ∧ SeqAt.shaped d' = true ∧ e k = PyData.eqv d d'
def dicE (kvs lvs : List (Key × V)) (e : Key → Bool) : Bool := kvs.length == lvs.length && kvs.all fun p => (valV lvs p.1).isSome && e p.1
inductive EqV (K : PySem.W.Frag) (H : Hp) : V → V → Bool → Prop
  | p {v w : V} {d d' : PyData} : Dp K H v d → Dp K H w d' → SeqAt.shaped d = true → SeqAt.shaped d' = true → EqV K H v w (PyData.eqv d d')
  | k {a b : Addr} {kvs lvs : List (Key × V)} {e : Key → Bool} : a ≠ b → H a = some (.dK kvs) → H b = some (.dK lvs) → Hits K H kvs lvs e → EqV K H (.ref a) (.ref b) (dicE kvs lvs e)
inductive EqVs (K : PySem.W.Frag) (H : Hp) : List V → List V → List Bool → Prop
  | nil : EqVs K H [] [] []
  | cons {v w : V} {b : Bool} {vs ws : List V} {bs : List Bool} : EqV K H v w b → EqVs K H vs ws bs → EqVs K H (v :: vs) (w :: ws) (b :: bs)
section
variable {X : Cx} {pins : List (Addr × Obj)} {σ : L2.St} {H : Hp} {s : Shared}
theorem dp_leaf (I : Inv X pins σ H s) {v w : V} {u y : Value} {d d' : PyData} (h : Dp X.K H v d) (k : Dp X.K H w d') (sd : SeqAt.shaped d = true) (se : SeqAt.shaped d' = true) (ru : RelV v u) (ry : RelV w y) :
    PySem.W.EqTree X.prog X.w s 64 u y (PyData.eqv d d') := by
  obtain ⟨as, r1⟩ := Dp.reads I d v u h ru
  obtain ⟨bs, r2⟩ := Dp.reads I d' w y k ry
  refine .leaf fun A hu => SeqAt.eqAt_reads d d' A s u y as bs r1 r2 (SeqAt.canLay_of_shaped sd) (SeqAt.canLay_of_shaped se) ?_
  have := SeqAt.depth_of_shaped sd
  have : min d.depth d'.depth ≤ d.depth := Nat.min_le_left _ _
  omega
theorem paired_mem {α β : Type} {F : α → β → Prop} : ∀ {xs : List α} {ys : List β}, Paired F xs ys → ∀ {y : β}, y ∈ ys → ∃ x, x ∈ xs ∧ F x y
  | _, _, .nil, _, h => by cases h
  | _, _, .cons r t, y, h => by
    rcases List.mem_cons.mp h with rfl | h
    · exact ⟨_, List.mem_cons_self, r⟩
    · obtain ⟨x, hx, fx⟩ := paired_mem t h
      exact ⟨x, List.mem_cons_of_mem _ hx, fx⟩
theorem EqV.tree (I : Inv X pins σ H s) {v w : V} {b : Bool} (h : EqV X.K H v w b) {u y : Value} (ru : RelV v u) (ry : RelV w y) : PySem.W.EqTree X.prog X.w s 65 u y b := by
  cases h with
  | @p _ _ d d' h1 h2 s1 s2 =>
    obtain ⟨as, r1⟩ := Dp.reads I _ v u h1 ru
    obtain ⟨bs, r2⟩ := Dp.reads I _ w y h2 ry
    refine .leaf fun A hu => SeqAt.eqAt_reads _ _ A s u y as bs r1 r2 (SeqAt.canLay_of_shaped s1) (SeqAt.canLay_of_shaped s2) ?_
    have := SeqAt.depth_of_shaped s1
    have : min d.depth d'.depth ≤ d.depth := Nat.min_le_left _ _
    omega
  | @k a b kvs lvs e ne ha hb hit =>
    cases ru
    cases ry
    obtain ⟨_, la, va, ra, da⟩ := dk_of I.hok ha
    obtain ⟨_, lb, vb, rb, db⟩ := dk_of I.hok hb
    have t := PySem.W.EqTree.dicts (prog := X.prog) (w := X.w) (s := s) (n := 64) (knd := mixKind X.prog X.w) (e := e) ne la lb da db fun k u y hm hv => by
      obtain ⟨⟨k', v⟩, hv', e1, r1⟩ := paired_mem ra hm
      have e1 : k' = k := e1
      subst e1
      have rv := rb.val k'
      rw [hv] at rv
      obtain ⟨w, hw, rw_⟩ : ∃ w, valV lvs k' = some w ∧ RelV w y := by
        cases z : valV lvs k' with
        | none =>
          rw [z] at rv
          exact absurd rv (by intro q; cases q)
        | some w =>
          rw [z] at rv
          exact ⟨w, rfl, rv⟩
      obtain ⟨d, d', p1, p2, s1, s2, ee⟩ := hit k' v w hv' hw
      rw [ee]
      exact dp_leaf I p1 p2 s1 s2 r1 rw_
    have e3 : (va.length == vb.length && va.all fun p => (valueAt vb p.1).isSome && e p.1) = dicE kvs lvs e := by
      unfold dicE
      rw [← ra.length, ← rb.length]
      congr 1
      have some_ : ∀ k, (valueAt vb k).isSome = (valV lvs k).isSome := fun k => by
        have rv := rb.val k
        cases z1 : valV lvs k with
        | none =>
          rw [z1] at rv
          cases z2 : valueAt vb k with
          | none => rfl
          | some q =>
            rw [z2] at rv
            exact absurd rv (by intro q; cases q)
        | some w =>
          rw [z1] at rv
          cases z2 : valueAt vb k with
          | none =>
            rw [z2] at rv
            exact absurd rv (by intro q; cases q)
          | some q => rfl
      have a1 : ∀ (l : List (Key × Value)), (l.all fun p => (valueAt vb p.1).isSome && e p.1) = (l.map (·.1)).all fun k => (valV lvs k).isSome && e k := fun l => by
        rw [List.all_map]
        congr 1
        funext p
        show ((valueAt vb p.1).isSome && e p.1) = ((valV lvs p.1).isSome && e p.1)
        rw [some_]
      rw [a1, ← ra.keys, List.all_map]
      rfl
    rw [← e3]
    exact t
theorem EqVs.trees (I : Inv X pins σ H s) {vs ws : List V} {bs : List Bool} (h : EqVs X.K H vs ws bs) : ∀ {us ys : List Value}, Vals vs us → Vals ws ys → us.length = bs.length ∧ ys.length = bs.length ∧
    ∀ j (h1 : j < us.length) (h2 : j < ys.length), PySem.W.EqTree X.prog X.w s 65 us[j] ys[j] (bs.getD j false) := by
  induction h with
  | nil =>
    intro us ys r1 r2
    cases r1
    cases r2
    exact ⟨rfl, rfl, fun j h1 => absurd h1 (Nat.not_lt_zero _)⟩
  | cons hb _ ih =>
    intro us ys r1 r2
    cases r1 with
    | cons a1 t1 =>
      cases r2 with
      | cons a2 t2 =>
        obtain ⟨l1, l2, t⟩ := ih t1 t2
        refine ⟨congrArg (· + 1) l1, congrArg (· + 1) l2, fun j h1 h2 => ?_⟩
        cases j with
        | zero => exact hb.tree I a1 a2
        | succ j => exact t j (Nat.lt_of_succ_lt_succ h1) (Nat.lt_of_succ_lt_succ h2)
end
section
open AutoSeq1 SeqRoads2 MeetsSeq MeetsSeq2 MeetsSeq3 SeqAt
variable {prog : Program} {w : World}
/-- tuple.__ne__ of two of one length, item by item -/
theorem ne_meets (p q : Addr) (us ys : List Value) (bs : List Bool) (n m : Nat) (od oe : Option Addr) (so sp : Array (Option Value)) (lu : us.length = bs.length) (ly : ys.length = bs.length) :
    MeetsIn prog w (Builtin.«tuple.__ne__» ⟨[.ref p, .ref q], []⟩) (fun A R s =>
      s.heap.get? p = some { cls := .type "tuple", dict := od, data := .seq us.toArray n, slots := so } ∧
      s.heap.get? q = some { cls := .type "tuple", dict := oe, data := .seq ys.toArray m, slots := sp } ∧
      (∀ (j : Nat) (u y : Value) (b : Bool), us[j]? = some u → ys[j]? = some y → bs[j]? = some b → EqIn prog w A.in1 s u y b) ∧ R (.ok (.ret (.bool (!bs.all id)))) s) := .of_wp fun A R s h => by
  obtain ⟨hp, g, d, tk, os⟩ := s
  obtain ⟨e1, e2, each, fin⟩ := h
  have sub := AutoSeq1.sub_tuple_tuple
  have zl : (us.zip ys).length = bs.length := by rw [List.length_zip, lu, ly, Nat.min_self]
  wp_walk using wpAny_loadPart' e1, wpAny_loadPart' e2, wpAny_forIn_list _ (fun left acc st => acc.1 = none ∧ st = ⟨hp, g, d, tk, os⟩ ∧ ∃ i, left = (us.zip ys).drop i ∧ R (.ok (.ret (.bool (!(bs.drop i).all id)))) ⟨hp, g, d, tk, os⟩) _
  case turn =>
    rintro ⟨u, y⟩ left acc st ⟨ha, rfl, i, hz, hr⟩
    have hi : i < (us.zip ys).length := Nat.lt_of_not_le fun z => by
      rw [List.drop_of_length_le z] at hz
      cases hz
    have hb : i < bs.length := by omega
    have at_ : (us.zip ys)[i]? = some (u, y) := by
      have := congrArg List.head? hz
      rw [List.head?_cons, List.head?_drop] at this
      exact this.symm
    have tl : left = (us.zip ys).drop (i + 1) := by
      have := congrArg List.tail hz
      rw [List.tail_cons, List.tail_drop] at this
      exact this
    obtain ⟨a1, a2⟩ := List.getElem?_zip_eq_some.mp at_
    have bd : bs.drop i = bs[i] :: bs.drop (i + 1) := List.drop_eq_getElem_cons hb
    rw [bd, List.all_cons] at hr
    refine wpAny_bind (each i u y bs[i] a1 a2 (List.getElem?_eq_getElem hb) _ _ ?_)
    cases cb : bs[i] with
    | true =>
      rw [cb] at hr
      wp_walk
      exact ⟨rfl, rfl, i + 1, tl, by simpa using hr⟩
    | false =>
      rw [cb] at hr
      wp_walk
      exact ⟨_, rfl, by simpa using hr⟩
  case fin =>
    rintro ⟨c1, c2⟩ st ⟨hc, rfl, i, hz, hr⟩
    have hc : c1 = none := hc
    subst hc
    have hi : bs.length ≤ i := Nat.le_of_not_lt fun z => by
      rw [List.drop_eq_getElem_cons (by omega : i < (us.zip ys).length)] at hz
      cases hz
    rw [List.drop_of_length_le hi] at hr
    wp_walk
    refine ⟨_, rfl, ?_⟩
    simpa [Builtin.Tuple.tupleCompareSizes, bne, lu, ly] using hr
  case h =>
    exact ⟨rfl, rfl, 0, by simp, by simpa using fin⟩
end
section
variable {X : Cx}
def rEqT (K : PySem.W.Frag) : R2 := fun x y H Q => ∃ (a b : Addr) (vs ws : List V) (bs : List Bool), x = .ref a ∧ y = .ref b ∧ SqT K H a vs ∧ SqT K H b ws ∧ EqVs K H vs ws bs ∧ Q (.bl (bs.all id)) H
def rNeT (K : PySem.W.Frag) : R2 := fun x y H Q => ∃ (a b : Addr) (vs ws : List V) (bs : List Bool), x = .ref a ∧ y = .ref b ∧ SqT K H a vs ∧ SqT K H b ws ∧ EqVs K H vs ws bs ∧ Q (.bl (!bs.all id)) H
theorem all_range {bs : List Bool} : ((List.range bs.length).all fun j => bs.getD j false) = bs.all id := by
  induction bs with
  | nil => rfl
  | cons b r ih =>
    rw [List.length_cons, List.range_succ_eq_map, List.all_cons, List.all_cons, ← ih, List.all_map]
    rfl
theorem op_eqT (hu : X.A.units + 128 < cLine) : OpR X (compareOp .Eq) (rEqT X.K) := by
  intro pins s σ H x y v u Q I rx ry h
  obtain ⟨a, b, vs, ws, bs, rfl, rfl, ha, hb, he, q⟩ := h
  cases rx
  cases ry
  obtain ⟨i1, r1, ⟨o1, x1, x2, n1, x3⟩, _⟩ := I.tuple ha
  obtain ⟨i2, r2, ⟨o2, y1, y2, n2, y3⟩, _⟩ := I.tuple hb
  obtain ⟨l1, l2, t⟩ := he.trees I r1 r2
  refine PySem.W.eq_tuplesT (n := 65) (e := fun j => bs.getD j false) ⟨o1, x1, x2, n1, x3⟩ ⟨o2, y1, y2, n2, y3⟩ (fun j h1 h2 => by simpa using t j (by simpa using h1) (by simpa using h2)) (by omega) ?_
  have e1 : ((List.range (min i1.toArray.size i2.toArray.size)).all (fun j => bs.getD j false) && i1.toArray.size == i2.toArray.size) = bs.all id := by
    rw [List.size_toArray, List.size_toArray, l1, l2, Nat.min_self, all_range, beq_self_eq_true, Bool.and_true]
  rw [e1]
  exact ⟨.bl _, H, I, rfl, q⟩
theorem op_neT (hu : X.A.units + 128 < cLine) : OpR X (compareOp .NotEq) (rNeT X.K) := by
  intro pins s σ H x y v u Q I rx ry h
  obtain ⟨a, b, vs, ws, bs, rfl, rfl, ha, hb, he, q⟩ := h
  cases rx
  cases ry
  obtain ⟨i1, r1, ⟨⟨c1, d1, t1, s1⟩, x1, x2, n1, x3⟩, _⟩ := I.tuple ha
  obtain ⟨i2, r2, ⟨⟨c2, d2, t2, s2⟩, y1, y2, n2, y3⟩, _⟩ := I.tuple hb
  have x2 : c1 = .type "tuple" := x2
  have x3 : t1 = .seq i1.toArray n1 := x3
  have y2 : c2 = .type "tuple" := y2
  have y3 : t2 = .seq i2.toArray n2 := y3
  subst x2 x3 y2 y3
  obtain ⟨l1, l2, t⟩ := he.trees I r1 r2
  show wpAny (model X.prog X.w) X.A (richCompare .NotEq (.ref a) (.ref b)) _ _ s
  refine wpAny_richCompare_same_room (T := "tuple") (op := .NotEq) ⟨_, x1, rfl⟩ ⟨_, y1, rfl⟩ F.slot_tuple_ne (call_meetsIn F.slot_tuple_ne ⟨_, x1, rfl⟩ F.entry_tuple_ne (F.args_tuple_ne_2 _ _) (ne_meets a b i1 i2 bs n1 n2 d1 d2 s1 s2 l1 l2)
    ⟨x1, y1, fun j u y b e1 e2 e3 => ?_, show Value.bool (!bs.all id) ≠ Value.notImplemented ∧ _ from ⟨(fun x => nomatch x), ⟨.bl _, H, I, rfl, q⟩⟩⟩) (by omega)
  obtain ⟨h1, rfl⟩ := List.getElem?_eq_some_iff.mp e1
  obtain ⟨h2, rfl⟩ := List.getElem?_eq_some_iff.mp e2
  have t2 := t j h1 h2
  rw [List.getD_eq_getElem?_getD, e3] at t2
  exact t2.at _ (by show X.A.units + 1 + 65 < cLine; omega)
/-- d != {} -/
def rNeD0 : R2 := fun x y H Q => ∃ (a b : Addr) (kvs : List (Key × V)), x = .ref a ∧ y = .ref b ∧ H a = some (.dK kvs) ∧ H b = some (.dK []) ∧ Q (.bl (decide (kvs ≠ []))) H
theorem op_neD0 (hu : X.A.units < cLine) : OpR X (compareOp .NotEq) rNeD0 := by
  intro pins s σ H x y v u Q I rx ry h
  obtain ⟨a, b, kvs, rfl, rfl, ha, hb, q⟩ := h
  cases rx
  cases ry
  obtain ⟨_, la, va, ra, da⟩ := dk_of I.hok ha
  obtain ⟨_, lb, vb, rb, db⟩ := dk_of I.hok hb
  cases rb
  have e : (!(va.length == ([] : List (Key × Value)).length && true)) = decide (kvs ≠ []) := by
    rw [← ra.length, Bool.and_true]
    cases kvs <;> rfl
  refine PySem.W.keq_ne (knd := mixKind X.prog X.w) (r := true) la lb da db hu (fun z => ?_) ?_
  · rw [List.length_nil] at z
    rw [List.eq_nil_of_length_eq_zero z]
    exact .nil
  · rw [e]
    exact ⟨.bl _, H, I, rfl, q⟩
theorem room128 {A : PySem.Around} {k : Nat} (r : Room k A) : A.units + 128 < PySem.cLine := by
  have := r.un
  omega
end
end Gx

/-! ### repr of lists in which lists and dicts stand; x == [] for a list of anything; list.remove of a text -/
namespace Gx
open PySem PySem.Spec PyProof.Rows L2 GxR GenW
mutual
inductive Dn (K : PySem.W.Frag) (H : Hp) : V → PyData → Prop
  | d {v : V} {d : PyData} : Di K H v d → Dn K H v d
  | l {a : Addr} {xs : List V} {ds : List PyData} : H a = some (.lst xs) → Dns K H xs ds → Dn K H (.ref a) (.list ds)
inductive Dns (K : PySem.W.Frag) (H : Hp) : List V → List PyData → Prop
  | nil : Dns K H [] []
  | cons {v : V} {d : PyData} {vs : List V} {ds : List PyData} : Dn K H v d → Dns K H vs ds → Dns K H (v :: vs) (d :: ds)
end
section
variable {X : Cx} {pins : List (Addr × Obj)} {σ : L2.St} {H : Hp} {s : Shared}
mutual
theorem Dn.shows (I : Inv X pins σ H s) : ∀ {v : V} {u : Value} {d : PyData}, Dn X.K H v d → RelV v u → d.showable = true → d.shown.length ≤ sizeLine →
    ∃ as bs, Reads s.heap u d as ∧ ReadAtMost s.heap d.depth bs ∧ ReprK X.prog X.w bs s.heap d.depth u d.shown
  | _, _, _, .d h, r, hs, hz => h.shows I r hs hz
  | _, u, _, .l (a := a) (xs := xs) (ds := ds) e h, r, hs, hz => by
    cases r
    obtain ⟨z, its, n, ri, hl, e1⟩ := I.lstM e
    have hz2 : (listText (PyData.shownAll ds)).length ≤ sizeLine := by simpa only [PyData.shown] using hz
    obtain ⟨as, bs, a1, a2, a3⟩ := Dns.shows I h ri (by rwa [PyData.showable] at hs) fun t ht => Nat.le_trans (listText_mem_le ht) hz2
    have rd : Reads s.heap (.ref a) (.list ds) (a :: as) := Reads.list e1 rfl rfl (by simpa using a1)
    have hna : a ∉ bs := not_mem_of_deeper rd (by simp only [PyData.depth]; omega) a2
    refine ⟨_, a :: bs, rd, ReadAtMost.cons rd (Nat.le_refl _) (a2.mono (by rw [PyData.depth]; omega)), ?_⟩
    cases ri with
    | nil =>
      cases h
      simp only [PyData.shown, PyData.shownAll]
      exact ReprK.listEmpty e1 rfl rfl
    | @cons _ y _ ys r1 r2 =>
      rw [PyData.depth]
      have : (PyData.list ds).shown = listText (PyData.shownAll ds) := by simp only [PyData.shown]
      rw [this]
      exact ReprK.list e1 rfl rfl hna (by simpa using a3.length_eq) (fun i y e => a3.item i y (by simpa using e))
theorem Dns.shows (I : Inv X pins σ H s) : ∀ {vs : List V} {us : List Value} {ds : List PyData}, Dns X.K H vs ds → Vals vs us → PyData.showableAll ds = true → (∀ t ∈ PyData.shownAll ds, t.length ≤ sizeLine) →
    ∃ as bs, ReadsAll s.heap us ds as ∧ ReadAtMost s.heap (PyData.depthAll ds) bs ∧ ReprAllK X.prog X.w bs s.heap (PyData.depthAll ds) us (PyData.shownAll ds)
  | _, _, _, .nil, r, _, _ => by
    cases r
    exact ⟨[], [], .nil, (fun _ h => nomatch h), by simp only [PyData.shownAll]; exact .nil⟩
  | _, _, _, .cons (d := d) (ds := ds) h t, r, hs, hz => by
    cases r with
    | cons r1 r2 =>
      rw [PyData.showableAll, Bool.and_eq_true] at hs
      obtain ⟨as, bs, a1, a2, a3⟩ := Dn.shows I h r1 hs.1 (hz _ (by rw [PyData.shownAll]; exact List.mem_cons_self))
      obtain ⟨cs, ds', b1, b2, b3⟩ := Dns.shows I t r2 hs.2 fun t ht => hz t (by rw [PyData.shownAll]; exact List.mem_cons_of_mem _ ht)
      refine ⟨_, bs ++ ds', .cons a1 b1, (a2.mono ?_).append (b2.mono ?_), ?_⟩
      · rw [PyData.depthAll]
        exact Nat.le_max_left _ _
      · rw [PyData.depthAll]
        exact Nat.le_max_right _ _
      · rw [PyData.shownAll, PyData.depthAll]
        exact .cons ((a3.more fun b hb => List.mem_append_left _ hb).level_le (Nat.le_max_left _ _)) (b3.more_le (fun b hb => List.mem_append_right _ hb) (Nat.le_max_right _ _))
end
end
section
variable {X : Cx}
def rReprN (K : PySem.W.Frag) : List V → Hp → VK → Prop := fun xs H Q => ∃ (L : Addr) (v : V) (vs : List V) (ds : List PyData), xs = [.ref L] ∧ H L = some (.lst (v :: vs)) ∧ Dns K H (v :: vs) ds ∧ PyData.showableAll ds = true ∧
  PyData.depthAll ds ≤ 60 ∧ (PyData.list ds).shown.length ≤ sizeLine ∧ Q (.str (PyData.list ds).shown) H
theorem cr_reprN (g : X.A.guards = some []) (hu : X.A.units + 64 < cLine) : CallR X (.builtin "repr") (rReprN X.K) := by
  intro pins s σ H xs us Q I r h
  obtain ⟨L, v, vs, ds, rfl, hL, hD, hs, hd, hz, q⟩ := h
  obtain ⟨u, rfl, rx⟩ : ∃ u, us = [u] ∧ RelV (.ref L) u := by
    cases r with
    | cons r1 r2 => cases r2; exact ⟨_, rfl, r1⟩
  cases rx
  obtain ⟨z, its, n, ri, hl, e⟩ := I.lstM hL
  have e0 : (PyData.list ds).shown = listText (PyData.shownAll ds) := by simp only [PyData.shown]
  rw [e0] at hz q
  obtain ⟨as, bs, a1, a2, a3⟩ := hD.shows I ri hs fun t ht => Nat.le_trans (listText_mem_le ht) hz
  have rd : Reads s.heap (.ref L) (.list ds) (L :: as) := Reads.list e rfl rfl (by simpa using a1)
  have hna : L ∉ bs := not_mem_of_deeper rd (by simp only [PyData.depth]; omega) a2
  cases ri with
  | @cons _ y _ ys r1 r2 =>
    refine call_repr_slot (T := "list") (by omega) ⟨_, e, rfl⟩ F.slot_list_repr.toG ?_
    exact call_list_reprK e rfl rfl hna (by simpa using a3.length_eq) (fun i y e => a3.item i y (by simpa using e)) g (fun b _ => Clear.nil b) (by show X.A.units + 1 + (_ + 1) < cLine; omega) (fun _ _ e => e) (fun h' u tk hk => ⟨_, _, rfl, .str _, H, I.kept hk, ⟨_, rfl⟩, q⟩) hz
/-- x == [], x != [] -/
def rEqE : R2 := fun x y H Q => ∃ (a b : Addr) (xs : List V), x = .ref a ∧ y = .ref b ∧ H a = some (.lst xs) ∧ H b = some (.lst []) ∧ Q (.bl (decide (xs = []))) H
def rNeE : R2 := fun x y H Q => ∃ (a b : Addr) (xs : List V), x = .ref a ∧ y = .ref b ∧ H a = some (.lst xs) ∧ H b = some (.lst []) ∧ Q (.bl (!decide (xs = []))) H
theorem op_eqE (hu : X.A.units + 64 < cLine) : OpR X (compareOp .Eq) rEqE := by
  intro pins s σ H x y v u Q I rx ry h
  obtain ⟨a, b, xs, rfl, rfl, ha, hb, q⟩ := h
  cases xs with
  | nil => exact op_eqD hu pins s σ H _ _ v u Q I rx ry ⟨_, _, .lst (.inl (.inl ha)) .nil, .lst (.inl (.inl hb)) .nil, rfl, rfl, q⟩
  | cons z zs =>
    cases rx
    cases ry
    obtain ⟨_, i1, n1, r1, l1, e1⟩ := I.lstM ha
    obtain ⟨_, i2, n2, r2, l2, e2⟩ := I.lstM hb
    cases r2
    refine SeqAt.eq_list_lengthsAt ⟨_, e1, rfl, _, rfl⟩ ⟨_, e2, rfl, _, rfl⟩ ?_ (by omega) ⟨.bl _, H, I, rfl, q⟩
    rw [List.size_toArray, ← l1]
    rfl
theorem op_neE (hu : X.A.units + 64 < cLine) : OpR X (compareOp .NotEq) rNeE := by
  intro pins s σ H x y v u Q I rx ry h
  obtain ⟨a, b, xs, rfl, rfl, ha, hb, q⟩ := h
  cases xs with
  | nil => exact op_neD hu pins s σ H _ _ v u Q I rx ry ⟨_, _, .lst (.inl (.inl ha)) .nil, .lst (.inl (.inl hb)) .nil, rfl, rfl, q⟩
  | cons z zs =>
    cases rx
    cases ry
    obtain ⟨_, i1, n1, r1, l1, e1⟩ := I.lstM ha
    obtain ⟨_, i2, n2, r2, l2, e2⟩ := I.lstM hb
    cases r2
    refine SeqAt.RcNeAt.lists_lengths ⟨_, e1, rfl, _, rfl⟩ ⟨_, e2, rfl, _, rfl⟩ ?_ (by omega) X.prog X.w _ _ ⟨.bl _, H, I, rfl, q⟩
    rw [List.size_toArray, ← l1]
    rfl
/-- xs.remove(k), a text that stands there -/
def rRemS : V → List V → Hp → VK → Prop := fun x xs H Q => ∃ (l : Addr) (ys : List Str) (k : Str) (j : Nat), x = .ref l ∧ xs = [.str k] ∧ H l = some (.lst (ys.map V.str)) ∧ ys[j]? = some k ∧ (∀ m : Nat, m < j → ys[m]? ≠ some k) ∧ Q .non (upd H l (.lst ((ys.eraseIdx j).map V.str)))
theorem mt_removeS : MtM X "list.remove" rRemS := by
  intro pins s σ H x xs v us Q I rx rxs h
  obtain ⟨l, ys, k, j, rfl, rfl, hH, hj, hno, q⟩ := h
  cases rx
  obtain ⟨u, rfl, ru⟩ := rxs.one
  obtain ⟨t, rfl⟩ := ru
  obtain ⟨z, its, n, r, hl, e⟩ := I.lstM hH
  have hi := strs_of_vals r
  rw [List.length_map] at hl z
  have hjn : j < ys.length := (List.getElem?_eq_some_iff.mp hj).1
  have at_ : ∀ {m : Nat} (hm : m < its.toArray.size), ∃ tm, its.toArray[m] = .str (ys[m]'(by rw [List.size_toArray] at hm; omega)) tm := fun {m} hm => by
    have hm2 : m < ys.length := by rw [List.size_toArray] at hm; omega
    obtain ⟨tm, e2⟩ := hi.get m _ (List.getElem?_eq_getElem hm2)
    obtain ⟨h1, h2⟩ := List.getElem?_eq_some_iff.mp e2
    exact ⟨tm, by simpa using h2⟩
  have hjl : j < its.toArray.size := by rw [List.size_toArray]; omega
  refine call_meets PySem.F.slot_list_remove ⟨_, e, rfl⟩ PySem.F.entry_list_remove (PySem.F.args_list_remove_2 _ _)
    (MeetsSeq.list_remove l its.toArray n (.str k t) (isStrOf k) (fun y hy => eq_isStrOf k t hi y (by simpa using hy)) j hjl ?_ ?_ (by rw [List.size_toArray]; omega)) ⟨e, ?_⟩
  · obtain ⟨tm, e2⟩ := at_ hjl
    rw [e2]
    show (ys[j] == k) = true
    rw [List.getElem?_eq_getElem hjn] at hj
    rw [Option.some.inj hj]
    exact beq_self_eq_true k
  · intro m hm hmj
    obtain ⟨tm, e2⟩ := at_ hm
    rw [e2]
    have hmn : m < ys.length := by omega
    refine beq_eq_false_iff_ne.mpr fun e3 => hno m hmj ?_
    rw [List.getElem?_eq_getElem hmn, e3]
  · have rr := r.eraseIdx j
    rw [erase_map] at rr
    refine ⟨.non, _, I.lset (its' := its.eraseIdx j) (t' := s.toks) hH e ?_ rr ?_, rfl, q⟩
    · show its.toArray.eraseIdxIfInBounds j = (its.eraseIdx j).toArray
      rw [List.eraseIdxIfInBounds_toArray]
    · rw [List.length_map, List.length_eraseIdx]
      split <;> omega
end
end Gx

/-! ### {None: 0}: a dict that no program of the layer tells; its type, its length, its one key, its text -/
namespace Gx
open PySem PySem.Spec PyProof.Rows L2 GxR GenW
/-- what stands at a -/
def NdH (a : Addr) (h : Heap) : Prop := (a == sysModules) = false ∧ ∃ (od : Obj) (e : DictEntry) (ep : Nat) (t : Nat), h.get? a = some od ∧ od.ExactDict ∧ od.data = .dict #[e] ep ∧ e.key = .none ∧ e.val = .int 0 t ∧ e.hash = reduceHash 0xFCA86420
def ndo (a : Addr) : HO := .ext (NdH a)
theorem NdH.stays {a : Addr} {h1 h2 : Heap} (x : NdH a h1) (k : ∀ o, h1.get? a = some o → h2.get? a = some o) : NdH a h2 := by
  obtain ⟨n, od, e, ep, t, h, r⟩ := x
  exact ⟨n, od, e, ep, t, k _ h, r⟩
theorem NdH.ok {P : Program} {w : World} {H : Hp} {a : Addr} {h : Heap} (x : NdH a h) : ObjOk P w H h a (ndo a) := by
  refine ⟨x, ?_, fun _ _ p k => p.stays k⟩
  obtain ⟨n, od, e, ep, t, h, r⟩ := x
  exact ⟨od, h⟩
theorem nd_pairs {P : Program} {w : World} {e : DictEntry} {t : Nat} (h1 : e.key = .none) (h2 : e.val = .int 0 t) (h3 : e.hash = reduceHash 0xFCA86420) :
    KeysOf (noneKind P w) #[e] ∧ Pairs (noneKind P w) [e] [((none : Option Key), Value.int 0 t)] := by
  have k : (noneKind P w).is none e.key = true := by rw [h1]; rfl
  refine ⟨fun x hx => ?_, ?_⟩
  · have : x = e := by simpa using hx
    rw [this]
    exact ⟨none, k, h3⟩
  · exact .cons k h2 .nil
theorem NdH.at {P : Program} {w : World} {a : Addr} {h : Heap} (x : NdH a h) : ∃ t ep, h.DictAt (noneKind P w) a [((none : Option Key), Value.int 0 t)] ep := by
  obtain ⟨n, od, e, ep, t, h, hx, hd, k1, k2, k3⟩ := x
  obtain ⟨p1, p2⟩ := nd_pairs (P := P) (w := w) k1 k2 k3
  exact ⟨t, ep, od, #[e], h, hx, hd, p1, p2, by simp⟩
section
variable {X : Cx} {pins : List (Addr × Obj)} {σ : L2.St} {H : Hp} {s : Shared} {d : Addr} {o : Obj}
theorem Inv.nd (I : Inv X pins σ H s) (h : H d = some (ndo d)) : NdH d s.heap := (show ObjOk X.prog X.w H s.heap d (ndo d) from I.hok d _ h).1
theorem Inv.frzN (I : Inv X pins σ H s) (h : H d = some (.frz o (ndo d))) :
    (d == sysModules) = false ∧ s.heap.get? d = some o ∧ o.ExactDict ∧ ∃ (es : Array DictEntry) (ep t : Nat), o.data = .dict es ep ∧ es.size = 1 ∧ s.heap.DictAt (noneKind X.prog X.w) d [((none : Option Key), Value.int 0 t)] ep := by
  obtain ⟨e1, e2, _⟩ := (show ObjOk X.prog X.w H s.heap d (.frz o (ndo d)) from I.hok d _ h)
  obtain ⟨n, od, e, ep, t, g, hx, hd, k1, k2, k3⟩ := e2
  rw [e1] at g
  cases g
  obtain ⟨p1, p2⟩ := nd_pairs (P := X.prog) (w := X.w) k1 k2 k3
  exact ⟨n, e1, hx, #[e], ep, t, hd, rfl, o, #[e], e1, hx, hd, p1, p2, by simp⟩
/-- its one key, None -/
def ItN (d : Addr) (o : Obj) : It :=
  ⟨fun i H => H d = some (.frz o (ndo d)) ∧ i < 1, fun i H x H' => H' = H ∧ x = .non ∧ i < 1, fun i H => H d = some (.frz o (ndo d)) ∧ 1 ≤ i⟩
theorem turn_none {P : Program} {w : World} {K : PySem.W.Frag} {tg : Expr} {es : Array DictEntry} {ep : Nat} (it : Addr) (hod : o.data = .dict es ep) : Turn P w K tg (ItN d o) [it] it (fun i h => h.IsKeyIter it d i 1 ep) := by
  refine ⟨by simp, fun i h st b hb => ?_, fun i h h' st k => ?_, ?_, ?_, fun A i s Q E st h => wpAny_pyIter_keyiter st h⟩
  · obtain ⟨oi, e, c, dd⟩ := st
    rw [List.mem_singleton.mp hb]
    exact ⟨oi, e, fun v z => by rw [dd] at z; cases z⟩
  · obtain ⟨oi, e, r⟩ := st
    exact ⟨oi, k it (by simp) oi e, r⟩
  · rintro X rfl rfl rfl hc i pins s σ H E I hf st ⟨hd, hi⟩
    obtain ⟨f0, f1, f2, f3, f4, f5⟩ := hf it (by simp)
    obtain ⟨hs, hgd, hx, es', ep', t, hdt, hsz, hm⟩ := Inv.frzN I hd
    obtain ⟨rfl, rfl⟩ := dict_ep hod hdt
    obtain rfl : i = 0 := by omega
    refine wpAny_pyNext_dict_item (kvs := [((none : Option Key), Value.int 0 t)]) st hm rfl fun key h' hkey st' sb => ?_
    have I1 : Inv X pins σ H { s with heap := h' } := I.turned (t' := s.toks) (fun b ob hb e => (sb.2 b hb).trans e) f0 f1 f3 f4 f5
    obtain ⟨oi, e, c, dd⟩ := id st'
    exact ⟨key, rfl, go_of (s := { s with heap := h' }) e c dd (by decide) ⟨.non, H, I1, nk_none hkey, ⟨rfl, rfl, by decide⟩, st', fun b hb => (hf b hb).1⟩⟩
  · rintro X rfl rfl rfl hc i pins s σ H E I hf st ⟨hd, hi⟩
    obtain ⟨f0, f1, f2, f3, f4, f5⟩ := hf it (by simp)
    obtain ⟨hs, hgd, hx, es', ep', t, hdt, hsz, hm⟩ := Inv.frzN I hd
    obtain ⟨rfl, rfl⟩ := dict_ep hod hdt
    exact next_key_end (I.ok.hd hc) st hgd hdt hsz hi fun h' eb => ⟨rfl, I.turned (t' := s.toks) (fun b ob hb e => eb b ob hb e) f0 f1 f3 f4 f5⟩
/-- for k in d: a dict of texts, or {None: 0} -/
def iKeysN (td : TE) : TI := fun σ H R => td σ H fun x H1 => ∃ d o, x = .ref d ∧ ((∃ kvs, H1 d = some (.frz o (.dK kvs)) ∧ R (Itk d o kvs) H1) ∨ (H1 d = some (.frz o (ndo d)) ∧ R (ItN d o) H1))
theorem pi_keysN {tg e : Expr} {td : TE} (he : PE X e td) : PI X tg e (iKeysN td) := by
  refine ⟨fun pins s σ H R I h => thn (he.run pins s σ H _ I h) fun u s1 ⟨x, H1, I1, rx, d, o, ex, q⟩ => ?_⟩
  subst ex
  cases rx
  have go : ∀ {es : Array DictEntry} {ep n : Nat} {J : It}, (d == sysModules) = false → s1.heap.get? d = some o → o.ExactDict → o.data = .dict es ep → es.size = n → R J H1 →
      (∀ it, Turn X.prog X.w X.K tg J [it] it (fun i h => h.IsKeyIter it d i n ep)) → wpAny (model X.prog X.w) X.A (pyIter (.ref d)) (PIE X pins σ tg R) X.xe s1 := by
    intro es ep n J g1 g2 g3 g4 g5 r T
    subst g5
    exact iter_keys g1 g2 g3 g4 (pi_one (tk := s1.toks) I1 _ (T _) ⟨_, Heap.get?_push_size _ rfl, rfl, rfl⟩ r)
  rcases q with ⟨kvs, hk, q⟩ | ⟨hk, q⟩
  · obtain ⟨g1, g2, g3, _, _, _, g4, g5, _⟩ := I1.frzK hk
    exact go g1 g2 g3 g4 g5 q fun it => turn_keys it g4
  · obtain ⟨g1, g2, g3, _, _, _, g4, g5, _⟩ := Inv.frzN I1 hk
    exact go g1 g2 g3 g4 g5 q fun it => turn_none it g4
/-- type(x), len(x), isinstance(x, c): as ever, or of {None: 0} -/
def rTypN (K : PySem.W.Frag) : List V → Hp → VK → Prop := fun xs H Q => rTyp K xs H Q ∨ ∃ a, xs = [.ref a] ∧ H a = some (ndo a) ∧ Q (.ty "dict") H
theorem call_typN : CallR X (.type "type") (rTypN X.K) := by
  intro pins s σ H xs us Q I r h
  rcases h with h | ⟨a, rfl, ha, q⟩
  · exact call_type1 pins s σ H xs us Q I r h
  · obtain ⟨u, rfl, rx⟩ := vals1 r
    cases rx
    obtain ⟨n, od, e, ep, t, g, hx, _⟩ := Inv.nd I ha
    exact call_type_of (Tx := "dict") ⟨od, g, hx.1⟩ (by decide +kernel) ⟨.ty "dict", H, I, rfl, q⟩
def rLenN (K : PySem.W.Frag) : List V → Hp → VK → Prop := fun xs H Q => ∃ a, xs = [.ref a] ∧ ((∃ kvs, H a = some (.dK kvs) ∧ Q (.int kvs.length) H) ∨ (H a = some (ndo a) ∧ Q (.int 1) H))
theorem call_lenN (hu : X.A.units + 1 < cLine) : CallR X (.builtin "len") (rLenN X.K) := by
  intro pins s σ H xs us Q I r h
  obtain ⟨a, rfl, h⟩ := h
  obtain ⟨u, rfl, rx⟩ := vals1 r
  cases rx
  rcases h with ⟨kvs, ha, q⟩ | ⟨ha, q⟩
  · obtain ⟨z, hd, vs, kv, dd⟩ := dk_of I.hok ha
    have hl : kvs.length = vs.length := Paired.length kv
    exact call_len_dict hd dd (by rw [sizeLine_eq] at z; omega) ⟨.int kvs.length, H, I.tok _, ⟨s.toks + 1, by rw [hl]⟩, q⟩
  · obtain ⟨t, ep, dd⟩ := (Inv.nd I ha).at (P := X.prog) (w := X.w)
    exact call_len_dict (Inv.nd I ha).1 dd.dictOf (by simp) ⟨.int 1, H, I.tok _, ⟨_, rfl⟩, q⟩
def rIsiN (K : PySem.W.Frag) : List V → Hp → VK → Prop := fun xs H Q => rIsi K xs H Q ∨ ∃ (a : Addr) (n : String) (b : Bool), xs = [.ref a, .ty n] ∧ H a = some (ndo a) ∧ PySem.W.kitOne K (.type "dict") (.type n) = some b ∧ Q (.bl b) H
theorem call_isiN : CallR X (.builtin "isinstance") (rIsiN X.K) := by
  intro pins s σ H xs us Q I r h
  rcases h with h | ⟨a, n, b, rfl, ha, e, q⟩
  · exact call_isi pins s σ H xs us Q I r h
  · obtain ⟨u1, u2, rfl, r1, r2⟩ := vals2 r
    cases r1
    cases r2
    obtain ⟨_, od, _, _, _, g, hx, _⟩ := Inv.nd I ha
    exact PySem.W.kia_one PySem.W.kitx_dict I.kIn ⟨od, g, hx.1⟩ e (fun z => nomatch z) fun tk => ⟨.bl b, H, I.tok tk, rfl, q⟩
/-- {None: 0} -/
def tNd (tk tv : TE) : TE := fun σ H Q => tk σ H fun x _ => x = .non ∧ tv σ H fun y _ => y = .int 0 ∧ ∀ p, H p = none → Q (.ref p) (upd H p (ndo p))
theorem NdH.of {P : Program} {w : World} {a : Addr} {h : Heap} {t : Nat} (n : (a == sysModules) = false) (x : h.DictOf (noneKind P w) a [((none : Option Key), Value.int 0 t)]) : NdH a h := by
  obtain ⟨o, es, ep, g, hx, hd, hk, hp, _⟩ := x
  obtain ⟨l⟩ := es
  cases hp with
  | @cons e _ _ _ k1 k2 r =>
    cases r
    obtain ⟨k, c1, c2⟩ := hk e (by simp)
    have e0 := nk_none k1
    refine ⟨n, o, e, ep, t, g, hx, hd, e0, k2, ?_⟩
    rw [e0] at c1
    cases k with
    | none => exact c2
    | some k => exact absurd c1 (keyIs_none k)
theorem pe_nd {k v : Expr} {pos : Pos} (hk : PE X k (tC .non)) (hv : PE X v (tC (.int 0))) : PE X (.Dict [some k] [v] pos) (tNd (tC .non) (tC (.int 0))) := by
  refine ⟨fun pins s σ H Q I q => ?_⟩
  obtain ⟨_, _, q⟩ := q
  have n := I.hok.fresh (Nat.le_refl s.heap.objs.size)
  have I1 := I.laid (a := s.heap.objs.size) (o := .dK []) (h' := s.heap.push { cls := .type "dict", data := .dict #[] }) (t' := s.toks) (fun _ _ z => Heap.get?_push_of_some _ z) (Nat.le_refl _) (dk_empty s.heap I.big)
  refine wpAny_Dict_walk (knd := noneKind X.prog X.w) rfl rfl (by simp) (by simp) ?_
  refine pairTrees_cons_walk (thn (hk.run pins _ σ _ (fun x H1 => x = .non ∧ H1 = upd H s.heap.objs.size (.dK [])) I1 ⟨rfl, rfl⟩) fun u s1 ⟨x, H1, I2, r1, ex, e1⟩ => thn (hv.run pins s1 σ H1 (fun y H2 => y = .int 0 ∧ H2 = H1) I2 ⟨rfl, rfl⟩) fun v2 s2 ⟨y, H2, I3, r2, ey, e2⟩ => pairTrees_nil_walk ?_)
  subst ex ey e1 e2
  cases r1
  obtain ⟨t, rfl⟩ := r2
  obtain ⟨z, hd, vs0, r0, dd⟩ := dk_of I3.hok (upd_same (H := H))
  cases r0
  refine ⟨[(none, .int 0 t)], ⟨rfl, rfl, trivial⟩, ?_, fun h' d2 sb => ?_⟩
  · obtain ⟨o, es, ep, g, hx, hdt, hk', hp, nd⟩ := dd
    cases es with | mk l =>
    cases hp
    exact ⟨o, #[], ep, g, hx, hdt, fun e he => by simp at he, .nil, by simp⟩
  · obtain ⟨o, es, ep, g, _⟩ := id d2
    have I4 := d_write (t' := s2.toks + 1) (ob := ndo s.heap.objs.size) I3 (by rw [upd_same]; exact True.intro) sb ⟨o, g⟩ (NdH.ok (NdH.of hd d2))
    rw [upd_upd] at I4
    exact ⟨.ref s.heap.objs.size, _, I4, rfl, q _ n⟩
end
end Gx

/-! ### repr of a list of things that can be shown, whatever they are: also dicts with whole numbers as keys, {None: 0} -/
namespace Gx
open PySem PySem.Spec PyProof.Rows L2 GxR GenW
/-- v can be shown as the data d -/
def Sq (K : PySem.W.Frag) (H : Hp) (v : V) (d : PyData) : Prop := ∀ (X : Cx) (pins : List (Addr × Obj)) (σ : L2.St) (s : Shared) (u : Value), X.K = K → L2.Inv X pins σ H s → RelV v u → d.showable = true → d.shown.length ≤ sizeLine →
  ∃ as bs, Reads s.heap u d as ∧ ReadAtMost s.heap d.depth bs ∧ ReprK X.prog X.w bs s.heap d.depth u d.shown
theorem Dn.sq {K : PySem.W.Frag} {H : Hp} {v : V} {d : PyData} (h : Dn K H v d) : Sq K H v d := by
  rintro X pins σ s u rfl I r hs hz
  exact h.shows I r hs hz
/-- a dict of the heap, shown -/
theorem dict_sq {κ : Type} [DecidableEq κ] {P : Program} {w : World} {knd : KeyKind P w κ} {enc : κ → PyData} {h : Heap} {a : Addr} {vs : List (κ × Value)} {D : List (PyData × PyData)} {bs0 : List Addr} (lo : (a == sysModules) = false)
    (dd : h.DictOf knd a vs) (hk : ∀ k key, knd.is k key = true → Reads h key (enc k) []) (pr : PyProof.V.PairsRead h enc vs D bs0) (n1 : PyData.hasDictAll (D.map (·.1)) = false) (n2 : PyData.hasDictAll (D.map (·.2)) = false)
    (hs : (PyData.dict D).showable = true) (hz : (PyData.dict D).shown.length ≤ sizeLine) :
    ∃ as bs, Reads h (.ref a) (.dict D) as ∧ ReadAtMost h (PyData.dict D).depth bs ∧ ReprK P w bs h (PyData.dict D).depth (.ref a) (PyData.dict D).shown := by
  obtain ⟨o, es, ep, ho, hx, hdat, _, hp, _⟩ := dd
  obtain ⟨r1, r2⟩ := PyProof.V.readsAll_of_pairs hk hp pr
  have rd : Reads h (.ref a) (.dict D) (a :: ([] ++ bs0)) := Reads.dict ho hx.1 hdat r1 r2
  have ed : (PyData.dict D).depth = PyData.depthKv D + 1 := by rw [PyData.depth]
  have et : (PyData.dict D).shown = dictText (PyData.shownKv D) := by rw [PyData.shown]
  rw [PyData.showable] at hs
  rw [et] at hz
  obtain ⟨s1, s2⟩ := PyData.showableKv_split D hs
  obtain ⟨b1, m1, k1⟩ := ReprAllK.of_readsAll (prog := P) (w := w) r1 s1 (fun q => by rw [n1] at q; cases q) (fun t ht => by
    obtain ⟨q, hq, l⟩ := PyData.shownKv_key_le _ t ht
    exact Nat.le_trans (Nat.le_trans l (dictText_mem_le hq)) hz)
  obtain ⟨b2, m2, k2⟩ := ReprAllK.of_readsAll (prog := P) (w := w) r2 s2 (fun q => by rw [n2] at q; cases q) (fun t ht => by
    obtain ⟨q, hq, l⟩ := PyData.shownKv_val_le _ t ht
    exact Nat.le_trans (Nat.le_trans l (dictText_mem_le hq)) hz)
  have le1 : PyData.depthAll (D.map (·.1)) ≤ PyData.depthKv D := PyData.depthAll_keys_le _
  have le2 : PyData.depthAll (D.map (·.2)) ≤ PyData.depthKv D := PyData.depthAll_vals_le _
  have both : ReadAtMost h (PyData.depthKv D) (b1 ++ b2) := (m1.mono le1).append (m2.mono le2)
  have out : a ∉ b1 ++ b2 := not_mem_of_deeper rd (by omega) both
  refine ⟨_, a :: (b1 ++ b2), rd, ReadAtMost.cons rd (Nat.le_refl _) (both.mono (by rw [ed]; omega)), ?_⟩
  rw [et, ed, PyData.shownKv_eq]
  exact ReprK.dict ho hx.1 hdat lo out (ReprEntriesK.of_two es.toList _ _ (k1.more_le (fun b hb => List.mem_append_left b2 hb) le1) (k2.more_le (fun b hb => List.mem_append_right b1 hb) le2))
def keyD : Key → PyData
  | .inl i => .int i
  | .inr x => .str x
/-- the data of a dict's pairs, f the data of its values -/
def kvsD (f : V → PyData) (kvs : List (Key × V)) : List (PyData × PyData) := kvs.map fun kv => (keyD kv.1, f kv.2)
theorem kvsD_plain {f : V → PyData} : ∀ {kvs : List (Key × V)}, (∀ kv ∈ kvs, (f kv.2).hasDict = false) → PyData.hasDictAll ((kvsD f kvs).map (·.1)) = false ∧ PyData.hasDictAll ((kvsD f kvs).map (·.2)) = false
  | [], _ => ⟨rfl, rfl⟩
  | (k, v) :: r, h => by
    obtain ⟨h1, h2⟩ := kvsD_plain (kvs := r) fun kv hk => h kv (List.mem_cons_of_mem _ hk)
    have h3 := h _ List.mem_cons_self
    refine ⟨?_, ?_⟩
    · show PyData.hasDictAll (keyD k :: (kvsD f r).map (·.1)) = false
      rw [PyData.hasDictAll, h1]
      cases k <;> rfl
    · show PyData.hasDictAll (f v :: (kvsD f r).map (·.2)) = false
      rw [PyData.hasDictAll, h2, h3]
      rfl
theorem kvs_read {X : Cx} {pins : List (Addr × Obj)} {σ : L2.St} {H : Hp} {s : Shared} {f : V → PyData} (I : L2.Inv X pins σ H s) : ∀ {kvs : List (Key × V)} {vs : List (Key × Value)}, (∀ kv ∈ kvs, Dp X.K H kv.2 (f kv.2)) → KV kvs vs →
    ∃ bs, PyProof.V.PairsRead s.heap keyD vs (kvsD f kvs) bs
  | [], _, _, r => by
    cases r
    exact ⟨[], .nil⟩
  | (k, v) :: q, _, h, r => by
    cases r with
    | @cons _ b _ bs r t =>
      obtain ⟨k2, u⟩ := b
      obtain ⟨e, ru⟩ := r
      have e : k = k2 := e
      subst e
      obtain ⟨as, rd⟩ := Dp.reads I _ v u (h _ List.mem_cons_self) ru
      obtain ⟨bs, pb⟩ := kvs_read I (kvs := q) (fun kv hk => h kv (List.mem_cons_of_mem _ hk)) t
      exact ⟨_, .cons rd pb⟩
theorem dk_sq {K : PySem.W.Frag} {H : Hp} {a : Addr} {kvs : List (Key × V)} {f : V → PyData} (e : H a = some (.dK kvs)) (h : ∀ kv ∈ kvs, Dp K H kv.2 (f kv.2) ∧ (f kv.2).hasDict = false) : Sq K H (.ref a) (.dict (kvsD f kvs)) := by
  rintro X pins σ s u rfl I r hs hz
  cases r
  obtain ⟨_, lo, vs, rel, dd⟩ := dk_of I.hok e
  obtain ⟨bs, pr⟩ := kvs_read I (fun kv hk => (h kv hk).1) rel
  obtain ⟨n1, n2⟩ := kvsD_plain fun kv hk => (h kv hk).2
  refine dict_sq lo dd (fun k key hk => ?_) pr n1 n2 hs hz
  rcases keyIs_shape hk with ⟨i, t, rfl, rfl⟩ | ⟨x, t, rfl, rfl⟩
  · exact Reads.int i t
  · exact Reads.str x t
theorem nd_sq {K : PySem.W.Frag} {H : Hp} {a : Addr} (e : H a = some (ndo a)) : Sq K H (.ref a) (.dict [(.none, .int 0)]) := by
  rintro X pins σ s u rfl I r hs hz
  cases r
  have x := Inv.nd I e
  obtain ⟨t, ep, dd⟩ := x.at (P := X.prog) (w := X.w)
  refine dict_sq (knd := noneKind X.prog X.w) (enc := fun k => match k with | none => PyData.none | some k => keyD k) x.1 dd.dictOf (fun k key hk => ?_) (.cons (Reads.int 0 t) .nil) rfl rfl hs hz
  cases k with
  | none =>
    rw [nk_none hk]
    exact Reads.none
  | some k =>
    rcases keyIs_shape (show keyIs k key = true from hk) with ⟨i, t, rfl, rfl⟩ | ⟨x, t, rfl, rfl⟩
    · exact Reads.int i t
    · exact Reads.str x t
theorem sqs_shows {X : Cx} {pins : List (Addr × Obj)} {σ : L2.St} {H : Hp} {s : Shared} (I : L2.Inv X pins σ H s) : ∀ {vs : List V} {us : List Value} {ds : List PyData}, Paired (Sq X.K H) vs ds → Vals vs us → PyData.showableAll ds = true → (∀ t ∈ PyData.shownAll ds, t.length ≤ sizeLine) →
    ∃ as bs, ReadsAll s.heap us ds as ∧ ReadAtMost s.heap (PyData.depthAll ds) bs ∧ ReprAllK X.prog X.w bs s.heap (PyData.depthAll ds) us (PyData.shownAll ds)
  | _, _, _, .nil, r, _, _ => by
    cases r
    exact ⟨[], [], .nil, (fun _ h => nomatch h), by simp only [PyData.shownAll]; exact .nil⟩
  | _, _, _, .cons (b := d) (l₂ := ds) h t, r, hs, hz => by
    cases r with
    | cons r1 r2 =>
      rw [PyData.showableAll, Bool.and_eq_true] at hs
      obtain ⟨as, bs, a1, a2, a3⟩ := h X pins σ s _ rfl I r1 hs.1 (hz _ (by rw [PyData.shownAll]; exact List.mem_cons_self))
      obtain ⟨cs, ds', b1, b2, b3⟩ := sqs_shows I t r2 hs.2 fun t ht => hz t (by rw [PyData.shownAll]; exact List.mem_cons_of_mem _ ht)
      refine ⟨_, bs ++ ds', .cons a1 b1, (a2.mono ?_).append (b2.mono ?_), ?_⟩
      · rw [PyData.depthAll]
        exact Nat.le_max_left _ _
      · rw [PyData.depthAll]
        exact Nat.le_max_right _ _
      · rw [PyData.shownAll, PyData.depthAll]
        exact .cons ((a3.more fun b hb => List.mem_append_left _ hb).level_le (Nat.le_max_left _ _)) (b3.more_le (fun b hb => List.mem_append_right _ hb) (Nat.le_max_right _ _))
def rReprQ (K : PySem.W.Frag) : List V → Hp → VK → Prop := fun xs H Q => ∃ (L : Addr) (v : V) (vs : List V) (ds : List PyData), xs = [.ref L] ∧ H L = some (.lst (v :: vs)) ∧ Paired (Sq K H) (v :: vs) ds ∧ PyData.showableAll ds = true ∧
  PyData.depthAll ds ≤ 60 ∧ (PyData.list ds).shown.length ≤ sizeLine ∧ Q (.str (PyData.list ds).shown) H
theorem cr_reprQ {X : Cx} (g : X.A.guards = some []) (hu : X.A.units + 64 < cLine) : CallR X (.builtin "repr") (rReprQ X.K) := by
  intro pins s σ H xs us Q I r h
  obtain ⟨L, v, vs, ds, rfl, hL, hD, hs, hd, hz, q⟩ := h
  obtain ⟨u, rfl, rx⟩ : ∃ u, us = [u] ∧ RelV (.ref L) u := by
    cases r with
    | cons r1 r2 => cases r2; exact ⟨_, rfl, r1⟩
  cases rx
  obtain ⟨z, its, n, ri, hl, e⟩ := I.lstM hL
  have e0 : (PyData.list ds).shown = listText (PyData.shownAll ds) := by simp only [PyData.shown]
  rw [e0] at hz q
  obtain ⟨as, bs, a1, a2, a3⟩ := sqs_shows I hD ri hs fun t ht => Nat.le_trans (listText_mem_le ht) hz
  have rd : Reads s.heap (.ref L) (.list ds) (L :: as) := Reads.list e rfl rfl (by simpa using a1)
  have hna : L ∉ bs := not_mem_of_deeper rd (by simp only [PyData.depth]; omega) a2
  cases ri with
  | @cons _ y _ ys r1 r2 =>
    refine call_repr_slot (T := "list") (by omega) ⟨_, e, rfl⟩ F.slot_list_repr.toG ?_
    exact call_list_reprK e rfl rfl hna (by simpa using a3.length_eq) (fun i y e => a3.item i y (by simpa using e)) g (fun b _ => Clear.nil b) (by show X.A.units + 1 + (_ + 1) < cLine; omega) (fun _ _ e => e) (fun h' u tk hk => ⟨_, _, rfl, .str _, H, I.kept hk, ⟨_, rfl⟩, q⟩) hz
end Gx

/-! heapq over a list of pairs of texts: heapify, heappop, heappush -/
namespace Gx
open PySem PySem.Spec PyProof.Rows L2
def sLt (x y : Str) : Bool := decide (x.cps.toList < y.cps.toList)
def ltP (u v : Str × Str) : Bool := if u.1 = v.1 then (if u.2 = v.2 then false else sLt u.2 v.2) else sLt u.1 v.1
theorem sLt_irr (x : Str) : sLt x x = false := decide_eq_false (List.lt_irrefl _)
theorem sLt_asym {x y : Str} (h : sLt x y = true) : sLt y x = false := decide_eq_false fun z => List.lt_irrefl _ (List.lt_trans (of_decide_eq_true h) z)
theorem sLt_tr {x y z : Str} (h1 : sLt y x = false) (h2 : sLt z y = false) : sLt z x = false := decide_eq_false fun h => by
  have a : ¬ y.cps.toList < x.cps.toList := of_decide_eq_false h1
  have b : ¬ z.cps.toList < y.cps.toList := of_decide_eq_false h2
  exact (List.le_trans (show x.cps.toList ≤ y.cps.toList from a) (show y.cps.toList ≤ z.cps.toList from b)) h
theorem sLt_eq {x y : Str} (h1 : sLt x y = false) (h2 : sLt y x = false) : x = y := by
  have a : ¬ x.cps.toList < y.cps.toList := of_decide_eq_false h1
  have b : ¬ y.cps.toList < x.cps.toList := of_decide_eq_false h2
  exact str_cps (List.le_antisymm (show x.cps.toList ≤ y.cps.toList from b) (show y.cps.toList ≤ x.cps.toList from a))
theorem ltP_asym {u v : Str × Str} (h : ltP u v = true) : ltP v u = false := by
  unfold ltP at h ⊢
  by_cases e : u.1 = v.1
  · rw [if_pos e] at h
    rw [if_pos e.symm]
    by_cases e2 : u.2 = v.2
    · rw [if_pos e2] at h; cases h
    · rw [if_neg e2] at h
      rw [if_neg (Ne.symm e2)]
      exact sLt_asym h
  · rw [if_neg e] at h
    rw [if_neg (Ne.symm e)]
    exact sLt_asym h
theorem ltP_tr {u v w : Str × Str} (h1 : ltP v u = false) (h2 : ltP w v = false) : ltP w u = false := by
  unfold ltP at h1 h2 ⊢
  by_cases e : w.1 = u.1
  · rw [if_pos e]
    by_cases e2 : w.2 = u.2
    · rw [if_pos e2]
    · rw [if_neg e2]
      by_cases e3 : v.1 = u.1
      · rw [if_pos e3] at h1
        rw [if_pos (e.trans e3.symm)] at h2
        by_cases e4 : v.2 = u.2
        · rw [if_neg (fun z => e2 (z.trans e4))] at h2
          rw [← e4]
          exact h2
        · rw [if_neg e4] at h1
          by_cases e5 : w.2 = v.2
          · rw [e5]; exact h1
          · rw [if_neg e5] at h2
            exact sLt_tr h1 h2
      · rw [if_neg e3] at h1
        rw [if_neg (fun z => e3 (z.symm.trans e)), e] at h2
        exact absurd (sLt_eq h1 h2) e3
  · rw [if_neg e]
    by_cases e3 : v.1 = u.1
    · rw [if_neg (fun z => e (z.trans e3)), e3] at h2
      exact h2
    · rw [if_neg e3] at h1
      by_cases e5 : w.1 = v.1
      · rw [e5]; exact h1
      · rw [if_neg e5] at h2
        exact sLt_tr h1 h2
theorem ltP_eq {u v : Str × Str} (h1 : ltP u v = false) (h2 : ltP v u = false) : u = v := by
  unfold ltP at h1 h2
  by_cases e : u.1 = v.1
  · rw [if_pos e] at h1
    rw [if_pos e.symm] at h2
    by_cases e2 : u.2 = v.2
    · exact Prod.ext e e2
    · rw [if_neg e2] at h1
      rw [if_neg (Ne.symm e2)] at h2
      exact absurd (sLt_eq h1 h2) e2
  · rw [if_neg e] at h1
    rw [if_neg (Ne.symm e)] at h2
    exact absurd (sLt_eq h1 h2) e
abbrev AP := Addr × (Str × Str)
def ltA (x y : AP) : Bool := ltP x.2 y.2
theorem ltsA : Lts ltA := ⟨fun _ _ => ltP_asym, fun _ _ _ => ltP_tr⟩
/-- comparing two such tuples -/
theorem lt_pairs {A : Around} {s : Shared} {a b : Addr} {x1 x2 y1 y2 : Str} {t1 t2 u1 u2 : Tok} (hu : A.units < cLine) (ha : s.heap.IsTuple a #[.str x1 t1, .str x2 t2]) (hb : s.heap.IsTuple b #[.str y1 u1, .str y2 u2]) : Ob.RcOp .Lt A s (.ref a) (.ref b) (ltP (x1, x2) (y1, y2)) := by
  have := Ob.RcOp.tuples_lt (e := fun j => if j = 0 then x1 == y1 else x2 == y2) (r := fun j => if j = 0 then sLt x1 y1 else sLt x2 y2) ha hb hu (fun j h1 h2 => by
    have : j = 0 ∨ j = 1 := by
      have : j < 2 := h1
      omega
    rcases this with rfl | rfl
    · exact SeqAt.EqAt.str_str _ _ _ _
    · exact SeqAt.EqAt.str_str _ _ _ _) (fun j h1 h2 _ => by
    have : j = 0 ∨ j = 1 := by
      have : j < 2 := h1
      omega
    rcases this with rfl | rfl
    · exact fun prog w E Q q => DT.rcLt_str _ _ _ _ _ _ prog w E Q q
    · exact fun prog w E Q q => DT.rcLt_str _ _ _ _ _ _ prog w E Q q)
  have e : Ob.lexAt (fun j => if j = 0 then x1 == y1 else x2 == y2) (fun j => if j = 0 then sLt x1 y1 else sLt x2 y2) (decide ((#[Value.str x1 t1, Value.str x2 t2] : Array Value).size < (#[Value.str y1 u1, Value.str y2 u2] : Array Value).size)) 0 (min (#[Value.str x1 t1, Value.str x2 t2] : Array Value).size (#[Value.str y1 u1, Value.str y2 u2] : Array Value).size) = ltP (x1, x2) (y1, y2) := by
    show Ob.lexAt _ _ false 0 2 = _
    rw [Ob.lexAt_succ, Ob.lexAt_succ, Ob.lexAt_zero]
    unfold ltP
    show (if (x1 == y1) = true then (if (x2 == y2) = true then false else sLt x2 y2) else sLt x1 y1) = if x1 = y1 then (if x2 = y2 then false else sLt x2 y2) else sLt x1 y1
    by_cases c : x1 = y1
    · rw [if_pos (beq_iff_eq.mpr c), if_pos c]
      by_cases d : x2 = y2
      · rw [if_pos (beq_iff_eq.mpr d), if_pos d]
      · rw [if_neg (fun z => d (beq_iff_eq.mp z)), if_neg d]
    · rw [if_neg (fun z => c (beq_iff_eq.mp z)), if_neg c]
  rw [e] at this
  exact this
theorem hq_sub : isSubtype (Value.type "list") (Value.type "list") = pure true := by kernel_rfl
section
variable {X : Cx}
abbrev refsA (ps : List AP) : List V := ps.map fun b => V.ref b.1
def TupsA (H : Hp) (ps : List AP) : Prop := ∀ b ∈ ps, H b.1 = some (.tup [.str b.2.1, .str b.2.2])
theorem tup_in {pins : List (Addr × Obj)} {σ : L2.St} {H : Hp} {s : Shared} (I : Inv X pins σ H s) {ps : List AP} (ht : TupsA H ps) : ∀ b ∈ ps, ∃ o t1 t2 n, s.heap.get? b.1 = some o ∧ o.cls = .type "tuple" ∧ o.data = .seq #[.str b.2.1 t1, .str b.2.2 t2] n := fun b hb => by
  obtain ⟨_, its, vi, ti⟩ := I.hok _ _ (ht b hb)
  obtain ⟨o, o1, o2, n, o3⟩ := ti
  cases vi with
  | cons r1 r2 =>
    cases r2 with
    | cons r3 r4 =>
      cases r4
      obtain ⟨t1, rfl⟩ := r1
      obtain ⟨t2, rfl⟩ := r3
      exact ⟨o, t1, t2, n, o1, o2, o3⟩
theorem cmp_pairs {pins : List (Addr × Obj)} {σ : L2.St} {H : Hp} {s : Shared} (I : Inv X pins σ H s) {A : Around} (hu : A.units < cLine) {l : Addr} {xs : List V} (hl : H l = some (.lst xs)) {ps : List AP} (ht : TupsA H ps) : CmpH A ltA (fun b => Value.ref b.1) l s ps := by
  have tup : ∀ (h' : Heap), (∀ b, b ≠ l → h'.get? b = s.heap.get? b) → ∀ b ∈ ps, ∃ t1 t2, h'.IsTuple b.1 #[.str b.2.1 t1, .str b.2.2 t2] := fun h' hk b hb => by
    have e := ht b hb
    have ne : b.1 ≠ l := fun z => by rw [z, hl] at e; cases e
    obtain ⟨_, its, vi, ti⟩ := I.hok _ _ e
    obtain ⟨o, o1, o2, n, o3⟩ := ti
    cases vi with
    | cons r1 r2 =>
      cases r2 with
      | cons r3 r4 =>
        cases r4
        obtain ⟨t1, rfl⟩ := r1
        obtain ⟨t2, rfl⟩ := r3
        exact ⟨t1, t2, o, (hk _ ne).trans o1, o2, n, o3⟩
  intro h' hk x hx y hy
  obtain ⟨t1, t2, a1⟩ := tup h' hk x hx
  obtain ⟨u1, u2, b1⟩ := tup h' hk y hy
  exact lt_pairs hu a1 b1
theorem vals_refs (ps : List AP) : Vals (refsA ps) (ps.map fun b => Value.ref b.1) := by
  induction ps with
  | nil => exact .nil
  | cons b ps ih => exact .cons rfl ih
theorem refs_vals {ps : List AP} : ∀ {us : List Value}, Vals (refsA ps) us → us = ps.map fun b => Value.ref b.1 := fun {us} => by
  induction ps generalizing us with
  | nil => intro h; cases h; rfl
  | cons b ps ih =>
    intro h
    cases h with
    | cons r1 r2 =>
      cases r1
      rw [ih r2]
      rfl
/-- the list, as the machine has it -/
theorem ls_at {pins : List (Addr × Obj)} {σ : L2.St} {H : Hp} {s : Shared} (I : Inv X pins σ H s) {l : Addr} {ps : List AP} (hl : H l = some (.lst (refsA ps))) : ps.length ≤ sizeLine ∧ ∃ n, LsAt s.heap l (fun b : AP => Value.ref b.1) ps n := by
  obtain ⟨z, its, n, r, _, e⟩ := I.lstM hl
  rw [List.length_map] at z
  rw [refs_vals r] at e
  exact ⟨z, n, e⟩
theorem inv_ls {pins : List (Addr × Obj)} {σ : L2.St} {H : Hp} {s : Shared} (I : Inv X pins σ H s) {l : Addr} {xs : List V} (hl : H l = some (.lst xs)) {ps : List AP} {h' : Heap} {n : Nat} {t' : Nat} (e : LsAt h' l (fun b : AP => Value.ref b.1) ps n) (hk : ∀ b, b ≠ l → h'.get? b = s.heap.get? b) (hz : ps.length ≤ sizeLine) :
    Inv X pins σ (upd H l (.lst (refsA ps))) { s with heap := h', toks := t' } :=
  I.write (x := l) (e := l) (by rw [hl]; trivial) (.inl rfl) (fun b u hb hu => (hk b hb).trans hu) ⟨_, e⟩ ⟨by rw [List.length_map]; exact hz, _, n, vals_refs ps, e⟩
theorem CmpH.mono {A : Around} {β : Type} {lt : β → β → Bool} {val : β → Value} {l : Addr} {s s' : Shared} {xs ys : List β} (h : CmpH A lt val l s xs) (hk : ∀ b, b ≠ l → s'.heap.get? b = s.heap.get? b) (sub : ∀ y ∈ ys, y ∈ xs) (e1 : s'.gens = s.gens) (e2 : s'.drawn = s.drawn) (e3 : s'.toks = s.toks) (e4 : s'.os = s.os) : CmpH A lt val l s' ys := fun h' hk' x hx y hy => by
  have := h h' (fun b hb => (hk' b hb).trans (hk b hb)) x (sub x hx) y (sub y hy)
  rw [show ({ s' with heap := h' } : Shared) = { s with heap := h' } by rw [e1, e2, e3, e4]]
  exact this
theorem upd_other {h : Heap} {l : Addr} {f : Obj → Obj} : ∀ b, b ≠ l → (h.update l f).get? b = h.get? b := fun b hb => Heap.get?_update_other _ _ (Ne.symm hb)
theorem pop_at {β : Type} {val : β → Value} {h : Heap} {l : Addr} {qs : List β} {z : β} {n : Nat} (e : LsAt h l val (qs ++ [z]) n) : LsAt (h.update l (Obj.mapSeq fun x => x.pop)) l val qs (n + 1) := by
  unfold LsAt
  rw [Heap.get?_update_self _ e (by rfl)]
  simp [Obj.mapSeq, seqObj]
theorem set_at {β : Type} {val : β → Value} {h : Heap} {l : Addr} {qs : List β} {z : β} {n : Nat} (e : LsAt h l val qs n) : LsAt (h.update l (Obj.mapSeq fun x => x.setIfInBounds 0 (val z))) l val (qs.set 0 z) n := by
  unfold LsAt
  rw [Heap.get?_update_self _ e (by rfl)]
  simp [Obj.mapSeq, seqObj, List.setIfInBounds_toArray, List.map_set]
theorem push_at {β : Type} {val : β → Value} {h : Heap} {l : Addr} {qs : List β} {z : β} {n : Nat} (e : LsAt h l val qs n) : LsAt (h.update l (Obj.mapSeq fun x => x.push (val z))) l val (qs ++ [z]) (n + 1) := by
  unfold LsAt
  rw [Heap.get?_update_self _ e (by rfl)]
  simp [Obj.mapSeq, seqObj]
def rHpop : List V → Hp → VK → Prop := fun vs H Q => ∃ (l : Addr) (ps : List AP), vs = [.ref l] ∧ H l = some (.lst (refsA ps)) ∧ TupsA H ps ∧ HeapT ltA ps 0 ∧ ps ≠ [] ∧
  ∀ b ps', ps.Perm (b :: ps') → (∀ c ∈ ps, ltP c.2 b.2 = false) → HeapT ltA ps' 0 → Q (.ref b.1) (upd H l (.lst (refsA ps')))
theorem cr_heappop (hu : X.A.units + 64 < cLine) : CallR X (.builtin "_heapq.heappop") rHpop := by
  intro pins s σ H xs us Q I r q
  obtain ⟨l, ps, ex, hl, ht, hh, hne, q⟩ := q
  subst ex
  obtain ⟨u, eu, rx⟩ := vals1 r
  subst eu
  cases rx
  obtain ⟨hz, n, e⟩ := ls_at I hl
  refine kmk_tree hq_kP hq_plP hq_entP (hq_argP _) ?_
  show wpAny _ X.A.in1 (((noKeywords _ _ >>= _) >>= _) >>= _) _ _ s
  refine wpAny_bind (wpAny_bind (wpAny_bind (wpAny_pure (a := ()) ?_)))
  refine wpAny_pure ?_
  refine wpAny_bind ?_
  show wpAny _ _ (PySem.isInstance (.ref l) (.type "list") >>= _) _ _ _
  refine wpAny_bind (wpAny_isInstance (b := true) ⟨_, e, rfl⟩ hq_sub ?_)
  refine wpAny_pure (a := l) ?_
  refine wpAny_pure ?_
  show wpAny _ _ ((seqItems? (.ref l) >>= _) >>= _) _ _ _
  refine wpAny_bind (wpAny_bind (wpAny_seqItems e rfl (wpAny_pure ?_)))
  obtain ⟨qs, z, rfl⟩ : ∃ qs z, ps = qs ++ [z] := ⟨ps.dropLast, ps.getLast hne, (List.dropLast_concat_getLast hne).symm⟩
  rw [show (List.map (fun b : AP => Value.ref b.1) (qs ++ [z])).toArray.back? = some (Value.ref z.1) by simp]
  rw [List.length_append] at hz
  have hz : qs.length + 1 ≤ sizeLine := hz
  have es : (List.map (fun b : AP => Value.ref b.1) (qs ++ [z])).toArray.size = qs.length + 1 := by simp
  refine wpAny_bind (wpAny_updateSeq e rfl ?_ (by rw [es]; exact hz) (by rw [Array.size_pop, es]; omega))
  have e2 := pop_at e
  rw [es]
  cases qs with
  | nil =>
    rw [if_pos (by simp)]
    exact wpAny_pure ⟨.ref z.1, _, inv_ls I hl e2 upd_other (Nat.zero_le _), rfl, q z [] (List.Perm.refl _) (fun c hc => by rw [List.mem_singleton.mp hc]; exact ltsA.irr z) (fun i i0 ti u v hu hv => by cases hv)⟩
  | cons b qs =>
    rw [if_neg (by simp)]
    refine wpAny_bind ?_
    refine wpAny_pure (a := Value.ref b.1) ?_
    have es2 : (List.map (fun b : AP => Value.ref b.1) (b :: qs)).toArray.size = qs.length + 1 := by simp
    have ql : qs.length + 1 + 1 ≤ sizeLine := hz
    refine wpAny_bind (wpAny_updateSeq e2 rfl ?_ (by rw [es2]; omega) (by rw [Array.size_setIfInBounds, es2]; omega))
    have e3 := set_at (z := z) e2
    refine wpAny_pure ⟨plainId_quiet hq_plS _, ?_⟩
    have ho := pop_holeH hh
    have hc := cmp_pairs I (A := X.A.in1) (by show X.A.units + 1 < cLine; omega) hl ht
    refine sift_ok ltsA (.ref b.1) _ true 0 0 ((b :: qs).set 0 z) _ _ rfl e3 (by simp) .here (by simp only [if_true]; exact ho) (by rw [List.length_set, List.length_cons]; omega)
      (hc.mono (fun c hb => (upd_other c hb).trans (upd_other c hb)) (fun y hy => by
        rcases List.mem_cons.mp (show y ∈ z :: qs from hy) with q | q
        · rw [q]; simp
        · exact List.mem_append_left _ (List.mem_cons_of_mem _ q)) rfl rfl rfl rfl) fun xs' h' n' p1 p2 p3 p4 p5 => ?_
    have mn := heap_minH ltsA hh (x := b) rfl
    have pm : (b :: qs ++ [z]).Perm (b :: xs') := by
      refine List.Perm.cons b (List.Perm.symm (p1.trans ?_))
      show (z :: qs).Perm (qs ++ [z])
      exact (List.perm_append_singleton z qs).symm
    exact ⟨.ref b.1, _, inv_ls I hl p3 (fun c hb => ((p4 c hb).trans (upd_other c hb)).trans (upd_other c hb)) (by rw [p1.length_eq, List.length_set, List.length_cons]; omega), rfl, q b xs' pm (fun c hc => by
      obtain ⟨i, hi⟩ := List.mem_iff_getElem?.mp hc
      exact mn i c hi) p2⟩
def rHpush : List V → Hp → VK → Prop := fun vs H Q => ∃ (l : Addr) (ps : List AP) (b : AP), vs = [.ref l, .ref b.1] ∧ H l = some (.lst (refsA ps)) ∧ TupsA H (b :: ps) ∧ HeapT ltA ps 0 ∧ ps.length < sizeLine ∧
  ∀ ps', ps'.Perm (b :: ps) → HeapT ltA ps' 0 → Q .non (upd H l (.lst (refsA ps')))
theorem cr_heappush (hu : X.A.units + 64 < cLine) : CallR X (.builtin "_heapq.heappush") rHpush := by
  intro pins s σ H xs us Q I r q
  obtain ⟨l, ps, b, ex, hl, ht, hh, hlt, q⟩ := q
  subst ex
  cases r with
  | cons r1 r2 =>
    cases r2 with
    | cons r3 r4 =>
      cases r4
      cases r1
      cases r3
      obtain ⟨hz, n, e⟩ := ls_at I hl
      refine kmk_tree hq_kU hq_plU hq_entU (hq_argU _ _) ?_
      show wpAny _ X.A.in1 ((noKeywords _ _ >>= _) >>= _) _ _ s
      refine wpAny_bind (wpAny_bind (wpAny_pure (a := ()) ?_))
      refine wpAny_bind (m := checkCount "heappush" 2 2 _) (wpAny_pure ?_)
      refine wpAny_bind ?_
      show wpAny _ _ (PySem.isInstance (.ref l) (.type "list") >>= _) _ _ _
      refine wpAny_bind (wpAny_isInstance (b := true) ⟨_, e, rfl⟩ hq_sub ?_)
      refine wpAny_pure (a := l) ?_
      refine wpAny_pure ?_
      have es : (List.map (fun b : AP => Value.ref b.1) ps).toArray.size = ps.length := by simp
      refine wpAny_bind (wpAny_updateSeq e rfl ?_ (by rw [es]; exact hz) (by rw [Array.size_push, es]; omega))
      have e2 := push_at (z := b) e
      show wpAny _ _ ((seqItems? (.ref l) >>= _) >>= _) _ _ _
      refine wpAny_bind (wpAny_bind (wpAny_seqItems e2 rfl (wpAny_pure ?_)))
      refine wpAny_pure ⟨plainId_quiet hq_plS _, ?_⟩
      have es2 : (List.map (fun b : AP => Value.ref b.1) (ps ++ [b])).toArray.size - 1 = ps.length := by simp
      rw [es2]
      have hc := cmp_pairs I (A := X.A.in1) (by show X.A.units + 1 < cLine; omega) hl ht
      refine sift_ok ltsA .none _ false ps.length 0 (ps ++ [b]) _ _ rfl e2 (by simp) (AncH.zero _) (by simp only [Bool.false_eq_true, if_false]; exact push_upH hh b) (by rw [List.length_append]; show ps.length + 1 ≤ _; omega)
        (hc.mono (fun c hb => upd_other c hb) (fun y hy => by
          rcases List.mem_append.mp hy with q | q
          · exact List.mem_cons_of_mem _ q
          · rw [List.mem_singleton.mp q]; exact List.mem_cons_self) rfl rfl rfl rfl) fun xs' h' n' p1 p2 p3 p4 p5 => ?_
      exact ⟨.non, _, inv_ls I hl p3 (fun c hb => (p4 c hb).trans (upd_other c hb)) (by rw [p1.length_eq, List.length_append]; show ps.length + 1 ≤ _; omega), rfl, q xs' (p1.trans (List.perm_append_singleton b ps)) p2⟩
def rHify : List V → Hp → VK → Prop := fun vs H Q => ∃ (l : Addr) (ps : List AP), vs = [.ref l] ∧ H l = some (.lst (refsA ps)) ∧ TupsA H ps ∧ ps.length ≤ 2000 ∧
  ∀ ps', ps'.Perm ps → HeapT ltA ps' 0 → Q .non (upd H l (.lst (refsA ps')))
theorem cr_heapify (hu : X.A.units + 64 < cLine) : CallR X (.builtin "_heapq.heapify") rHify := by
  intro pins s σ H xs us Q I r q
  obtain ⟨l, ps, ex, hl, ht, hlt, q⟩ := q
  subst ex
  obtain ⟨u, eu, rx⟩ := vals1 r
  subst eu
  cases rx
  obtain ⟨hz, n, e⟩ := ls_at I hl
  refine kmk_tree hq_kY hq_plY hq_entY (hq_argY _) ?_
  show wpAny _ X.A.in1 (((noKeywords _ _ >>= _) >>= _) >>= _) _ _ s
  refine wpAny_bind (wpAny_bind (wpAny_bind (wpAny_pure (a := ()) ?_)))
  refine wpAny_pure ?_
  refine wpAny_bind ?_
  show wpAny _ _ (PySem.isInstance (.ref l) (.type "list") >>= _) _ _ _
  refine wpAny_bind (wpAny_isInstance (b := true) ⟨_, e, rfl⟩ hq_sub ?_)
  refine wpAny_pure (a := l) ?_
  refine wpAny_pure ?_
  show wpAny _ _ ((seqItems? (.ref l) >>= _) >>= _) _ _ _
  refine wpAny_bind (wpAny_bind (wpAny_seqItems e rfl (wpAny_pure ?_)))
  have es : (List.map (fun b : AP => Value.ref b.1) ps).toArray.size = ps.length := by simp
  simp only [es, gt_iff_lt]
  rw [if_neg (by omega)]
  by_cases c : ps.length < 2
  · rw [if_pos c]
    exact wpAny_pure ⟨.non, _, inv_ls I hl e (fun _ _ => rfl) hz, rfl, q ps (List.Perm.refl _) fun i i0 ti u v hu hv => by
      have := (List.getElem?_eq_some_iff.mp hv).1
      have i0' : i = 0 ∨ 0 < i := by omega
      omega⟩
  · rw [if_neg c]
    refine wpAny_pure ⟨plainId_quiet hq_plS _, ?_⟩
    rw [show ((ps.length / 2 : Nat) : Int) - 2 = ((ps.length / 2 - 1 : Nat) : Int) - 1 by omega]
    have hc := cmp_pairs I (A := X.A.in1) (by show X.A.units + 1 < cLine; omega) hl ht
    refine sift_ok ltsA .none _ true (ps.length / 2 - 1) (ps.length / 2 - 1) ps _ _ rfl e (by omega) .here (by simp only [if_true]; exact next_topH (half_heapH ps) (by omega)) hz hc fun xs' h' n' p1 p2 p3 p4 p5 => ?_
    exact ⟨.non, _, inv_ls I hl p3 p4 (by rw [p1.length_eq]; exact hz), rfl, q xs' p1 p2⟩
end
end Gx

/-! max( ) of whole numbers with a default. -/
namespace Gx
open PySem PySem.Spec PyProof.Rows L2
def MaxA (a d : Value) : Args := ⟨[a], [(Str.ofString "default", d)]⟩
theorem maxA_ok (a d : Value) : argsOk "max" (MaxA a d) := by
  unfold argsOk MaxA
  kernel_rfl
section
variable {prog : Program} {w : World} {A : Around} {R : Result → Shared → Prop} {I : Addr} {fp wr : List Addr} {n : Nat} {P : Nat → Value → Prop} {St : Nat → Heap → Prop}
/-- what the loop holds: nothing yet, or the best so far -/
def MaxHeld (P : Nat → Value → Prop) (bt : Nat → Nat → Bool) (j : Nat) (vs : Array Value) : Prop := (j = 0 ∧ vs = #[]) ∨ ∃ v, vs = #[v, v] ∧ 0 < j ∧ P (argBest bt (j - 1)) v
def MaxOut (P : Nat → Value → Prop) (bt : Nat → Nat → Bool) (n : Nat) (d v : Value) : Prop := (n = 0 ∧ v = d) ∨ (0 < n ∧ P (argBest bt (n - 1)) v)
theorem max_rounds (W : Walks prog w A.in1 I fp wr n P St) (bt : Nat → Nat → Bool) (hcmp : CmpOf prog w A.in1 .Gt P bt) (S : Addr) (hS0 : S ∉ fp) (d : Value) :
    ∀ (k j : Nat) (s : Shared) (vs : Array Value) (c : Nat), n - j = k → j ≤ n → St j s.heap → MaxHeld P bt j vs → s.heap.get? S = some { cls := .type "list", dict := none, data := .seq vs c, slots := #[] } →
    (∀ v h2 tk, MaxOut P bt n d v → (∀ b o, b ∉ wr → b ≠ S → s.heap.get? b = some o → h2.get? b = some o) → R (.ok (.ret v)) { s with heap := h2, toks := tk }) →
    codeAny (model prog w) A (.builtin "max.loop" ⟨[.ref I, .none, .ref S], [(Str.ofString "default", d)]⟩) R s := by
  have sw : S ∉ wr := fun h => hS0 (W.sub _ h)
  have nm : (toString "max" ++ toString ".loop" : String) = "max.loop" := by decide
  intro k
  induction k with
  | zero =>
    intro j s vs c e hj st held hS fin
    have ej : j = n := by omega
    subst ej
    refine codeAny_builtin F.entry_max_loop (by
      rw [Around.under_plainId F.plain_max_loop _]
      show wpAny _ A.in1 (seqItems? (.ref S) >>= _) _ _ s
      refine wpAny_bind (wpAny_seqItems hS rfl ?_)
      show wpAny _ A.in1 (tryCatch (pyNext (.ref I)) _ >>= _) _ _ s
      refine wpAny_bind (wpAny_tryCatch (W.done s _ _ st fun h2 tk keep => ?_))
      have hS2 := keep S _ sw hS
      rcases held with ⟨e0, rfl⟩ | ⟨v, rfl, j0, hv⟩
      · show wpAny _ A.in1 (rule _ >>= _) _ _ _
        refine wpAny_bind (wpAny_rule ?_)
        refine wpAny_pure ?_
        exact fin d h2 tk (.inl ⟨e0, rfl⟩) fun b o hw _ q => keep b o hw q
      · show wpAny _ A.in1 (updateSeq S (fun _ => #[]) >>= _) _ _ _
        refine wpAny_bind (wpAny_updateSeq hS2 rfl (wpAny_bind (wpAny_letGo (wpAny_pure ?_))))
        exact fin v _ tk (.inr ⟨j0, hv⟩) fun b o hw hb q => (Heap.get?_update_other _ _ (Ne.symm hb)).trans (keep b o hw q))
  | succ k ih =>
    intro j s vs c e hj st held hS fin
    have hlt : j < n := by omega
    refine codeAny_builtin F.entry_max_loop (by
      rw [Around.under_plainId F.plain_max_loop _]
      show wpAny _ A.in1 (seqItems? (.ref S) >>= _) _ _ s
      refine wpAny_bind (wpAny_seqItems hS rfl ?_)
      show wpAny _ A.in1 (tryCatch (pyNext (.ref I)) _ >>= _) _ _ s
      refine wpAny_bind (wpAny_tryCatch (W.item j s _ _ hlt st fun v h2 tk hP st2 keep => ?_))
      have hS2 := keep S _ sw hS
      rcases held with ⟨rfl, rfl⟩ | ⟨b0, rfl, j0, hb0⟩
      · show wpAny _ A.in1 (updateSeq S (fun _ => #[v, v]) >>= _) _ _ _
        refine wpAny_bind (wpAny_updateSeq hS2 rfl ?_)
        rw [nm]
        refine wpAny_pure ⟨plainId_quiet F.plain_max_loop _, ih 1 _ #[v, v] _ (by omega) (by omega) (W.frame _ _ _ st2 fun b hb o q => (Heap.get?_update_other _ _ (fun h : S = b => hS0 (by rw [h]; exact hb))).trans q) (.inr ⟨v, rfl, Nat.one_pos, hP⟩) (Heap.get?_update_self _ hS2 rfl) fun v3 h3 tk3 out keep3 => ?_⟩
        exact fin v3 h3 tk3 out fun b o hw hb q => keep3 b o hw hb ((Heap.get?_update_other _ _ (Ne.symm hb)).trans (keep b o hw q))
      · show wpAny _ A.in1 (tryCatch (holding [v, v] (richCompare .Gt v b0 >>= _)) _ >>= _) _ _ _
        refine wpAny_bind (wpAny_tryCatch (wpAny_holding (wpAny_bind (hcmp j (argBest bt (j - 1)) v b0 _ _ _ hP hb0 ?_))))
        refine wpAny_bind (wpAny_holding (wpAny_truthy_bool (wpAny_bind (wpAny_letGo (wpAny_pure ?_)))))
        have ea : ∀ q, bt j (argBest bt (j - 1)) = q → argBest bt j = if q = true then j else argBest bt (j - 1) := fun q hq => by
          obtain ⟨i, rfl⟩ : ∃ i, j = i + 1 := ⟨j - 1, by omega⟩
          rw [argBest]
          rw [show i + 1 - 1 = i from rfl] at hq ⊢
          rw [hq]
        cases hb : bt j (argBest bt (j - 1)) with
        | true =>
          have eb := ea true hb
          rw [if_pos rfl] at eb ⊢
          refine wpAny_bind (wpAny_updateSeq hS2 rfl (wpAny_bind (wpAny_letGo ?_)))
          rw [nm]
          refine wpAny_pure ⟨plainId_quiet F.plain_max_loop _, ih (j + 1) _ #[v, v] _ (by omega) (by omega) (W.frame _ _ _ st2 fun b hb o q => (Heap.get?_update_other _ _ (fun h : S = b => hS0 (by rw [h]; exact hb))).trans q) (.inr ⟨v, rfl, Nat.succ_pos _, by rw [Nat.add_sub_cancel, eb]; exact hP⟩) (Heap.get?_update_self _ hS2 rfl) fun v3 h3 tk3 out keep3 => ?_⟩
          exact fin v3 h3 tk3 out fun b o hw hb q => keep3 b o hw hb ((Heap.get?_update_other _ _ (Ne.symm hb)).trans (keep b o hw q))
        | false =>
          have eb := ea false hb
          rw [if_neg Bool.false_ne_true] at eb ⊢
          refine wpAny_bind (wpAny_letGo ?_)
          rw [nm]
          refine wpAny_pure ⟨plainId_quiet F.plain_max_loop _, ih (j + 1) _ #[b0, b0] c (by omega) (by omega) st2 (.inr ⟨b0, rfl, Nat.succ_pos _, by rw [Nat.add_sub_cancel, eb]; exact hb0⟩) hS2 fun v3 h3 tk3 out keep3 => ?_⟩
          exact fin v3 h3 tk3 out fun b o hw hb q => keep3 b o hw hb (keep b o hw q))
end
end Gx
namespace Gx
open PySem PySem.Spec PyProof.Rows L2
section
variable {prog : Program} {w : World} {A : Around} {E : Value → Shared → Prop} {s : Shared}
theorem max_def_walk {x d : Value} {Q : Value → Shared → Prop}
    (h : wpAny (model prog w) A.in1 (pyIter x) (fun it s2 => ∃ I fp wr n P St bt, it = .ref I ∧ Walks prog w A.in1 I fp wr n P St ∧ St 0 s2.heap ∧ (∀ b ∈ fp, b < s2.heap.objs.size) ∧ CmpOf prog w A.in1 .Gt P bt ∧
      ∀ v h2 tk, MaxOut P bt n d v → (∀ b o, b ∉ wr → s2.heap.get? b = some o → h2.get? b = some o) → Q v { s2 with heap := h2, toks := tk }) E s) :
    wpAny (model prog w) A (call (.builtin "max") [x] [(Str.ofString "default", d)]) Q E s := by
  have nm : (toString "max" ++ toString ".loop" : String) = "max.loop" := by decide
  refine wpAny_call (codeAny_call_builtin F.plain_max F.entry_max ?_)
  simp only [checkBuiltinCall, F.kind_max]
  have body : wpAny (model prog w) A.in1 (Builtin.«max» (MaxA x d)) (fun fin s' => match fin with
      | .done f => (match (Except.ok f : Result) with | .ok (.ret v) => Q v s' | .ok _ => False | .error e => E e s')
      | .again c' => c'.quiet = true ∧ codeAny (model prog w) A c' (fun r s' => match r with | .ok (.ret v) => Q v s' | .ok _ => False | .error e => E e s') s') E s := by
    show wpAny _ A.in1 (Builtin.Builtins.bindParams "max" ["key", "default"] 0 ⟨[], [(Str.ofString "default", d)]⟩ >>= _) _ _ s
    refine wpAny_bind (wpAny_of_eq (show Builtin.Builtins.bindParams "max" ["key", "default"] 0 ⟨[], [(Str.ofString "default", d)]⟩ = pure [none, some d] from rfl) ?_)
    refine wpAny_bind (wpAny_pure ?_)
    refine wpAny_bind (wpAny_mono h (fun it s2 h2 => ?_) fun _ _ e => e)
    obtain ⟨I, fp, wr, n, P, St, bt, rfl, W, hst, hfp, hcmp, hQ⟩ := h2
    refine wpAny_bind (wpAny_newObj_type ?_)
    have sf : s2.heap.objs.size ∉ fp := fun hm => Nat.lt_irrefl _ (hfp _ hm)
    rw [nm]
    refine wpAny_pure ⟨plainId_quiet F.plain_max_loop _, max_rounds W bt hcmp s2.heap.objs.size sf d n 0 _ #[] _ rfl (Nat.zero_le _) (W.frame _ _ _ hst fun b _ o e => Heap.get?_push_of_some _ e) (.inl ⟨rfl, rfl⟩) (Heap.get?_push_size _ rfl) fun v h3 tk out keep => ?_⟩
    exact hQ v h3 tk out fun b o hbw e => keep b o hbw (Nat.ne_of_lt (Heap.lt_size e)) (Heap.get?_push_of_some _ e)
  cases hsig : Manifest.signature? "max" with
  | none => exact wpAny_pure body
  | some sig =>
    have ok := maxA_ok x d
    simp only [argsOk, hsig] at ok
    have h2 : Bind.checkArgs "max" sig (MaxA x d) = pure () := ok
    show wpAny _ A.in1 (Bind.checkArgs "max" sig (MaxA x d)) _ _ s
    rw [h2]
    exact wpAny_pure body
end
end Gx
namespace Gx
open PySem PySem.Spec PyProof.Rows L2
/-- what max(ns, default=d) is -/
def TopOf (d : Int) (ns : List Int) (m : Int) : Prop := (ns = [] ∧ m = d) ∨ (m ∈ ns ∧ ∀ y ∈ ns, y ≤ m)
section
variable {prog : Program} {w : World} {A : Around} {E : Value → Shared → Prop} {s : Shared}
theorem max_def_ints {l : Addr} {its : List Value} {ns : List Int} {d : Int} {dt : Tok} {Q : Value → Shared → Prop} (hh : A.handled = none) (hl : s.heap.IsList l its.toArray) (hi : IntsAre its ns)
    (h : ∀ h2 tk m t2, (∀ b o, s.heap.get? b = some o → h2.get? b = some o) → TopOf d ns m → Q (.int m t2) { s with heap := h2, toks := tk }) : wpAny (model prog w) A (call (.builtin "max") [.ref l] [(Str.ofString "default", .int d dt)]) Q E s := by
  obtain ⟨xs, e⟩ := hi.allInts.items
  have hn : numsOf (intItems xs).toList = ns := by rw [← e]; exact hi.numsOf
  rw [nums_intItems] at hn
  subst hn
  rw [e] at hl
  refine max_def_walk (iter_intList hl fun s2 e2 st hfp hlI => ?_)
  subst e2
  refine ⟨_, _, _, _, _, _, _, rfl, Walks.list (A := A.in1) hh _ l hlI (intItems xs), st, hfp, CmpOf.ints_gt (numAt xs) (fun _ _ => intItems_at), fun v h2 tk out keep => ?_⟩
  rcases out with ⟨e0, rfl⟩ | ⟨n0, hv⟩
  · refine h h2 tk d dt (old_kept keep) (.inl ⟨?_, rfl⟩)
    have : xs.toList = [] := List.eq_nil_of_length_eq_zero (by simpa [intItems] using e0)
    rw [this]
    rfl
  · obtain ⟨t, rfl⟩ := intItems_at hv
    obtain ⟨h1, h2'⟩ := argBest_gt (numAt xs) ((intItems xs).size - 1)
    have hs : (intItems xs).size = xs.size := by simp [intItems]
    rw [hs] at h1 h2' n0
    rw [hs]
    refine h h2 tk _ t (old_kept keep) (.inr ⟨?_, fun a ha => ?_⟩)
    · rw [numAt_eq]
      exact PySem.getD_mem (by rw [List.length_map, Array.length_toList]; omega)
    · obtain ⟨j, hj, rfl⟩ := mem_getD ha
      rw [List.length_map, Array.length_toList] at hj
      rw [← numAt_eq]
      exact h2' j (by omega)
end
section
variable {X : Cx}
def rMaxDef (K : PySem.W.Frag) : List V → List V → Hp → VK → Prop := fun vs zs H Q => ∃ (a : Addr) (ns : List Int) (d : Int), vs = [V.ref a] ∧ zs = [V.int d] ∧ SqL K H a (ns.map V.int) ∧ ∀ m, TopOf d ns m → Q (.int m) H
theorem cr_maxDef (hc : X.calm = true) : CallRK X (.builtin "max") [Str.ofString "default"] (rMaxDef X.K) := by
  intro pins s σ H xs zs us ws Q I r1 r2 h
  obtain ⟨a, ns, d, rfl, rfl, hs, q⟩ := h
  obtain ⟨its, rv, hl, _⟩ := I.list hs
  rw [Vals.ref1 r1]
  cases r2 with
  | cons r rr =>
    cases rr
    obtain ⟨t, rfl⟩ := r
    exact max_def_ints (I.ok.hd hc) hl.isList rv.ints fun h2 tk m t2 keep top => ⟨.int m, H, I.kept keep, ⟨_, rfl⟩, q m top⟩
end
end Gx

/-! min of a list of pairs of texts -/
namespace Gx
open PySem PySem.Spec PyProof.Rows L2
theorem minA_ok (a : Value) : argsOk "min" ⟨[a], []⟩ := by
  unfold argsOk
  kernel_rfl
section
variable {prog : Program} {w : World} {A : Around} {R : Result → Shared → Prop} {I : Addr} {fp wr : List Addr} {n : Nat} {P : Nat → Value → Prop} {St : Nat → Heap → Prop}
def CmpIn (A : Around) (P : Nat → Value → Prop) (bt : Nat → Nat → Bool) (wr : List Addr) (S : Addr) (h0 : Heap) : Prop := ∀ (s : Shared), (∀ b o, b ∉ wr → b ≠ S → h0.get? b = some o → s.heap.get? b = some o) → ∀ i j v u, P i v → P j u → Ob.RcOp .Lt A s v u (bt i j)
theorem min_rounds (W : Walks prog w A.in1 I fp wr n P St) (bt : Nat → Nat → Bool) (S : Addr) (hS0 : S ∉ fp) (h0 : Heap) (hcmp : CmpIn A.in1 P bt wr S h0) (n0 : 0 < n) :
    ∀ (k j : Nat) (s : Shared) (vs : Array Value) (c : Nat), n - j = k → j ≤ n → St j s.heap → MaxHeld P bt j vs → s.heap.get? S = some { cls := .type "list", dict := none, data := .seq vs c, slots := #[] } →
    (∀ b o, b ∉ wr → b ≠ S → h0.get? b = some o → s.heap.get? b = some o) →
    (∀ v h2 tk, P (argBest bt (n - 1)) v → (∀ b o, b ∉ wr → b ≠ S → h0.get? b = some o → h2.get? b = some o) → R (.ok (.ret v)) { s with heap := h2, toks := tk }) →
    codeAny (model prog w) A (.builtin "min.loop" ⟨[.ref I, .none, .ref S], []⟩) R s := by
  have sw : S ∉ wr := fun h => hS0 (W.sub _ h)
  have nm : (toString "min" ++ toString ".loop" : String) = "min.loop" := by decide
  intro k
  induction k with
  | zero =>
    intro j s vs c e hj st held hS kp fin
    have ej : j = n := by omega
    subst ej
    refine codeAny_builtin F.entry_min_loop (by
      rw [Around.under_plainId F.plain_min_loop _]
      show wpAny _ A.in1 (seqItems? (.ref S) >>= _) _ _ s
      refine wpAny_bind (wpAny_seqItems hS rfl ?_)
      show wpAny _ A.in1 (tryCatch (pyNext (.ref I)) _ >>= _) _ _ s
      refine wpAny_bind (wpAny_tryCatch (W.done s _ _ st fun h2 tk keep => ?_))
      have hS2 := keep S _ sw hS
      rcases held with ⟨e0, rfl⟩ | ⟨v, rfl, j0, hv⟩
      · omega
      · show wpAny _ A.in1 (updateSeq S (fun _ => #[]) >>= _) _ _ _
        refine wpAny_bind (wpAny_updateSeq hS2 rfl (wpAny_bind (wpAny_letGo (wpAny_pure ?_))))
        exact fin v _ tk hv fun b o hw hb q => (Heap.get?_update_other _ _ (Ne.symm hb)).trans (keep b o hw (kp b o hw hb q)))
  | succ k ih =>
    intro j s vs c e hj st held hS kp fin
    have hlt : j < n := by omega
    refine codeAny_builtin F.entry_min_loop (by
      rw [Around.under_plainId F.plain_min_loop _]
      show wpAny _ A.in1 (seqItems? (.ref S) >>= _) _ _ s
      refine wpAny_bind (wpAny_seqItems hS rfl ?_)
      show wpAny _ A.in1 (tryCatch (pyNext (.ref I)) _ >>= _) _ _ s
      refine wpAny_bind (wpAny_tryCatch (W.item j s _ _ hlt st fun v h2 tk hP st2 keep => ?_))
      have hS2 := keep S _ sw hS
      have kp2 : ∀ b o, b ∉ wr → b ≠ S → h0.get? b = some o → h2.get? b = some o := fun b o hw hb q => keep b o hw (kp b o hw hb q)
      rcases held with ⟨rfl, rfl⟩ | ⟨b0, rfl, j0, hb0⟩
      · show wpAny _ A.in1 (updateSeq S (fun _ => #[v, v]) >>= _) _ _ _
        refine wpAny_bind (wpAny_updateSeq hS2 rfl ?_)
        rw [nm]
        refine wpAny_pure ⟨plainId_quiet F.plain_min_loop _, ih 1 _ #[v, v] _ (by omega) (by omega) (W.frame _ _ _ st2 fun b hb o q => (Heap.get?_update_other _ _ (fun h : S = b => hS0 (by rw [h]; exact hb))).trans q) (.inr ⟨v, rfl, Nat.one_pos, hP⟩) (Heap.get?_update_self _ hS2 rfl) (fun b o hw hb q => (Heap.get?_update_other _ _ (Ne.symm hb)).trans (kp2 b o hw hb q)) fun v3 h3 tk3 out keep3 => ?_⟩
        exact fin v3 h3 tk3 out keep3
      · show wpAny _ A.in1 (tryCatch (holding [v, v] (richCompare .Lt v b0 >>= _)) _ >>= _) _ _ _
        refine wpAny_bind (wpAny_tryCatch (wpAny_holding (wpAny_bind (hcmp { s with heap := h2, toks := tk } kp2 j (argBest bt (j - 1)) v b0 hP hb0 _ _ _ _ ?_))))
        refine wpAny_bind (wpAny_holding (wpAny_truthy_bool (wpAny_bind (wpAny_letGo (wpAny_pure ?_)))))
        have ea : ∀ q, bt j (argBest bt (j - 1)) = q → argBest bt j = if q = true then j else argBest bt (j - 1) := fun q hq => by
          obtain ⟨i, rfl⟩ : ∃ i, j = i + 1 := ⟨j - 1, by omega⟩
          rw [argBest]
          rw [show i + 1 - 1 = i from rfl] at hq ⊢
          rw [hq]
        cases hb : bt j (argBest bt (j - 1)) with
        | true =>
          have eb := ea true hb
          rw [if_pos rfl] at eb ⊢
          refine wpAny_bind (wpAny_updateSeq hS2 rfl (wpAny_bind (wpAny_letGo ?_)))
          rw [nm]
          refine wpAny_pure ⟨plainId_quiet F.plain_min_loop _, ih (j + 1) _ #[v, v] _ (by omega) (by omega) (W.frame _ _ _ st2 fun b hb o q => (Heap.get?_update_other _ _ (fun h : S = b => hS0 (by rw [h]; exact hb))).trans q) (.inr ⟨v, rfl, Nat.succ_pos _, by rw [Nat.add_sub_cancel, eb]; exact hP⟩) (Heap.get?_update_self _ hS2 rfl) (fun b o hw hb q => (Heap.get?_update_other _ _ (Ne.symm hb)).trans (kp2 b o hw hb q)) fun v3 h3 tk3 out keep3 => ?_⟩
          exact fin v3 h3 tk3 out keep3
        | false =>
          have eb := ea false hb
          rw [if_neg Bool.false_ne_true] at eb ⊢
          refine wpAny_bind (wpAny_letGo ?_)
          rw [nm]
          refine wpAny_pure ⟨plainId_quiet F.plain_min_loop _, ih (j + 1) _ #[b0, b0] c (by omega) (by omega) st2 (.inr ⟨b0, rfl, Nat.succ_pos _, by rw [Nat.add_sub_cancel, eb]; exact hb0⟩) hS2 kp2 fun v3 h3 tk3 out keep3 => ?_⟩
          exact fin v3 h3 tk3 out keep3)
theorem best_min {β : Type} {lt : β → β → Bool} (o : Lts lt) {g : Nat → β} : ∀ k, argBest (fun i j => lt (g i) (g j)) k ≤ k ∧ ∀ i ≤ k, lt (g i) (g (argBest (fun i j => lt (g i) (g j)) k)) = false := fun k => by
  induction k with
  | zero =>
    refine ⟨Nat.le_refl _, fun i hi => ?_⟩
    have : i = 0 := by omega
    rw [this]
    exact o.irr _
  | succ k ih =>
    obtain ⟨h1, h2⟩ := ih
    rw [argBest]
    cases hb : lt (g (k + 1)) (g (argBest (fun i j => lt (g i) (g j)) k)) with
    | true =>
      rw [if_pos rfl]
      refine ⟨Nat.le_refl _, fun i hi => ?_⟩
      by_cases c : i = k + 1
      · rw [c]; exact o.irr _
      · exact o.tr _ _ _ (o.asym _ _ hb) (h2 i (by omega))
    | false =>
      rw [if_neg Bool.false_ne_true]
      refine ⟨by omega, fun i hi => ?_⟩
      by_cases c : i = k + 1
      · rw [c]; exact hb
      · exact h2 i (by omega)
end
section
variable {X : Cx}
def rMinP (K : PySem.W.Frag) : List V → Hp → VK → Prop := fun vs H Q => ∃ (l : Addr) (ps : List AP), vs = [.ref l] ∧ H l = some (.lst (refsA ps)) ∧ TupsA H ps ∧ ps ≠ [] ∧ ∀ b ∈ ps, (∀ c ∈ ps, ltP c.2 b.2 = false) → Q (.ref b.1) H
theorem cr_minP (hcalm : X.calm = true) (hu : X.A.units + 64 < cLine) : CallR X (.builtin "min") (rMinP X.K) := by
  intro pins s σ H xs us Q I r q
  obtain ⟨l, ps, ex, hl, ht, hne, q⟩ := q
  subst ex
  obtain ⟨u, eu, rx⟩ := vals1 r
  subst eu
  cases rx
  obtain ⟨hz, n, e⟩ := ls_at I hl
  have hh : X.A.handled = none := I.ok.hd hcalm
  have pos : 0 < ps.length := List.length_pos_iff.mpr hne
  have hin : s.heap.IsList l (List.map (fun b : AP => Value.ref b.1) ps).toArray := ⟨_, e, rfl, _, rfl⟩
  have nm : (toString "min" ++ toString ".loop" : String) = "min.loop" := by decide
  refine kmk_tree (b := Builtin.«min») (kw := []) F.kind_min F.plain_min F.entry_min (minA_ok _) ?_
  show wpAny _ X.A.in1 (Builtin.Builtins.bindParams "min" ["key", "default"] 0 ⟨[], []⟩ >>= _) _ _ s
  refine wpAny_bind (wpAny_of_eq (show Builtin.Builtins.bindParams "min" ["key", "default"] 0 ⟨[], []⟩ = pure [none, none] from rfl) ?_)
  refine wpAny_bind (wpAny_pure ?_)
  refine wpAny_bind (iter_any hin fun s2 e2 hi nl => ?_)
  refine wpAny_bind (wpAny_newObj_type ?_)
  rw [nm]
  have lt : l < s.heap.objs.size := Heap.lt_size e
  obtain ⟨d, hd⟩ : ∃ d : AP, d ∈ ps := List.exists_mem_of_ne_nil _ hne
  have sz2 : s2.heap.objs.size = s.heap.objs.size + 1 := by rw [e2]; exact size_push' _ _
  have esz : (List.map (fun b : AP => Value.ref b.1) ps).toArray.size = ps.length := by simp
  have W := Walks.list (prog := X.prog) (w := X.w) (A := X.A.in1) hh s.heap.objs.size l nl (List.map (fun b : AP => Value.ref b.1) ps).toArray
  have sf : s2.heap.objs.size ∉ [s.heap.objs.size, l] := fun hm => by
    simp only [List.mem_cons, List.not_mem_nil, or_false] at hm
    rw [sz2] at hm
    rcases hm with h | h
    · exact absurd h (Nat.succ_ne_self _)
    · rw [← h] at lt
      exact absurd lt (Nat.not_lt.mpr (Nat.le_succ _))
  have old : ∀ b o, s.heap.get? b = some o → s2.heap.get? b = some o := fun b o h => by rw [e2]; exact Heap.get?_push_of_some _ h
  refine wpAny_pure ⟨plainId_quiet F.plain_min_loop _, min_rounds W (fun i j => ltA (ps.getD i d) (ps.getD j d)) s2.heap.objs.size sf s.heap (fun s3 hk i j v u hv hw => ?_) (by rw [esz]; exact pos) (List.map (fun b : AP => Value.ref b.1) ps).toArray.size 0 _ #[] _ rfl (Nat.zero_le _) (W.frame _ _ _ hi fun b _ o e => Heap.get?_push_of_some _ e) (.inl ⟨rfl, rfl⟩) (Heap.get?_push_size _ rfl)
    (fun b o hw hb h => Heap.get?_push_of_some _ (old b o h)) fun v h3 tk out keep => ?_⟩
  · have at_ : ∀ {i : Nat} {v : Value}, (List.map (fun b : AP => Value.ref b.1) ps).toArray[i]? = some v → ∃ b ∈ ps, v = .ref b.1 ∧ ps.getD i d = b := fun {i v} h => by
      rw [List.getElem?_toArray, List.getElem?_map] at h
      cases hb : ps[i]? with
      | none => rw [hb] at h; cases h
      | some b =>
        rw [hb] at h
        exact ⟨b, List.mem_of_getElem? hb, (Option.some.inj h).symm, by rw [List.getD, hb]; rfl⟩
    obtain ⟨b, bm, rfl, eb⟩ := at_ hv
    obtain ⟨c, cm, rfl, ec⟩ := at_ hw
    show Ob.RcOp .Lt X.A.in1 s3 (.ref b.1) (.ref c.1) (ltA (ps.getD i d) (ps.getD j d))
    rw [eb, ec]
    have tp : ∀ b ∈ ps, ∃ t1 t2, s3.heap.IsTuple b.1 #[.str b.2.1 t1, .str b.2.2 t2] := fun b hb => by
      obtain ⟨o, t1, t2, n, h1, h2, h3⟩ := tup_in I ht b hb
      have lb := Heap.lt_size h1
      refine ⟨t1, t2, o, hk _ _ (fun m => ?_) (fun m => ?_) h1, h2, n, h3⟩
      · rw [List.mem_singleton.mp m] at lb
        exact Nat.lt_irrefl _ lb
      · rw [m, sz2] at lb
        exact absurd lb (Nat.not_lt.mpr (Nat.le_succ _))
    obtain ⟨t1, t2, a1⟩ := tp b bm
    obtain ⟨u1, u2, a2⟩ := tp c cm
    exact lt_pairs (by show X.A.units + 1 < cLine; omega) a1 a2
  · rw [esz] at out
    obtain ⟨h1, h2⟩ := best_min (g := fun i => ps.getD i d) ltsA (ps.length - 1)
    obtain ⟨k, hk⟩ : ∃ k, argBest (fun i j => ltA (ps.getD i d) (ps.getD j d)) (ps.length - 1) = k := ⟨_, rfl⟩
    rw [hk] at out h1 h2
    rw [List.getElem?_toArray, List.getElem?_map] at out
    cases hb : ps[k]? with
    | none => rw [hb] at out; cases out
    | some b =>
      rw [hb] at out
      cases out
      have bm := List.mem_of_getElem? hb
      have I3 : Inv X pins σ H { s with heap := h3, toks := tk } := I.kept fun c o h => keep c o (fun m => by
        have lb := Heap.lt_size h
        rw [List.mem_singleton.mp m] at lb
        exact Nat.lt_irrefl _ lb) (fun m => by
        have lb := Heap.lt_size h
        rw [m, sz2] at lb
        exact absurd lb (Nat.not_lt.mpr (Nat.le_succ _))) h
      subst e2
      refine ⟨.ref b.1, H, I3, rfl, q b bm fun c hc => ?_⟩
      · obtain ⟨i, hi⟩ := List.mem_iff_getElem?.mp hc
        have li := (List.getElem?_eq_some_iff.mp hi).1
        have := h2 i (by omega)
        rw [show ps.getD i d = c by rw [List.getD, hi]; rfl, show ps.getD k d = b by rw [List.getD, hb]; rfl] at this
        exact this
end
end Gx

/-! for x in zip(a, b): one name takes the tuple -/
namespace Gx
open PySem PySem.Spec PySem.W PyProof.Rows L2
abbrev ZipAt (h : Heap) (z TI TO : Addr) (f0 : Value) (f1 : Bool) : Prop := h.get? z = some { cls := .type "zip", data := .fields #[f0, .bool f1, .bool false, .ref TI, .ref TO] }
def ZipF (f0 : Value) (f1 : Bool) : Prop := (f0 = .none ∧ f1 = false) ∨ ∃ T : Nat, f0 = rawInt T
section
variable {prog : Program} {w : World} {A : Around} {E : Value → Shared → Prop} {s : Shared} {z TI TO i1 i2 l1 l2 : Addr} {k1 k2 : Nat} {xs ys : Array Value}
/-- what was handed out is gone: the zip's own tuple is free -/
theorem zip_gone {T : Nat} {f1 : Bool} {Q : Bool → Shared → Prop} (hz : ZipAt s.heap z TI TO (rawInt T) f1) (e : s.heap.get? T = none) (q : Q true s) : wpAny (model prog w) A (Builtin.SmallTypes.ownedTupleIsFree (.ref z)) Q E s := by
  have p : Q (s.heap.get? T).isNone s := by rw [e]; exact q
  refine wpAny_bind (wpAny_field hz rfl (x := rawInt T) rfl (wpAny_bind (fun _ _ _ => ?_)))
  show wpAny _ _ (if (s.heap.get? T).isNone = true then pure true else _) _ _ _
  rw [e] at p ⊢
  exact wpAny_pure p
/-- what stays: all but the zip, its own tuple and the two walks -/
def ZKeep (z TO i1 i2 : Addr) (h h' : Heap) : Prop := ∀ c o, c ≠ z → c ≠ TO → c ≠ i1 → c ≠ i2 → h.get? c = some o → h'.get? c = some o
theorem ZKeep.but {h h' h2 : Heap} {b : Addr} (k : ZKeep z TO i1 i2 h h') (hb : b = z ∨ b = TO ∨ b = i1 ∨ b = i2) (e : Heap.ExtBut b h' h2) : ZKeep z TO i1 i2 h h2 := fun c o c1 c2 c3 c4 q =>
  e c o (by rcases hb with x | x | x | x <;> rw [x] <;> assumption) (k c o c1 c2 c3 c4 q)
/-- a turn where what was handed out is gone, and its end, in one -/
theorem zip_gone_next {T : Nat} {f1 : Bool} {a b : Value} {Q : Fin → Shared → Prop} (D : ZipApart z TI TO i1 i2 l1 l2) (hz : ZipAt s.heap z TI TO (rawInt T) f1) (gone : s.heap.get? T = none)
    (hTI : IsPair s.heap TI (.ref i1) (.ref i2)) (hTO : IsPair s.heap TO a b) (h1 : s.heap.IsListIter i1 l1 k1) (h2 : s.heap.IsListIter i2 l2 k2) (e1 : s.heap.IsList l1 xs) (e2 : s.heap.IsList l2 ys)
    (qi : ∀ x y h', xs[k1]? = some x → ys[k2]? = some y → ZipAt h' z TI TO (rawInt s.heap.objs.size) false → IsPair h' TO x y → h'.IsListIter i1 l1 (k1 + 1) → h'.IsListIter i2 l2 (k2 + 1) → IsPair h' s.heap.objs.size x y → h'.objs.size = s.heap.objs.size + 1 →
      ZKeep z TO i1 i2 s.heap h' → Q (.done (.ret (.ref s.heap.objs.size))) { s with heap := h' })
    (qe : A.handled = none ∨ ∃ x y, xs[k1]? = some x ∧ ys[k2]? = some y) (qd : ∀ h' e, ZKeep z TO i1 i2 s.heap h' → (xs[k1]? = none ∨ ys[k2]? = none) → (∃ o, h'.get? e = some o ∧ o.cls = .type "StopIteration") → E (.ref e) { s with heap := h' }) :
    wpAny (model prog w) A (Builtin.«zip.__next__» ⟨[.ref z], []⟩) Q E s := by
  have hand : xs[k1]? = none ∨ ys[k2]? = none → A.handled = none := fun h => qe.resolve_right fun ⟨x, y, ex, ey⟩ => by
    rcases h with h | h
    · rw [ex] at h; cases h
    · rw [ey] at h; cases h
  have kz : ZKeep z TO i1 i2 s.heap s.heap := fun _ _ _ _ _ _ q => q
  -- an end: the own tuple is let go again
  have fin : ∀ (h' : Heap) (e : Addr), ZKeep z TO i1 i2 s.heap h' → ZipAt h' z TI TO .ellipsis f1 → (xs[k1]? = none ∨ ys[k2]? = none) → (∃ o, h'.get? e = some o ∧ o.cls = .type "StopIteration") →
      wpAny (model prog w) A (setField (.ref z) 0 .none) (fun _ s' => E (.ref e) s') E { s with heap := h' } := fun h' e k zz hd he => by
    obtain ⟨o, ho, hc⟩ := he
    refine wpAny_setField_rec zz (by simp) fun g _ sg => ?_
    replace sg : Heap.SameBut z h' g := sg
    refine qd g e (k.but (.inl rfl) sg.extBut) hd ⟨o, sg.extBut _ _ (fun q => ?_) ho, hc⟩
    rw [q] at ho
    rw [← Option.some.inj (zz.symm.trans ho)] at hc
    simp at hc
  show wpAny _ _ (field (.ref z) 2 >>= _) _ _ s
  refine wpAny_bind (wpAny_field hz rfl (x := .bool false) rfl ?_)
  show wpAny _ _ (field (.ref z) 3 >>= _) _ _ s
  refine wpAny_bind (wpAny_field hz rfl (x := .ref TI) rfl (wpAny_bind (wpAny_seqItems hTI rfl ?_)))
  show wpAny _ _ (Builtin.SmallTypes.ownedTupleIsFree (.ref z) >>= _) _ _ _
  refine wpAny_bind (zip_gone hz gone ?_)
  rw [if_pos rfl]
  refine wpAny_bind (wpAny_rule (wpAny_bind (wpAny_field hz rfl (x := .ref TO) rfl (wpAny_bind (wpAny_setField_rec hz (by simp) fun g0 z0 s0 => wpAny_bind ?_)))))
  replace s0 : Heap.SameBut z s.heap g0 := s0
  replace z0 : ZipAt g0 z TI TO .ellipsis f1 := z0
  have k0 := kz.but (.inl rfl) s0.extBut
  have w1 := h1.extBut s0.extBut D.i1z
  have w2 := h2.extBut s0.extBut D.i2z
  have v1 := e1.extBut s0.extBut D.l1z
  have v2 := e2.extBut s0.extBut D.l2z
  have vo : IsPair g0 TO a b := s0.extBut _ _ D.TOz hTO
  have n0 := s0.1
  clear hTO
  simp only [List.zipIdx_cons, List.zipIdx_nil, List.forIn_cons, List.forIn_nil]
  refine wpAny_bind (wpAny_bind (wpAny_onRaise ?_))
  show wpAny _ _ (Builtin.SmallTypes.nextOf (.ref i1) >>= _) _ _ { s with heap := g0 }
  cases ex : xs[k1]? with
  | none => exact wpAny_bind (wpAny_nextOf_list_end (s := { s with heap := g0 }) (hand (.inl ex)) w1 v1 ex fun p e hp he => fin p e (k0.but (.inr (.inr (.inl rfl))) hp) (hp _ _ D.i1z.symm z0) (.inl ex) he)
  | some x =>
    refine wpAny_bind (wpAny_nextOf_list_item (s := { s with heap := g0 }) w1 v1 ex fun p w1 hp => wpAny_pure ?_)
    replace hp : Heap.SameBut i1 g0 p := hp
    have vo : IsPair p TO a b := hp.extBut _ _ D.TOi1 vo
    refine wpAny_bind (wpAny_seqItems (s := { s with heap := p }) vo rfl (wpAny_bind (wpAny_updateSeq_pair (s := { s with heap := p }) vo fun g vo hg => wpAny_bind (wpAny_letGo (wpAny_pure ?_)))))
    replace hg : Heap.SameBut TO p g := hg
    replace vo : IsPair g TO x b := vo
    have k0 := (k0.but (.inr (.inr (.inl rfl))) hp.extBut).but (.inr (.inl rfl)) hg.extBut
    have z0 : ZipAt g z TI TO .ellipsis f1 := hg.extBut _ _ D.TOz.symm (hp.extBut _ _ D.i1z.symm z0)
    have w1 := w1.extBut hg.extBut D.TOi1.symm
    have w2 := (w2.extBut hp.extBut D.i12.symm).extBut hg.extBut D.TOi2.symm
    have v2 := (v2.extBut hp.extBut D.l2i1).extBut hg.extBut D.l2TO
    have n0 : g.objs.size = s.heap.objs.size := by rw [hg.1, hp.1, n0]
    refine wpAny_bind (wpAny_bind (wpAny_onRaise ?_))
    show wpAny _ _ (Builtin.SmallTypes.nextOf (.ref i2) >>= _) _ _ { s with heap := g }
    cases ey : ys[k2]? with
    | none => exact wpAny_bind (wpAny_nextOf_list_end (s := { s with heap := g }) (hand (.inr ey)) w2 v2 ey fun p e hp he => fin p e (k0.but (.inr (.inr (.inr rfl))) hp) (hp _ _ D.i2z.symm z0) (.inr ey) he)
    | some y =>
      refine wpAny_bind (wpAny_nextOf_list_item (s := { s with heap := g }) w2 v2 ey fun p w2 hp => wpAny_pure ?_)
      replace hp : Heap.SameBut i2 g p := hp
      have vo : IsPair p TO x b := hp.extBut _ _ D.TOi2 vo
      refine wpAny_bind (wpAny_seqItems (s := { s with heap := p }) vo rfl (wpAny_bind (wpAny_updateSeq_pair (s := { s with heap := p }) vo fun r vo hr => wpAny_bind (wpAny_letGo (wpAny_pure (wpAny_pure ?_))))))
      replace hr : Heap.SameBut TO p r := hr
      replace vo : IsPair r TO x y := vo
      have k0 := (k0.but (.inr (.inr (.inr rfl))) hp.extBut).but (.inr (.inl rfl)) hr.extBut
      have z0 : ZipAt r z TI TO .ellipsis f1 := hr.extBut _ _ D.TOz.symm (hp.extBut _ _ D.i2z.symm z0)
      have w1 := (w1.extBut hp.extBut D.i12).extBut hr.extBut D.TOi1.symm
      have w2 := w2.extBut hr.extBut D.TOi2.symm
      have n0 : r.objs.size = s.heap.objs.size := by rw [hr.1, hp.1, n0]
      refine wpAny_bind (wpAny_seqItems (s := { s with heap := r }) vo rfl (wpAny_bind (wpAny_newTuple ?_)))
      obtain ⟨t, ht⟩ : ∃ t, r.push { cls := .type "tuple", data := .seq #[x, y] } = t := ⟨_, rfl⟩
      have ot : ∀ c o, r.get? c = some o → t.get? c = some o := fun c o q => by rw [← ht]; exact Heap.get?_push_of_some _ q
      have nt : t.objs.size = r.objs.size + 1 := by rw [← ht]; exact Heap.size_push ..
      have new : IsPair t r.objs.size x y := by rw [← ht]; exact Heap.get?_push_size _ rfl
      show wpAny _ _ (Builtin.SmallTypes.ownedTupleHandOut (.ref z) (.ref r.objs.size) >>= _) _ _ { s with heap := r.push { cls := .type "tuple", data := .seq #[x, y] } }
      rw [ht]
      refine wpAny_bind (wpAny_bind (wpAny_setField_rec (s := { s with heap := t }) (ot _ _ z0) (by simp) fun t1 zt st => ?_))
      replace st : Heap.SameBut z t t1 := st
      replace zt : ZipAt t1 z TI TO (rawInt r.objs.size) f1 := zt
      refine wpAny_setField_rec (s := { s with heap := t1 }) zt (by simp) fun t2 zu su => wpAny_pure ?_
      replace su : Heap.SameBut z t1 t2 := su
      replace zu : ZipAt t2 z TI TO (rawInt r.objs.size) false := zu
      have up : ∀ c o, c ≠ z → r.get? c = some o → t2.get? c = some o := fun c o c1 q => su.extBut _ _ c1 (st.extBut _ _ c1 (ot c o q))
      have zl : r.objs.size ≠ z := (Nat.ne_of_lt (Heap.lt_size z0)).symm
      have nw : IsPair t2 r.objs.size x y := su.extBut _ _ zl (st.extBut _ _ zl new)
      have n2 : t2.objs.size = s.heap.objs.size + 1 := by rw [su.1, st.1, nt, n0]
      show Q (.done (.ret (.ref r.objs.size))) { s with heap := t2 }
      rw [n0] at zu nw ⊢
      exact qi x y t2 ex ey zu (up _ _ D.TOz vo) (w1.at fun o q => up _ o D.i1z q) (w2.at fun o q => up _ o D.i2z q) nw n2 fun c o c1 c2 c3 c4 q => up c o c1 (k0 c o c1 c2 c3 c4 q)
/-- the zip at one turn -/
def ZnAt (z TI TO i1 i2 a b : Addr) (i : Nat) (h : Heap) : Prop :=
  (∃ f0 f1, ZipAt h z TI TO f0 f1 ∧ ZipF f0 f1) ∧ IsPair h TI (.ref i1) (.ref i2) ∧ (∃ x y, IsPair h TO x y) ∧ h.IsListIter i1 a i ∧ h.IsListIter i2 b i
/-- a turn and the end in one, whichever state the zip's own tuple is in -/
theorem zn_next {Q : Option Value → Shared → Prop} {i : Nat} (hh : A.handled = none) (D : ZipApart z TI TO i1 i2 l1 l2) (st : ZnAt z TI TO i1 i2 l1 l2 i s.heap) (e1 : s.heap.IsList l1 xs) (e2 : s.heap.IsList l2 ys)
    (qi : ∀ x y h', xs[i]? = some x → ys[i]? = some y → ZnAt z TI TO i1 i2 l1 l2 (i + 1) h' → IsPair h' s.heap.objs.size x y → ZKeep z TO i1 i2 s.heap h' → Q (some (.ref s.heap.objs.size)) { s with heap := h' })
    (qd : ∀ h', xs[i]? = none ∨ ys[i]? = none → ZKeep z TO i1 i2 s.heap h' → Q none { s with heap := h' }) : wpAny (model prog w) A (pyNext (.ref z)) Q E s := by
  obtain ⟨⟨f0, f1, at0, fk⟩, pI, ⟨a, b, pO⟩, w1, w2⟩ := st
  have ti : ∀ {h' : Heap}, ZKeep z TO i1 i2 s.heap h' → IsPair h' TI (.ref i1) (.ref i2) := fun k => k _ _ D.TIz D.TITO D.TIi1 D.TIi2 pI
  have wide : ∀ {h' : Heap}, (∀ c o, c ≠ z → c ≠ i1 → c ≠ i2 → s.heap.get? c = some o → h'.get? c = some o) → ZKeep z TO i1 i2 s.heap h' := fun k c o c1 _ c3 c4 q => k c o c1 c3 c4 q
  have two : (∃ x y, xs[i]? = some x ∧ ys[i]? = some y) ∨ (xs[i]? = none ∨ ys[i]? = none) := by
    cases ex : xs[i]? with
    | none => exact .inr (.inl rfl)
    | some x =>
      cases ey : ys[i]? with
      | none => exact .inr (.inr rfl)
      | some y => exact .inl ⟨x, y, rfl, rfl⟩
  rcases fk with ⟨rfl, rfl⟩ | ⟨T, rfl⟩
  · rcases two with ⟨x, y, ex, ey⟩ | none
    · exact wpAny_pyNext_zip_item D at0 pI pO w1 w2 e1 e2 ex ey fun h' a1 a2 a3 a4 a5 _ k => qi x y h' ex ey ⟨⟨_, _, a1, .inr ⟨_, rfl⟩⟩, ti k, ⟨_, _, a2⟩, a3, a4⟩ a5 k
    · exact wpAny_pyNext_zip_end hh D at0 pI pO w1 w2 e1 e2 none fun h' k => qd h' none k
  · cases alive : s.heap.get? T with
    | some o =>
      rcases two with ⟨x, y, ex, ey⟩ | none
      · exact wpAny_pyNext_zip_item_held D at0 alive pI w1 w2 e1 e2 ex ey fun h' a1 a3 a4 a5 _ k => qi x y h' ex ey ⟨⟨_, _, a1, .inr ⟨_, rfl⟩⟩, ti (wide k), ⟨a, b, k _ _ D.TOz D.TOi1 D.TOi2 pO⟩, a3, a4⟩ a5 (wide k)
      · exact wpAny_pyNext_zip_end_held hh D at0 alive pI w1 w2 e1 e2 none fun h' k => qd h' none (wide k)
    | none =>
      have ty : s.TypeIs (.ref z) "zip" := ⟨_, at0, rfl⟩
      unfold pyNext
      refine wpAny_bind (wpAny_attempt (wpAny_callSpecial?_slot ty F.slot_zip_next (wpAny_call_entry F.slot_zip_next ty F.entry_zip_next
        (zip_gone_next D at0 alive pI pO w1 w2 e1 e2 (fun x y h' ex ey a1 a2 a3 a4 a5 _ k => ⟨_, rfl, wpAny_pure (qi x y h' ex ey ⟨⟨_, _, a1, .inr ⟨_, rfl⟩⟩, ti k, ⟨_, _, a2⟩, a3, a4⟩ a5 k)⟩) (.inl hh) fun h' e k none he => ?_) (F.args_zip_next_1 _))))
      exact wpAny_bind (wpAny_isInstance (b := true) he isSubtype_stop (wpAny_pure (qd h' none k)))
end
/-- for each of the five things of a zip -/
theorem five {p : Addr → Prop} {z TI TO i1 i2 : Addr} (a : p z) (b : p TI) (c : p TO) (d : p i1) (e : p i2) : ∀ x ∈ [z, TI, TO, i1, i2], p x := fun x hx => by
  simp only [List.mem_cons, List.not_mem_nil, or_false] at hx
  rcases hx with h | h | h | h | h <;> (rw [h]; assumption)
theorem ZKeep.out {z TI TO i1 i2 : Addr} {h h' : Heap} (k : ZKeep z TO i1 i2 h h') {c : Addr} {o : Obj} (n : c ∉ [z, TI, TO, i1, i2]) (q : h.get? c = some o) : h'.get? c = some o := by
  simp only [List.mem_cons, List.not_mem_nil, or_false, not_or] at n
  exact k c o n.1 n.2.2.1 n.2.2.2.1 n.2.2.2.2 q
theorem turn_zn {P : Program} {w : World} {K : PySem.W.Frag} {n : String} {tpos : Pos} {a b z TI TO i1 i2 : Addr} (D : ZipApart z TI TO i1 i2 a b) :
    Turn P w K (.Name n tpos) (Itz K a b) [z, TI, TO, i1, i2] z (ZnAt z TI TO i1 i2 a b) where
  mem := List.mem_cons_self
  obj := fun i h ⟨⟨_, _, hz, _⟩, hI, ⟨_, _, hO⟩, ⟨o1, g1, _, d1⟩, ⟨o2, g2, _, d2⟩⟩ =>
    five ⟨_, hz, fun _ q => by cases q⟩ ⟨_, hI, fun _ q => by cases q⟩ ⟨_, hO, fun _ q => by cases q⟩ ⟨o1, g1, fun _ q => by rw [d1] at q; cases q⟩ ⟨o2, g2, fun _ q => by rw [d2] at q; cases q⟩
  keep := fun i h h' ⟨⟨f0, f1, hz, fk⟩, hI, ⟨x, y, hO⟩, w1, w2⟩ k =>
    ⟨⟨f0, f1, k _ (by simp) _ hz, fk⟩, k _ (by simp) _ hI, ⟨x, y, k _ (by simp) _ hO⟩, w1.at (k _ (by simp)), w2.at (k _ (by simp))⟩
  item := by
    rintro X rfl rfl rfl hc i pins s σ H E I hf st ⟨xs, ys, x, y, sx, sy, hx, hy⟩
    obtain ⟨us, rx, lx, _⟩ := I.list sx
    obtain ⟨vs, ry, ly, _⟩ := I.list sy
    obtain ⟨u, hu, ru⟩ := rx.get hx
    obtain ⟨v, hv, rv⟩ := ry.get hy
    have lt : ∀ c ∈ [z, TI, TO, i1, i2], c < s.heap.objs.size := by
      obtain ⟨⟨_, _, hz, _⟩, hI, ⟨_, _, hO⟩, ⟨_, g1, _⟩, ⟨_, g2, _⟩⟩ := st
      exact five (Heap.lt_size hz) (Heap.lt_size hI) (Heap.lt_size hO) (Heap.lt_size g1) (Heap.lt_size g2)
    refine zn_next (I.ok.hd hc) D st lx.isList ly.isList (fun u' v' h' eu ev st' new k => ?_) fun h' none _ => ?_
    · have eu : us[i]? = some u' := by simpa using eu
      have ev : vs[i]? = some v' := by simpa using ev
      rw [hu] at eu
      rw [hv] at ev
      cases eu
      cases ev
      refine ⟨_, rfl, wpAny_pure ⟨.ref s.heap.objs.size, upd H s.heap.objs.size (.tup [x, y]), ?_, rfl, ⟨_, x, y, rfl, I.hok.fresh (Nat.le_refl _), rfl, fun l hl => ?_, fun l hl => ?_⟩, st', fun c hc => ?_⟩⟩
      · exact I.turnedNew (t' := s.toks) (ch := [z, TI, TO, i1, i2]) (fun c o n q => k.out n q) hf (Nat.le_refl _) ⟨by show 2 ≤ sizeLine; decide, [u, v], .cons ru (.cons rv .nil), ⟨_, new, rfl, _, rfl⟩⟩
      · rw [I.list_inj hl sx]; exact hx
      · rw [I.list_inj hl sy]; exact hy
      · rw [upd_ne (Nat.ne_of_lt (lt c hc))]
        exact (hf c hc).1
    · exfalso
      rcases none with q | q
      · rw [show us.toArray[i]? = some u by simpa using hu] at q; cases q
      · rw [show vs.toArray[i]? = some v by simpa using hv] at q; cases q
  done := by
    rintro X rfl rfl rfl hc i pins s σ H E I hf st ⟨xs, ys, sx, sy, short⟩
    obtain ⟨us, rx, lx, _⟩ := I.list sx
    obtain ⟨vs, ry, ly, _⟩ := I.list sy
    have nx := rx.length
    have ny := ry.length
    refine zn_next (I.ok.hd hc) D st lx.isList ly.isList (fun u v h' eu ev _ _ _ => ?_) fun h' _ k => ⟨rfl, I.turnedL (t' := s.toks) (ch := [z, TI, TO, i1, i2]) (fun c o n q => k.out n q) hf⟩
    have h1 := (Array.getElem?_eq_some_iff.mp eu).1
    have h2 := (Array.getElem?_eq_some_iff.mp ev).1
    simp only [List.size_toArray] at h1 h2
    omega
  self := fun A i s Q E ⟨⟨_, _, hz, _⟩, _⟩ h => by
    have ty : s.TypeIs (.ref z) "zip" := ⟨_, hz, rfl⟩
    exact wpAny_pyIter_slot ty F.slot_zip_iter (wpAny_call_entry F.slot_zip_iter ty F.entry_zip_iter (wpAny_pure ⟨_, rfl, "zip", _, ty, F.slot_zip_next.lookup, h⟩) (F.args_zip_iter_1 _))
theorem pi_zipN {X : Cx} {e e2 : Expr} {ta : TA} {p pos tpos : Pos} {n : String} (hg : Gl X "zip") (hm : X.mg "zip" = none) (ha : PA X [e, e2] ta)
    (st : starEach [e, e2] X.env = (false, eval e X.env) :: starEach [e2] X.env := by rfl) (pl : (backTo pos (starEach [e2] X.env)).any (·.1) = false := by rfl) :
    PI X (.Name n tpos) (.Call (.Name "zip" p) [e, e2] [] pos) (iZip X.K ta) := ⟨fun pins s σ H R I h => by
  refine Call_ (ld_blt I hg hm PyProof.Rows.boot_zip (PyProof.Rows.callWith_type1 (thn (ha.run pos pins s σ H _ I h) ?_) st pl))
  rintro us t ⟨_, H1, I1, rv, a, b, xs, ys, rfl, sx, sy, q⟩
  cases rv with
  | cons ra rest =>
    cases rest with
    | cons rb rest =>
      cases rest
      cases ra
      cases rb
      obtain ⟨_, _, lx, _⟩ := I1.list sx
      obtain ⟨_, _, ly, _⟩ := I1.list sy
      have ok : ∀ m : Nat, FpOk X pins H1 (t.heap.objs.size + m) := fun m => I1.fpOk (Nat.le_add_right _ m) (I1.hok.fresh (Nat.le_add_right _ m))
      exact call_zip_2 lx.isList ly.isList fun h' hz hI hO w1 w2 _ k => wpAny_pyIter_zip hz
        ⟨_, [t.heap.objs.size + 4, t.heap.objs.size + 2, t.heap.objs.size + 3, t.heap.objs.size, t.heap.objs.size + 1], _, _, H1, rfl, I1.kept (t' := t.toks) k, turn_zn (PySem.W.ktu_apart t.heap.objs.size a b lx.lt ly.lt), ⟨⟨_, _, hz, .inl ⟨rfl, rfl⟩⟩, hI, ⟨_, _, hO⟩, w1, w2⟩, five (ok 4) (ok 2) (ok 3) (ok 0) (ok 1), q⟩⟩
end Gx

/-! A text times an int. -/
namespace Gx
open PySem PySem.Spec PyProof.Rows L2
def rMulS : R2 := fun x y H Q => ∃ z n, x = .str z ∧ y = .int n ∧ MulOk z n ∧ Q (.str (Txt.mul z n)) H
theorem op_mulS {X : Cx} : OpR X (binaryOp .Mult) rMulS := by
  intro pins s σ H x y v u Q I rx ry h
  obtain ⟨z, n, rfl, rfl, ok, q⟩ := h
  obtain ⟨t, rfl⟩ := rx
  obtain ⟨t', rfl⟩ := ry
  exact SB.mul ok fun t2 k => ⟨.str _, H, I.tok _, ⟨_, rfl⟩, q⟩
end Gx

/-! The end of a law over a head whose facts are told by names. -/
namespace Gx
open PySem PySem.Spec PyProof.Rows L2 GxR GenW
/-- a def without defaults, from the head's word of it -/
theorem DefIs.of {K : PySem.W.Frag} {x qual : Str} {st : Stmt} {fd : FuncData} {p : He.Defn} (F : FunD K x qual (defArgs st) (defBody st) (defScope st) [] [] (He.fAd K p) fd) : DefIs K x qual st (He.fAd K p) fd (.ref (He.cT K p).1) := by
  obtain ⟨oc, od, dV, kV, doc, pm, an, cdv, ct, osl, rfl, lk, hcd, hd, _⟩ := F.ex
  obtain ⟨c, rfl⟩ := He.codeIn_ref hcd
  rcases hd with ⟨_, rfl⟩ | ⟨h, _⟩
  · have e : He.codeOf K p = c := He.codeOf_eq lk rfl
    show DefIs K x qual st (He.fAd K p) _ (.ref (He.codeOf K p))
    rw [e]
    exact ⟨⟨oc, od, kV, doc, pm, an, ct, osl, rfl, lk⟩, hcd, F.kp⟩
  · exact absurd rfl h
section
theorem walk_GE {l : PySem.W.OpenLaw} {n k : Nat} {q : Program} {loose : List Str} {XP : (Str → Option Value) → Heap → Prop} {YP : World → Heap → Prop} {d : DefRec} {x : Str}
    (hn : l.most = some n) (hn2 : n ≤ sizeLine) (hdf : d.params.defaults = []) (hr : Room k callerA)
    (F : ∀ (w : World) (mg : Str → Option Value) (fa : Addr) (h : Heap), YP w h → h.Ns mainGlobals mg → mg d.name = some (.ref fa) → ∃ K : PySem.W.Frag, K.In h ∧ LawG l w K k n x mg fa h) :
    PySem.W.WalkO q loose XP YP l.row.toRowW d [] (fun f vs => PySem.call f vs) := by
  refine Att.attach_callB hn hdf fun w s₀ s₁ mg mb fa o pm cd doc a vs ns G Y ho hd hcd hmg hobj hints hlen hbits hg => ?_
  obtain ⟨K, KX, fd, cs, sp, hT, hb, hsp, hF⟩ := F w mg fa _ Y G.T.g hmg
  have aT : a ∉ cs.map Prod.snd := fun z => by
    obtain ⟨p, hp, e⟩ := List.mem_map.mp z
    have q := (hT p hp).1
    rw [e, hobj] at q
    have z' : Data.seq vs.toArray _ = Data.fields #[] := congrArg Obj.data (Option.some.inj q)
    cases z'
  have rv := vals_ints hints
  cases hk : K.lookup a with
  | some o2 =>
    have e := KX a o2 hk
    rw [hobj] at e
    cases e
    have sl : SqL K (fun b => if b ∈ cs.map Prod.snd then some (.tbl #[]) else none) a (ns.map V.int) :=
      .inr ⟨_, vs.toArray, _, hk, rfl, rfl, rfl, by rw [List.size_toArray, hints.length]; exact Nat.le_trans hlen hn2, by simpa using rv⟩
    have hT' : ∀ p ∈ cs, (fun b => if b ∈ cs.map Prod.snd then some (HO.tbl #[]) else none) p.2 = some (.tbl #[]) := fun p hp => if_pos (List.mem_map.mpr ⟨p, hp, rfl⟩)
    refine law_from _ hT' (fun b u z => ?_) KX G.T.g G.T.b G.T.builtins G.T.nolimit hg hT G.T.bmain hobj rv (Nat.le_trans hlen hn2) sl hr hF hb (hsp _ a ns hlen hbits hT' sl)
    by_cases hm : b ∈ cs.map Prod.snd
    · exact .inl ⟨hm, Option.some.inj (z.symm.trans (if_pos hm))⟩
    · have z' := z.symm.trans (if_neg hm)
      cases z'
  | none =>
    have sl : SqL K (fun b => if b = a then some (.frz (scriptObj vs) (.lst (ns.map V.int))) else if b ∈ cs.map Prod.snd then some (.tbl #[]) else none) a (ns.map V.int) := .inl (.inr ⟨scriptObj vs, if_pos rfl⟩)
    have hT' : ∀ p ∈ cs, (fun b => if b = a then some (HO.frz (scriptObj vs) (.lst (ns.map V.int))) else if b ∈ cs.map Prod.snd then some (.tbl #[]) else none) p.2 = some (.tbl #[]) := fun p hp =>
      (if_neg (show ¬ p.2 = a from fun z => aT (by rw [← z]; exact List.mem_map.mpr ⟨p, hp, rfl⟩))).trans (if_pos (List.mem_map.mpr ⟨p, hp, rfl⟩))
    refine law_from _ hT' (fun b u z => ?_) KX G.T.g G.T.b G.T.builtins G.T.nolimit hg hT G.T.bmain hobj rv (Nat.le_trans hlen hn2) sl hr hF hb (hsp _ a ns hlen hbits hT' sl)
    by_cases hm : b = a
    · exact .inr ⟨hm, hk, Option.some.inj (z.symm.trans (if_pos hm))⟩
    · have z1 := z.symm.trans (if_neg hm)
      by_cases hm2 : b ∈ cs.map Prod.snd
      · exact .inl ⟨hm2, Option.some.inj (z1.trans (if_pos hm2))⟩
      · have z' := z1.trans (if_neg hm2)
        cases z'
end
end Gx

/-! max(d.values(), default=k) of whole numbers. -/
namespace Gx
open PySem PySem.Spec PyProof.Rows L2
theorem topOf_out {ns : List Int} {d : Int} {n : Nat} (hn : n = ns.length) {P : Nat → Value → Prop} (hP : ∀ i v, P i v → i < n ∧ ∃ t, v = .int (ns.getD i 0) t) {dv v : Value} {dt : Tok} (hd : dv = .int d dt)
    (out : MaxOut P (fun i j => decide (ns.getD i 0 > ns.getD j 0)) n dv v) : ∃ m t, v = .int m t ∧ TopOf d ns m := by
  rcases out with ⟨e0, rfl⟩ | ⟨n0, hv⟩
  · exact ⟨d, dt, hd, .inl ⟨List.eq_nil_of_length_eq_zero (by omega), rfl⟩⟩
  · obtain ⟨hi, t, rfl⟩ := hP _ _ hv
    obtain ⟨h1, h2⟩ := argBest_gt (fun i => ns.getD i 0) (n - 1)
    refine ⟨_, t, rfl, .inr ⟨PySem.getD_mem (by omega), fun a ha => ?_⟩⟩
    obtain ⟨j, hj, rfl⟩ := mem_getD ha
    exact h2 j (by omega)
section
variable {X : Cx}
def tMaxVals (td : TE) (k : Int) : TE := fun σ H Q => td σ H fun x H1 => ∃ (d : Addr) (kvs : List (Key × V)) (ns : List Int), x = .ref d ∧ H1 d = some (.dK kvs) ∧ kvs.map Prod.snd = ns.map V.int ∧ ∀ m, TopOf k ns m → Q (.int m) H1
theorem pe_maxVals {e : Expr} {td : TE} {p apos cpos kpos kp pos : Pos} {k : Int} {kk : Nat} (hc : X.calm = true) (hg : Gl X "max") (hm : X.mg "max" = none) (he : PE X e td)
    (hbase : attributeBase e "values" X.env (eval e X.env) = eval e X.env := by rfl) (hline : (apos.endLine == cpos.line) = true := by rfl) :
    PE X (.Call (.Name "max" p) [.Call (.Attribute e "values" apos) [] [] cpos] [⟨some "default", .Constant (.int k) kk kp, kpos⟩] pos) (tMaxVals td k) := by
  refine ⟨fun pins s σ H Q I h => ?_⟩
  refine wpAny_Call_Name_kw (ld_blt I hg hm (show bootBuiltins "max" = some (.builtin "max") by decide +kernel) ?_)
  refine PyProof.Rows.callWith_kw ?_
  refine Calls.spliced_cons ?_
  refine wpAny_Call_method (T := "dict") (id := "dict.values") hbase rfl hline F.plainAttrs_dict F.slot_dict_values F.type_dict_values (thn (he.run pins s σ H _ I h) fun u s1 h1 => ?_)
  obtain ⟨x, H1, I1, rx, d, kvs, ns, rfl, hd, hv, q⟩ := h1
  obtain rfl : u = Value.ref d := rx
  obtain ⟨hz, hs, vs, kv, o1, es, ep, ho, hx, hdt, r⟩ := I1.hok d _ hd
  have hD : s1.heap.DictAt (mixKind X.prog X.w) d vs ep := ⟨o1, es, ho, hx, hdt, r⟩
  have hl : kvs.length = vs.length := Paired.length kv
  have hln : kvs.length = ns.length := by have := congrArg List.length hv; rwa [List.length_map, List.length_map] at this
  refine ⟨hD.dictOf.typeIs, hD.dictOf.mapOf.noDict, ?_⟩
  refine method_meetsIn F.slot_dict_values F.entry_dict_values rfl (PySem.evalArgs_none ⟨rfl, hD.dictOf.typeIs, F.args_dict_values_1 _, _, meets_dict_values (mixKind X.prog X.w) d hs, ⟨vs, hD.dictOf⟩, ?_⟩)
  have I2 : L2.Inv X pins σ H1 { s1 with heap := s1.heap.push { cls := .type "dict_values", data := .fields #[.ref d] } } := I1.kept (t' := s1.toks) fun b ob z => Heap.get?_push_of_some _ z
  have nb : H1 s1.heap.objs.size = none := I1.hok.fresh (Nat.le_refl _)
  have I3 := I2.pinned (fp := [s1.heap.objs.size]) (fun b hb => by
    rw [List.mem_singleton.mp hb]
    exact I1.fpOk (Nat.le_refl _) nb) (fun b hb => by
    rw [List.mem_singleton.mp hb]
    exact ⟨_, Heap.get?_push_size _ rfl, fun v z => by cases z⟩)
  show wpAny _ _ (spliced []) _ _ _
  refine Calls.spliced_nil ?_
  refine thn ((pk_cons pe_int pk_nil).run pos _ _ σ H1 _ I3 (show tCons (tC (.int k)) tNil σ H1 (fun zs H2 => zs = [V.int k] ∧ H2 = H1) from ⟨rfl, rfl⟩)) fun ws s4 h4 => ?_
  obtain ⟨zs, H2, I4, rz, rfl, rfl⟩ := h4
  obtain ⟨t, rfl⟩ : ∃ t, ws = [Value.int k t] := by
    cases rz with
    | cons r0 rr =>
      cases rr
      obtain ⟨t, rfl⟩ := r0
      exact ⟨t, rfl⟩
  obtain ⟨_, _, us, ku, o4, es4, ep4, ho4, hx4, hdt4, r4⟩ := I4.hok d _ hd
  have hD4 : s4.heap.DictAt (mixKind X.prog X.w) d us ep4 := ⟨o4, es4, ho4, hx4, hdt4, r4⟩
  have hlu : kvs.length = us.length := Paired.length ku
  have view : s4.heap.get? s1.heap.objs.size = some { cls := .type "dict_values", data := .fields #[.ref d] } :=
    (I4.pin (s1.heap.objs.size, { cls := .type "dict_values", data := .fields #[.ref d] }) (List.mem_append_right _ (List.mem_append_right _ (mem_pinsAt (List.mem_singleton.mpr rfl) (Heap.get?_push_size _ rfl))))).1
  show wpAny _ _ (call (.builtin "max") [.ref s1.heap.objs.size] [(Str.ofString "default", .int k t)]) _ _ _
  have vals : ∀ i v, (∃ key, us[i]? = some (key, v)) → i < us.length ∧ ∃ t, v = .int (ns.getD i 0) t := fun i v hk => by
    obtain ⟨key, hk⟩ := hk
    have hi := (List.getElem?_eq_some_iff.mp hk).1
    obtain ⟨⟨k2, x2⟩, hk2⟩ : ∃ q, kvs[i]? = some q := ⟨kvs[i]'(by omega), List.getElem?_eq_getElem (by omega)⟩
    obtain ⟨u2, hu2, ru2⟩ := kv_get ku hk2
    rw [hk] at hu2
    cases hu2
    have e1 := congrArg (fun l => l[i]?) hv
    simp only [List.getElem?_map, hk2] at e1
    have hni : i < ns.length := by omega
    rw [List.getElem?_eq_getElem hni] at e1
    have e2 : x2 = V.int ns[i] := Option.some.inj e1
    subst e2
    obtain ⟨t2, rfl⟩ := ru2
    exact ⟨hi, t2, by rw [List.getD_eq_getElem?_getD, List.getElem?_eq_getElem hni]; rfl⟩
  refine max_def_walk (wpAny_pyIter_values (d := d) (knd := mixKind X.prog X.w) ⟨_, view, rfl, rfl⟩ hD4 ?_)
  have hlt : d < s4.heap.objs.size := by
    obtain ⟨_, _, e, _⟩ := hD4
    exact Heap.lt_size e
  refine ⟨s4.heap.objs.size, _, _, _, _, _, fun i j => decide (ns.getD i 0 > ns.getD j 0), rfl, Walks.dictValues (A := X.A.in1) (knd := mixKind X.prog X.w) (I.ok.hd hc) s4.heap.objs.size d (Nat.ne_of_lt hlt) us ep4, ⟨⟨_, Heap.get?_push_size _ rfl, rfl, rfl⟩, hD4.push _⟩, fun b hb => ?_, CmpOf.ints_gt (fun i => ns.getD i 0) (fun i v hk => (vals i v hk).2), fun v h2 tk out keep => ?_⟩
  · show b < (s4.heap.push _).objs.size
    rw [Heap.size_push]
    rcases List.mem_cons.mp hb with rfl | hb
    · exact Nat.lt_succ_self _
    · rw [List.mem_singleton.mp hb]
      exact Nat.lt_succ_of_lt hlt
  · obtain ⟨m, t3, rfl, top⟩ := topOf_out (by omega) vals rfl out
    refine ⟨.int m, H2, (I4.unpinned.kept fun b o e => ?_), ⟨_, rfl⟩, q m top⟩
    exact keep b o (fun z => by rw [List.mem_singleton.mp z] at e; exact absurd (Heap.lt_size e) (Nat.lt_irrefl _)) (Heap.get?_push_of_some _ e)
end
end Gx
namespace Gx
open PySem PySem.Spec PyProof.Rows L2
theorem kv_vals {κ : Type} : ∀ {kvs : List (κ × V)} {us : List (κ × Value)} {vs : List Value}, KV kvs us → vs = us.map Prod.snd → Vals (kvs.map Prod.snd) vs
  | _, _, _, .nil, rfl => .nil
  | _, _, _, .cons h t, rfl => .cons h.2 (kv_vals t rfl)
section
variable {X : Cx}
/-- list(d.values()) -/
def tListVals (td : TE) : TE := fun σ H Q => td σ H fun x H1 => ∃ (d : Addr) (kvs : List (Key × V)), x = .ref d ∧ H1 d = some (.dK kvs) ∧ ∀ l, H1 l = none → Q (.ref l) (upd H1 l (.lst (kvs.map Prod.snd)))
theorem pe_listVals {e : Expr} {td : TE} {p apos cpos pos : Pos} (hc : X.calm = true) (hg : Gl X "list") (hm : X.mg "list" = none) (he : PE X e td)
    (hbase : attributeBase e "values" X.env (eval e X.env) = eval e X.env := by rfl) (hline : (apos.endLine == cpos.line) = true := by rfl) (na : starEach [(.Call (.Attribute e "values" apos) [] [] cpos : Expr)] X.env = (false, eval (.Call (.Attribute e "values" apos) [] [] cpos) X.env) :: starEach [] X.env := by rfl) :
    PE X (.Call (.Name "list" p) [.Call (.Attribute e "values" apos) [] [] cpos] [] pos) (tListVals td) := by
  refine ⟨fun pins s σ H Q I h => Call_ (ld_blt I hg hm (show bootBuiltins "list" = some (.type "list") by decide +kernel) ?_)⟩
  refine PyProof.Rows.callWith_type1 (PyProof.Rows.args_cons ?_ na) na rfl
  refine wpAny_Call_method (T := "dict") (id := "dict.values") hbase rfl hline F.plainAttrs_dict F.slot_dict_values F.type_dict_values (thn (he.run pins s σ H _ I h) fun u s1 h1 => ?_)
  obtain ⟨x, H1, I1, rx, d, kvs, rfl, hd, q⟩ := h1
  obtain rfl : u = Value.ref d := rx
  obtain ⟨hz, hs, vs, kv, o1, es, ep, ho, hx, hdt, r⟩ := I1.hok d _ hd
  have hD : s1.heap.DictAt (mixKind X.prog X.w) d vs ep := ⟨o1, es, ho, hx, hdt, r⟩
  have hl : kvs.length = vs.length := Paired.length kv
  refine ⟨hD.dictOf.typeIs, hD.dictOf.mapOf.noDict, ?_⟩
  refine method_meetsIn F.slot_dict_values F.entry_dict_values rfl (PySem.evalArgs_none ⟨rfl, hD.dictOf.typeIs, F.args_dict_values_1 _, _, meets_dict_values (mixKind X.prog X.w) d hs, ⟨vs, hD.dictOf⟩, PyProof.Rows.args_nil ?_⟩)
  have I2 : L2.Inv X pins σ H1 { s1 with heap := s1.heap.push { cls := .type "dict_values", data := .fields #[.ref d] } } := I1.kept (t' := s1.toks) fun b ob z => Heap.get?_push_of_some _ z
  refine PySem.W.kdl_call (PySem.W.kdl_values (knd := mixKind X.prog X.w) (d := d) (r := s1.heap.objs.size) (kvs := vs) (ep := ep)) (I.ok.hd hc) ⟨⟨_, Heap.get?_push_size _ rfl, rfl, rfl⟩, hD.push _⟩ (by omega) fun h2 tk acc c keep new items => ?_
  have ev : acc.toList = vs.map Prod.snd := PySem.W.kdl_vals_eq acc.toList (by rw [Array.length_toList]; exact items.1) fun j v e => items.2 j v (by rw [← Array.getElem?_toList]; exact e)
  refine ⟨.ref _, _, I2.laid (t' := tk) (h' := h2) keep (Nat.le_refl _) (show ObjOk X.prog X.w _ h2 _ (.lst (kvs.map Prod.snd)) from ⟨by rw [List.length_map]; exact hz, acc.toList, c, kv_vals kv ev, ?_⟩), rfl, q _ (I2.hok.fresh (Nat.le_refl _))⟩
  rw [Array.toArray_toList]
  exact new
end
end Gx

/-! sorted(set(xs)) of a list of whole numbers -/
namespace Gx
open PySem PySem.Spec PyProof.Rows L2
section
variable {prog : Program} {w : World} {A : Around}
/-- set(l), l a list of whole numbers, with the order of its members -/
theorem set_of_ints {E : Value → Shared → Prop} {s : Shared} {l : Addr} {items : Array Value} {ns : List Int} {Q : Value → Shared → Prop} (hh : A.handled = none) (hl : s.heap.IsList l items) (hi : IntsAre items.toList ns) (hb : ns.length + 1 < scanBound)
    (h : ∀ (h' : Heap) (tk c : Nat), SetR w h' s.heap.objs.size (fun j => decide (j ∈ ns)) c → c ≤ ns.length → (∀ b o, s.heap.get? b = some o → h'.get? b = some o) → Q (.ref s.heap.objs.size) { s with heap := h', toks := tk }) :
    wpAny (model prog w) A (call (.type "set") [.ref l]) Q E s := by
  have hn : ns.length = items.size := by have q := IntsAre.length hi; rw [Array.length_toList] at q; exact q.symm
  obtain ⟨led, hled⟩ : ∃ led : Bool, (!w.params.followText "set-order") = led := ⟨_, rfl⟩
  obtain ⟨c0, tl0, mro0⟩ := PySem.F.called_set.mro
  have made0 := PySem.F.called_set.made; have sub0 := PySem.F.called_set.sub
  have nt0 := PySem.F.called_set.notType; have cc0 := PySem.F.called_set.canCreate
  have tc0 := PySem.F.typeCall_set_1 (.ref l)
  refine wpAny_call (codeAny_of_tree ?_)
  show wpAny (model prog w) _ (callAny (.type "set") _) _ _ _
  refine wpAny_pure ⟨Code.quiet_builtin _ (by decide +kernel), codeAny_builtin PySem.F.entry_type_call ?_⟩
  rw [Around.under_plain (weight_type_call_type "set" [.ref l] []) rfl]
  repeat any_goals first | assumption | wp_step
  refine codeAny_mono (code_set_led1 (.ref l) (E := E) (Q₁ := fun z t => z = .ref s.heap.objs.size ∧ t = { s with heap := s.heap.push { cls := .type "set", dict := none, data := .set #[] 0 (.fresh 0 0 (!w.params.followText "set-order")) } }) ⟨rfl, rfl⟩) fun r1 t1 q1 => ?_
  match r1, q1 with
  | .error e, q1 => exact q1
  | .ok (.ret z), q1 =>
    obtain ⟨rfl, rfl⟩ := q1
    have gS : (s.heap.push { cls := .type "set", dict := none, data := .set #[] 0 (.fresh 0 0 (!w.params.followText "set-order")) }).get? s.heap.objs.size = some { cls := .type "set", dict := none, data := .set #[] 0 (.fresh 0 0 (!w.params.followText "set-order")) } := Heap.get?_push_size _ rfl
    have tS : Shared.TypeIs { s with heap := s.heap.push { cls := .type "set", dict := none, data := .set #[] 0 (.fresh 0 0 (!w.params.followText "set-order")) } } (.ref s.heap.objs.size) "set" := ⟨_, gS, rfl⟩
    have li := PySem.F.called_set.init.lookup; have bi := PySem.F.called_set.init.bind (.ref s.heap.objs.size)
    repeat any_goals first | assumption | wp_step
    refine codeAny_mono (codeAny_call_builtin (R := wants (fun r t => r = .none ∧ ∃ h' tk c, t = { s with heap := h', toks := tk } ∧ SetR w h' s.heap.objs.size (fun j => decide (j ∈ ns)) c ∧ c ≤ ns.length ∧
        ∀ b o, s.heap.get? b = some o → h'.get? b = some o) E) PySem.F.called_set.init.plain PySem.F.entry_set_init (check_set_init_1 tS ?_)) fun r2 t2 q2 => ?_
    · obtain ⟨ol, gl, cl, nl, dl⟩ := hl
      obtain ⟨oc, od, ot, os⟩ := ol
      simp only at cl dl
      subst cl; subst dl
      have ll : l < s.heap.objs.size := Heap.lt_size gl
      have gl' : (s.heap.push { cls := .type "set", dict := none, data := .set #[] 0 (.fresh 0 0 (!w.params.followText "set-order")) }).get? l = some { cls := .type "list", dict := od, data := .seq items nl, slots := os } := Heap.get?_push_of_some _ gl
      have il : (s.heap.push { cls := .type "set", dict := none, data := .set #[] 0 (.fresh 0 0 (!w.params.followText "set-order")) }).IsList l items := ⟨_, gl', rfl, nl, rfl⟩
      have s1 := PySem.F.sub_list_set; have s2 := PySem.F.sub_list_frozenset
      have nd : (Value.type "list" == Value.type "dict") = false := by decide
      unfold Builtin.«set.__init__» noKeywords Builtin.Frozenset.updateFrom
      generalize hp : pyIter = pI
      wp_walk
      subst hp
      refine wpAny_pyIter_list il ?_
      refine wpAny_bind (wpAny_runValue ?_)
      have h3 : A.in1.in1.in1.handled = none := by simp [hh]
      have ni : l ≠ (s.heap.push { cls := .type "set", dict := none, data := .set #[] 0 (.fresh 0 0 (!w.params.followText "set-order")) }).objs.size := by rw [Heap.size_push]; exact Nat.ne_of_lt (Nat.lt_succ_of_lt ll)
      have zf : s.heap.objs.size ∉ [(s.heap.push { cls := .type "set", dict := none, data := .set #[] 0 (.fresh 0 0 (!w.params.followText "set-order")) }).objs.size, l] := by
        rw [Heap.size_push]; simp only [List.mem_cons, List.mem_singleton, List.not_mem_nil, or_false, not_or]
        exact ⟨Nat.ne_of_lt (Nat.lt_succ_self _), Nat.ne_of_gt ll⟩
      have hv : ∀ (i : Nat) (v : Value), items[i]? = some v → ∃ k t, ns[i]? = some k ∧ v = .int k t := fun i v q => by
        have il2 : i < ns.length := by rw [hn]; exact (Array.getElem?_eq_some_iff.mp q).1
        obtain ⟨t, e⟩ := PyProof.Rows.IntsAre.int_at hi i v (by rw [Array.getElem?_toList]; exact q)
        refine ⟨ns[i], t, List.getElem?_eq_getElem il2, ?_⟩
        rw [e, List.getD_eq_getElem?_getD, List.getElem?_eq_getElem il2] <;> rfl
      refine set_update_ints ((Walks.list h3 _ l ni items).toS) s.heap.objs.size zf ns hn.symm hb hv (items.size - 0) 0 _ (by omega) (Nat.zero_le _) ⟨⟨_, Heap.get?_push_size _ rfl, rfl, rfl⟩, il.push _⟩ ?_ fun t c mv hc hS => ?_
      · refine ⟨0, Nat.le_refl 0, setR_new_at ?_⟩
        exact Heap.get?_push_of_some _ gS
      · obtain ⟨h', g', d', tk', os'⟩ := t
        obtain rfl : g' = s.gens := mv.gens
        obtain rfl : d' = s.drawn := mv.drawn
        obtain rfl : os' = s.os := mv.os
        show wpAny (model prog w) _ _ _ _ _
        refine wpAny_pure ?_
        show wpAny (model prog w) _ (ret Value.none) _ _ _
        refine wpAny_pure ⟨rfl, h', tk', c, rfl, hS, by omega, fun b o e => ?_⟩
        have lb := Heap.lt_size e
        refine mv.heap b o (fun z => ?_) (Heap.get?_push_of_some _ (Heap.get?_push_of_some _ e))
        rcases List.mem_cons.mp z with y | y
        · exact Nat.ne_of_lt lb y
        · rcases List.mem_cons.mp y with y | y
          · rw [Heap.size_push] at y
            exact Nat.ne_of_lt (Nat.lt_succ_of_lt lb) y
          · cases y
    · match r2, q2 with
      | .error e, q2 => exact q2
      | .ok (.ret r), q2 =>
        obtain ⟨rfl, h', tk, c, rfl, hS, hc, hk⟩ := q2
        repeat any_goals first | assumption | wp_step
        exact h _ _ _ hS hc hk
/-- sorted(s), s a set of whole numbers, any number of them -/
theorem sorted_setN {E : Value → Shared → Prop} {s : Shared} {a : Addr} {S : Int → Bool} {n : Nat} {Q : Value → Shared → Prop} (R : SetR w s.heap a S n) (hh : A.handled = none)
    (hQ : ∀ s' p (out : Array Value) (c : Nat) (ns : List Int), (∀ b o, s.heap.get? b = some o → s'.heap.get? b = some o) → s'.gens = s.gens → s'.os = s.os → s.heap.objs.size ≤ p →
      s'.heap.get? p = some (seqObj "list" out c) → IntsAre out.toList ns → ns.Pairwise (· < ·) → (∀ k, k ∈ ns ↔ S k = true) → ns.length = n → Q (.ref p) s') :
    wpAny (model prog w) A (call (.builtin "sorted") [.ref a]) Q E s := by
  obtain ⟨o, es, ep, t, ho, hex, hd, g, nd, hm, hb, hf, hn, hr, hl⟩ := R
  refine Calls.call_function_entry kind_sorted plain_sorted entry_sorted (args_sorted1 _) ?_
  unfold Builtin.«sorted»
  refine wpAny_bind (m := checkCount "sorted" 1 1 _) (wpAny_pure (wpAny_bind (collect_set (A := A.in1) hh ⟨o, ho, hex.1, hd⟩ hf hb hr hl fun s1 vs keep le g1 o1 pm => ?_)))
  have lv : vs.length = n := by rw [pm.length_eq, List.length_map, Array.length_toList]; exact hn
  have lz : vs.length ≤ sizeLine := by rw [lv, ← hn]; unfold scanBound at hb; unfold sizeLine; omega
  have hI : IntsAre vs (vs.map Builtin.Re.reRawOf) := ints_of vs fun v hv => by
    obtain ⟨e, he, q⟩ := List.mem_map.mp (pm.mem_iff.mp hv)
    obtain ⟨k, tk, h1, _⟩ := g e he
    exact ⟨k, tk, q.symm.trans h1⟩
  have pk : (vs.map Builtin.Re.reRawOf).Perm (es.toList.map keyOf) := by
    have q := pm.map Builtin.Re.reRawOf
    rwa [List.map_map] at q
  refine wpAny_bind (wpAny_newList ?_ lz)
  have gL : (s1.heap.push (seqObj "list" vs.toArray 0)).get? s1.heap.objs.size = some (seqObj "list" vs.toArray 0) := Heap.get?_push_size _ rfl
  refine wpAny_bind (wpAny_holding (wpAny_call_entry slot_list_sort ⟨_, gL, rfl⟩ entry_list_sort (SrtO.list_sort_ord SrtO.swo_int gL lz (fun h2 => SrtO.ints_sortable hI h2) fun out a1 a2 => ⟨_, rfl, ?_⟩) (args_list_sort _)))
  obtain ⟨k1, k2, k3⟩ := SrtO.ints_out hI a1 a2
  obtain ⟨c, hc⟩ := sortedHeap_at (vs := vs) (out := out.toArray) gL
  have pn : (out.map SrtO.iv).Perm (es.toList.map keyOf) := k2.trans pk
  refine wpAny_pure ⟨_, rfl, hQ _ s1.heap.objs.size out.toArray c _ (fun b u e => ?_) g1 o1 le hc k1 (lt_of_le_nodup _ k3 (pn.nodup_iff.mpr nd)) (fun k => by rw [pn.mem_iff, ← hm k]) ?_⟩
  · have q := keep b u e
    have hlt := Heap.lt_size q
    show (sortedHeap (s1.heap.push (seqObj "list" vs.toArray 0)) s1.heap.objs.size vs out.toArray).get? b = some u
    rw [sortedHeap_old (Nat.ne_of_lt hlt) (by rw [size_push']; exact Nat.lt_succ_of_lt hlt)]
    exact Heap.get?_push_of_some _ q
  · rw [pn.length_eq, List.length_map, Array.length_toList]; exact hn
end
section
variable {X : Cx}
/-- sorted(set(xs)) of a list of whole numbers -/
def tSortedSetI (K : PySem.W.Frag) (ta : TE) : TE := fun σ H Q => ta σ H fun x H1 => ∃ (l : Addr) (ns : List Int), x = .ref l ∧ SqL K H1 l (ns.map V.int) ∧ ns.length ≤ 4000 ∧
  ∀ (ms : List Int) p, ms.Pairwise (· < ·) → (∀ k, k ∈ ms ↔ k ∈ ns) → H1 p = none → Q (.ref p) (upd H1 p (.lst (ms.map V.int)))
theorem pe_sortedSetI {a : Expr} {ta : TE} {p p2 q pos : Pos} (hg : Gl X "sorted") (hm : X.mg "sorted" = none) (hg2 : Gl X "set") (hm2 : X.mg "set" = none) (hh : X.A.handled = none) (ha : PE X a ta)
    (na : starEach [a] X.env = (false, eval a X.env) :: starEach [] X.env := by rfl) : PE X (.Call (.Name "sorted" p) [.Call (.Name "set" p2) [a] [] q] [] pos) (tSortedSetI X.K ta) := by
  refine ⟨fun pins s σ H Q I h => Call_ (ld_blt I hg hm (show bootBuiltins "sorted" = some (.builtin "sorted") by decide +kernel) (PyProof.Rows.callWith_builtin1 (PyProof.Rows.args_cons (Call_ (ld_blt I hg2 hm2 boot_set ?_)) rfl) rfl rfl))⟩
  refine PyProof.Rows.callWith_type1 (PyProof.Rows.args_cons (thn (ha.run pins s σ H _ I h) fun v s1 h1 => PyProof.Rows.args_nil ?_) na) na rfl
  obtain ⟨x, H1, I1, r1, l, ns, rfl, hq, hz, q1⟩ := h1
  have e : v = .ref l := r1
  subst e
  obtain ⟨its, rv, pl, _⟩ := I1.list hq
  refine set_of_ints hh pl.isList (ns := ns) (by simpa using rv.ints) (by unfold scanBound; omega) fun h' tk c hS hc hk => ?_
  have I2 : Inv X pins σ H1 { s1 with heap := h', toks := tk } := I1.kept hk
  refine PyProof.Rows.args_nil ?_
  obtain ⟨s2, hs2⟩ : ∃ s2 : Shared, s2 = { s1 with heap := h', toks := tk } := ⟨_, rfl⟩
  rw [← hs2] at I2 ⊢
  refine sorted_setN (by rw [hs2]; exact hS) hh fun s' p out c ms k g o hp hgp hi hs hm hl => ?_
  have hlen : (ms.map V.int).length ≤ sizeLine := by rw [List.length_map, hl]; unfold sizeLine; omega
  have hn : H1 p = none := I2.hok.fresh hp
  have J : Inv X pins σ (upd H1 p (.lst (ms.map V.int))) { s2 with heap := s'.heap, gens := s'.gens, drawn := s'.drawn, toks := s'.toks } :=
    I2.call (ch := []) (Un.laid k hp hn) (I2.hok.laid k hp ⟨hlen, out.toList, c, vals_of_ints hi, hgp⟩) (by rw [g]; exact I2.bare) (fun _ z => nomatch z)
  have e : s' = { s2 with heap := s'.heap, gens := s'.gens, drawn := s'.drawn, toks := s'.toks } := by
    cases s'
    cases s2
    cases o
    rfl
  rw [e]
  exact ⟨.ref p, _, J, rfl, q1 ms p hs (fun k => by rw [hm k]; exact decide_eq_true_iff) hn⟩
end
end Gx
namespace Gx
open L2
theorem room65 {A : PySem.Around} {k : Nat} (r : Room k A) : A.units + 65 < PySem.cLine := by have := r.un; omega
end Gx

/-! name = {key: value for ..}, the name a local of its def -/
namespace Gx
open PySem PySem.Spec PyProof.Rows L2 GxR
section
variable {X : Cx}
theorem swD_true {k v : Expr} {gs : List Comprehension} {sc : Scope} {p q : Pos} {n : Str} {ln : Nat} {en : Env} (k1 : en.scope.kind = .function) (k2 : en.scope.names.lookup n = some .local) (k3 : (q.line == p.line) = true)
    (k4 : (sc.names.any fun (z, y) => z == n && (y == .local || y == .cell)) = false) : swapsWith (.DictComp k v gs sc p) (some (.Name n q)) ln en = pure true := by
  have e1 : en.kindOf n = some .local := k2
  have e2 : en.blockKind = .function := by
    unfold Env.blockKind
    rw [k1]
    rfl
  unfold swapsWith
  simp only [e2, e1, k4, Expr.pos, k3]
  rfl
theorem ps_setDc {n : Nat} {x : Str} {px p sp : Pos} {ke ve tg it : Expr} {ifs : List Expr} {sc : Scope} {own : List (Str × Nat)} {w : TI} {g : TG} {tt : TT} {tk tv : TE}
    (calm : X.calm = true) (nd : X.N.Nodup) (at_ : X.N[n]? = some x) (loc : X.env.scope.names.lookup x = some .local) (used : swapsWith (.DictComp ke ve [⟨tg, it, ifs, 0⟩] sc p) (some (.Name x px)) sp.line X.env = pure true)
    (hw : PI X tg it w) (ok : BlkOk X.N X.env.scope sc own)
    (hg : ∀ (s : Shared) (H : Hp) (C : Addr) (cl : List (Str × Addr)) (fp : List Addr),
      PG (X.blk s H sc (compEnvC sc cl C X.env) fp) tg g)
    (ht : ∀ (s : Shared) (H : Hp) (C : Addr) (cl : List (Str × Addr)) (fp : List Addr),
      PTs (X.blk s H sc (compEnvC sc cl C X.env) fp) ifs tt)
    (hk : ∀ (s : Shared) (H : Hp) (C : Addr) (cl : List (Str × Addr)) (fp : List Addr),
      PE (X.blk s H sc (compEnvC sc cl C X.env) fp) ke tk)
    (hv : ∀ (s : Shared) (H : Hp) (C : Addr) (cl : List (Str × Addr)) (fp : List Addr),
      PE (X.blk s H sc (compEnvC sc cl C X.env) fp) ve tv)
    (fold : ∀ z, foldedSetIterable it X.env z = pure z := by intro _; rfl) :
    PS X (.Assign [.Name x px] (.DictComp ke ve [⟨tg, it, ifs, 0⟩] sc p) sp) (tAsg (tDc w g tt tk tv (own.map (·.2))) (gName n)) := by
  refine ⟨fun pins s σ H J I h => ?_⟩
  rw [exec_Assign_Name_used _ _ _ _ used]
  refine wpAny_bind (wpAny_standAt (wpAny_bind ?_))
  show wpAny _ X.A (do
    let _ ← comprehension (.DictComp ke ve [⟨tg, it, ifs, 0⟩] sc p) sc X.env (firstIterPos [⟨tg, it, ifs, 0⟩] p) newDict false (eval it X.env) (some (assign (.Name x px) X.env))) _ _ s
  have h2 : tDc w g tt tk tv (own.map (·.2)) σ H (fun y H1 => gName n y σ H1 J.nx) := h
  refine wpAny_bind (thn (dc_core (Qf := fun _ s' => SP X pins J .next s') calm nd I hw ok hg ht hk hv fold h2 fun L C t m H' I' q ns fr => ?_) fun _ t hq => wpAny_pure (wpAny_pure hq))
  show wpAny _ _ (assign (.Name x px) X.env (.ref L)) _ _ _
  refine wpAny_assign_Name (store_ok2 (v := V.ref L) I' nd at_ (.inl loc) rfl (fun t2 I2 hb => ?_) (.inr loc))
  obtain ⟨b, sb, hb⟩ := hb
  obtain ⟨r0, r1, r2, r3, r4, r5⟩ := fr
  have ne : C ≠ b := by
    rcases hb with z | z
    · rw [z]
      exact r1
    · exact fun e => r4 x b z e.symm
  refine ⟨m, ns.sameBut sb ne, fun h3 sb3 => ⟨_, H', I2.turned (t' := t2.toks) (fun c o hc e => ?_) r0 r1 r3 r4 r5, q⟩⟩
  exact (sb3.2 c hc).trans e
end
end Gx

/-! Tuples whose objects are known to have no names of their own: made by tuple( ), and their methods. -/
namespace Gx
open PySem PySem.Spec PyProof.Rows L2 GxR
section
variable {X : Cx}
def rTupF (K : PySem.W.Frag) : List V → Hp → VK → Prop := fun xs H Q => ∃ (p : Addr) (ys : List V), xs = [.ref p] ∧ SqL K H p ys ∧ ∀ (l : Addr) (o : Obj), H l = none → o.dict = none → Q (.ref l) (upd H l (.frz o (.tup ys)))
theorem call_tupleF : CallR X (.type "tuple") (rTupF X.K) := by
  intro pins s σ H xs us Q I r h
  obtain ⟨p, ys, rfl, hq, q⟩ := h
  obtain ⟨u, rfl, rx⟩ := vals1 r
  obtain rfl : u = Value.ref p := rx
  obtain ⟨its, rv, pl, hz⟩ := I.list hq
  have hlen := rv.length
  refine call_tuple_list pl.isList (fun g keep => ?_) (by rw [List.size_toArray]; omega)
  have J : Inv X pins σ H { s with heap := g } := I.kept (t' := s.toks) keep
  have J2 : Inv X pins σ (upd H g.objs.size (.frz { cls := .type "tuple", data := .seq its.toArray } (.tup ys))) { s with heap := g.push { cls := .type "tuple", data := .seq its.toArray } } :=
    J.laid (t' := s.toks) (fun b o e => Heap.get?_push_of_some _ e) (Nat.le_refl _)
      (show ObjOk X.prog X.w _ _ _ (.frz _ (.tup ys)) from ⟨Heap.get?_push_size _ rfl, hz, its, rv, IsTup.new _ _⟩)
  exact ⟨.ref g.objs.size, _, J2, rfl, q _ _ (J.hok.fresh (Nat.le_refl _)) rfl⟩
/-- t.name(..), t such a tuple -/
def tBMF (r : V → List V → Hp → VK → Prop) (to : TE) (t : TA) : TE := fun σ H Q => to σ H fun x H1 => (∃ (p : Addr) (o : Obj) (ys : List V), x = .ref p ∧ H1 p = some (.frz o (.tup ys)) ∧ o.dict = none) ∧ t σ H1 fun xs H2 => r x xs H2 Q
variable {o e : Expr} {es : List Expr} {to : TE} {t : TA} {name : Str} {apos cpos : Pos} {id : String} {r : V → List V → Hp → VK → Prop}
theorem pe_bmF (slot : Slot "tuple" name id) (hty : typeOf (.builtin id) = pure (.type "method_descriptor")) (hm : MtR X id r) (ho : PE X o to) (ha : PA X (e :: es) t)
    (base : attributeBase o name X.env (eval o X.env) = eval o X.env := by rfl)
    (few : ((backTo cpos (starEach (e :: es) X.env)).all (fun x => !x.1) && (backToKw cpos (keywordEach [] X.env)).all (fun x => x.1.isSome) && decide ((e :: es).length + ([] : List Keyword).length + (if ([] : List Keyword).isEmpty then 0 else 1) < 30)) = true := by rfl)
    (line : (apos.endLine == cpos.line) = true := by rfl) (star : starEach (e :: es) X.env = (false, eval e X.env) :: starEach es X.env := by rfl)
    (plain : (backTo cpos (starEach es X.env)).any (·.1) = false := by rfl) :
    PE X (.Call (.Attribute o name apos) (e :: es) [] cpos) (tBMF r to t) := by
  refine ⟨fun pins s σ H Q I h => ?_⟩
  refine wpAny_Call_method_late base few line rfl (thn (ho.run pins s σ H _ I h) fun v s1 hx => ?_)
  obtain ⟨x, H1, I1, r1, ⟨p, ob, ys, rfl, hp, hd⟩, q1⟩ := hx
  obtain rfl : v = Value.ref p := r1
  obtain ⟨g, _, its, _, o2, g2, c2, _⟩ := I1.hok p _ hp
  have ty : s1.TypeIs (.ref p) "tuple" := ⟨o2, g2, c2⟩
  refine ⟨"tuple", id, PySem.F.plainAttrs_tuple, slot, hty, ty, fun a ea => ?_, ?_⟩
  · cases ea
    exact ⟨ob, g, hd⟩
  · have hA := ha.run cpos pins s1 σ H1 _ I1 q1
    rw [star] at hA ⊢
    refine Calls.callWith_builtin (by show (false || (backTo cpos (starEach es X.env)).any (·.1)) = false; rw [plain] <;> rfl) (Calls.evalArgs_plain ?_)
    exact thn hA fun us s2 hu => by
      obtain ⟨vs, H2, I2, r2, q2⟩ := hu
      exact hm pins s2 σ H2 (.ref p) vs (.ref p) us Q I2 rfl r2 q2
end
end Gx

/-! sorted(d), d a dict of up to sizeLine texts -/
namespace Gx
open PySem PySem.Spec PyProof.Rows L2 GxR GenW
section
variable {X : Cx}
def rSortD : List V → Hp → VK → Prop := fun xs H Q => ∃ (a : Addr) (kvs : List (Key × V)) (ks : List Str), xs = [.ref a] ∧ Rd H a (.dK kvs) ∧ kvs.map (·.1) = ks.map Sum.inr ∧ ks.length ≤ sizeLine ∧
  ∀ p, H p = none → Q (.ref p) (upd H p (.lst ((ks.mergeSort (PySem.W.dataLe false PyData.str)).map V.str)))
theorem strs_each : ∀ {vs : List Value} {ks : List Str}, StrsAre vs ks → PySem.W.EachIs (fun u b => RelV (V.str b) u) vs ks
  | _, _, h => by
    exact each_vals (val := V.str) (vals_of_strs h)
theorem cr_sortD (hcalm : X.calm = true) (hu : X.A.units + 64 < cLine) : CallR X (.builtin "sorted") rSortD := by
  intro pins s σ H xs us Q I r q
  obtain ⟨a, kvs, ks, ex, hd, hks, h64, q⟩ := q
  subst ex
  obtain ⟨u, eu, rx⟩ := vals1 r
  subst eu
  cases rx
  obtain ⟨z, lo, vs, rel, dd⟩ := dk_rd I.hok hd
  obtain ⟨ep, hat⟩ := dd.dictAt
  have hkeys : vs.map (·.1) = ks.map Sum.inr := rel.keys.symm.trans hks
  have hl : vs.length = ks.length := by
    have e := congrArg List.length hkeys
    rw [List.length_map, List.length_map] at e
    exact e
  have h16 : vs.length ≤ sizeLine := by rw [hl]; exact h64
  refine Calls.call_function_entry PyProof.Rows.kind_sorted PyProof.Rows.plain_sorted PyProof.Rows.entry_sorted (PyProof.Rows.args_sorted1 _) ?_
  unfold Builtin.«sorted»
  refine wpAny_bind (m := checkCount "sorted" 1 1 _) (wpAny_pure ?_)
  refine wpAny_bind (PySem.W.kdu_collect (A := X.A.in1) (PySem.W.kdl_dict (knd := mixKind X.prog X.w) (kvs := vs) (ep := ep) lo) (I.ok.hd hcalm) hat h16 fun h' tk acc hk hacc => ?_)
  have hal : acc.toList.length = ks.length := by rw [Array.length_toList, hacc.1, hl]
  have hS : StrsAre acc.toList ks := strs_at hal fun j v e => by
    obtain ⟨k, x, e1, e2⟩ := hacc.2 j v (by rw [← Array.getElem?_toList]; exact e)
    have e3 : (vs.map (·.1))[j]? = some k := by rw [List.getElem?_map, e1]; all_goals rfl
    rw [hkeys, List.getElem?_map] at e3
    cases e4 : ks[j]? with
    | none => rw [e4] at e3; cases e3
    | some y =>
      rw [e4] at e3
      have e5 : Sum.inr y = k := Option.some.inj e3
      subst e5
      obtain ⟨t, ev⟩ := Value.isStrOf_shape (x := y) (v := v) e2
      exact ⟨y, t, rfl, ev⟩
  have I1 : Inv X pins σ H { s with heap := h', toks := tk } := I.kept hk
  refine wpAny_bind (wpAny_newList ?_ (by rw [hal]; exact h64))
  have hoL : (h'.push (seqObj "list" acc.toList.toArray 0)).get? h'.objs.size = some (seqObj "list" acc.toList.toArray 0) := Heap.get?_push_size _ rfl
  show wpAny _ _ _ _ _ { s with heap := h'.push (seqObj "list" acc.toList.toArray 0), toks := tk }
  have ev := strs_each hS
  have er : PySem.W.EachIs (fun v b => ∃ as, Reads (h'.push (seqObj "list" acc.toList.toArray 0)) v (PyData.str b) as ∧ h'.objs.size ∉ as) acc.toList ks := each_mem ev fun v b hb rb => by
    obtain ⟨t, rfl⟩ := rb
    exact ⟨_, Reads.str b t, List.not_mem_nil⟩
  refine wpAny_bind (wpAny_holding (PySem.W.list_sort_data (s := { s with heap := h'.push (seqObj "list" acc.toList.toArray 0), toks := tk }) hoL ev er (alike_strs _) (sortable_strs _) h64 (fun b hb => by
    have : (PyData.str b).depth ≤ 1 := by show 0 ≤ 1; decide
    show X.A.in1.units + 1 + (PyData.str b).depth < cLine
    have : X.A.in1.units ≤ X.A.units + 32 := by
      show X.A.units + 1 ≤ X.A.units + 32
      omega
    omega) fun out ho eo => ?_))
  have rout : Vals ((ks.mergeSort (PySem.W.dataLe false PyData.str)).map V.str) out := vals_each eo
  obtain ⟨e', he'⟩ := PyProof.Rows.sortedHeap_at (vs := acc.toList) (out := out.toArray) hoL
  have hlen : ((ks.mergeSort (PySem.W.dataLe false PyData.str)).map V.str).length ≤ sizeLine := by rw [rout.length, ho]; exact h64
  refine wpAny_pure ⟨_, rfl, .ref h'.objs.size, upd H h'.objs.size (.lst ((ks.mergeSort (PySem.W.dataLe false PyData.str)).map V.str)), I1.laid (t' := tk) (fun b u e => ?_) (Nat.le_refl _)
    (show ObjOk X.prog X.w _ _ _ (.lst ((ks.mergeSort (PySem.W.dataLe false PyData.str)).map V.str)) from ⟨hlen, out, e', rout, he'⟩), rfl, q _ (I1.hok.fresh (Nat.le_refl _))⟩
  have hb : b < h'.objs.size := Heap.lt_size e
  rw [PyProof.Rows.sortedHeap_old (Nat.ne_of_lt hb) (by rw [size_push']; exact Nat.lt_succ_of_lt hb)]
  exact Heap.get?_push_of_some _ e
end
end Gx

/-! A caught exception that outlives its suite: try/except that keeps it in the told heap; isinstance of it; a def whose callees raise. -/
namespace Gx
open PySem PySem.Spec PyProof.Rows L2 GxR GenW

/-- a caught exception of the class cls, its dict d -/
def ExcAt (a : Addr) (cls : Value) (d : Option Addr) (h : Heap) : Prop := ∃ oe vs, h.get? a = some oe ∧ oe.cls = cls ∧ oe.dict = d ∧ oe.data = .fields vs
def excO (a : Addr) (cls : Value) (d : Option Addr) : HO := .ext (ExcAt a cls d)
theorem excO_ok {P : Program} {w : World} {H : Hp} {h : Heap} {a : Addr} {cls : Value} {d : Option Addr} {oe : Obj} {vs : Array Value} (he : h.get? a = some oe) (hz : Zc cls d oe) (hd : oe.data = .fields vs) : ObjOk P w H h a (excO a cls d) :=
  ⟨⟨oe, vs, he, hz.1, hz.2, hd⟩, ⟨oe, he⟩, fun _ _ ⟨o, vs, e, r⟩ k => ⟨o, vs, k o e, r⟩⟩

section
variable {X : Cx} {pins : List (Addr × Obj)} {σ : L2.St} {H : Hp} {s : Shared}
/-- what stands in the heap, new to the def, is told from here on -/
theorem Inv_told (I : Inv X pins σ H s) {a : Addr} {o : HO} (na : H a = none) (nL : a ≠ X.env.locals) (nC : ∀ x c, X.env.cells.lookup x = some c → c ≠ a) (n0 : X.s_0.heap.get? a = none)
    (nP : ∀ p ∈ X.pn ++ pins, p.1 ≠ a) (ho : ObjOk X.prog X.w (upd H a o) s.heap a o) : Inv X pins σ (upd H a o) s where
  ok := I.ok
  os := I.os
  bare := I.bare
  base :=
    { keep := I.base.keep
      slot := I.base.slot
      free := fun b ob e n hx => by
        rw [upd_ne (fun z => by rw [z, n0] at e; cases e)]
        exact I.base.free b ob e n hx
      there := I.base.there
      tups := fun b xs e => by
        have q := I.base.tups b xs e
        rw [upd_ne (fun z => by rw [z, na] at q; cases q)]
        exact q
      frzs := fun b ob u e => by
        have q := I.base.frzs b ob u e
        rw [upd_ne (fun z => by rw [z, na] at q; cases q)]
        exact q
      tbls := fun b ps e => by
        obtain ⟨more, q⟩ := I.base.tbls b ps e
        exact ⟨more, by rw [upd_ne (fun z => by rw [z, na] at q; cases q)]; exact q⟩ }
  loc := I.loc
  cell := I.cell
  free := by rw [upd_ne (Ne.symm nL)]; exact I.free
  freeC := fun x c e => by rw [upd_ne (nC x c e)]; exact I.freeC x c e
  pin := fun p hp => by
    obtain ⟨e, n, r⟩ := I.pin p hp
    exact ⟨e, by rw [upd_ne (nP p hp)]; exact n, r⟩
  hok := fun b u e => by
    by_cases hb : b = a
    · subst hb
      rw [upd_same] at e
      cases e
      exact ho
    · rw [upd_ne hb] at e
      exact (I.hok b u e).stay (fun _ _ _ q => q) (fun c q => by rw [upd_ne (ne_of_none q na)]; exact q) fun c xs q => by rw [upd_ne (ne_of_none q na)]; exact q
  len := I.len
end

/-- what the clause wishes of an exception: its class is caught; the suite, with the exception told and in slot i, goes on to what follows -/
def wKeep (K : PySem.W.Frag) (c : Value) (i : Nat) (ts : TS) (D : Ends) : WX := fun cls d σ H =>
  PySem.W.exmOne K cls c = some true ∧ ∀ a, H a = none → ts { nx := fun τ H' => D.nx (τ.set i none) H', rt := fun _ _ => False, bk := fun _ _ => False, ct := fun _ _ => False } (σ.set i (some (.ref a))) (upd H a (excO a cls d))

section
variable {X : Cx} {c : Value} {i : Nat} {ts : TS}
/-- an exception that has come down to this def: from here on the heap tells of it -/
theorem sky_told (hs : X.stack = X.env :: X.outer) (hf : X.env.frame = some X.env.locals) (hex : X.ex = []) {ps : List (Addr × Obj)} {τ : L2.St} {H : Hp} {s0 s1 : Shared} {G h : Heap} {a : Addr} {cls : Value} {d : Option Addr}
    (J : Inv X ps τ H s0) (ground : ∀ b o, s0.heap.get? b = some o → b ∉ frs X.stack → G.get? b = some o) (fly : HandSPX.FlyingZ G (X.env :: X.outer) a (Zc cls d) h) (slots : s0.heap.UpToSlots h) (os : s1.os = s0.os) (bare : AllBare s1.gens) (na : H a = none) :
    Inv X ps τ (upd H a (excO a cls d)) { s1 with heap := h } ∧ ∃ oe, h.get? a = some oe ∧ oe.cls = cls := by
  obtain ⟨stay, noG, funs, oe, vs, _, _, _, he, hz, hd, _⟩ := fly
  have L := J.landed (s' := { s1 with heap := h }) ground stay slots os bare
  have out : a ∉ frs X.stack := by
    intro hm
    rw [hs] at hm
    obtain ⟨_, o2, e2, nf⟩ := funs.mem hm
    cases he.symm.trans e2
    exact nf vs hd
  have gone : s0.heap.get? a = none := by
    cases q : s0.heap.get? a with
    | none => rfl
    | some o =>
      have z := ground a o q out
      rw [noG] at z
      cases z
  refine ⟨Inv_told L na (fun z => out ?_) (fun y k q z => ?_) ?_ (fun p hp z => ?_) (excO_ok he hz hd), oe, he, hz.1⟩
  · rw [hs, z]
    exact List.mem_filterMap.mpr ⟨X.env, List.mem_cons_self, hf⟩
  · obtain ⟨v, o2, e2, dk⟩ := L.cell y k q
    rw [z] at e2
    cases he.symm.trans e2
    rw [hd] at dk
    cases dk
  · cases q : X.s_0.heap.get? a with
    | none => rfl
    | some o =>
      obtain ⟨o2, e2⟩ := J.base.there a o q (by rw [hex]; simp)
      rw [gone] at e2
      cases e2
  · have z2 := (J.pin p hp).1
    rw [z, gone] at z2
    cases z2
theorem Inv_suite0 {ps : List (Addr × Obj)} {τ : L2.St} {H : Hp} {s : Shared} (I : Inv X ps τ H s) (a : Addr) : Inv (X.suite a (X.pn ++ ps)) [] τ H s := by
  have p0 := I.pin
  obtain ⟨k1, k2, k3, k4, k5, k6, k7, k8, _, k9, k10⟩ := I
  refine ⟨k1.suite _ _, k2, k3, k4, k5, k6, k7, k8, fun z hz => p0 z ?_, k9, k10⟩
  rwa [List.append_nil] at hz
theorem Inv_unsuite0 {ps qs : List (Addr × Obj)} {a : Addr} {τ : L2.St} {H : Hp} {s : Shared} (I : Inv (X.suite a (X.pn ++ ps)) qs τ H s) (ok : X.Ok) : Inv X ps τ H s := by
  have p0 := I.pin
  obtain ⟨_, k2, k3, k4, k5, k6, k7, k8, _, k9, k10⟩ := I
  exact ⟨ok, k2, k3, k4, k5, k6, k7, k8, fun z hz => p0 z (List.mem_append.mpr (.inl hz)), k9, k10⟩
/-- try: body, except x as n: suite, where all that the body lets out is of the class x and the suite goes on to what follows -/
theorem ps_try_keep {x n : Str} {t0 : Stmt} {body rest : List Stmt} {q1 q2 q3 : Pos} {tb : WX → TS} (hs : X.stack = X.env :: X.outer) (hf : X.env.frame = some X.env.locals) (hex : X.ex = []) (hN : X.N.Nodup) (hi : X.N[i]? = some n) (hl : X.env.kindOf n = some .local)
    (hg : Gl X x) (hx : X.mg x = some c) (hb : ∀ (W : WX) (ps : List (Addr × Obj)) (xe : Value → Shared → Prop), Takes (X.tr ps xe) W → PSs (X.tr ps xe) body (tb W)) (hsu : ∀ (a : Addr) (ps : List (Addr × Obj)), PSs (X.suite a ps) (t0 :: rest) ts)
    (hdb : (x == ("__debug__" : Str)) = false := by decide) :
    PS X (.Try body [.ExceptHandler (some (.Name x q1)) (some n) (t0 :: rest) q2] [] [] q3) (fun D τ H => tb (wKeep X.K c i ts D) D τ H) := by
  refine ⟨fun ps s τ H D I h => wpAny_Try_except ?_⟩
  have ok := I.ok
  refine wpAny_mono ((hb (wKeep X.K c i ts D) (X.pn ++ ps) _ ?_).run [] s τ H D (I.toTry _) h) (fun fl s1 r => ?_) fun _ _ z => z
  · rintro u s1 ⟨a, G, s0, _, τ1, H1, cls, d, rfl, J0, ground, slots, sky, na, os, bare, yes, go⟩
    have J := J0.ofTry ok
    refine Sky.land Zc.steady (ok.frames.trans (congrArg some hs)) hf (hs ▸ sky) fun h3 f3 u3 => ?_
    obtain ⟨I3, oe, he, hc⟩ := sky_told (s1 := s1) hs hf hex J ground f3 (slots.trans u3) os bare na
    have ask : PySem.W.Looks (model X.prog X.w) h3 (typeOf (.ref a)) cls := fun _ _ _ _ kept r => wpAny_typeOf_ref (kept _ _ he) (hc ▸ r)
    refine wpAny_handleBy_cons (codeAny_handlers_test (ld_glob (X := X.suite a (X.pn ++ ps)) (Inv_suite0 I3 a) hg hx ?_ hdb)) (fun z => nomatch z)
    refine (PySem.W.exm_one (M := model X.prog X.w) I3.kIn ask yes).here (codeAny_handlers_suite_as (HandSPX.lands_againZ f3 fun h4 f4 u4 => ?_))
    have I4 := (sky_told (s1 := s1) hs hf hex J ground f4 ((slots.trans u3).trans u4) os bare na).1
    refine store_ok (X := X.suite a (X.pn ++ ps)) (v := .ref a) (Inv_suite0 I4 a) hN hi (.inl hl) rfl (fun s5 I5 => wpAny_mono ((hsu a (X.pn ++ ps)).run [] s5 _ _ _ I5 (go a na)) (fun fl s6 r => ?_) fun _ _ z => z.elim) (.inr hl)
    match fl, r with
    | .next, ⟨τ6, H6, I6, r6⟩ => exact gone_ok (Inv_unsuite0 I6 ok) hN hi hl fun s7 I7 => ⟨_, _, I7, r6⟩
    | .brk, ⟨_, _, _, r6⟩ => exact r6.elim
    | .cont, ⟨_, _, _, r6⟩ => exact r6.elim
    | .ret _, ⟨_, _, _, _, _, r6⟩ => exact r6.elim
  · match fl, r with
    | .next, ⟨τ1, H1, I1, r1⟩ => exact wpAny_execs_nil ⟨τ1, H1, I1.ofTry ok, r1⟩
    | .brk, ⟨τ1, H1, I1, r1⟩ => exact ⟨τ1, H1, I1.ofTry ok, r1⟩
    | .cont, ⟨τ1, H1, I1, r1⟩ => exact ⟨τ1, H1, I1.ofTry ok, r1⟩
    | .ret _, ⟨v, τ1, H1, I1, rv, r1⟩ => exact ⟨v, τ1, H1, I1.ofTry ok, rv, r1⟩
end

/-- isinstance(e, c), e a caught exception that the heap tells of -/
def rIsX (K : PySem.W.Frag) : List V → Hp → VK → Prop := fun xs H Q => ∃ (a D : Addr) (c : V) (cv : Value) (b : Bool), xs = [.ref a, c] ∧ H a = some (excO a (.ref D) none) ∧ ExcC K D ∧ (∀ u, RelV c u → u = cv) ∧ PySem.W.kitOne K (.ref D) cv = some b ∧ Q (.bl b) H
theorem call_isX {X : Cx} : CallR X (.builtin "isinstance") (rIsX X.K) := by
  rintro ps s τ H _ us Q I r ⟨a, D, c, cv, b, rfl, told, C, hcv, yes, q⟩
  match us, r with
  | [u, w], .cons r1 (.cons r2 .nil) =>
    cases r1
    cases hcv _ r2
    obtain ⟨⟨⟨oc, od, dt, sl⟩, vs, at_, k1, k2, k3⟩, _⟩ := I.hok a _ told
    cases k1
    cases k2
    cases k3
    exact PySem.W.kia_one (PySem.W.handS_kitx_exc C.hg C.hk C.hs C.hd C.ha C.hn C.ht C.hm) I.kIn ⟨at_, rfl, rfl, trivial⟩ yes (fun z => nomatch z) fun k => ⟨.bl b, H, I.kept (t' := k) (fun _ _ z => z), rfl, q⟩

/-! ### defs that raise -/
section
variable {P : Program} {w : World} {K : PySem.W.Frag} {mg : Str → Option Value} {base : Heap} {CX : CXT} {k : Nat} {f : Addr} {fd : FuncData} {x : Str} {ps : List Str} {sp : Sp}
theorem FnG.toCX (F : FnG P w K mg base CX0 k f fd ps sp) : FnG P w K mg base CX k f fd ps sp :=
  ⟨F.many, fun A outer s H args us vs Q E g hr e0 hb r h => codeAny_mono (F.runs A outer s H args us vs Q E g hr e0 hb r h) fun q s' hq => by
    match q, hq with
    | .error e, hq => exact hq.elim
    | .ok (.ret u), hq => exact hq⟩
theorem Callee.toCX (C : Callee P w K mg base CX0 k x ps sp) : Callee P w K mg base CX k x ps sp :=
  let ⟨f, fd, F, r⟩ := C.is
  ⟨f, fd, F.toCX, r⟩
end
end Gx

/-! Own classes of error: what the head says of them, raise, calls that may raise, the one class by its name. -/
namespace Gx
open PySem PySem.Spec PyProof.Rows L2 GxR GenW

/-! ### a call that may raise, within try -/
section
variable {X : Cx} {CX : CXT} {k : Nat} {x : Str} {ps : List Str} {sp : Sp} {E : L2.St → XK} {p pos : Pos} {e : Expr} {es : List Expr} {t : TA}
theorem run_gS {pins : List (Addr × Obj)} {σ : L2.St} {H : Hp} {s : Shared} {Q : VK} {us : List Value} {vs : List V} {f : Addr} {fd : FuncData} (F : FnG X.prog X.w X.K X.mg X.base CX k f fd ps sp) (g : X.A.guards = some []) (hr : Room k X.A) (hb : Binds X.K fd ps []) (hx : PassesAt CX X σ (E σ))
    (I : Inv X pins σ H s) (r : Vals vs us) (h : sp vs H Q (E σ)) : wpAny (model X.prog X.w) X.A (call (.ref f) us) (EP X pins σ Q) X.xe s := by
  have hl : (us ++ ([] : List Value)).length = ps.length := by rw [List.append_nil, ← r.length]; exact F.many _ _ _ _ h
  have hB := hb s us I.kIn hl
  rw [List.append_nil] at hB
  refine wpAny_call (codeAny_mono (F.runs X.A X.stack s H ⟨us, []⟩ us vs Q (E σ) g hr I.env0 hB r h) fun q s' hq => ?_)
  match q, hq with
  | .error e, hq => exact hx pins H s e s' I hq
  | .ok (.ret u), hq => exact I.after hq
/-- f(e, ..), which may raise -/
theorem pe_gS (C : Callee X.prog X.w X.K X.mg X.base CX k x ps sp) (g : X.A.guards = some []) (hr : Room k X.A) (hx : ∀ σ, PassesAt CX X σ (E σ)) (ha : PA X (e :: es) t) (hg : Gl X x := by rfl)
    (hdb : (x == ("__debug__" : Str)) = false := by decide) (he : starEach (e :: es) X.env = (false, eval e X.env) :: starEach es X.env := by rfl) (hpl : (backTo pos (starEach es X.env)).any (·.1) = false := by rfl) :
    PE X (.Call (.Name x p) (e :: es) [] pos) (tCallS sp E t) := by
  obtain ⟨f, fd, F, hm, hk, hb⟩ := C.is
  refine ⟨fun pins s σ H Q I h => wpAny_Call_Name_kw (ld_glob I hg hm (PySem.W.callWith_K (h₀ := X.base) I.ok.mod.kin hk (thn (ha.run pos pins s σ H _ I h) fun us s1 h1 => ?_) he hpl) hdb)⟩
  obtain ⟨vs, H1, I1, r, q⟩ := h1
  exact ⟨I1.kIn, run_gS F g hr hb (hx σ) I1 r q⟩
end

/-! ### the classes -/
/-- what the head asks of a class of error that the law's defs raise, over all classes -/
def xsOne (K : PySem.W.Frag) (names : List Str) (x : Str) : Bool :=
  (He.Fa.exc x).ok K && ((He.Fa.exm x "ApartError" true).ok K && (
  decide (PySem.W.findIn K (.ref (He.ga K x)) "__getattribute__" = some (some (.builtin "BaseException.__getattribute__"))) && (
  decide (PySem.W.findIn K (.ref (He.ga K x)) "__getattr__" = some none) && (
  PySem.W.hasDictIn K (He.ga K x) && (
  decide (PySem.W.findIn K (.ref (He.ga K x)) "__class__" = some (some (.builtin "object.__class__"))) && (
  decide (PySem.W.specialIn K (.builtin "object.__class__") "__get__" = some (some (.builtin "getset_descriptor.__get__"))) && (
  decide (PySem.W.takesIn K (.builtin "object.__class__") = some true) && (
  decide (PySem.W.mroIn K (He.ga K x) (.type "object") = some true) && (
  decide (PySem.W.kitOne K (.ref (He.ga K x)) (.type "ValueError") = some true) &&
  names.all fun y => decide (PySem.W.kitOne K (.ref (He.ga K x)) (.ref (He.ga K y)) = some (decide (y = x))))))))))))
def xsB (K : PySem.W.Frag) (names rs : List Str) : Bool := names.all (fun x => He.eqO (PySem.W.nsIn K mainGlobals x) (some (some (.ref (He.ga K x))))) && (He.eqO (PySem.W.nsIn K mainGlobals "ApartError") (some (some (.ref (He.ga K "ApartError")))) && rs.all (xsOne K names))
structure XOne (K : PySem.W.Frag) (names : List Str) (x : Str) : Prop where
  made : PySem.W.excIn K (He.ga K x) He.veBase "ValueError.__new__" = true
  kept : PySem.W.keepIn K (.ref (He.ga K x)) = true
  sub : PySem.W.subIn K (.ref (He.ga K x)) (.type "BaseException") = some true
  ty : PySem.W.typeIn K (.ref (He.ga K x)) = some (.type "type")
  apart : PySem.W.exmOne K (.ref (He.ga K x)) (.ref (He.ga K "ApartError")) = some true
  is : ExcC K (He.ga K x)
  ve : PySem.W.kitOne K (.ref (He.ga K x)) (.type "ValueError") = some true
  kit : ∀ y ∈ names, PySem.W.kitOne K (.ref (He.ga K x)) (.ref (He.ga K y)) = some (decide (y = x))
structure Xs (K : PySem.W.Frag) (mg : Str → Option Value) (names rs : List Str) : Prop where
  glo : ∀ x ∈ names, mg x = some (.ref (He.ga K x))
  top : mg "ApartError" = some (.ref (He.ga K "ApartError"))
  one : ∀ x ∈ rs, XOne K names x
theorem xs_of {K : PySem.W.Frag} {h : Heap} {mg : Str → Option Value} {names rs : List Str} (X : K.In h) (G : h.Ns mainGlobals mg) (c : xsB K names rs = true) : Xs K mg names rs := by
  obtain ⟨c1, c⟩ := He.ba c
  obtain ⟨c2, c3⟩ := He.ba c
  refine ⟨fun x hx => PySem.W.mg_of X G (He.eqO_ok (List.all_eq_true.mp c1 x hx)), PySem.W.mg_of X G (He.eqO_ok c2), fun x hx => ?_⟩
  obtain ⟨d1, d⟩ := He.ba (List.all_eq_true.mp c3 x hx)
  obtain ⟨d2, d⟩ := He.ba d
  obtain ⟨d3, d⟩ := He.ba d
  obtain ⟨d4, d⟩ := He.ba d
  obtain ⟨d5, d⟩ := He.ba d
  obtain ⟨d6, d⟩ := He.ba d
  obtain ⟨d7, d⟩ := He.ba d
  obtain ⟨d8, d⟩ := He.ba d
  obtain ⟨d9, d⟩ := He.ba d
  obtain ⟨d10, d11⟩ := He.ba d
  obtain ⟨e1, e2, e3, e4⟩ := He.exc_ok d1
  exact ⟨e1, e2, e3, e4, He.exm_ok d2, ⟨of_decide_eq_true d3, of_decide_eq_true d4, e3, d5, of_decide_eq_true d6, of_decide_eq_true d7, of_decide_eq_true d8, of_decide_eq_true d9⟩, of_decide_eq_true d10, fun y hy => of_decide_eq_true (List.all_eq_true.mp d11 y hy)⟩

section
variable {X : Cx} {names rs : List Str} {x m : Str} {p p2 pos pos' : Pos} {j : Nat} {W : WX}
/-- raise C('..') -/
theorem ps_raiseX (hc : X.calm = true) (tk : Takes X W) (Z : Xs X.K X.mg names rs) (hx : x ∈ rs) (hn : x ∈ names) (hg : Gl X x) (hdb : (x == ("__debug__" : Str)) = false := by decide) :
    PS X (.Raise (some (.Call (.Name x p) [.Constant (.str m) j p2] [] pos)) none pos') (fun _ σ H => W (.ref (He.ga X.K x)) none σ H) :=
  ps_raise hc tk (pmk_own PySem.F.excBase_ValueError (Z.one x hx).made (Z.glo x hn) (Z.one x hx).kept (raises_own (Z.one x hx).sub (Z.one x hx).ty) hg hdb)
end

/-! ### [("A", isinstance(e, A)), ..] -/
def tKinds (K : PySem.W.Frag) : List (Str × Addr) → TA
  | [] => tNil
  | (w, c) :: r => tCons (tTup (tCons (tC (.str w)) (tCons (tCB (rIsX K) (tCons (tVar 0) (tCons (tC (.ref c)) tNil))) tNil))) (tKinds K r)
/-- tuples of a word and whether -/
def KsAt (H : Hp) (zs : List (Addr × (Str × Bool))) : Prop := ∀ z ∈ zs, H z.1 = some (.tup [.str z.2.1, .bl z.2.2])
theorem KsAt.grow {H H' : Hp} {zs : List (Addr × (Str × Bool))} (k : KsAt H zs) (g : Grow [] H H') : KsAt H' zs := fun z hz => g.tup (by simp) (k z hz)
theorem kinds_go {K : PySem.W.Frag} {a D : Addr} {b : Str × Addr → Bool} (E : ExcC K D) {σ : L2.St} (e0 : σ[0]? = some (some (.ref a))) : ∀ (ks : List (Str × Addr)) (H : Hp) (Q : List V → Hp → Prop), H a = some (excO a (.ref D) none) →
    (∀ p ∈ ks, PySem.W.kitOne K (.ref D) (.ref p.2) = some (b p)) → (∀ zs H', Grow [] H H' → KsAt H' zs → zs.map Prod.snd = ks.map (fun p => (p.1, b p)) → Q (zs.map fun z => V.ref z.1) H') → tKinds K ks σ H Q
  | [], H, Q, _, _, q => q [] H (Grow.refl _ _) (fun _ z => by cases z) rfl
  | (w, c) :: r, H, Q, ha, hk, q => by
    refine ⟨.ref a, e0, a, D, .ref c, .ref c, b (w, c), rfl, ha, E, fun u r => r, hk _ List.mem_cons_self, by show 2 ≤ sizeLine; decide, fun t nt => ?_⟩
    have gt : Grow [] H (upd H t (.tup [.str w, .bl (b (w, c))])) := grow_new nt
    have et : upd H t (.tup [.str w, .bl (b (w, c))]) t = some (.tup [.str w, .bl (b (w, c))]) := upd_same
    generalize upd H t (.tup [.str w, .bl (b (w, c))]) = H1 at gt et ⊢
    refine kinds_go E e0 r H1 _ (gt.keep a _ (by simp) ha fun ps z => by cases z) (fun p hp => hk p (List.mem_cons_of_mem _ hp)) fun zs H' g' k' m' => ?_
    refine q ((t, (w, b (w, c))) :: zs) H' (gt.trans g') (fun z hz => ?_) ?_
    · rcases List.mem_cons.mp hz with rfl | h
      · exact g'.tup (by simp) et
      · exact k' z h
    · rw [List.map_cons, List.map_cons, m']
end Gx
namespace Gx
open PySem PySem.Spec PyProof.Rows L2 GxR GenW
theorem takes_no {X : Cx} : Takes X (fun _ _ _ _ => False) := fun _ _ ⟨_, _, _, _, _, _, _, _, _, _, _, _, _, _, _, _, w⟩ => w.elim
/-- a def that may raise, where it does not -/
theorem passX0 {X : Cx} : Passes (L2.CX X.prog X.w) X E0 := fun _ _ _ _ _ _ _ h => by
  obtain ⟨_, _, _, _, _, _, _, _, _, _, _, _, z⟩ := h
  exact z.elim
/-- all classes of refusal, by name -/
def excNames : List Str := ["NoName", "NoWeb", "NoHand", "NoRoad", "NoBook", "Unlike", "NoNumber", "NoNumbering", "NoSpot", "TooMany", "Twice", "Empty", "NoWord", "Alike", "NoMoment", "Faulty", "NoBooks", "NoParting", "Cross", "Common", "NoLine", "NoHeap", "NoText", "NoRow", "NoNet", "Unfinished"]
end Gx
namespace Gx
open PySem PySem.Spec PyProof.Rows L2 GxR GenW
def ksOf (K : PySem.W.Frag) (names : List Str) : List (Str × Addr) := names.map fun y => (y, He.ga K y)
section
variable {K : PySem.W.Frag} {a : Addr} {x : Str} {σ : L2.St} {H : Hp} {R : TS} {D : Ends}
theorem ks_go (XO : XOne K excNames x) (names : List Str) (hs : ∀ y ∈ names, y ∈ excNames) (e0 : σ[0]? = some (some (.ref a))) (ha : H a = some (excO a (.ref (He.ga K x)) none)) {Q : List V → Hp → Prop}
    (q : ∀ zs H', Grow [] H H' → KsAt H' zs → zs.map Prod.snd = names.map (fun y => (y, decide (y = x))) → Q (zs.map fun z => V.ref z.1) H') : tKinds K (ksOf K names) σ H Q := by
  refine kinds_go (b := fun p => decide (p.1 = x)) XO.is e0 (ksOf K names) H Q ha (fun p hp => ?_) fun zs H' g k m => q zs H' g k ?_
  · obtain ⟨y, hy, rfl⟩ := List.mem_map.mp hp
    exact XO.kit y (hs y hy)
  · rw [m, ksOf, List.map_map]
    rfl
theorem ks_first (XO : XOne K excNames x) {o0 o1 o2 o3 o4 : Option V} (names : List Str) (hs : ∀ y ∈ names, y ∈ excNames) (hl : names.length ≤ 30) (e0 : o0 = some (.ref a)) (ha : H a = some (excO a (.ref (He.ga K x)) none))
    (q : ∀ L zs H', Grow [] H H' → H' L = some (.lst (zs.map fun z => V.ref z.1)) → KsAt H' zs → zs.map Prod.snd = names.map (fun y => (y, decide (y = x))) → R D [o0, some (.ref L), o2, o3, o4] H') :
    tSeq (tAsg (tLst (tKinds K (ksOf K names))) (gName 1)) R D [o0, o1, o2, o3, o4] H := by
  refine ks_go (σ := [o0, o1, o2, o3, o4]) XO names hs (by rw [e0]; rfl) ha fun zs H' g k m => ?_
  have l : zs.length = names.length := by rw [← List.length_map (f := Prod.snd) (as := zs), m, List.length_map]
  refine ⟨by rw [List.length_map]; unfold sizeLine; omega, fun L nL => ?_⟩
  exact q L zs _ (g.trans (grow_new nL)) upd_same (k.grow (grow_new nL)) m
theorem ks_cat (XO : XOne K excNames x) {old : List Str} {L : Addr} {zs : List (Addr × (Str × Bool))} (names : List Str) (hs : ∀ y ∈ names, y ∈ excNames) (hl : old.length + names.length ≤ 30) (e0 : σ[0]? = some (some (.ref a))) (e1 : σ[1]? = some (some (.ref L)))
    (ha : H a = some (excO a (.ref (He.ga K x)) none)) (eL : H L = some (.lst (zs.map fun z => V.ref z.1))) (k0 : KsAt H zs) (m0 : zs.map Prod.snd = old.map (fun y => (y, decide (y = x)))) {Q : VK}
    (q : ∀ L' zs' H', Grow [] H H' → H' L' = some (.lst (zs'.map fun z => V.ref z.1)) → KsAt H' zs' → zs'.map Prod.snd = (old ++ names).map (fun y => (y, decide (y = x))) → Q (.ref L') H') :
    tOp rCat (tVar 1) (tLst (tKinds K (ksOf K names))) σ H Q := by
  refine ⟨.ref L, e1, ?_⟩
  refine ks_go XO names hs e0 ha fun zs1 H1 g1 k1 m1 => ?_
  have l0 : zs.length = old.length := by rw [← List.length_map (f := Prod.snd) (as := zs), m0, List.length_map]
  have l : zs1.length = names.length := by rw [← List.length_map (f := Prod.snd) (as := zs1), m1, List.length_map]
  refine ⟨by rw [List.length_map]; unfold sizeLine; omega, fun b nb => ?_⟩
  have g2 : Grow [] H1 (upd H1 b (.lst (zs1.map fun z => V.ref z.1))) := grow_new nb
  have eb : upd H1 b (.lst (zs1.map fun z => V.ref z.1)) b = some (.lst (zs1.map fun z => V.ref z.1)) := upd_same
  generalize upd H1 b (.lst (zs1.map fun z => V.ref z.1)) = H2 at g2 eb ⊢
  refine ⟨L, b, _, _, rfl, rfl, (g1.trans g2).lst (by simp) eL, eb, by rw [List.length_map, List.length_map]; unfold sizeLine; omega, fun p np => ?_⟩
  have g3 : Grow [] H2 (upd H2 p (.lst ((zs.map fun z => V.ref z.1) ++ zs1.map fun z => V.ref z.1))) := grow_new np
  refine q p (zs ++ zs1) _ ((g1.trans g2).trans g3) (by rw [List.map_append]; exact upd_same) (fun z hz => ?_) (by rw [List.map_append, List.map_append, m0, m1])
  rcases List.mem_append.mp hz with h | h
  · exact ((k0.grow g1).grow g2).grow g3 z h
  · exact (k1.grow g2).grow g3 z h
theorem ks_more (XO : XOne K excNames x) {old : List Str} {L : Addr} {zs : List (Addr × (Str × Bool))} {o0 o2 o3 o4 : Option V} (names : List Str) (hs : ∀ y ∈ names, y ∈ excNames) (hl : old.length + names.length ≤ 30) (e0 : o0 = some (.ref a))
    (ha : H a = some (excO a (.ref (He.ga K x)) none)) (eL : H L = some (.lst (zs.map fun z => V.ref z.1))) (k0 : KsAt H zs) (m0 : zs.map Prod.snd = old.map (fun y => (y, decide (y = x))))
    (q : ∀ L' zs' H', Grow [] H H' → H' L' = some (.lst (zs'.map fun z => V.ref z.1)) → KsAt H' zs' → zs'.map Prod.snd = (old ++ names).map (fun y => (y, decide (y = x))) → R D [o0, some (.ref L'), o2, o3, o4] H') :
    tSeq (tAsg (tOp rCat (tVar 1) (tLst (tKinds K (ksOf K names)))) (gName 1)) R D [o0, some (.ref L), o2, o3, o4] H :=
  ks_cat (σ := [o0, some (.ref L), o2, o3, o4]) XO names hs hl (by rw [e0]; rfl) rfl ha eL k0 m0 q
end
end Gx
namespace Gx
open PySem PySem.Spec PyProof.Rows L2 GxR GenW
theorem filter_one {α : Type} [DecidableEq α] {x : α} : ∀ {l : List α}, l.Nodup → x ∈ l → (l.filter fun y => decide (y = x)) = [x]
  | y :: l, nd, h => by
    obtain ⟨h1, h2⟩ := List.nodup_cons.mp nd
    by_cases e : y = x
    · subst e
      rw [List.filter_cons_of_pos (by simp), List.filter_eq_nil_iff.mpr]
      intro z hz
      simp only [decide_eq_true_eq]
      exact fun q => h1 (q ▸ hz)
    · rw [List.filter_cons_of_neg (by simpa using e)]
      rcases List.mem_cons.mp h with q | q
      · exact absurd q.symm e
      · exact filter_one h2 q
theorem exc_nd : excNames.Nodup := by unfold excNames; decide +kernel
end Gx
namespace Gx
open PySem PySem.Spec PyProof.Rows L2 GxR GenW
section
variable {sb : Bool} {g : TG} {te : TE} {vs : List Nat} {σ : L2.St} {Q : VK} {P : Addr} {H1 : Hp}
theorem truth_tup {K : PySem.W.Frag} {a : Addr} {xs : List V} (Pv : Nat → Hp → Prop) (h0 : ∀ H2, Tabbed P H1 H2 → Pv 0 H2) (hl : ∀ i H, Pv i H → SqT K H a xs)
    (step : ∀ i x H, xs[i]? = some x → Pv i H → g x (wipe σ vs) H fun σ2 H2 => wipe σ2 vs = wipe σ vs ∧ te σ2 H2 fun y H4 => ∃ b, y = .bl b ∧ if b = sb then Q (.bl sb) H4 else Pv (i + 1) H4)
    (fin : ∀ H, Pv xs.length H → Q (.bl (!sb)) H) : rTruth P sb g te vs σ Q (Itt K a) H1 :=
  truth_by (items := xs) Pv h0 (fun i H x H' hp hy => ⟨hy.1, hy.2 xs (hl i H hp)⟩) (fun i H hi hp => ⟨xs, xs[i], hl i H hp, List.getElem?_eq_getElem hi⟩) (fun H hp => ⟨xs, hl _ H hp, Nat.le_refl _⟩) step fin
end
end Gx
namespace Gx
open PySem PySem.Spec PyProof.Rows L2 GxR GenW
theorem Grow.sqt {K : PySem.W.Frag} {H H' : Hp} (g : Grow [] H H') {p : Addr} {xs : List V} (h : SqT K H p xs) : SqT K H' p xs := by
  rcases h with (h | ⟨o, h⟩) | h
  · exact .inl (.inl (g.tup (by simp) h))
  · exact .inl (.inr ⟨o, g.keep p _ (by simp) h fun ps z => by cases z⟩)
  · exact .inr h
end Gx

/-! ### data of any shape: lists, tuples, dicts at any depth; none of its objects among ex -/
namespace Gx
open PySem PySem.Spec PyProof.Rows L2 GxR GenW
theorem Grow.sqx {K : PySem.W.Frag} {ex : List Addr} {H H' : Hp} (g : Grow ex H H') {p : Addr} {xs : List V} (n : p ∉ ex) (h : SqT K H p xs) : SqT K H' p xs := by
  rcases h with (h | ⟨o, h⟩) | h
  · exact .inl (.inl (g.tup n h))
  · exact .inl (.inr ⟨o, g.keep p _ n h fun ps z => by cases z⟩)
  · exact .inr h
mutual
inductive Db (K : PySem.W.Frag) (ex : List Addr) (H : Hp) : V → PyData → Prop
  | non : Db K ex H .non .none
  | bl (b : Bool) : Db K ex H (.bl b) (.bool b)
  | int (i : Int) : Db K ex H (.int i) (.int i)
  | str (x : Str) : Db K ex H (.str x) (.str x)
  | lst {a : Addr} {xs : List V} {ds : List PyData} : a ∉ ex → H a = some (.lst xs) → Dbs K ex H xs ds → Db K ex H (.ref a) (.list ds)
  | tup {a : Addr} {xs : List V} {ds : List PyData} : a ∉ ex → SqT K H a xs → Dbs K ex H xs ds → Db K ex H (.ref a) (.tuple ds)
  | dic {a : Addr} {kvs : List (Key × V)} {ps : List (PyData × PyData)} : a ∉ ex → H a = some (.dK kvs) → Dbk K ex H kvs ps → Db K ex H (.ref a) (.dict ps)
inductive Dbs (K : PySem.W.Frag) (ex : List Addr) (H : Hp) : List V → List PyData → Prop
  | nil : Dbs K ex H [] []
  | cons {v : V} {d : PyData} {vs : List V} {ds : List PyData} : Db K ex H v d → Dbs K ex H vs ds → Dbs K ex H (v :: vs) (d :: ds)
inductive Dbk (K : PySem.W.Frag) (ex : List Addr) (H : Hp) : List (Key × V) → List (PyData × PyData) → Prop
  | nil : Dbk K ex H [] []
  | cons {k : Key} {v : V} {d : PyData} {r : List (Key × V)} {t : List (PyData × PyData)} : Db K ex H v d → d.hasDict = false → Dbk K ex H r t → Dbk K ex H ((k, v) :: r) ((keyD k, d) :: t)
end
section
variable {K : PySem.W.Frag} {ex : List Addr} {H H' : Hp}
mutual
theorem Db.grow (g : Grow ex H H') : ∀ {v : V} {d : PyData}, Db K ex H v d → Db K ex H' v d
  | _, _, .non => .non
  | _, _, .bl b => .bl b
  | _, _, .int i => .int i
  | _, _, .str x => .str x
  | _, _, .lst n e h => .lst n (g.lst n e) (Dbs.grow g h)
  | _, _, .tup n e h => .tup n (g.sqx n e) (Dbs.grow g h)
  | _, _, .dic n e h => .dic n (g.keep _ _ n e fun ps z => by cases z) (Dbk.grow g h)
theorem Dbs.grow (g : Grow ex H H') : ∀ {vs : List V} {ds : List PyData}, Dbs K ex H vs ds → Dbs K ex H' vs ds
  | _, _, .nil => .nil
  | _, _, .cons h t => .cons (Db.grow g h) (Dbs.grow g t)
theorem Dbk.grow (g : Grow ex H H') : ∀ {vs : List (Key × V)} {ds : List (PyData × PyData)}, Dbk K ex H vs ds → Dbk K ex H' vs ds
  | _, _, .nil => .nil
  | _, _, .cons h n t => .cons (Db.grow g h) n (Dbk.grow g t)
end
mutual
/-- without dicts: data as the library tells it -/
theorem Db.dp : ∀ {v : V} {d : PyData}, Db K ex H v d → d.hasDict = false → Dp K H v d
  | _, _, .non, _ => .non
  | _, _, .bl b, _ => .bl b
  | _, _, .int i, _ => .int i
  | _, _, .str x, _ => .str x
  | _, _, .lst n e h, q => .lst (.inl (.inl e)) (Dbs.dp h (by rwa [PyData.hasDict] at q))
  | _, _, .tup n e h, q => .tup e (Dbs.dp h (by rwa [PyData.hasDict] at q))
  | _, _, .dic n e h, q => by rw [PyData.hasDict] at q; cases q
theorem Dbs.dp : ∀ {vs : List V} {ds : List PyData}, Dbs K ex H vs ds → PyData.hasDictAll ds = false → DpAll K H vs ds
  | _, _, .nil, _ => .nil
  | _, _, .cons h t, q => by
    rw [PyData.hasDictAll, Bool.or_eq_false_iff] at q
    exact .cons (Db.dp h q.1) (Dbs.dp t q.2)
end
def tyD : PyData → String
  | .none => "NoneType"
  | .bool _ => "bool"
  | .int _ => "int"
  | .str _ => "str"
  | .list _ => "list"
  | .tuple _ => "tuple"
  | .dict _ => "dict"
theorem Db.ty {v : V} {d : PyData} (h : Db K ex H v d) : TyB K H v (tyD d) := by
  cases h with
  | non => exact .non
  | bl b => exact .bl b
  | int i => exact .int i
  | str x => exact .str x
  | lst n e h => exact .lst (.inl (.inl e))
  | tup n e h => exact .tup e
  | dic n e h => exact .dK e
theorem Db.tx {v : V} {d : PyData} (h : Db K ex H v d) : TyX K H v (.type (tyD d)) := by
  cases h with
  | non => exact .base .non
  | bl b => exact .base (.bl b)
  | int i => exact .base (.int i)
  | str x => exact .base (.str x)
  | lst n e h => exact .base (.lst e)
  | tup n e h =>
    rcases e with (e | ⟨o, e⟩) | ⟨o, its, m, e, c, _⟩
    · exact .base (.tup e)
    · exact .fTuple e
    · exact .kTuple e c
  | dic n e h => exact .base (.dK e)
theorem Dbs.len : ∀ {vs : List V} {ds : List PyData}, Dbs K ex H vs ds → vs.length = ds.length
  | _, _, .nil => rfl
  | _, _, .cons _ t => congrArg (· + 1) (Dbs.len t)
theorem Dbs.get : ∀ {vs : List V} {ds : List PyData} {i : Nat} {v : V}, Dbs K ex H vs ds → vs[i]? = some v → ∃ d, ds[i]? = some d ∧ Db K ex H v d
  | _, _, 0, _, .cons h _, e => by
    cases e
    exact ⟨_, rfl, h⟩
  | _, _, i + 1, _, .cons _ t, e => Dbs.get (i := i) t e
theorem Dbs.app : ∀ {vs ws : List V} {ds es : List PyData}, Dbs K ex H vs ds → Dbs K ex H ws es → Dbs K ex H (vs ++ ws) (ds ++ es)
  | _, _, _, _, .nil, q => q
  | _, _, _, _, .cons h t, q => .cons h (t.app q)
theorem Dbs.take : ∀ {vs : List V} {ds : List PyData} (n : Nat), Dbs K ex H vs ds → Dbs K ex H (vs.take n) (ds.take n)
  | _, _, 0, _ => by rw [List.take_zero, List.take_zero]; exact .nil
  | _, _, n + 1, .nil => by rw [List.take_nil, List.take_nil]; exact .nil
  | _, _, n + 1, .cons h t => .cons h (Dbs.take n t)
theorem Dbs.drop : ∀ {vs : List V} {ds : List PyData} (n : Nat), Dbs K ex H vs ds → Dbs K ex H (vs.drop n) (ds.drop n)
  | _, _, 0, h => by rw [List.drop_zero, List.drop_zero]; exact h
  | _, _, n + 1, .nil => by rw [List.drop_nil, List.drop_nil]; exact .nil
  | _, _, n + 1, .cons h t => Dbs.drop n t
theorem Dbs.rev : ∀ {vs : List V} {ds : List PyData}, Dbs K ex H vs ds → Dbs K ex H vs.reverse ds.reverse
  | _, _, .nil => .nil
  | _, _, .cons h t => by
    rw [List.reverse_cons, List.reverse_cons]
    exact t.rev.app (.cons h .nil)
theorem Dbs.set : ∀ {vs : List V} {ds : List PyData} {v : V} {d : PyData} (n : Nat), Dbs K ex H vs ds → Db K ex H v d → Dbs K ex H (vs.set n v) (ds.set n d)
  | _, _, _, _, _, .nil, _ => .nil
  | _, _, _, _, 0, .cons _ t, h => .cons h t
  | _, _, _, _, n + 1, .cons h t, q => .cons h (Dbs.set n t q)
theorem Dbs.strs : ∀ (zs : List Str), Dbs K ex H (zs.map V.str) (zs.map PyData.str)
  | [] => .nil
  | z :: r => .cons (.str z) (Dbs.strs r)
theorem Db.str_inv {v : V} {z : Str} (h : Db K ex H v (.str z)) : v = .str z := by
  cases h
  rfl
theorem Dbs.strs_inv : ∀ {zs : List Str} {vs : List V}, Dbs K ex H vs (zs.map PyData.str) → vs = zs.map V.str
  | [], _, h => by cases h; rfl
  | z :: r, _, h => by
    cases h with
    | cons h t => rw [h.str_inv, Dbs.strs_inv t]; rfl
theorem Dbs.of_strs : ∀ {zs : List Str} {ds : List PyData}, Dbs K ex H (zs.map V.str) ds → ds = zs.map PyData.str
  | [], _, h => by cases h; rfl
  | z :: r, _, h => by
    cases h with
    | cons h t =>
      rw [Dbs.of_strs t]
      cases h
      rfl
end
/-! ### shown -/
section
variable {X : Cx} {ex : List Addr} {pins : List (Addr × Obj)} {σ : L2.St} {H : Hp} {s : Shared}
theorem Dbk.read (I : L2.Inv X pins σ H s) : ∀ {kvs : List (Key × V)} {vs : List (Key × Value)} {ps : List (PyData × PyData)}, Dbk X.K ex H kvs ps → KV kvs vs → ∃ bs, PyProof.V.PairsRead s.heap keyD vs ps bs
  | _, _, _, .nil, r => by
    cases r
    exact ⟨[], .nil⟩
  | (k, v) :: q, _, _, .cons h n t, r => by
    cases r with
    | @cons _ b _ bs r2 t2 =>
      obtain ⟨k2, u⟩ := b
      obtain ⟨e, ru⟩ := r2
      have e : k = k2 := e
      subst e
      obtain ⟨as, rd⟩ := Dp.reads I _ v u (h.dp n) ru
      obtain ⟨bs, pb⟩ := Dbk.read I t t2
      exact ⟨_, .cons rd pb⟩
theorem Dbk.plain {K : PySem.W.Frag} : ∀ {kvs : List (Key × V)} {ps : List (PyData × PyData)}, Dbk K ex H kvs ps → PyData.hasDictAll (ps.map (·.1)) = false ∧ PyData.hasDictAll (ps.map (·.2)) = false
  | _, _, .nil => ⟨rfl, rfl⟩
  | _, _, .cons (k := k) (d := d) (t := t) h n r => by
    obtain ⟨h1, h2⟩ := Dbk.plain r
    refine ⟨?_, ?_⟩
    · show PyData.hasDictAll (keyD k :: t.map (·.1)) = false
      rw [PyData.hasDictAll, h1]
      cases k <;> rfl
    · show PyData.hasDictAll (d :: t.map (·.2)) = false
      rw [PyData.hasDictAll, h2, n]
      rfl
theorem key_reads {h : Heap} : ∀ (k : Key) (key : Value), (mixKind X.prog X.w).is k key = true → Reads h key (keyD k) [] := fun k key hk => by
  rcases keyIs_shape hk with ⟨i, t, rfl, rfl⟩ | ⟨x, t, rfl, rfl⟩
  · exact Reads.int i t
  · exact Reads.str x t
mutual
theorem Db.shows (I : L2.Inv X pins σ H s) : ∀ {v : V} {u : Value} {d : PyData}, Db X.K ex H v d → RelV v u → d.showable = true → d.shown.length ≤ sizeLine →
    ∃ as bs, Reads s.heap u d as ∧ ReadAtMost s.heap d.depth bs ∧ ReprK X.prog X.w bs s.heap d.depth u d.shown
  | _, _, _, .non, r, hs, hz => (Di.p .non rfl).shows I r hs hz
  | _, _, _, .bl b, r, hs, hz => (Di.p (.bl b) rfl).shows I r hs hz
  | _, _, _, .int i, r, hs, hz => (Di.p (.int i) rfl).shows I r hs hz
  | _, _, _, .str x, r, hs, hz => (Di.p (.str x) rfl).shows I r hs hz
  | _, u, _, .lst (a := a) (xs := xs) (ds := ds) na e h, r, hs, hz => by
    cases r
    obtain ⟨z, its, n, ri, hl, e1⟩ := I.lstM e
    have hz2 : (listText (PyData.shownAll ds)).length ≤ sizeLine := by simpa only [PyData.shown] using hz
    obtain ⟨as, bs, a1, a2, a3⟩ := Dbs.shows I h ri (by rwa [PyData.showable] at hs) fun t ht => Nat.le_trans (listText_mem_le ht) hz2
    have rd : Reads s.heap (.ref a) (.list ds) (a :: as) := Reads.list e1 rfl rfl (by simpa using a1)
    have hna : a ∉ bs := not_mem_of_deeper rd (by simp only [PyData.depth]; omega) a2
    refine ⟨_, a :: bs, rd, ReadAtMost.cons rd (Nat.le_refl _) (a2.mono (by rw [PyData.depth]; omega)), ?_⟩
    cases ri with
    | nil =>
      cases h
      simp only [PyData.shown, PyData.shownAll]
      exact ReprK.listEmpty e1 rfl rfl
    | @cons _ y _ ys r1 r2 =>
      rw [PyData.depth]
      have : (PyData.list ds).shown = listText (PyData.shownAll ds) := by simp only [PyData.shown]
      rw [this]
      exact ReprK.list e1 rfl rfl hna (by simpa using a3.length_eq) (fun i y e => a3.item i y (by simpa using e))
  | _, u, _, .tup (a := a) (xs := xs) (ds := ds) na e h, r, hs, hz => by
    cases r
    obtain ⟨its, ri, ⟨o, ho, hc, n, hdat⟩, hl⟩ := I.tuple e
    have hz2 : (tupleText (PyData.shownAll ds)).length ≤ sizeLine := by simpa only [PyData.shown] using hz
    obtain ⟨as, bs, a1, a2, a3⟩ := Dbs.shows I h ri (by rwa [PyData.showable] at hs) fun t ht => Nat.le_trans (tupleText_mem_le ht) hz2
    have rd : Reads s.heap (.ref a) (.tuple ds) as := Reads.tuple ho hc hdat (by simpa using a1)
    have hna : a ∉ bs := not_mem_of_deeper rd (by simp only [PyData.depth]; omega) a2
    refine ⟨_, a :: bs, rd, ReadAtMost.cons rd (Nat.le_refl _) (a2.mono (by rw [PyData.depth]; omega)), ?_⟩
    rw [PyData.depth]
    have : (PyData.tuple ds).shown = tupleText (PyData.shownAll ds) := by simp only [PyData.shown]
    rw [this]
    exact ReprK.tuple ho hc hdat hna (by simpa using a3)
  | _, u, _, .dic (a := a) (kvs := kvs) (ps := ps) na e h, r, hs, hz => by
    cases r
    obtain ⟨_, lo, vs, rel, dd⟩ := dk_of I.hok e
    obtain ⟨bs, pr⟩ := Dbk.read I h rel
    obtain ⟨n1, n2⟩ := h.plain
    exact dict_sq lo dd (fun k key hk => key_reads (X := X) k key hk) pr n1 n2 hs hz
theorem Dbs.shows (I : L2.Inv X pins σ H s) : ∀ {vs : List V} {us : List Value} {ds : List PyData}, Dbs X.K ex H vs ds → Vals vs us → PyData.showableAll ds = true → (∀ t ∈ PyData.shownAll ds, t.length ≤ sizeLine) →
    ∃ as bs, ReadsAll s.heap us ds as ∧ ReadAtMost s.heap (PyData.depthAll ds) bs ∧ ReprAllK X.prog X.w bs s.heap (PyData.depthAll ds) us (PyData.shownAll ds)
  | _, _, _, .nil, r, _, _ => by
    cases r
    exact ⟨[], [], .nil, (fun _ h => nomatch h), by simp only [PyData.shownAll]; exact .nil⟩
  | _, _, _, .cons (d := d) (ds := ds) h t, r, hs, hz => by
    cases r with
    | cons r1 r2 =>
      rw [PyData.showableAll, Bool.and_eq_true] at hs
      obtain ⟨as, bs, a1, a2, a3⟩ := Db.shows I h r1 hs.1 (hz _ (by rw [PyData.shownAll]; exact List.mem_cons_self))
      obtain ⟨cs, ds', b1, b2, b3⟩ := Dbs.shows I t r2 hs.2 fun t ht => hz t (by rw [PyData.shownAll]; exact List.mem_cons_of_mem _ ht)
      refine ⟨_, bs ++ ds', .cons a1 b1, (a2.mono ?_).append (b2.mono ?_), ?_⟩
      · rw [PyData.depthAll]
        exact Nat.le_max_left _ _
      · rw [PyData.depthAll]
        exact Nat.le_max_right _ _
      · rw [PyData.shownAll, PyData.depthAll]
        exact .cons ((a3.more fun b hb => List.mem_append_left _ hb).level_le (Nat.le_max_left _ _)) (b3.more_le (fun b hb => List.mem_append_right _ hb) (Nat.le_max_right _ _))
end
end
section
variable {X : Cx}
def rReprA (K : PySem.W.Frag) : List V → Hp → VK → Prop := fun xs H Q => ∃ (ex : List Addr) (v : V) (d : PyData), xs = [v] ∧ Db K ex H v d ∧ d.showable = true ∧ d.depth ≤ 60 ∧ d.shown.length ≤ sizeLine ∧ Q (.str d.shown) H
theorem cr_reprA (g : X.A.guards = some []) (hu : X.A.units + 64 < cLine) : CallR X (.builtin "repr") (rReprA X.K) := by
  intro pins s σ H xs us Q I r h
  obtain ⟨ex, v, d, rfl, hD, hs, hd, hz, q⟩ := h
  have leaf : d.hasDict = false → wpAny (model X.prog X.w) X.A (call (.builtin "repr") us) (EP X pins σ Q) X.xe s := fun n =>
    cr_repr g hu pins s σ H _ us Q I r ⟨v, d, rfl, hD.dp n, hs, n, hd, hz, q⟩
  cases hD with
  | non => exact leaf rfl
  | bl b => exact leaf rfl
  | int i => exact leaf rfl
  | str x => exact leaf rfl
  | @lst a xs ds na e h =>
    cases h with
    | nil => exact leaf rfl
    | @cons v0 d0 vs0 ds0 h0 t0 =>
      refine cr_reprQ g hu pins s σ H _ us Q I r ⟨a, v0, vs0, d0 :: ds0, rfl, e, ?_, by rwa [PyData.showable] at hs, ?_, hz, q⟩
      · have go : ∀ {vs : List V} {ds : List PyData}, Dbs X.K ex H vs ds → Paired (Sq X.K H) vs ds := fun h => by
          have : ∀ (n : Nat) {vs : List V} {ds : List PyData}, vs.length = n → Dbs X.K ex H vs ds → Paired (Sq X.K H) vs ds := fun n => by
            induction n with
            | zero =>
              intro vs ds l h
              cases h with
              | nil => exact .nil
              | cons _ _ => cases l
            | succ n ih =>
              intro vs ds l h
              cases h with
              | nil => cases l
              | cons h t =>
                refine .cons ?_ (ih (Nat.succ.inj l) t)
                rintro X2 pins2 σ2 s2 u2 e2 I2 r2 hs2 hz2
                subst_vars
                rw [← e2] at h
                exact h.shows I2 r2 hs2 hz2
          exact this _ rfl h
        exact go (.cons h0 t0)
      · rw [PyData.depth] at hd
        omega
  | @tup a xs ds na e h =>
    rw [Vals.ref1 r]
    obtain ⟨its, ri, ⟨o, ho, hc, n, hdat⟩, hl⟩ := I.tuple e
    have e0 : (PyData.tuple ds).shown = tupleText (PyData.shownAll ds) := by rw [PyData.shown]
    have hz2 : (tupleText (PyData.shownAll ds)).length ≤ sizeLine := by rw [← e0]; exact hz
    obtain ⟨as, bs, a1, a2, a3⟩ := h.shows I ri (by rwa [PyData.showable] at hs) fun t ht => Nat.le_trans (tupleText_mem_le ht) hz2
    have rd : Reads s.heap (.ref a) (.tuple ds) as := Reads.tuple ho hc hdat (by simpa using a1)
    have hna : a ∉ bs := not_mem_of_deeper rd (by simp only [PyData.depth]; omega) a2
    have hd2 : PyData.depthAll ds + 1 ≤ 60 := by rw [PyData.depth] at hd; omega
    refine call_repr_slot (T := "tuple") (by omega) ⟨_, ho, hc⟩ F.slot_tuple_repr ?_
    refine call_tuple_reprK ho hc hdat hna (by simpa using a3) g (fun b _ => Clear.nil b) (by show X.A.units + 1 + (_ + 1) < cLine; omega) (fun _ _ e => e) (fun h' u tk hk => ?_) hz2
    refine ⟨_, _, rfl, .str _, H, I.kept hk, ⟨_, rfl⟩, ?_⟩
    rw [e0] at q
    exact q
  | @dic a kvs ps na e h =>
    rw [Vals.ref1 r]
    obtain ⟨_, lo, vs, rel, o, es, ep, ho, hx, hdat, c1, hp, c2⟩ := dk_of I.hok e
    obtain ⟨bs0, pr⟩ := Dbk.read I h rel
    obtain ⟨n1, n2⟩ := h.plain
    obtain ⟨r1, r2⟩ := PyProof.V.readsAll_of_pairs (fun k key hk => key_reads (X := X) k key hk) hp pr
    have rd : Reads s.heap (.ref a) (.dict ps) _ := Reads.dict ho hx.1 hdat r1 r2
    have e2 : (PyData.dict ps).shown = dictText (PyData.shownKv ps) := by rw [PyData.shown]
    have big : (dictText (PyData.shownKv ps)).length ≤ sizeLine := by rw [← e2]; exact hz
    obtain ⟨s1, s2⟩ := PyData.showableKv_split ps (by rwa [PyData.showable] at hs)
    obtain ⟨b1, m1, k1⟩ := ReprAllK.of_readsAll (prog := X.prog) (w := X.w) r1 s1 (fun q => by rw [n1] at q; cases q) (fun t ht => by
      obtain ⟨q, hq, l⟩ := PyData.shownKv_key_le _ t ht
      exact Nat.le_trans (Nat.le_trans l (dictText_mem_le hq)) big)
    obtain ⟨b2, m2, k2⟩ := ReprAllK.of_readsAll (prog := X.prog) (w := X.w) r2 s2 (fun q => by rw [n2] at q; cases q) (fun t ht => by
      obtain ⟨q, hq, l⟩ := PyData.shownKv_val_le _ t ht
      exact Nat.le_trans (Nat.le_trans l (dictText_mem_le hq)) big)
    have dd : (PyData.dict ps).depth = PyData.depthKv ps + 1 := by rw [PyData.depth]
    have both : ReadAtMost s.heap (PyData.depthKv ps) (b1 ++ b2) := (m1.mono (PyData.depthAll_keys_le _)).append (m2.mono (PyData.depthAll_vals_le _))
    have out : a ∉ b1 ++ b2 := not_mem_of_deeper rd (by rw [dd]; omega) both
    refine call_repr_slot (T := "dict") (by omega) ⟨o, ho, hx.1⟩ F.slot_dict_repr ?_
    refine call_dict_reprK ho hx.1 hdat lo out (ReprEntriesK.of_two es.toList _ _ (k1.more_le (fun b hb => List.mem_append_left b2 hb) (PyData.depthAll_keys_le _)) (k2.more_le (fun b hb => List.mem_append_right b1 hb) (PyData.depthAll_vals_le _))) g (fun b _ => Clear.nil b) (by show X.A.units + 1 + (_ + 1) < cLine; omega) (fun _ _ e => e) (fun h' u tk hk => ?_) (by rw [← PyData.shownKv_eq]; exact big)
    refine ⟨_, _, rfl, .str _, H, I.kept hk, ⟨_, rfl⟩, ?_⟩
    rw [e2, PyData.shownKv_eq] at q
    exact q
end
/-! ### list.count of a text among anything; of data among data -/
theorem dict_eq_declines_str (l : Addr) (o : Obj) (c : o.cls = .type "dict") (b : Str) (u : Tok) :
    Meets (Builtin.«dict.__eq__» ⟨[.ref l, .str b u], []⟩) (fun _ R s => s.heap.get? l = some o ∧ R (.ok (.ret .notImplemented)) s) :=
  .of_wp fun prog w A R s h => by obtain ⟨hp, g, d, tk, os⟩ := s; obtain ⟨hl, h⟩ := h; have f1 := F.sub_str_dict; wp_walk using wpAny_load hl; exact ⟨_, rfl, h⟩
theorem str_eq_declines_dict (b : Str) (u : Tok) (l : Addr) (c : Value) (es : Array DictEntry) (n : Nat) (dd : Option Addr) (sl : Array (Option Value)) :
    Meets (Builtin.«str.__eq__» ⟨[.str b u, .ref l], []⟩) (fun _ R s => s.heap.get? l = some { cls := c, dict := dd, data := .dict es n, slots := sl } ∧ R (.ok (.ret .notImplemented)) s) :=
  .of_wp fun prog w A R s h => by obtain ⟨hp, g, d, tk, os⟩ := s; obtain ⟨hl, h⟩ := h; wp_walk using wpAny_load hl; exact ⟨_, rfl, h⟩
theorem EqAt.dict_str {A : Around} {s : Shared} {l : Addr} {o : Obj} {es : Array DictEntry} {n : Nat} (b : Str) (u : Tok) (ho : s.heap.get? l = some o) (hc : o.cls = .type "dict") (hd : o.data = .dict es n) (hu : A.units < cLine) : SeqAt.EqAt A s (.ref l) (.str b u) false := fun prog w E Q h => by
  unfold eqBool
  refine wpAny_holding ?_
  refine wpAny_ite_split (fun hab => absurd (eq_of_beq hab) nofun) (fun _ => ?_)
  refine wpAny_bind ?_
  obtain ⟨cls, dd, data, sl⟩ := o
  simp only at hc hd
  subst hc hd
  exact SeqAt.rc_eq_decline_or (k := false) ⟨_, ho, rfl⟩ (typeIs_str s b u) (by decide) F.sub_str_dict F.slot_dict_eq F.slot_str_eq_refl
    (fun _ hq => call_meets F.slot_dict_eq ⟨_, ho, rfl⟩ F.entry_dict_eq (F.args_dict_eq_2 _ _) (dict_eq_declines_str l _ rfl b u) ⟨ho, hq⟩)
    (fun _ hq => call_meets F.slot_str_eq_refl (typeIs_str s b u) F.entry_str_eq (F.args_str_eq_2 _ _) (str_eq_declines_dict b u l (.type "dict") es n dd sl) ⟨ho, hq⟩)
    (fun _ hq => wpAny_of_eq (rfl : isSame (.ref l) (.str b u) = pure false) hq) (.inr hu) (wpAny_truthy_bool h)
section
variable {X : Cx}
def isZ (z : Str) : V → Bool
  | .str y => y == z
  | _ => false
theorem db_eqAt {ex : List Addr} {pins : List (Addr × Obj)} {σ : L2.St} {H : Hp} {s : Shared} (A : Around) (hu : A.units + 8 < cLine) (I : L2.Inv X pins σ H s) {v : V} {d : PyData} {y : Value} (h : Db X.K ex H v d) (r : RelV v y) (z : Str) (t : Tok) : SeqAt.EqAt A s y (.str z t) (isStrOf z y) := by
  have flat : ∀ x : V, flatV v = true → SeqAt.EqAt A s y (.str z t) (eqV v (.str z)) := fun _ f => eqAt_V r (show RelV (.str z) (.str z t) from ⟨t, rfl⟩) f rfl
  cases h with
  | non => cases (show y = .none from r); exact flat .non rfl
  | bl b => cases (show y = .bool b from r); exact flat .non rfl
  | int i => obtain ⟨t2, rfl⟩ := (show ∃ t, y = .int i t from r); exact flat .non rfl
  | str x => obtain ⟨t2, rfl⟩ := (show ∃ t, y = .str x t from r); exact SeqAt.EqAt.str_str x t2 z t
  | lst n e h =>
    cases (show y = .ref _ from r)
    obtain ⟨_, its, m, ri, hl, e1⟩ := I.lstM e
    exact SeqAt.EqAt.list_str z t ⟨_, e1, rfl, _, rfl⟩ (by omega)
  | tup n e h =>
    cases (show y = .ref _ from r)
    obtain ⟨its, ri, it, hl⟩ := I.tuple e
    exact SeqAt.EqAt.tuple_str z t it (by omega)
  | dic n e h =>
    cases (show y = .ref _ from r)
    obtain ⟨_, lo, vs, rel, o, es, ep, ho, hx, hdat, _⟩ := dk_of I.hok e
    exact EqAt.dict_str z t ho hx.1 hdat (by omega)
theorem isStrOf_V {v : V} {y : Value} (r : RelV v y) (z : Str) : isStrOf z y = isZ z v := by
  cases v with
  | str x => obtain ⟨t2, rfl⟩ := (show ∃ t, y = .str x t from r); rfl
  | non => cases (show y = .none from r); rfl
  | bl b => cases (show y = .bool b from r); rfl
  | int i => obtain ⟨t2, rfl⟩ := (show ∃ t, y = .int i t from r); rfl
  | ref a => cases (show y = .ref _ from r); rfl
  | byt b => obtain ⟨t2, rfl⟩ := (show ∃ t, y = .bytes b t from r); rfl
  | flt b => obtain ⟨t2, rfl⟩ := (show ∃ t, y = .float b t from r); rfl
  | ty n => cases (show y = .type n from r); rfl
theorem count_isZ {z : Str} : ∀ {xs : List V} {us : List Value}, Vals xs us → us.countP (isStrOf z) = xs.countP (isZ z)
  | _, _, .nil => rfl
  | _, _, .cons r t => by rw [List.countP_cons, List.countP_cons, count_isZ t, isStrOf_V r]
def rCntS (K : PySem.W.Frag) : V → List V → Hp → VK → Prop := fun x ys H Q => ∃ (ex : List Addr) (p : Addr) (xs : List V) (ds : List PyData) (z : Str), x = .ref p ∧ ys = [.str z] ∧ H p = some (.lst xs) ∧ Dbs K ex H xs ds ∧ Q (.int (xs.countP (isZ z) : Nat)) H
theorem mt_countS (hu : X.A.units + 64 < cLine) : MtM X "list.count" (rCntS X.K) := by
  intro pins s σ H x xs v us Q I rx rxs h
  obtain ⟨ex, p, xs, ds, z, rfl, rfl, hp, hd, q⟩ := h
  cases rx
  obtain ⟨u, rfl, ru⟩ := rxs.one
  obtain ⟨t, rfl⟩ := ru
  obtain ⟨_, its, n, rv, hlen, ho⟩ := I.lstM hp
  refine call_meets PySem.F.slot_list_count ⟨_, ho, rfl⟩ PySem.F.entry_list_count (PySem.F.args_list_count_2 _ _)
    (SeqAt.list_countAt p its.toArray n _ _ (.str z t) (isStrOf z)) ⟨ho, fun y hy => ?_, ?_⟩
  · have hy : y ∈ its := by simpa using hy
    obtain ⟨j, hj⟩ := List.mem_iff_getElem?.mp hy
    have hl := rv.length
    have jl := (List.getElem?_eq_some_iff.mp hj).1
    obtain ⟨u2, e2, r2⟩ := rv.get (i := j) (x := xs[j]'(by omega)) (List.getElem?_eq_getElem (by omega))
    rw [hj] at e2
    cases e2
    obtain ⟨d, _, hdd⟩ := hd.get (i := j) (v := xs[j]'(by omega)) (List.getElem?_eq_getElem (by omega))
    exact db_eqAt _ (by show X.A.units + 1 + 8 < cLine; omega) I hdd r2 z t
  · refine ⟨.int _, H, I.tok _, ⟨s.toks, ?_⟩, q⟩
    show Value.int ((its.toArray.toList.countP (isStrOf z) : Nat) : Int) s.toks = _
    rw [show its.toArray.toList = its from rfl, count_isZ rv]
def rCntD (K : PySem.W.Frag) : V → List V → Hp → VK → Prop := fun x ys H Q => ∃ (p : Addr) (xs : List V) (ds : List PyData) (y : V) (d : PyData), x = .ref p ∧ ys = [y] ∧ H p = some (.lst xs) ∧ DpAll K H xs ds ∧ Dp K H y d ∧ d.depth ≤ 32 ∧ Q (.int (ds.countP (fun e => PyData.eqv e d) : Nat)) H
mutual
theorem dp_plain {K : PySem.W.Frag} {H : Hp} : ∀ {v : V} {d : PyData}, Dp K H v d → d.plain = true
  | _, _, .non => rfl
  | _, _, .bl b => rfl
  | _, _, .int i => rfl
  | _, _, .str x => rfl
  | _, _, .lst e h => by rw [PyData.plain]; exact dps_plain h
  | _, _, .tup e h => by rw [PyData.plain]; exact dps_plain h
theorem dps_plain {K : PySem.W.Frag} {H : Hp} : ∀ {vs : List V} {ds : List PyData}, DpAll K H vs ds → PyData.plainAll ds = true
  | _, _, .nil => rfl
  | _, _, .cons h t => by rw [PyData.plainAll, dp_plain h, dps_plain t]; rfl
end
theorem mt_countD (hu : X.A.units + 64 < cLine) : MtM X "list.count" (rCntD X.K) := by
  intro pins s σ H x xs v us Q I rx rxs h
  obtain ⟨p, xs, ds, y, d, rfl, rfl, hp, hd, hy, dd, q⟩ := h
  cases rx
  obtain ⟨u, rfl, ru⟩ := rxs.one
  obtain ⟨_, its, n, rv, hlen, ho⟩ := I.lstM hp
  obtain ⟨as, rs⟩ := Dp.readsAll I ds xs its hd rv
  obtain ⟨bs, r1⟩ := Dp.reads I d y u hy ru
  refine SeqAt.count_list_data ⟨_, ho, rfl, _, rfl⟩ (by simpa using rs) r1 (dps_plain hd) (dp_plain hy) ?_ ⟨.int _, H, I.tok _, ⟨s.toks, rfl⟩, q⟩
  have := Nat.min_le_right (PyData.depthAll ds) d.depth
  omega
end
end Gx

/-! combinations of two of a list: how it is made, what it hands out -/
namespace Gx
open PySem PySem.Spec
open Sem (wp)
theorem cm_mro : mroOf (.type "itertools.combinations") = pure [.type "itertools.combinations", .type "object"] := by rw [mroOf_type]; kernel_rfl
theorem cm_look : typeLookup (.type "itertools.combinations") "__new__" = pure (some (.builtin "itertools.combinations.__new__")) := by rw [typeLookup_type, builtinLookup_eq_fast]; kernel_rfl
theorem cm_sub : isSubtype (.type "itertools.combinations") (.type "itertools.combinations") = pure true := by rw [isSubtype_type]; kernel_rfl
theorem cm_init : Slot "itertools.combinations" "__init__" "object.__init__" := by
  refine Slot.of (owner := "object") (n := "__init__") ?_ (by decide +kernel) (by decide +kernel) (by decide +kernel) ?_ ?_
  · rw [typeLookup_type, builtinLookup_eq_fast]; kernel_rfl
  · first | exact .inl (by decide +kernel) | exact .inr (by decide +kernel)
  · rw [isSubtype_type]; kernel_rfl
theorem cm_iter : Slot "itertools.combinations" "__iter__" "itertools.combinations.__iter__" := by
  refine Slot.of (owner := "itertools.combinations") (n := "__iter__") ?_ (by decide +kernel) (by decide +kernel) (by decide +kernel) ?_ cm_sub
  · rw [typeLookup_type, builtinLookup_eq_fast]; kernel_rfl
  · first | exact .inl (by decide +kernel) | exact .inr (by decide +kernel)
theorem cm_next : Slot "itertools.combinations" "__next__" "itertools.combinations.__next__" := by
  refine Slot.of (owner := "itertools.combinations") (n := "__next__") ?_ (by decide +kernel) (by decide +kernel) (by decide +kernel) ?_ cm_sub
  · rw [typeLookup_type, builtinLookup_eq_fast]; kernel_rfl
  · first | exact .inl (by decide +kernel) | exact .inr (by decide +kernel)
theorem cm_called : TypeCalled "itertools.combinations" "itertools.combinations.__new__" "object.__init__" :=
  ⟨by decide +kernel, by decide +kernel, ⟨_, _, cm_mro⟩, madeBy_type cm_mro cm_look (by decide +kernel), by decide +kernel, cm_sub, cm_init⟩
theorem cm_call2 (a b : Value) : checkTypeCall "itertools.combinations" ⟨[a, b], []⟩ = pure () := by kernel_rfl
theorem cm_new2 (a b : Value) : checkBuiltinCall "itertools.combinations.__new__" ⟨[.type "itertools.combinations", a, b], []⟩ = pure () := by kernel_rfl
theorem cm_entN : entryFor table "itertools.combinations.__new__" = some Builtin.«itertools.combinations.__new__» := entryFor_of_tree (by kernel_rfl)
theorem cm_entI : entryFor table "itertools.combinations.__iter__" = some Builtin.«dict_keyiterator.__iter__» := by
  refine entryFor_alias (id' := "dict_keyiterator.__iter__") (by kernel_rfl) ?_ (by decide +kernel) (by kernel_rfl)
  first | rfl | decide +kernel | (unfold String.splitOn; simp +decide [String.splitOnAux])
theorem cm_entX : entryFor table "itertools.combinations.__next__" = some Builtin.«itertools.combinations.__next__» := entryFor_of_tree (by kernel_rfl)
theorem cm_owner : Manifest.owners.lookup (String.ofList ['s', 'n', 'o', 'i', 't', 'a', 'n', 'i', 'b', 'm', 'o', 'c', '.', 's', 'l', 'o', 'o', 't', 'r', 'e', 't', 'i'].reverse) = some Manifest.sig_itertools_combinations := by kernel_rfl
theorem cm_argI (a : Value) : argsOk "itertools.combinations.__iter__" ⟨[a], []⟩ := by
  unfold argsOk
  rw [signature?_of (id := "itertools.combinations.__iter__") (n := ['_', '_', 'r', 'e', 't', 'i', '_', '_']) (o := ['s', 'n', 'o', 'i', 't', 'a', 'n', 'i', 'b', 'm', 'o', 'c', '.', 's', 'l', 'o', 'o', 't', 'r', 'e', 't', 'i']) (by kernel_rfl) cm_owner]
  kernel_rfl
theorem cm_argX (a : Value) : argsOk "itertools.combinations.__next__" ⟨[a], []⟩ := by
  unfold argsOk
  rw [signature?_of (id := "itertools.combinations.__next__") (n := ['_', '_', 't', 'x', 'e', 'n', '_', '_']) (o := ['s', 'n', 'o', 'i', 't', 'a', 'n', 'i', 'b', 'm', 'o', 'c', '.', 's', 'l', 'o', 'o', 't', 'r', 'e', 't', 'i']) (by kernel_rfl) cm_owner]
  kernel_rfl
theorem cm_noDict : typeHasDict (.type "itertools.combinations") = false := by decide +kernel

/-- such a thing: its pool, how far it is, what it told last, the two places -/
abbrev IsCm (h : Heap) (it p : Addr) (st : Nat) (last : Value) (i j : Nat) : Prop :=
  h.get? it = some { cls := .type "itertools.combinations", dict := none, data := .fields #[.ref p, rawInt st, last, rawInt i, rawInt j], slots := #[] }
abbrev IsPool (h : Heap) (p : Addr) (us : List Value) : Prop := h.get? p = some { cls := .type "tuple", dict := none, data := .seq us.toArray, slots := #[] }
end Gx

namespace Gx
open PySem PySem.Spec
open Sem (wp)
theorem cm_new (l : Addr) (t : Tok) (us : List Value) (hsz : us.length ≤ sizeLine) :
    Meets (Builtin.«itertools.combinations.__new__» ⟨[.type "itertools.combinations", .ref l, .int 2 t], []⟩)
      (fun _ R s => s.heap.IsList l us.toArray ∧ ∀ h' : Heap, (∀ b o', s.heap.get? b = some o' → h'.get? b = some o') →
        R (.ok (.ret (.ref (h'.objs.size + 1)))) { s with heap := (h'.push { cls := .type "tuple", data := .seq us.toArray }).push { cls := .type "itertools.combinations", data := .fields #[.ref h'.objs.size, rawInt (if 2 > us.length then 2 else 0), .none, rawInt 0, rawInt 1] } }) :=
  .of_wp fun prog w A R s h => by
    obtain ⟨hp, g, d, tk, os⟩ := s
    obtain ⟨⟨o, ho, hc, n, hd⟩, h⟩ := h
    have hsub := cm_sub
    have hsub2 : isSubtype (.type "itertools.combinations") (.type ("itertools." ++ "combinations")) = pure true := by rw [show ("itertools." ++ "combinations" : String) = "itertools.combinations" by decide]; exact cm_sub
    have hbn : Builtin.Itertools.itBindNamed "combinations" ["iterable", "r"] 2 2 [.ref l, .int 2 t] [] = pure [some (.ref l), some (.int 2 t)] := by kernel_rfl
    have hnd := cm_noDict
    have hz : us.toArray.size ≤ sizeLine := by simpa using hsz
    wp_walk using wpAny_collect_seq (hsz := hz) l (.inl rfl) ho hc hd
    intro h' k
    have e0 : us.toArray.toList = us := rfl
    rw [e0]
    have hsz' : us.length ≤ sizeLine := hsz
    show wpAny _ _ (newTuple us >>= _) _ _ _
    refine wpAny_bind (wpAny_newTuple ?_ hsz')
    refine wpAny_pure ?_
    show wpAny _ _ (Builtin.Itertools.itNewRecord _ _ >>= _) _ _ _
    refine wpAny_bind ?_
    unfold Builtin.Itertools.itNewRecord
    rw [hnd]
    rw [if_pos (show (!false) = true from rfl)]
    refine wpAny_newObj_type ?_ (by show (5 : Nat) ≤ _; decide)
    refine wpAny_pure ⟨_, rfl, ?_⟩
    have := h h' k
    rw [Heap.size_push]
    exact this
end Gx

namespace Gx
open PySem PySem.Spec
open Sem (wp)
section
variable {prog : Program} {w : World} {A : Around} {E : Value → Shared → Prop} {s : Shared}
theorem cm_self {it p : Addr} {st : Nat} {last : Value} {i j : Nat} {Q : Value → Shared → Prop} (hit : IsCm s.heap it p st last i j) (h : Q (.ref it) s) : wpAny (model prog w) A (pyIter (.ref it)) Q E s := by
  have hT : s.TypeIs (.ref it) "itertools.combinations" := ⟨_, hit, rfl⟩
  refine wpAny_pyIter_slot hT cm_iter (wpAny_call_entry cm_iter hT cm_entI ?_ (cm_argI _))
  show wpAny _ _ (ret (.ref it)) _ _ s
  exact wpAny_pure ⟨_, rfl, "itertools.combinations", _, hT, cm_next.lookup, h⟩
theorem cm_stop {α : Type} {Q : α → Shared → Prop} (hh : A.handled = none)
    (hQ : ∀ e h', (∃ o, h'.get? e = some o ∧ o.cls = .type "StopIteration") → (∀ b o, s.heap.get? b = some o → h'.get? b = some o) → E (.ref e) { s with heap := h' }) :
    wpAny (model prog w) A (Builtin.Itertools.itStop : Sem α) Q E s := by
  unfold Builtin.Itertools.itStop
  refine wpAny_bind ?_
  simp only [newExc, newTuple]
  refine wpAny_bind (wpAny_newObj_type ?_ (by size_fits))
  refine wpAny_bind (m := firstArgMember _ _) (wpAny_of_eq (a := Value.none) (by first | rfl | (simp only [firstArgMember]; rfl)) ?_)
  refine wpAny_newObj_type ?_ (by size_fits)
  simp only [raiseNew]
  refine wpAny_bind (wpAny_handled ?_)
  rw [hh]
  refine wpAny_bind (wpAny_pure (wpAny_throw ?_))
  exact hQ _ _ ⟨_, Heap.get?_push_size _ rfl, rfl⟩ fun b o e => Heap.get?_push_of_some _ (Heap.get?_push_of_some _ e)
/-- the two things at the places are handed out -/
theorem cm_pick {p : Addr} {i j : Nat} {x y : Value} {us : List Value} {Q : Value → Shared → Prop} (hp : IsPool s.heap p us) (hx : us[i]? = some x) (hy : us[j]? = some y)
    (hQ : Q (.ref s.heap.objs.size) { s with heap := s.heap.push { cls := .type "tuple", data := .seq #[x, y] } }) :
    wpAny (model prog w) A (Builtin.Itertools.itPoolItems (.ref p) >>= fun items => newTuple ([i, j].map fun k => items.getD k .none)) Q E s := by
  refine wpAny_bind ?_
  unfold Builtin.Itertools.itPoolItems
  refine wpAny_bind (wpAny_seqItems hp rfl (wpAny_pure ?_))
  have ex : us.toArray.getD i Value.none = x := by simp [Array.getD_eq_getD_getElem?, hx]
  have ey : us.toArray.getD j Value.none = y := by simp [Array.getD_eq_getD_getElem?, hy]
  show wpAny _ _ (newTuple [us.toArray.getD i Value.none, us.toArray.getD j Value.none]) _ _ _
  rw [ex, ey]
  exact wpAny_newTuple hQ (by show 2 ≤ sizeLine; decide)
theorem cm_apart {h : Heap} {it p : Addr} {st : Nat} {last : Value} {i j : Nat} {us : List Value} (hp : IsPool h p us) (hit : IsCm h it p st last i j) : p ≠ it := fun e => by
  rw [e] at hp
  have h1 := Option.some.inj (hp.symm.trans hit)
  have h2 := congrArg Obj.data h1
  exact nomatch h2
theorem cm_hand {it p : Addr} {st : Nat} {last : Value} {i j a b : Nat} {x y : Value} {us : List Value} {Q : Value → Shared → Prop} (hit : IsCm s.heap it p st last a b) (hp : IsPool s.heap p us) (hx : us[i]? = some x) (hy : us[j]? = some y)
    (hQ : ∀ h', IsCm h' it p st (.ref s.heap.objs.size) a b → IsPair h' s.heap.objs.size x y → h'.objs.size = s.heap.objs.size + 1 → (∀ c o, c ≠ it → s.heap.get? c = some o → h'.get? c = some o) → Q (.ref s.heap.objs.size) { s with heap := h' }) :
    wpAny (model prog w) A ((Builtin.Itertools.itPoolItems (.ref p) >>= fun items => newTuple ([i, j].map fun k => items.getD k .none)) >>= fun result => field (.ref it) 2 >>= fun before => setField (.ref it) 2 result >>= fun _ => letGo [before] [result] >>= fun _ => ret result)
      (fun fin s' => ∃ v, fin = .done (.ret v) ∧ Q v s') E s := by
  refine wpAny_bind (cm_pick hp hx hy ?_)
  have hit1 : IsCm (s.heap.push { cls := .type "tuple", data := .seq #[x, y] }) it p st last a b := Heap.get?_push_of_some _ hit
  refine wpAny_bind (wpAny_field hit1 rfl (x := last) rfl ?_)
  refine wpAny_bind (wpAny_setField_rec hit1 (by simp) fun h2 hit2 sb2 => ?_)
  refine wpAny_bind (wpAny_letGo ?_)
  have lt : it < s.heap.objs.size := Heap.lt_size hit
  refine wpAny_pure ⟨_, rfl, hQ h2 hit2 ((sb2.2 _ (Nat.ne_of_gt lt)).trans (Heap.get?_push_size _ rfl)) (by rw [sb2.1, Heap.size_push]) fun c o hc e => (sb2.2 c hc).trans (Heap.get?_push_of_some _ e)⟩
/-- what the next step does with the two places -/
theorem cm_item0 {it p : Addr} {i j : Nat} {x y : Value} {us : List Value} {Q : Value → Shared → Prop} (hit : IsCm s.heap it p 0 .none i j) (hp : IsPool s.heap p us) (hx : us[i]? = some x) (hy : us[j]? = some y)
    (hQ : ∀ h', IsCm h' it p 1 (.ref s.heap.objs.size) i j → IsPair h' s.heap.objs.size x y → h'.objs.size = s.heap.objs.size + 1 → (∀ c o, c ≠ it → s.heap.get? c = some o → h'.get? c = some o) → Q (.ref s.heap.objs.size) { s with heap := h' }) :
    wpAny (model prog w) A (Builtin.«itertools.combinations.__next__» ⟨[.ref it], []⟩) (fun fin s' => ∃ v, fin = .done (.ret v) ∧ Q v s') E s := by
  show wpAny _ _ (field (.ref it) 0 >>= _) _ _ s
  refine wpAny_bind (wpAny_field hit rfl (x := .ref p) rfl ?_)
  show wpAny _ _ (Builtin.Itertools.itNumbersFrom (.ref it) 3 >>= _) _ _ s
  refine wpAny_bind ?_
  unfold Builtin.Itertools.itNumbersFrom
  refine wpAny_bind (wpAny_load hit ?_)
  refine wpAny_pure ?_
  show wpAny _ _ (Builtin.Itertools.itIntField (.ref it) 1 >>= _) _ _ s
  refine wpAny_bind ?_
  unfold Builtin.Itertools.itIntField
  refine wpAny_bind (wpAny_field hit rfl (x := rawInt 0) rfl ?_)
  refine wpAny_pure ?_
  show wpAny _ _ (setField (.ref it) 1 (rawInt 1) >>= _) _ _ s
  refine wpAny_bind (wpAny_setField_rec hit (by simp) fun h1 hit1 sb1 => ?_)
  have hp1 : IsPool h1 p us := (sb1.2 p (cm_apart hp hit)).trans hp
  replace hit1 : IsCm h1 it p 1 .none i j := hit1
  refine cm_hand (s := { s with heap := h1 }) hit1 hp1 hx hy fun h' a b c d => ?_
  have e1 : h1.objs.size = s.heap.objs.size := sb1.1
  have a' : IsCm h' it p 1 (.ref h1.objs.size) i j := a
  have b' : IsPair h' h1.objs.size x y := b
  have c' : h'.objs.size = h1.objs.size + 1 := c
  show Q (.ref h1.objs.size) _
  rw [e1] at a' b' c' ⊢
  exact hQ h' a' b' c' fun q o hq e => d q o hq ((sb1.2 q hq).trans e)
theorem cm_item1 {it p : Addr} {i j a b : Nat} {x y last : Value} {us : List Value} {Q : Value → Shared → Prop} (hit : IsCm s.heap it p 1 last a b) (hp : IsPool s.heap p us) (hn : (b + 1 < us.length ∧ i = a ∧ j = b + 1) ∨ (b + 1 = us.length ∧ a + 2 < us.length ∧ i = a + 1 ∧ j = a + 2)) (hx : us[i]? = some x) (hy : us[j]? = some y)
    (hQ : ∀ h', IsCm h' it p 1 (.ref s.heap.objs.size) i j → IsPair h' s.heap.objs.size x y → h'.objs.size = s.heap.objs.size + 1 → (∀ c o, c ≠ it → s.heap.get? c = some o → h'.get? c = some o) → Q (.ref s.heap.objs.size) { s with heap := h' }) :
    wpAny (model prog w) A (Builtin.«itertools.combinations.__next__» ⟨[.ref it], []⟩) (fun fin s' => ∃ v, fin = .done (.ret v) ∧ Q v s') E s := by
  show wpAny _ _ (field (.ref it) 0 >>= _) _ _ s
  refine wpAny_bind (wpAny_field hit rfl (x := .ref p) rfl ?_)
  show wpAny _ _ (Builtin.Itertools.itNumbersFrom (.ref it) 3 >>= _) _ _ s
  refine wpAny_bind ?_
  unfold Builtin.Itertools.itNumbersFrom
  refine wpAny_bind (wpAny_load hit ?_)
  refine wpAny_pure ?_
  show wpAny _ _ (Builtin.Itertools.itIntField (.ref it) 1 >>= _) _ _ s
  refine wpAny_bind ?_
  unfold Builtin.Itertools.itIntField
  refine wpAny_bind (wpAny_field hit rfl (x := rawInt 1) rfl ?_)
  refine wpAny_pure ?_
  show wpAny _ _ (Builtin.Itertools.itPoolItems (.ref p) >>= _) _ _ s
  refine wpAny_bind ?_
  unfold Builtin.Itertools.itPoolItems
  refine wpAny_bind (wpAny_seqItems hp rfl (wpAny_pure ?_))
  have key : (match List.find? (fun k => [a, b].getD k 0 != k + us.toArray.size - 2) [1, 0] with | none => (none : Option (List Nat)) | some k => some ([a, b].take k ++ (List.range (2 - k)).map fun m => [a, b].getD k 0 + 1 + m)) = some [i, j] := by
    rw [List.size_toArray]
    rcases hn with ⟨h1, rfl, rfl⟩ | ⟨h1, h2, rfl, rfl⟩
    · rw [List.find?_cons_of_pos (by simp; omega)]
      rfl
    · rw [List.find?_cons_of_neg (by simp; omega), List.find?_cons_of_pos (by simp; omega)]
      rfl
  split
  · next nx e =>
    have e2 : some nx = some [i, j] := e.symm.trans key
    cases e2
    show wpAny _ _ (Builtin.Itertools.itSetNumbersFrom (.ref it) 3 [i, j] >>= _) _ _ s
    unfold Builtin.Itertools.itSetNumbersFrom
    refine wpAny_bind (wpAny_updateFields hit rfl ?_ (by show (5 : Nat) ≤ _; decide))
    have hit1 : IsCm (s.heap.update it (Obj.mapFields fun fs => fs.extract 0 3 ++ ([i, j].map fun (n : Nat) => rawInt n).toArray)) it p 1 last i j := Heap.get?_update_self _ hit rfl
    have sb : Heap.SameBut it s.heap (s.heap.update it (Obj.mapFields fun fs => fs.extract 0 3 ++ ([i, j].map fun (n : Nat) => rawInt n).toArray)) := Heap.SameBut.update ..
    generalize (s.heap.update it (Obj.mapFields fun fs => fs.extract 0 3 ++ ([i, j].map fun (n : Nat) => rawInt n).toArray)) = h1 at *
    have hp1 : IsPool h1 p us := (sb.2 p (cm_apart hp hit)).trans hp
    refine cm_hand (s := { s with heap := h1 }) hit1 hp1 hx hy fun h' q1 q2 q3 q4 => ?_
    have e1 : h1.objs.size = s.heap.objs.size := sb.1
    have a' : IsCm h' it p 1 (.ref h1.objs.size) i j := q1
    have b' : IsPair h' h1.objs.size x y := q2
    have c' : h'.objs.size = h1.objs.size + 1 := q3
    show Q (.ref h1.objs.size) _
    rw [e1] at a' b' c' ⊢
    exact hQ h' a' b' c' fun q o hq e => q4 q o hq ((sb.2 q hq).trans e)
  · next e => exact nomatch e.symm.trans key
theorem cm_end1 {it p : Addr} {a b : Nat} {last : Value} {us : List Value} {Q : Fin → Shared → Prop} (hh : A.handled = none) (hit : IsCm s.heap it p 1 last a b) (hp : IsPool s.heap p us) (h1 : b + 1 = us.length) (h2 : us.length ≤ a + 2) (h3 : a < b)
    (hE : ∀ e h', (∃ o, h'.get? e = some o ∧ o.cls = .type "StopIteration") → (∀ c o, c ≠ it → s.heap.get? c = some o → h'.get? c = some o) → E (.ref e) { s with heap := h' }) :
    wpAny (model prog w) A (Builtin.«itertools.combinations.__next__» ⟨[.ref it], []⟩) Q E s := by
  show wpAny _ _ (field (.ref it) 0 >>= _) _ _ s
  refine wpAny_bind (wpAny_field hit rfl (x := .ref p) rfl ?_)
  show wpAny _ _ (Builtin.Itertools.itNumbersFrom (.ref it) 3 >>= _) _ _ s
  refine wpAny_bind ?_
  unfold Builtin.Itertools.itNumbersFrom
  refine wpAny_bind (wpAny_load hit ?_)
  refine wpAny_pure ?_
  show wpAny _ _ (Builtin.Itertools.itIntField (.ref it) 1 >>= _) _ _ s
  refine wpAny_bind ?_
  unfold Builtin.Itertools.itIntField
  refine wpAny_bind (wpAny_field hit rfl (x := rawInt 1) rfl ?_)
  refine wpAny_pure ?_
  show wpAny _ _ (Builtin.Itertools.itPoolItems (.ref p) >>= _) _ _ s
  refine wpAny_bind ?_
  unfold Builtin.Itertools.itPoolItems
  refine wpAny_bind (wpAny_seqItems hp rfl (wpAny_pure ?_))
  have key : (match List.find? (fun k => [a, b].getD k 0 != k + us.toArray.size - 2) [1, 0] with | none => (none : Option (List Nat)) | some k => some ([a, b].take k ++ (List.range (2 - k)).map fun m => [a, b].getD k 0 + 1 + m)) = none := by
    rw [List.size_toArray]
    rw [List.find?_cons_of_neg (by simp; omega), List.find?_cons_of_neg (by simp; omega)]
    rfl
  split
  · next nx e => exact nomatch e.symm.trans key
  · show wpAny _ _ (setField (.ref it) 1 (rawInt 2) >>= _) _ _ s
    refine wpAny_bind (wpAny_setField_rec hit (by simp) fun h5 hit5 sb5 => ?_)
    exact cm_stop (s := { s with heap := h5 }) hh fun e h' he k => hE e h' he fun c o hc q => k c o ((sb5.2 c hc).trans q)
theorem cm_end2 {it p : Addr} {a b : Nat} {last : Value} {Q : Fin → Shared → Prop} (hh : A.handled = none) (hit : IsCm s.heap it p 2 last a b)
    (hE : ∀ e h', (∃ o, h'.get? e = some o ∧ o.cls = .type "StopIteration") → (∀ c o, c ≠ it → s.heap.get? c = some o → h'.get? c = some o) → E (.ref e) { s with heap := h' }) :
    wpAny (model prog w) A (Builtin.«itertools.combinations.__next__» ⟨[.ref it], []⟩) Q E s := by
  show wpAny _ _ (field (.ref it) 0 >>= _) _ _ s
  refine wpAny_bind (wpAny_field hit rfl (x := .ref p) rfl ?_)
  show wpAny _ _ (Builtin.Itertools.itNumbersFrom (.ref it) 3 >>= _) _ _ s
  refine wpAny_bind ?_
  unfold Builtin.Itertools.itNumbersFrom
  refine wpAny_bind (wpAny_load hit ?_)
  refine wpAny_pure ?_
  show wpAny _ _ (Builtin.Itertools.itIntField (.ref it) 1 >>= _) _ _ s
  refine wpAny_bind ?_
  unfold Builtin.Itertools.itIntField
  refine wpAny_bind (wpAny_field hit rfl (x := rawInt 2) rfl ?_)
  refine wpAny_pure ?_
  show wpAny _ _ (rule "itertools.combinations.ended" >>= _) _ _ s
  refine wpAny_bind (wpAny_rule ?_)
  exact cm_stop hh fun e h' he k => hE e h' he fun c o _ q => k c o q
/-- the next one -/
theorem cm_pyItem {it : Addr} {Q : Option Value → Shared → Prop} (hT : s.TypeIs (.ref it) "itertools.combinations")
    (h : ∀ E' : Value → Shared → Prop, wpAny (model prog w) A.in1 (Builtin.«itertools.combinations.__next__» ⟨[.ref it], []⟩) (fun fin s' => ∃ v, fin = .done (.ret v) ∧ Q (some v) s') E' s) : wpAny (model prog w) A (pyNext (.ref it)) Q E s := by
  unfold pyNext
  refine wpAny_bind (wpAny_attempt (wpAny_callSpecial?_slot (name := Str.ofString "__next__") hT cm_next (wpAny_call_entry cm_next hT cm_entX ?_ (cm_argX _))))
  exact wpAny_mono (h _) (fun fin s' ⟨v, e, q⟩ => ⟨v, e, wpAny_pure q⟩) fun _ _ x => x
theorem cm_pyEnd {it : Addr} {Q : Option Value → Shared → Prop} (hT : s.TypeIs (.ref it) "itertools.combinations")
    (h : ∀ Q' : Fin → Shared → Prop, wpAny (model prog w) A.in1 (Builtin.«itertools.combinations.__next__» ⟨[.ref it], []⟩) Q' (fun e s' => ∃ a, e = .ref a ∧ (∃ o, s'.heap.get? a = some o ∧ o.cls = .type "StopIteration") ∧ Q none s') s) : wpAny (model prog w) A (pyNext (.ref it)) Q E s := by
  unfold pyNext
  refine wpAny_bind (wpAny_attempt (wpAny_callSpecial?_slot (name := Str.ofString "__next__") hT cm_next (wpAny_call_entry cm_next hT cm_entX ?_ (cm_argX _))))
  refine wpAny_mono (h _) (fun _ _ x => x) fun e s' ⟨a, ea, ⟨o, ho, hc⟩, q⟩ => ?_
  subst ea
  refine wpAny_bind (wpAny_isInstance (T := "StopIteration") (b := true) ⟨o, ho, hc⟩ isSubtype_stop ?_)
  exact wpAny_pure q
end
end Gx

/-! a loop over combinations(xs, 2) -/
namespace Gx
open PySem PySem.Spec PyProof.Rows L2
/-- all two of a list, by their places -/
def combos {α : Type} : List α → List (α × α)
  | [] => []
  | x :: xs => (xs.map fun y => (x, y)) ++ combos xs
def idxs : Nat → Nat → List (Nat × Nat)
  | _, 0 => []
  | i, m + 1 => ((List.range m).map fun k => (i, i + 1 + k)) ++ idxs (i + 1) m
def later2 (n i j : Nat) : List (Nat × Nat) := ((List.range (n - 1 - j)).map fun k => (i, j + 1 + k)) ++ idxs (i + 1) (n - 1 - i)
theorem range_head (m : Nat) {α : Type} (f : Nat → α) : (List.range (m + 1)).map f = f 0 :: (List.range m).map fun k => f (k + 1) := by
  rw [List.range_succ_eq_map, List.map_cons, List.map_map]
  rfl
theorem later2_next {n i j : Nat} (h : j + 1 < n) : later2 n i j = (i, j + 1) :: later2 n i (j + 1) := by
  unfold later2
  rw [show n - 1 - j = (n - 1 - (j + 1)) + 1 by omega, range_head]
  simp only [List.cons_append, Nat.add_zero]
  congr 2
  refine List.map_congr_left fun k _ => ?_
  rw [show j + 1 + (k + 1) = j + 1 + 1 + k by omega]
theorem later2_row {n i j : Nat} (h : j + 1 = n) (h2 : i + 2 < n) : later2 n i j = (i + 1, i + 2) :: later2 n (i + 1) (i + 2) := by
  unfold later2
  rw [show n - 1 - j = 0 by omega, List.range_zero, List.map_nil, List.nil_append, show n - 1 - i = (n - 1 - (i + 2)) + 1 + 1 by omega, idxs, range_head]
  simp only [List.cons_append, Nat.add_zero]
  rw [show n - 1 - (i + 1) = (n - 1 - (i + 2)) + 1 by omega]
  congr 2
  refine List.map_congr_left fun k _ => ?_
  rw [show i + 1 + 1 + (k + 1) = i + 2 + 1 + k by omega]
theorem later2_end {n i j : Nat} (h : j + 1 = n) (h2 : n ≤ i + 2) : later2 n i j = [] := by
  unfold later2
  rw [show n - 1 - j = 0 by omega, List.range_zero, List.map_nil, List.nil_append]
  rcases (by omega : n - 1 - i = 0 ∨ n - 1 - i = 1) with e | e
  · rw [e]; rfl
  · rw [e]; rfl
theorem idxs_first {n : Nat} (h : 2 ≤ n) : idxs 0 n = (0, 1) :: later2 n 0 1 := by
  obtain ⟨m, rfl⟩ : ∃ m, n = m + 1 + 1 := ⟨n - 2, by omega⟩
  unfold later2
  rw [idxs, range_head]
  simp only [List.cons_append, Nat.add_zero]
  rw [show m + 1 + 1 - 1 - 1 = m by omega, show m + 1 + 1 - 1 - 0 = m + 1 by omega]
  congr 2
  refine List.map_congr_left fun k _ => ?_
  rw [show 0 + 1 + (k + 1) = 1 + 1 + k by omega]
theorem idxs_none {n : Nat} (h : n < 2) : idxs 0 n = [] := by
  rcases (by omega : n = 0 ∨ n = 1) with e | e
  · rw [e]; rfl
  · rw [e]; rfl
theorem combos_idx {α : Type} (d : α) (xs : List α) : ∀ (m i : Nat), i + m = xs.length → combos (xs.drop i) = (idxs i m).map fun p => (xs.getD p.1 d, xs.getD p.2 d)
  | 0, i, h => by rw [List.drop_of_length_le (by omega)]; rfl
  | m + 1, i, h => by
    have hi : i < xs.length := by omega
    rw [List.drop_eq_getElem_cons hi, combos, combos_idx d xs m (i + 1) (by omega), idxs, List.map_append, List.map_map]
    congr 1
    have e : xs.drop (i + 1) = (List.range m).map fun k => xs.getD (i + 1 + k) d := by
      refine List.ext_getElem? fun k => ?_
      rw [List.getElem?_drop, List.getElem?_map]
      by_cases hk : k < m
      · rw [List.getElem?_range hk, List.getElem?_eq_getElem (by omega)]
        simp [List.getD, List.getElem?_eq_getElem (show i + 1 + k < xs.length by omega)]
      · rw [List.getElem?_eq_none (by omega), List.getElem?_eq_none (by simp; omega)]
        rfl
    rw [e, List.map_map]
    refine List.map_congr_left fun k _ => ?_
    simp [List.getD, List.getElem?_eq_getElem hi]
theorem combos_all {α : Type} (d : α) (xs : List α) : combos xs = (idxs 0 xs.length).map fun p => (xs.getD p.1 d, xs.getD p.2 d) := by
  have := combos_idx d xs xs.length 0 (Nat.zero_add _)
  rwa [List.drop_zero] at this
/-- what is handed out -/
def Itm (ps : List (V × V)) : It :=
  ⟨fun i _ => i < ps.length, fun i H v H' => ∃ T x y, v = .ref T ∧ H T = none ∧ H' = upd H T (.tup [x, y]) ∧ ps[i]? = some (x, y), fun i _ => ps.length ≤ i⟩
def CmAt (n : Nat) (it p : Addr) (us : List Value) (i : Nat) (h : Heap) : Prop := IsPool h p us ∧
  ((n < 2 ∧ ∃ last a b, IsCm h it p 2 last a b) ∨ (2 ≤ n ∧ i = 0 ∧ IsCm h it p 0 .none 0 1) ∨ ∃ k last a b, i = k + 1 ∧ IsCm h it p 1 last a b ∧ a < b ∧ b < n ∧ (idxs 0 n).drop (k + 1) = later2 n a b)
theorem CmAt.typ {n : Nat} {it p : Addr} {us : List Value} {i : Nat} {s : Shared} (h : CmAt n it p us i s.heap) : s.TypeIs (.ref it) "itertools.combinations" := by
  obtain ⟨_, ⟨_, _, _, _, h⟩ | ⟨_, _, h⟩ | ⟨_, _, _, _, _, h, _⟩⟩ := h
  · exact ⟨_, h, rfl⟩
  · exact ⟨_, h, rfl⟩
  · exact ⟨_, h, rfl⟩
theorem turn_cm {P : Program} {w : World} {K : PySem.W.Frag} {tg : Expr} {it p : Addr} {xs : List V} {us : List Value} (rv : Vals xs us) :
    Turn P w K tg (Itm (combos xs)) [it, p] it (CmAt xs.length it p us) where
  mem := by simp
  obj := fun i h st c hc => by
    obtain ⟨hp, st⟩ := st
    have e : c = it ∨ c = p := by simpa using hc
    rcases e with e | e
    · rw [e]
      rcases st with ⟨_, _, _, _, h⟩ | ⟨_, _, h⟩ | ⟨_, _, _, _, _, h, _⟩
      · exact ⟨_, h, fun v q => nomatch q⟩
      · exact ⟨_, h, fun v q => nomatch q⟩
      · exact ⟨_, h, fun v q => nomatch q⟩
    · rw [e]; exact ⟨_, hp, fun v q => nomatch q⟩
  keep := fun i h h' st k => by
    obtain ⟨hp, st⟩ := st
    refine ⟨k p (by simp) _ hp, ?_⟩
    rcases st with ⟨a1, a2, a3, a4, h⟩ | ⟨a1, a2, h⟩ | ⟨a1, a2, a3, a4, a5, h, a6⟩
    · exact .inl ⟨a1, a2, a3, a4, k it (by simp) _ h⟩
    · exact .inr (.inl ⟨a1, a2, k it (by simp) _ h⟩)
    · exact .inr (.inr ⟨a1, a2, a3, a4, a5, k it (by simp) _ h, a6⟩)
  item := by
    intro X hP hw hK hc i pins s σ H E I hf st hg
    subst hP hw hK
    have hT := st.typ
    obtain ⟨hp, st⟩ := st
    replace hg : i < (combos xs).length := hg
    have hl := rv.length
    have ce := combos_all V.non xs
    -- the places of this turn
    have fin : ∀ (a b : Nat), a < xs.length → b < xs.length → (idxs 0 xs.length)[i]? = some (a, b) → (idxs 0 xs.length).drop (i + 1) = later2 xs.length a b → a < b →
        (∀ (x y : Value) (Q : Value → Shared → Prop) (E' : Value → Shared → Prop), us[a]? = some x → us[b]? = some y →
          (∀ h', IsCm h' it p 1 (.ref s.heap.objs.size) a b → IsPair h' s.heap.objs.size x y → h'.objs.size = s.heap.objs.size + 1 → (∀ c o, c ≠ it → s.heap.get? c = some o → h'.get? c = some o) → Q (.ref s.heap.objs.size) { s with heap := h' }) →
          wpAny (model X.prog X.w) X.A.in1 (Builtin.«itertools.combinations.__next__» ⟨[.ref it], []⟩) (fun fin s' => ∃ v, fin = .done (.ret v) ∧ Q v s') E' s) →
        wpAny (model X.prog X.w) X.A (pyNext (.ref it)) (fun r s1 => ∃ u, r = some u ∧
          wpAny (model X.prog X.w) X.A (letOwnedTupleGo tg (.ref it) u) (fun _ s2 => ∃ x H', Inv X pins σ H' s2 ∧ RelV x u ∧ (Itm (combos xs)).yld i H x H' ∧ CmAt xs.length it p us (i + 1) s2.heap ∧ ∀ b ∈ [it, p], H' b = none) E s1) E s := by
      intro a b ha hb hi hd hab step
      have ea : xs[a]? = some (xs.getD a V.non) := by rw [List.getD, List.getElem?_eq_getElem ha]; rfl
      have eb : xs[b]? = some (xs.getD b V.non) := by rw [List.getD, List.getElem?_eq_getElem hb]; rfl
      obtain ⟨u, hu, ru⟩ := rv.get ea
      obtain ⟨u2, hu2, ru2⟩ := rv.get eb
      refine cm_pyItem hT fun E' => step u u2 (fun v s' => ∃ u, some v = some u ∧ _) E' hu hu2 fun h' a1 a2 a3 a4 => ⟨_, rfl, go_of (s := { s with heap := h' }) a1 rfl rfl (by decide) ?_⟩
      have pit : p ≠ it := fun e => by
        obtain ⟨o, ho, hco⟩ := hT
        rw [e] at hp
        have := Option.some.inj (hp.symm.trans ho)
        rw [← this] at hco
        simp at hco
      · have new : ObjOk X.prog X.w (upd H s.heap.objs.size (.tup [xs.getD a V.non, xs.getD b V.non])) h' s.heap.objs.size (.tup [xs.getD a V.non, xs.getD b V.non]) :=
          ⟨by show 2 ≤ sizeLine; decide, [u, u2], .cons ru (.cons ru2 .nil), ⟨_, a2, rfl, _, rfl⟩⟩
        have I1 : Inv X pins σ (upd H s.heap.objs.size (.tup [xs.getD a V.non, xs.getD b V.non])) { s with heap := h' } :=
          I.turnedNew (t' := s.toks) (ch := [it]) (fun c o hb q => a4 c o (fun e => hb (by simp [e])) q) (fun c hc => hf c (by simp at hc ⊢; exact .inl hc)) (Nat.le_refl _) new
        refine ⟨.ref s.heap.objs.size, _, I1, rfl, ⟨_, _, _, rfl, I.hok.fresh (Nat.le_refl _), rfl, ?_⟩, ⟨a4 p _ pit hp, .inr (.inr ⟨i, _, a, b, rfl, a1, hab, hb, hd⟩)⟩, fun c hc => ?_⟩
        · rw [ce, List.getElem?_map, hi]; rfl
        · have lt : c < s.heap.objs.size := by
            have e : c = it ∨ c = p := by simpa using hc
            rcases e with e | e
            · rw [e]; obtain ⟨o, ho, _⟩ := hT; exact Heap.lt_size ho
            · rw [e]; exact Heap.lt_size hp
          rw [upd_ne (Nat.ne_of_lt lt)]
          exact (hf c hc).1
    have hn : ∀ {k : Nat}, (idxs 0 xs.length).length = k → i < k := fun {k} e => by rw [← e]; rw [ce, List.length_map] at hg; exact hg
    have hi : i < (idxs 0 xs.length).length := hn rfl
    rcases st with ⟨n2, last, a, b, hit⟩ | ⟨n2, rfl, hit⟩ | ⟨k, last, a, b, rfl, hit, hab, hb, hd⟩
    · rw [idxs_none n2] at hi; exact absurd hi (by simp)
    · refine fin 0 1 (by omega) (by omega) (by rw [idxs_first n2]; rfl) (by rw [idxs_first n2]; rfl) (by omega) fun x y Q E' hx hy hQ => cm_item0 hit hp hx hy hQ
    · have hb' : b < us.length := by omega
      by_cases c1 : b + 1 < xs.length
      · rw [later2_next c1] at hd
        refine fin a (b + 1) (by omega) c1 ?_ ?_ (by omega) fun x y Q E' hx hy hQ => cm_item1 hit hp (.inl ⟨by omega, rfl, rfl⟩) hx hy hQ
        · have := congrArg (fun l : List (Nat × Nat) => l[0]?) hd
          simpa using this
        · have := congrArg (fun l : List (Nat × Nat) => l.drop 1) hd
          simpa [List.drop_drop] using this
      · have hb1 : b + 1 = xs.length := by omega
        by_cases c2 : a + 2 < xs.length
        · rw [later2_row hb1 c2] at hd
          refine fin (a + 1) (a + 2) (by omega) c2 ?_ ?_ (by omega) fun x y Q E' hx hy hQ => cm_item1 hit hp (.inr ⟨by omega, by omega, rfl, rfl⟩) hx hy hQ
          · have := congrArg (fun l : List (Nat × Nat) => l[0]?) hd
            simpa using this
          · have := congrArg (fun l : List (Nat × Nat) => l.drop 1) hd
            simpa [List.drop_drop] using this
        · rw [later2_end hb1 (by omega)] at hd
          have := congrArg List.length hd
          rw [List.length_drop, List.length_nil] at this
          omega
  done := by
    intro X hP hw hK hc i pins s σ H E I hf st hg
    subst hP hw hK
    have hT := st.typ
    obtain ⟨hp, st⟩ := st
    replace hg : (combos xs).length ≤ i := hg
    have hl := rv.length
    rw [combos_all V.non xs, List.length_map] at hg
    have hend : ∀ (e : Value) (h' : Heap), (∀ c o, c ≠ it → s.heap.get? c = some o → h'.get? c = some o) → Inv X pins σ H { s with heap := h' } := fun e h' k =>
      I.turnedL (t' := s.toks) (ch := [it]) (fun c o hb q => k c o (fun e => hb (by simp [e])) q) fun c hc => hf c (by simp at hc ⊢; exact .inl hc)
    rcases st with ⟨n2, last, a, b, hit⟩ | ⟨n2, rfl, hit⟩ | ⟨k, last, a, b, rfl, hit, hab, hb, hd⟩
    · exact cm_pyEnd hT fun Q' => cm_end2 (I.ok.hd hc) hit fun e h' q k => ⟨e, rfl, q, rfl, hend (.ref e) h' k⟩
    · rw [idxs_first n2] at hg; exact absurd hg (by simp)
    · have c1 : ¬ b + 1 < xs.length := fun c1 => by
        rw [later2_next c1] at hd
        have := congrArg List.length hd
        rw [List.length_drop, List.length_cons] at this
        omega
      have hb1 : b + 1 = xs.length := by omega
      have c2 : ¬ a + 2 < xs.length := fun c2 => by
        rw [later2_row hb1 c2] at hd
        have := congrArg List.length hd
        rw [List.length_drop, List.length_cons] at this
        omega
      exact cm_pyEnd hT fun Q' => cm_end1 (I.ok.hd hc) hit hp (by omega) (by omega) hab fun e h' q k => ⟨e, rfl, q, rfl, hend (.ref e) h' k⟩
  self := fun A i s Q E st h => by
    obtain ⟨_, ⟨_, _, _, _, q⟩ | ⟨_, _, q⟩ | ⟨_, _, _, _, _, q, _⟩⟩ := st
    · exact cm_self q h
    · exact cm_self q h
    · exact cm_self q h
/-- combinations(xs, 2) of a list -/
def iComb (K : PySem.W.Frag) (ta : TA) : TI := fun σ H R => ta σ H fun vs H1 => ∃ (a : Addr) (xs : List V), vs = [.ref a, .int 2] ∧ SqL K H1 a xs ∧ R (Itm (combos xs)) H1
theorem pi_comb {X : Cx} {tg e e2 : Expr} {ta : TA} {p pos : Pos} (hg : Gl X "combinations") (hm : X.mg "combinations" = some (.type "itertools.combinations")) (ha : PA X [e, e2] ta)
    (hs : starEach [e, e2] X.env = (false, eval e X.env) :: starEach [e2] X.env := by rfl) (hpl : (backTo pos (starEach [e2] X.env)).any (·.1) = false := by rfl) :
    PI X tg (.Call (.Name "combinations" p) [e, e2] [] pos) (iComb X.K ta) := by
  refine ⟨fun pins s σ H R I h => ?_⟩
  refine Call_ (ld_glob I hg hm (PyProof.Rows.callWith_type1 (thn (ha.run pos pins s σ H _ I h) fun us s1 ⟨vs, H1, I1, r1, q1⟩ => ?_) hs hpl))
  obtain ⟨a, xs, ex, hq, q⟩ := q1
  subst ex
  cases r1 with
  | cons r rr =>
    cases rr with
    | cons r' rr =>
      cases rr
      cases r
      obtain ⟨t, rfl⟩ := r'
      obtain ⟨its, rv, p1, hz⟩ := I1.list hq
      have hl := rv.length
      refine callType_new cm_called (by decide) (cm_call2 _ _) (cm_new2 _ _) (fun obj => F.args_object_init_3 obj _ _) cm_entN (cm_new a t its ?_) ⟨p1.isList, fun h' k => ?_⟩
      · omega
      · have z1 : (h'.push { cls := .type "tuple", data := .seq its.toArray }).objs.size = h'.objs.size + 1 := Heap.size_push ..
        have g1 := Heap.get?_push_size (h'.push { cls := .type "tuple", data := .seq its.toArray }) (o := { cls := .type "itertools.combinations", data := .fields #[.ref h'.objs.size, rawInt (if 2 > its.length then 2 else 0), .none, rawInt 0, rawInt 1] }) rfl
        rw [z1] at g1
        have g0 : ((h'.push { cls := .type "tuple", data := .seq its.toArray }).push { cls := .type "itertools.combinations", data := .fields #[.ref h'.objs.size, rawInt (if 2 > its.length then 2 else 0), .none, rawInt 0, rawInt 1] }).get? h'.objs.size = some _ := Heap.get?_push_of_some _ (Heap.get?_push_size _ rfl)
        have kk : ∀ b o, s1.heap.get? b = some o → ((h'.push { cls := .type "tuple", data := .seq its.toArray }).push { cls := .type "itertools.combinations", data := .fields #[.ref h'.objs.size, rawInt (if 2 > its.length then 2 else 0), .none, rawInt 0, rawInt 1] }).get? b = some o := fun b o e => Heap.get?_push_of_some _ (Heap.get?_push_of_some _ (k b o e))
        generalize ((h'.push { cls := .type "tuple", data := .seq its.toArray }).push { cls := .type "itertools.combinations", data := .fields #[.ref h'.objs.size, rawInt (if 2 > its.length then 2 else 0), .none, rawInt 0, rawInt 1] }) = h2 at g1 g0 kk ⊢
        refine ⟨⟨_, g1, rfl⟩, ?_⟩
        have I2 : Inv X pins σ H1 { s1 with heap := h2 } := I1.kept (t' := s1.toks) kk
        have at0 : CmAt xs.length (h'.objs.size + 1) h'.objs.size its 0 h2 := by
          refine ⟨g0, ?_⟩
          by_cases c : xs.length < 2
          · rw [if_pos (by omega)] at g1
            exact .inl ⟨c, _, 0, 1, g1⟩
          · rw [if_neg (by omega)] at g1
            exact .inr (.inl ⟨by omega, rfl, g1⟩)
        refine (turn_cm (P := X.prog) (w := X.w) (K := X.K) (tg := tg) rv).self _ 0 _ _ _ at0 ⟨_, _, _, _, H1, rfl, I2, turn_cm rv, at0, fun c hc => ?_, q⟩
        have I' : Inv X pins σ H1 { s1 with heap := h' } := I1.kept (t' := s1.toks) k
        have hle : h'.objs.size ≤ c := by
          have e : c = h'.objs.size + 1 ∨ c = h'.objs.size := by simpa using hc
          rcases e with e | e
          · exact e ▸ Nat.le_succ _
          · exact e ▸ Nat.le_refl _
        exact I'.fpOk hle (I'.hok.fresh hle)
theorem walk_comb {ps : List (V × V)} : Walk (Itm ps) ps.length (fun _ => True) (YPair (fun i => ps[i]?.map Prod.fst) (fun i => ps[i]?.map Prod.snd)) := by
  refine ⟨fun _ _ hi _ => hi, fun _ _ => Nat.le_refl _, fun i H v H' _ _ y => ?_⟩
  obtain ⟨T, x, z, h1, h2, h3, h4⟩ := y
  exact ⟨T, x, z, h1, h2, h3, by show Option.map Prod.fst ps[i]? = _; rw [h4]; rfl, by show Option.map Prod.snd ps[i]? = _; rw [h4]; rfl⟩
end Gx

/-! Partings that do not cross, and the places of their tree: without a heap, of names of any kind. -/
namespace Gx
section
variable {α : Type} [DecidableEq α]
theorem snoc_ind {β : Type} {C : List β → Prop} (h0 : C []) (hs : ∀ l a, C l → C (l ++ [a])) (l : List β) : C l := by
  have : ∀ k : List β, C k.reverse := fun k => by
    induction k with
    | nil => exact h0
    | cons a k ih => rw [List.reverse_cons]; exact hs _ _ ih
  rw [← l.reverse_reverse]
  exact this _
/-! ### pairs of a list, counted -/
def pc {β : Type} (R : β → β → Bool) : List β → Nat
  | [] => 0
  | x :: xs => xs.countP (R x) + pc R xs
theorem pc_perm {β : Type} {R : β → β → Bool} (sy : ∀ a b, R a b = R b a) {l k : List β} (h : l.Perm k) : pc R l = pc R k := by
  induction h with
  | nil => rfl
  | cons x p ih => rw [pc, pc, ih, p.countP_eq]
  | swap x y l =>
    rw [pc, pc, pc, pc, List.countP_cons, List.countP_cons, sy x y]
    omega
  | trans _ _ h1 h2 => exact h1.trans h2
theorem pc_map {β γ : Type} {R : γ → γ → Bool} (g : β → γ) (l : List β) : pc R (l.map g) = pc (fun a b => R (g a) (g b)) l := by
  induction l with
  | nil => rfl
  | cons x l ih =>
    rw [List.map_cons, pc, pc, ih, List.countP_map]
    rfl
theorem pc_congr {β : Type} {R S : β → β → Bool} {l : List β} (nd : l.Nodup) (h : ∀ a ∈ l, ∀ b ∈ l, a ≠ b → R a b = S a b) : pc R l = pc S l := by
  induction l with
  | nil => rfl
  | cons x l ih =>
    have nd2 := List.nodup_cons.mp nd
    rw [pc, pc, ih nd2.2 fun a ha b hb => h a (List.mem_cons_of_mem _ ha) b (List.mem_cons_of_mem _ hb)]
    congr 1
    refine List.countP_congr fun b hb => ?_
    rw [h x List.mem_cons_self b (List.mem_cons_of_mem _ hb) fun z => nd2.1 (by rw [z]; exact hb)]
theorem pc_snoc {β : Type} {R : β → β → Bool} (l : List β) (x : β) : pc R (l ++ [x]) = pc R l + l.countP fun y => R y x := by
  induction l with
  | nil => rfl
  | cons y l ih =>
    rw [List.cons_append, pc, pc, ih, List.countP_append, List.countP_cons (a := y)]
    rw [List.countP_singleton]
    omega
/-! ### meeting, crossing -/
def meet (a b : List α) : Bool := a.any fun x => decide (x ∈ b)
theorem meet_iff {a b : List α} : meet a b = true ↔ ∃ x, x ∈ a ∧ x ∈ b := by
  unfold meet
  rw [List.any_eq_true]
  exact ⟨fun ⟨x, h1, h2⟩ => ⟨x, h1, of_decide_eq_true h2⟩, fun ⟨x, h1, h2⟩ => ⟨x, h1, decide_eq_true h2⟩⟩
theorem meet_no {a b : List α} : meet a b = false ↔ ∀ x, x ∈ a → x ∉ b := by
  rw [← Bool.not_eq_true, meet_iff]
  exact ⟨fun h x h1 h2 => h ⟨x, h1, h2⟩, fun h ⟨x, h1, h2⟩ => h x h1 h2⟩
theorem meet_comm (a b : List α) : meet a b = meet b a := by
  rw [Bool.eq_iff_iff, meet_iff, meet_iff]
  exact ⟨fun ⟨x, h⟩ => ⟨x, h.2, h.1⟩, fun ⟨x, h⟩ => ⟨x, h.2, h.1⟩⟩
def crossB (p q : List α × List α) : Bool := (meet p.1 q.1 && meet p.1 q.2) && (meet p.2 q.1 && meet p.2 q.2)
theorem cross_comm (p q : List α × List α) : crossB p q = crossB q p := by
  unfold crossB
  rw [meet_comm q.1 p.1, meet_comm q.1 p.2, meet_comm q.2 p.1, meet_comm q.2 p.2]
  cases meet p.1 q.1 <;> cases meet p.1 q.2 <;> cases meet p.2 q.1 <;> cases meet p.2 q.2 <;> rfl
def fitsB (s : List (List α)) (c : List α) : Bool := s.all fun d => meet c d
def ext (p : List α × List α) (s : List (List α)) : List (List (List α)) := ([p.1, p.2].filter (fitsB s)).map fun c => s ++ [c]
def placesOf (ps : List (List α × List α)) : List (List (List α)) := ps.foldl (fun acc p => acc.flatMap (ext p)) [[]]
theorem places_snoc (ps : List (List α × List α)) (p : List α × List α) : placesOf (ps ++ [p]) = (placesOf ps).flatMap (ext p) := by
  unfold placesOf
  rw [List.foldl_append]
  rfl
def sd (p : List α × List α) (b : Bool) : List α := if b = true then p.1 else p.2
/-- partings of names `ns` with the first name `h`, no two of which cross -/
structure Prts (ns : List α) (h : α) (ps : List (List α × List α)) : Prop where
  nd : ps.Nodup
  hd1 : ∀ p ∈ ps, h ∈ p.1
  hd2 : ∀ p ∈ ps, h ∉ p.2
  ne2 : ∀ p ∈ ps, p.2 ≠ []
  nd2 : ∀ p ∈ ps, p.2.Nodup
  cov : ∀ p ∈ ps, ∀ x, x ∈ p.1 ↔ x ∈ ns ∧ x ∉ p.2
  sub : ∀ p ∈ ps, ∀ x ∈ p.2, x ∈ ns
  eqv : ∀ p ∈ ps, ∀ q ∈ ps, (∀ x, x ∈ p.2 ↔ x ∈ q.2) → p = q
  nc : ps.Pairwise fun p q => crossB p q = false
theorem Prts.left {ns : List α} {h : α} {ps qs : List (List α × List α)} (g : Prts ns h (ps ++ qs)) : Prts ns h ps :=
  have m : ∀ {p}, p ∈ ps → p ∈ ps ++ qs := fun hp => List.mem_append_left _ hp
  ⟨(List.nodup_append.mp g.nd).1, fun p hp => g.hd1 p (m hp), fun p hp => g.hd2 p (m hp), fun p hp => g.ne2 p (m hp), fun p hp => g.nd2 p (m hp), fun p hp => g.cov p (m hp), fun p hp => g.sub p (m hp), fun p hp q hq => g.eqv p (m hp) q (m hq), (List.pairwise_append.mp g.nc).1⟩
theorem Prts.one {ns : List α} {h : α} {ps : List (List α × List α)} (g : Prts ns h ps) {p : List α × List α} (hp : p ∈ ps) (x : α) (hx : x ∈ ns) (b : Bool) : x ∈ sd p b ↔ x ∉ sd p (!b) := by
  have c := g.cov p hp x
  cases b
  · show x ∈ p.2 ↔ x ∉ p.1
    rw [c]
    by_cases z : x ∈ p.2
    · simp [z]
    · simp [z, hx]
  · show x ∈ p.1 ↔ x ∉ p.2
    rw [c]
    simp [hx]
theorem Prts.in_ {ns : List α} {h : α} {ps : List (List α × List α)} (g : Prts ns h ps) {p : List α × List α} (hp : p ∈ ps) {b : Bool} {x : α} (hx : x ∈ sd p b) : x ∈ ns := by
  cases b
  · exact g.sub p hp x hx
  · exact ((g.cov p hp x).mp hx).1
theorem Prts.some_ {ns : List α} {h : α} {ps : List (List α × List α)} (g : Prts ns h ps) {p : List α × List α} (hp : p ∈ ps) (b : Bool) : ∃ x, x ∈ sd p b := by
  cases b
  · exact List.exists_mem_of_ne_nil _ (g.ne2 p hp)
  · exact ⟨h, g.hd1 p hp⟩
theorem Prts.ne {ns : List α} {h : α} {ps : List (List α × List α)} (g : Prts ns h ps) {p : List α × List α} (hp : p ∈ ps) {a b : Bool} : sd p a = sd p b ↔ a = b := by
  refine ⟨fun e => ?_, fun e => by rw [e]⟩
  have h1 := g.hd1 p hp
  have h2 := g.hd2 p hp
  cases a <;> cases b
  · rfl
  · exact absurd (show h ∈ p.2 by have e' : p.2 = p.1 := e; rw [e']; exact h1) h2
  · exact absurd (show h ∈ p.2 by have e' : p.1 = p.2 := e; rw [← e']; exact h1) h2
  · rfl
/-- the side of an earlier parting that meets both sides of a new one -/
def b0 (p q : List α × List α) : Bool := meet q.1 p.1 && meet q.1 p.2
theorem Prts.mid {ns : List α} {h : α} {ps : List (List α × List α)} {p : List α × List α} (g : Prts ns h (ps ++ [p])) {q : List α × List α} (hq : q ∈ ps) :
    (∀ c, ∃ x, x ∈ sd q (b0 p q) ∧ x ∈ sd p c) ∧ ∃ c, ∀ x, x ∈ sd p c → x ∈ sd q (b0 p q) := by
  have hq' : q ∈ ps ++ [p] := List.mem_append_left _ hq
  have hp' : p ∈ ps ++ [p] := List.mem_append_right _ List.mem_cons_self
  have qp : q ≠ p := fun z => (List.nodup_append.mp g.nd).2.2 q hq p List.mem_cons_self z
  have nc : crossB q p = false := (List.pairwise_append.mp g.nc).2.2 q hq p List.mem_cons_self
  have m11 : meet q.1 p.1 = true := meet_iff.mpr ⟨h, g.hd1 q hq', g.hd1 p hp'⟩
  obtain ⟨z, hz⟩ := g.some_ hp' false
  have hz' : z ∈ p.2 := hz
  cases m12 : meet q.1 p.2 with
  | false =>
    have eb : b0 p q = false := by unfold b0; rw [m12, Bool.and_false]
    rw [eb]
    have sub : ∀ x, x ∈ p.2 → x ∈ q.2 := fun x hx => by
      have := meet_no.mp m12
      exact (g.one hq' x (g.sub p hp' x hx) false).mpr fun y => this x y hx
    refine ⟨fun c => ?_, false, sub⟩
    cases c
    · exact ⟨z, sub z hz', hz'⟩
    · refine Classical.byContradiction fun no => qp (g.eqv q hq' p hp' fun x => ⟨fun hx => ?_, sub x⟩)
      refine Classical.byContradiction fun y => no ⟨x, hx, ?_⟩
      exact (g.one hp' x (g.sub q hq' x hx) true).mpr y
  | true =>
    have eb : b0 p q = true := by unfold b0; rw [m11, m12]; rfl
    rw [eb]
    obtain ⟨y, hy1, hy2⟩ := meet_iff.mp m12
    refine ⟨fun c => ?_, ?_⟩
    · cases c
      · exact ⟨y, hy1, hy2⟩
      · exact ⟨h, g.hd1 q hq', g.hd1 p hp'⟩
    · unfold crossB at nc
      rw [m11, m12] at nc
      simp only [Bool.true_and, Bool.and_self] at nc
      cases m21 : meet q.2 p.1 with
      | false =>
        refine ⟨true, fun x hx => ?_⟩
        have := meet_no.mp m21
        exact (g.one hq' x (g.in_ hp' (b := true) hx) true).mpr fun y => this x y hx
      | true =>
        rw [m21, Bool.true_and] at nc
        refine ⟨false, fun x hx => ?_⟩
        have := meet_no.mp nc
        exact (g.one hq' x (g.in_ hp' (b := false) hx) true).mpr fun y => this x y hx
/-- the other side lies within one side of the new one -/
theorem Prts.side {ns : List α} {h : α} {ps : List (List α × List α)} {p : List α × List α} (g : Prts ns h (ps ++ [p])) {q : List α × List α} (hq : q ∈ ps) : ∃ c, ∀ x, x ∈ sd q (!b0 p q) → x ∈ sd p c := by
  have hq' : q ∈ ps ++ [p] := List.mem_append_left _ hq
  have hp' : p ∈ ps ++ [p] := List.mem_append_right _ List.mem_cons_self
  obtain ⟨_, c, hc⟩ := g.mid hq
  refine ⟨!c, fun x hx => ?_⟩
  have hn := g.in_ hq' hx
  refine (g.one hp' x hn (!c)).mpr fun y => ?_
  rw [Bool.not_not] at y
  exact (g.one hq' x hn (b0 p q)).mp (hc x y) hx
/-- any two sides that are chosen meet -/
def Met (ps : List (List α × List α)) (f : List α × List α → Bool) : Prop := ∀ p ∈ ps, ∀ q ∈ ps, ∃ x, x ∈ sd p (f p) ∧ x ∈ sd q (f q)
def plOf (ps : List (List α × List α)) (f : List α × List α → Bool) : List (List α) := ps.map fun p => sd p (f p)
theorem fits_iff {ps : List (List α × List α)} {f : List α × List α → Bool} {c : List α} : fitsB (plOf ps f) c = true ↔ ∀ q ∈ ps, ∃ x, x ∈ c ∧ x ∈ sd q (f q) := by
  unfold fitsB plOf
  rw [List.all_eq_true]
  constructor
  · intro h q hq
    exact meet_iff.mp (h _ (List.mem_map.mpr ⟨q, hq, rfl⟩))
  · intro h d hd
    obtain ⟨q, hq, rfl⟩ := List.mem_map.mp hd
    exact meet_iff.mpr (h q hq)
theorem Prts.fit {ns : List α} {h : α} {ps : List (List α × List α)} {p : List α × List α} (g : Prts ns h (ps ++ [p])) {f : List α × List α → Bool} (hm : Met ps f) :
    ((∀ q ∈ ps, f q = b0 p q) ∧ ∀ c, fitsB (plOf ps f) (sd p c) = true) ∨
    ∃ c, (∃ q ∈ ps, f q ≠ b0 p q ∧ ∀ x, x ∈ sd q (f q) → x ∈ sd p c) ∧ fitsB (plOf ps f) (sd p c) = true ∧ fitsB (plOf ps f) (sd p (!c)) = false := by
  have hp' : p ∈ ps ++ [p] := List.mem_append_right _ List.mem_cons_self
  by_cases a : ∀ q ∈ ps, f q = b0 p q
  · refine .inl ⟨a, fun c => fits_iff.mpr fun q hq => ?_⟩
    obtain ⟨x, h1, h2⟩ := (g.mid hq).1 c
    exact ⟨x, h2, by rw [a q hq]; exact h1⟩
  · obtain ⟨q, a⟩ := Classical.not_forall.mp a
    obtain ⟨hq, ne⟩ := Classical.not_imp.mp a
    have hq' : q ∈ ps ++ [p] := List.mem_append_left _ hq
    have e : f q = !b0 p q := by
      cases h1 : f q <;> cases h2 : b0 p q <;> simp_all
    obtain ⟨c, hc⟩ := g.side hq
    rw [← e] at hc
    refine .inr ⟨c, ⟨q, hq, ne, hc⟩, fits_iff.mpr fun r hr => ?_, ?_⟩
    · obtain ⟨x, h1, h2⟩ := hm q hq r hr
      exact ⟨x, hc x h1, h2⟩
    · refine Bool.eq_false_iff.mpr fun y => ?_
      obtain ⟨x, h1, h2⟩ := fits_iff.mp y q hq
      have hn := g.in_ hp' h1
      exact (g.one hp' x hn c).mp (hc x h2) h1
/-! ### the places -/
def df (s t : List (List α)) : Nat := ((s.zip t).filter fun z => decide (z.1 ≠ z.2)).length
def nb (s t : List (List α)) : Bool := decide (df s t = 1)
theorem df_comm : ∀ (s t : List (List α)), df s t = df t s
  | [], [] => rfl
  | [], _ :: _ => rfl
  | _ :: _, [] => rfl
  | x :: s, y :: t => by
    have ih := df_comm s t
    unfold df at ih ⊢
    rw [List.zip_cons_cons, List.zip_cons_cons, List.filter_cons, List.filter_cons]
    by_cases e : x = y
    · simp [e] at ih ⊢; exact ih
    · have e2 : ¬ y = x := fun z => e z.symm
      simp [e, e2] at ih ⊢; exact ih
theorem nb_comm (s t : List (List α)) : nb s t = nb t s := by unfold nb; rw [df_comm]
theorem df_snoc {s t : List (List α)} (h : s.length = t.length) (c d : List α) : df (s ++ [c]) (t ++ [d]) = df s t + (if c = d then 0 else 1) := by
  unfold df
  rw [List.zip_append h, List.filter_append, List.length_append]
  congr 1
  by_cases e : c = d
  · simp [e]
  · simp [e]
theorem df_eq {s t : List (List α)} (h : s.length = t.length) : df s t = 0 ↔ s = t := by
  induction s generalizing t with
  | nil =>
    cases t with
    | nil => exact ⟨fun _ => rfl, fun _ => rfl⟩
    | cons y t => cases h
  | cons x s ih =>
    cases t with
    | nil => cases h
    | cons y t =>
      have ih := ih (Nat.succ.inj h)
      unfold df at ih ⊢
      rw [List.zip_cons_cons, List.filter_cons]
      by_cases e : x = y
      · simp [e] at ih ⊢; exact ih
      · simp [e]
structure TreeR (ns : List α) (ps : List (List α × List α)) (F : List (List (List α))) : Prop where
  mem : ∀ s, s ∈ F ↔ ∃ f, s = plOf ps f ∧ Met ps f
  nd : F.Nodup
  len : F.length = ps.length + 1
  nbs : pc nb F = ps.length
theorem plOf_snoc (ps : List (List α × List α)) (p : List α × List α) (f) : plOf (ps ++ [p]) f = plOf ps f ++ [sd p (f p)] := by
  unfold plOf
  rw [List.map_append]
  rfl
theorem plOf_congr {ps : List (List α × List α)} {f k : List α × List α → Bool} (h : ∀ q ∈ ps, f q = k q) : plOf ps f = plOf ps k :=
  List.map_congr_left fun q hq => by rw [h q hq]
theorem ext_mem {p : List α × List α} {s t : List (List α)} : t ∈ ext p s ↔ ∃ c, t = s ++ [sd p c] ∧ fitsB s (sd p c) = true := by
  unfold ext
  rw [List.mem_map]
  constructor
  · rintro ⟨c, hc, rfl⟩
    obtain ⟨h1, h2⟩ := List.mem_filter.mp hc
    rcases List.mem_cons.mp h1 with e | h1
    · exact ⟨true, by rw [e]; rfl, by rw [e] at h2; exact h2⟩
    · exact ⟨false, by rw [List.mem_singleton.mp h1]; rfl, by rw [List.mem_singleton.mp h1] at h2; exact h2⟩
  · rintro ⟨c, rfl, h⟩
    refine ⟨_, List.mem_filter.mpr ⟨?_, h⟩, rfl⟩
    cases c
    · exact List.mem_cons_of_mem _ List.mem_cons_self
    · exact List.mem_cons_self
theorem plOf_len (ps : List (List α × List α)) (f) : (plOf ps f).length = ps.length := List.length_map _
theorem Prts.plOf_ne {ns : List α} {h : α} {ps : List (List α × List α)} (g : Prts ns h ps) {f k : List α × List α → Bool} (e : plOf ps f = plOf ps k) : ∀ q ∈ ps, f q = k q := fun q hq => by
  unfold plOf at e
  exact (g.ne hq).mp (List.map_inj_left.mp e q hq)
theorem flat_map1 {β γ : Type} {f : β → List γ} {k : β → γ} : ∀ (l : List β), (∀ b ∈ l, f b = [k b]) → l.flatMap f = l.map k
  | [], _ => rfl
  | b :: l, h => by
    rw [List.flatMap_cons, List.map_cons, h b List.mem_cons_self, flat_map1 l fun x hx => h x (List.mem_cons_of_mem _ hx)]
    rfl
theorem ext_eq {p : List α × List α} {s : List (List α)} : ext p s = (if fitsB s (sd p true) = true then [s ++ [sd p true]] else []) ++ (if fitsB s (sd p false) = true then [s ++ [sd p false]] else []) := by
  unfold ext
  rw [List.filter_cons, List.filter_cons, List.filter_nil]
  show List.map _ (if fitsB s (sd p true) = true then _ else _) = _
  by_cases c1 : fitsB s (sd p true) = true
  · rw [if_pos c1, if_pos c1, List.map_cons]
    show _ :: List.map _ (if fitsB s (sd p false) = true then _ else _) = _
    by_cases c2 : fitsB s (sd p false) = true
    · rw [if_pos c2, if_pos c2]; rfl
    · rw [if_neg c2, if_neg c2]; rfl
  · rw [if_neg c1, if_neg c1]
    show List.map _ (if fitsB s (sd p false) = true then _ else _) = _
    by_cases c2 : fitsB s (sd p false) = true
    · rw [if_pos c2, if_pos c2]; rfl
    · rw [if_neg c2, if_neg c2]; rfl
theorem ext_two {p : List α × List α} {s : List (List α)} (h : ∀ c, fitsB s (sd p c) = true) : ext p s = [s ++ [sd p true], s ++ [sd p false]] := by
  rw [ext_eq, if_pos (h true), if_pos (h false)]
  rfl
/-- the one side by which a place goes on that is not the middle -/
def cc (p : List α × List α) (s : List (List α)) : Bool := fitsB s (sd p true)
theorem ext_one {p : List α × List α} {s : List (List α)} {c : Bool} (h : fitsB s (sd p c) = true) (h2 : fitsB s (sd p (!c)) = false) : ext p s = [s ++ [sd p (cc p s)]] ∧ cc p s = c := by
  rw [ext_eq]
  cases c
  · have h2' : fitsB s (sd p true) = false := h2
    refine ⟨?_, h2'⟩
    rw [if_neg (by rw [h2']; exact Bool.false_ne_true), if_pos h, show cc p s = false from h2']
    rfl
  · have h2' : fitsB s (sd p false) = false := h2
    refine ⟨?_, h⟩
    rw [if_pos h, if_neg (by rw [h2']; exact Bool.false_ne_true), show cc p s = true from h]
    rfl
theorem bool_ne {a b : Bool} (h : a ≠ b) : b = !a := by cases a <;> cases b <;> simp_all
/-- two places, neither of them the middle, that go on by two sides are no neighbours -/
theorem Prts.far {ns : List α} {h : α} {ps : List (List α × List α)} {p : List α × List α} (g : Prts ns h (ps ++ [p])) {f k : List α × List α → Bool} (mk : Met ps k) (mf : Met ps f) {c : Bool}
    (hf : ∃ q ∈ ps, f q ≠ b0 p q ∧ ∀ x, x ∈ sd q (f q) → x ∈ sd p c) (hk : ∃ q ∈ ps, k q ≠ b0 p q ∧ ∀ x, x ∈ sd q (k q) → x ∈ sd p (!c)) : nb (plOf ps f) (plOf ps k) = false := by
  have hp' : p ∈ ps ++ [p] := List.mem_append_right _ List.mem_cons_self
  obtain ⟨q, hq, nq, sq⟩ := hf
  obtain ⟨r, hr, nr, sr⟩ := hk
  have hq' : q ∈ ps ++ [p] := List.mem_append_left _ hq
  have hr' : r ∈ ps ++ [p] := List.mem_append_left _ hr
  have out : ∀ (f' : List α × List α → Bool), Met ps f' → (∀ x, x ∈ sd q (f' q) → x ∈ sd p c) → (∀ x, x ∈ sd r (f' r) → x ∈ sd p (!c)) → False := fun f' m a b => by
    obtain ⟨x, h1, h2⟩ := m q hq r hr
    have hn := g.in_ hq' h1
    exact (g.one hp' x hn c).mp (a x h1) (b x h2)
  have dq : f q ≠ k q := fun e => out k mk (by rw [← e]; exact sq) sr
  have dr : f r ≠ k r := fun e => out f mf sq (by rw [e]; exact sr)
  have qr : q ≠ r := fun e => by
    subst e
    have e1 : k q = !f q := bool_ne dq
    have qp : q ≠ p := fun z => (List.nodup_append.mp g.nd).2.2 q hq p List.mem_cons_self z
    have same : ∀ x, x ∈ sd q (f q) ↔ x ∈ sd p c := fun x => ⟨sq x, fun hx => by
      have hn := g.in_ hp' hx
      refine (g.one hq' x hn (f q)).mpr fun y => ?_
      rw [← e1] at y
      exact (g.one hp' x hn c).mp hx (sr x y)⟩
    cases e2 : f q <;> cases e3 : c
    · rw [e2, e3] at same
      exact qp (g.eqv q hq' p hp' same)
    · rw [e2, e3] at same
      exact g.hd2 q hq' ((same h).mpr (g.hd1 p hp'))
    · rw [e2, e3] at same
      exact g.hd2 p hp' ((same h).mp (g.hd1 q hq'))
    · rw [e2, e3] at same
      refine qp (g.eqv q hq' p hp' fun x => ?_)
      constructor
      · intro hx
        have hn := g.sub q hq' x hx
        refine (g.one hp' x hn false).mpr fun y => ?_
        exact (g.one hq' x hn false).mp hx ((same x).mpr y)
      · intro hx
        have hn := g.sub p hp' x hx
        refine (g.one hq' x hn false).mpr fun y => ?_
        exact (g.one hp' x hn false).mp hx ((same x).mp y)
  unfold nb
  refine decide_eq_false fun e => ?_
  have gl := g.left
  have key : ∀ l : List (List α × List α), (∀ z ∈ l, z ∈ ps) → df (plOf l f) (plOf l k) = (l.filter fun z => decide (f z ≠ k z)).length := fun l => by
    induction l with
    | nil => intro _; rfl
    | cons z l ih =>
      intro hl
      have ih := ih fun y hy => hl y (List.mem_cons_of_mem _ hy)
      have hz := hl z List.mem_cons_self
      unfold df plOf at ih ⊢
      rw [List.map_cons, List.map_cons, List.zip_cons_cons, List.filter_cons, List.filter_cons]
      have ne := gl.ne hz (a := f z) (b := k z)
      by_cases w : f z = k z
      · have w2 := ne.mpr w
        simp only [w2, w, ne_eq, not_true_eq_false, decide_false] at ih ⊢
        exact ih
      · have w2 : ¬ sd z (f z) = sd z (k z) := fun y => w (ne.mp y)
        simp only [w2, w, ne_eq, not_false_eq_true, decide_true, if_true, List.length_cons] at ih ⊢
        rw [ih]
  rw [key ps fun _ hz => hz] at e
  obtain ⟨z, ez⟩ := List.length_eq_one_iff.mp e
  have h1 : q ∈ [z] := by rw [← ez]; exact List.mem_filter.mpr ⟨hq, decide_eq_true dq⟩
  have h2 : r ∈ [z] := by rw [← ez]; exact List.mem_filter.mpr ⟨hr, decide_eq_true dr⟩
  exact qr ((List.mem_singleton.mp h1).trans (List.mem_singleton.mp h2).symm)
theorem count_two {β : Type} (f k : β → Bool) (l : List β) : l.countP (fun s => f s && decide (k s = true)) + l.countP (fun s => f s && decide (k s = false)) = l.countP f := by
  induction l with
  | nil => rfl
  | cons s l ih =>
    rw [List.countP_cons, List.countP_cons, List.countP_cons]
    have e1 : (if (f s && decide (k s = true)) = true then 1 else 0) + (if (f s && decide (k s = false)) = true then 1 else 0) = (if f s = true then 1 else 0) := by
      cases f s <;> cases k s <;> rfl
    omega
theorem tree_right {ns : List α} {h : α} (ps : List (List α × List α)) : Prts ns h ps → TreeR ns ps (placesOf ps) := by
  induction ps using snoc_ind with
  | h0 =>
    intro _
    refine ⟨fun s => ?_, by show [[]].Nodup; simp, rfl, rfl⟩
    show s ∈ [[]] ↔ _
    rw [List.mem_singleton]
    exact ⟨fun e => ⟨fun _ => true, e, fun p hp => nomatch hp⟩, fun ⟨_, e, _⟩ => e⟩
  | hs ps p ih =>
    intro g
    have t := ih g.left
    have hp' : p ∈ ps ++ [p] := List.mem_append_right _ List.mem_cons_self
    have pn : p ∉ ps := fun z => (List.nodup_append.mp g.nd).2.2 p z p List.mem_cons_self rfl
    rw [places_snoc]
    generalize placesOf ps = F at t
    have m0 : Met ps (b0 p) := fun q hq r hr => by
      obtain ⟨c, hc⟩ := (g.mid hq).2
      obtain ⟨x, h1, h2⟩ := (g.mid hr).1 c
      exact ⟨x, hc x h2, h1⟩
    obtain ⟨p0, ep0⟩ : ∃ s, plOf ps (b0 p) = s := ⟨_, rfl⟩
    have hp0 : p0 ∈ F := (t.mem p0).mpr ⟨_, ep0.symm, m0⟩
    have pm : F.Perm (p0 :: F.erase p0) := List.perm_cons_erase hp0
    obtain ⟨F0, eF0⟩ : ∃ l, F.erase p0 = l := ⟨_, rfl⟩
    rw [eF0] at pm
    have nd0 := pm.nodup_iff.mp t.nd
    have nF0 := List.nodup_cons.mp nd0
    have two : ext p p0 = [p0 ++ [sd p true], p0 ++ [sd p false]] := ext_two fun c => by
      rcases g.fit m0 with ⟨_, a⟩ | ⟨_, ⟨q, _, a, _⟩, _⟩
      · rw [← ep0]; exact a c
      · exact absurd rfl a
    -- what holds of every other place
    have oth : ∀ s ∈ F0, s.length = ps.length ∧ ext p s = [s ++ [sd p (cc p s)]] ∧ ∃ f, s = plOf ps f ∧ Met ps f ∧ ∃ q ∈ ps, f q ≠ b0 p q ∧ ∀ x, x ∈ sd q (f q) → x ∈ sd p (cc p s) := fun s hs => by
      have hsF : s ∈ F := pm.mem_iff.mpr (List.mem_cons_of_mem _ hs)
      obtain ⟨f, rfl, mf⟩ := (t.mem s).mp hsF
      rcases g.fit mf with ⟨a, _⟩ | ⟨c, a, b1, b2⟩
      · refine absurd hs ?_
        rw [plOf_congr a, ep0]
        exact nF0.1
      · obtain ⟨e1, e2⟩ := ext_one b1 b2
        exact ⟨plOf_len _ _, e1, f, rfl, mf, by rw [e2]; exact a⟩
    have l0 : p0.length = ps.length := by rw [← ep0]; exact plOf_len _ _
    have pm2 : (F.flatMap (ext p)).Perm ((p0 ++ [sd p true]) :: (p0 ++ [sd p false]) :: F0.map fun s => s ++ [sd p (cc p s)]) := by
      refine (pm.flatMap_right _).trans ?_
      rw [List.flatMap_cons, two, flat_map1 F0 fun s hs => (oth s hs).2.1]
      exact .refl _
    have inj : ∀ {s u : List (List α)} {c d : List α}, s ++ [c] = u ++ [d] → s = u ∧ c = d := fun {s u c d} e => by
      have := List.append_inj_left' e rfl
      subst this
      exact ⟨rfl, by simpa using e⟩
    have n2 : ((p0 ++ [sd p true]) :: (p0 ++ [sd p false]) :: F0.map fun s => s ++ [sd p (cc p s)]).Nodup := by
      refine List.nodup_cons.mpr ⟨fun z => ?_, List.nodup_cons.mpr ⟨fun z => ?_, ?_⟩⟩
      · rcases List.mem_cons.mp z with z | z
        · have := (g.ne hp').mp (inj z).2
          cases this
        · obtain ⟨s, hs, e⟩ := List.mem_map.mp z
          rw [(inj e).1] at hs
          exact nF0.1 hs
      · obtain ⟨s, hs, e⟩ := List.mem_map.mp z
        rw [(inj e).1] at hs
        exact nF0.1 hs
      · exact List.pairwise_map.mpr (nF0.2.imp fun ne e => ne (inj e).1)
    refine ⟨fun s => ?_, pm2.nodup_iff.mpr n2, ?_, ?_⟩
    · rw [List.mem_flatMap]
      constructor
      · rintro ⟨u, hu, hs⟩
        obtain ⟨f, rfl, mf⟩ := (t.mem u).mp hu
        obtain ⟨c, rfl, hc⟩ := ext_mem.mp hs
        have hc := fits_iff.mp hc
        have ef : ∀ q ∈ ps, (fun z => if z = p then c else f z) q = f q := fun q hq => if_neg fun z => pn (by rw [← z]; exact hq)
        have ep : (fun z => if z = p then c else f z) p = c := if_pos rfl
        refine ⟨fun z => if z = p then c else f z, ?_, fun q hq r hr => ?_⟩
        · rw [plOf_snoc, plOf_congr ef]
          show _ = plOf ps f ++ [sd p ((fun z => if z = p then c else f z) p)]
          rw [ep]
        · rcases List.mem_append.mp hq with hq | hq <;> rcases List.mem_append.mp hr with hr | hr
          · rw [ef q hq, ef r hr]; exact mf q hq r hr
          · rw [List.mem_singleton.mp hr, ef q hq, ep]
            obtain ⟨x, h1, h2⟩ := hc q hq
            exact ⟨x, h2, h1⟩
          · rw [List.mem_singleton.mp hq, ef r hr, ep]
            obtain ⟨x, h1, h2⟩ := hc r hr
            exact ⟨x, h1, h2⟩
          · rw [List.mem_singleton.mp hq, List.mem_singleton.mp hr]
            obtain ⟨x, hx⟩ := g.some_ hp' ((fun z => if z = p then c else f z) p)
            exact ⟨x, hx, hx⟩
      · rintro ⟨f, rfl, mf⟩
        refine ⟨plOf ps f, (t.mem _).mpr ⟨f, rfl, fun q hq r hr => mf q (List.mem_append_left _ hq) r (List.mem_append_left _ hr)⟩, ext_mem.mpr ⟨f p, plOf_snoc _ _ _, fits_iff.mpr fun q hq => ?_⟩⟩
        exact mf p hp' q (List.mem_append_left _ hq)
    · rw [pm2.length_eq, List.length_cons, List.length_cons, List.length_map, List.length_append]
      have h1 := t.len
      rw [pm.length_eq, List.length_cons] at h1
      show F0.length + 1 + 1 = ps.length + 1 + 1
      omega
    · rw [pc_perm nb_comm pm2, pc, pc, List.countP_cons, pc_map, List.countP_map, List.countP_map]
      have h1 := t.nbs
      rw [pc_perm nb_comm pm, pc] at h1
      have e1 : nb (p0 ++ [sd p true]) (p0 ++ [sd p false]) = true := by
        unfold nb
        rw [df_snoc rfl, (df_eq rfl).mpr rfl, if_neg (fun z => by have := (g.ne hp').mp z; cases this)]
        rfl
      have e2 : pc (fun a b => nb (a ++ [sd p (cc p a)]) (b ++ [sd p (cc p b)])) F0 = pc nb F0 := by
        refine pc_congr nF0.2 fun a ha b hb ne => ?_
        obtain ⟨la, _, f, ea, mf, hf⟩ := oth a ha
        obtain ⟨lb, _, k, eb, mk, hk⟩ := oth b hb
        have lab : a.length = b.length := la.trans lb.symm
        by_cases c : cc p a = cc p b
        · unfold nb
          rw [df_snoc lab, c, if_pos rfl]
          rfl
        · have eb2 := bool_ne c
          rw [eb2] at hk
          have fr := g.far mk mf hf hk
          rw [← ea, ← eb] at fr
          rw [fr]
          unfold nb
          rw [df_snoc lab, if_neg fun z => c ((g.ne hp').mp z)]
          refine decide_eq_false fun z => ?_
          have : df a b = 0 := by omega
          exact ne ((df_eq lab).mp this)
      have e3 : ∀ c : Bool, ∀ s ∈ F0, nb (p0 ++ [sd p c]) (s ++ [sd p (cc p s)]) = (nb p0 s && decide (cc p s = c)) := fun c s hs => by
        have ls := (oth s hs).1
        have lp : p0.length = s.length := l0.trans ls.symm
        have d0 : df p0 s ≠ 0 := fun z => nF0.1 (by rw [(df_eq lp).mp z]; exact hs)
        unfold nb
        rw [df_snoc lp]
        by_cases e : cc p s = c
        · rw [e, if_pos rfl, decide_eq_true (rfl : c = c), Bool.and_true]
          rfl
        · rw [if_neg (fun z => e ((g.ne hp').mp z).symm), decide_eq_false e, Bool.and_false]
          exact decide_eq_false fun z => d0 (by omega)
      have e4 : F0.countP ((nb (p0 ++ [sd p true])) ∘ fun s => s ++ [sd p (cc p s)]) + F0.countP ((nb (p0 ++ [sd p false])) ∘ fun s => s ++ [sd p (cc p s)]) = F0.countP (nb p0) := by
        rw [List.countP_congr (p := (nb (p0 ++ [sd p true])) ∘ fun s => s ++ [sd p (cc p s)]) (q := fun s => nb p0 s && decide (cc p s = true)) fun s hs => by rw [Function.comp, e3 true s hs],
          List.countP_congr (p := (nb (p0 ++ [sd p false])) ∘ fun s => s ++ [sd p (cc p s)]) (q := fun s => nb p0 s && decide (cc p s = false)) fun s hs => by rw [Function.comp, e3 false s hs]]
        exact count_two _ _ _
      rw [e1, e2, List.length_append]
      simp only [if_true]
      show _ = ps.length + 1
      omega
theorem Prts.few {h : α} {r : List α} {ps : List (List α × List α)} (g : Prts (h :: r) h ps) : ps.length ≤ r.length * r.length := by
  have inr : ∀ p ∈ ps, ∀ x ∈ p.2, x ∈ r := fun p hp x hx => by
    rcases List.mem_cons.mp (g.sub p hp x hx) with e | e
    · exact absurd (by rw [← e]; exact hx) (g.hd2 p hp)
    · exact e
  have nd : (ps.map fun p => (p.2.headD h, p.2.length)).Nodup := by
    refine List.pairwise_map.mpr ?_
    refine ((List.pairwise_and_iff).mpr ⟨g.nd, g.nc⟩).imp_of_mem fun {p q} hp hq hh e => ?_
    obtain ⟨ne, nc⟩ := hh
    obtain ⟨e1, e2⟩ := Prod.mk.inj e
    have hd : ∀ {z : List α × List α}, z ∈ ps → z.2.headD h ∈ z.2 := fun {z} hz => by
      cases ez : z.2 with
      | nil => exact absurd ez (g.ne2 z hz)
      | cons a l => exact List.mem_cons_self
    have m22 : meet p.2 q.2 = true := meet_iff.mpr ⟨_, hd hp, by rw [e1]; exact hd hq⟩
    have m11 : meet p.1 q.1 = true := meet_iff.mpr ⟨h, g.hd1 p hp, g.hd1 q hq⟩
    have same : (∀ x ∈ p.2, x ∈ q.2) ∨ (∀ x ∈ q.2, x ∈ p.2) := by
      unfold crossB at nc
      rw [m11, m22, Bool.true_and, Bool.and_true] at nc
      cases m12 : meet p.1 q.2 with
      | false =>
        refine .inr fun x hx => ?_
        exact (g.one hp x (g.sub q hq x hx) false).mpr fun y => meet_no.mp m12 x y hx
      | true =>
        rw [m12, Bool.true_and] at nc
        refine .inl fun x hx => ?_
        exact (g.one hq x (g.sub p hp x hx) false).mpr fun y => meet_no.mp nc x hx y
    have full : ∀ {a b : List α}, a.Nodup → b.Nodup → (∀ x ∈ a, x ∈ b) → a.length = b.length → ∀ x, x ∈ a ↔ x ∈ b := fun {a b} na nb s l x => by
      refine ⟨s x, fun hx => ?_⟩
      refine Classical.byContradiction fun y => ?_
      have := (List.nodup_cons.mpr ⟨y, na⟩).length_le_of_subset (l₂ := b) fun z hz => by
        rcases List.mem_cons.mp hz with e | hz
        · rw [e]; exact hx
        · exact s z hz
      rw [List.length_cons] at this
      omega
    rcases same with s | s
    · exact ne (g.eqv p hp q hq (full (g.nd2 p hp) (g.nd2 q hq) s e2))
    · exact ne (g.eqv p hp q hq fun x => (full (g.nd2 q hq) (g.nd2 p hp) s e2.symm x).symm)
  have sub : ∀ z ∈ ps.map (fun p => (p.2.headD h, p.2.length)), z ∈ r.flatMap fun x => (List.range r.length).map fun k => (x, k + 1) := fun z hz => by
    obtain ⟨p, hp, rfl⟩ := List.mem_map.mp hz
    have l1 : p.2.length ≤ r.length := (g.nd2 p hp).length_le_of_subset fun x hx => inr p hp x hx
    cases ez : p.2 with
    | nil => exact absurd ez (g.ne2 p hp)
    | cons a l =>
      rw [ez, List.length_cons] at l1
      refine List.mem_flatMap.mpr ⟨a, inr p hp a (by rw [ez]; exact List.mem_cons_self), List.mem_map.mpr ⟨l.length, List.mem_range.mpr l1, rfl⟩⟩
  have := nd.length_le_of_subset sub
  rw [List.length_map] at this
  refine Nat.le_trans this (Nat.le_of_eq ?_)
  have c : ∀ (l : List α) (n : Nat), (l.flatMap fun x => (List.range n).map fun k => (x, k + 1)).length = l.length * n := fun l n => by
    induction l with
    | nil => simp
    | cons a l ih => rw [List.flatMap_cons, List.length_append, ih, List.length_map, List.length_range, List.length_cons, Nat.succ_mul]; omega
  exact c r r.length
end
end Gx

/-! [val z for z in zs if p z], the test and the value told from without; any two of a list that cross. -/
namespace Gx
open PySem PySem.Spec PyProof.Rows L2 GxR
section
variable {J : It} {n : Nat} {G : Hp → Prop} {Y : Nat → Hp → V → Hp → Prop}
theorem lc_filt {β : Type} (w : Walk J n G Y) (zs : List β) (p : β → Bool) (val : β → V) {g : TG} {tt : TT} {te : TE} {vs : List Nat} {σ : L2.St} {H1 : Hp} {D : Addr} {Qd : Hp → Prop} (nD : H1 D = none) (hn : n = zs.length) (hz : zs.length ≤ 1000000)
    (hG : ∀ H, Grow [] H1 H → G H)
    (hs : ∀ i z x Ha Hb (Pu : V → Hp → Prop) (Pn : Hp → Prop), zs[i]? = some z → Grow [] H1 Ha → Y i Ha x Hb → (∀ Hc, Grow [] Ha Hc → p z = true → Pu (val z) Hc) → (∀ Hc, Grow [] Ha Hc → p z = false → Pn Hc) →
      g x (wipe σ vs) Hb fun σ2 H2 => wipe σ2 vs = wipe σ vs ∧ tt σ2 H2 fun b H3 => if b = true then te σ2 H3 Pu else Pn H3)
    (hd : ∀ H, Grow [] H1 H → H D = some (.lst ((zs.filter p).map val)) → Qd H) :
    ∃ W : Nat → Nat → Hp → Prop, (∃ m, W 0 m (upd H1 D (.lst []))) ∧ ∀ i m H, W i m H →
      (J.stop i H ∧ Qd H) ∨ (J.go i H ∧ ∃ Nx : Hp → Prop, (∀ H', Nx H' → ∃ m', m' < m ∧ W (i + 1) m' H') ∧ ∀ x H', J.yld i H x H' → g x (wipe σ vs) H' fun σ2 H2 => wipe σ2 vs = wipe σ vs ∧ tt σ2 H2 fun b H3 =>
        if b = true then te σ2 H3 fun y H4 => ∃ acc, H4 D = some (.lst acc) ∧ acc.length < sizeLine ∧ Nx (upd H4 D (.lst (acc ++ [y]))) else Nx H3) := by
  subst hn
  refine lc_it w (fun i H' => Grow [] H1 H' ∧ H' D = some (.lst (((zs.take i).filter p).map val))) ⟨grow_new nD, upd_same⟩ (fun i H' _ h => hG H' h.1) (fun i x Ha Hb hi hp hy => ?_) (fun H2 hp => ?_)
  · obtain ⟨ga, ea⟩ := hp
    obtain ⟨z, ez⟩ : ∃ z, zs[i]? = some z := ⟨_, List.getElem?_eq_getElem hi⟩
    have tk : zs.take (i + 1) = zs.take i ++ [z] := by rw [List.take_add_one, ez]; rfl
    refine hs i z x Ha Hb _ _ ez ga hy (fun Hc gc hb => ?_) (fun Hc gc hb => ?_)
    · have ec := gc.lst (by simp) ea
      refine ⟨_, ec, ?_, (ga.trans gc).put (fresh_none nD) ec (fun ps z => by cases z), ?_⟩
      · rw [List.length_map]
        have h1 := List.length_filter_le p (zs.take i)
        rw [List.length_take] at h1
        have : (1000001 : Nat) < sizeLine := by decide
        omega
      · rw [upd_same, tk, List.filter_append, List.filter_cons_of_pos hb, List.filter_nil, List.map_append]
        rfl
    · refine ⟨ga.trans gc, ?_⟩
      rw [gc.lst (by simp) ea, tk, List.filter_append, List.filter_cons_of_neg (by rw [hb]; exact Bool.false_ne_true), List.filter_nil, List.append_nil]
  · obtain ⟨g2, e2⟩ := hp
    rw [List.take_length] at e2
    exact hd H2 g2 e2
end
section
variable {α : Type} [DecidableEq α]
/-- any two of these partings cross -/
def crs (ps : List (List α × List α)) : Bool := (combos ps).any fun z => crossB z.1 z.2
theorem crs_iff (ps : List (List α × List α)) : crs ps = false ↔ ps.Pairwise fun p q => crossB p q = false := by
  unfold crs
  induction ps with
  | nil => exact ⟨fun _ => .nil, fun _ => rfl⟩
  | cons p ps ih =>
    rw [combos, List.any_append, Bool.or_eq_false_iff, ih, List.pairwise_cons, List.any_map, List.any_eq_false]
    refine and_congr_left fun _ => ?_
    exact ⟨fun h q hq => Bool.eq_false_iff.mpr fun z => h q hq z, fun h q hq z => by have := h q hq; rw [show crossB p q = true from z] at this; cases this⟩
end
end Gx

/-! ### xs.extend(t), t a tuple -/
namespace Gx
open PySem PySem.Spec PyProof.Rows L2 GxR GenW

theorem list_extend_tup (l : Addr) (items : Array Value) (n : Nat) (b : Addr) (items2 : Array Value) (n2 : Nat) (dd : Option Addr) (sl : Array (Option Value)) (hs0 : ¬(!items.isEmpty && Builtin.List.listTooLong (items.size + items2.size)) = true) (hs1 : items.size ≤ sizeLine) (hs2 : items.size + items2.size ≤ sizeLine + 1) :
    Meets (Builtin.«list.extend» ⟨[.ref l, .ref b], []⟩) (fun _ R s => s.heap.get? l = some { cls := .type "list", dict := none, data := .seq items n, slots := #[] } ∧ s.heap.get? b = some { cls := .type "tuple", dict := dd, data := .seq items2 n2, slots := sl } ∧ R (.ok (.ret Value.none)) { s with heap := s.heap.update l (Obj.mapSeq fun x => x ++ items2), toks := s.toks }) :=
  .of_wp fun prog w A R s h => by
    obtain ⟨hp, g, d, tk, os⟩ := s; obtain ⟨hl, hb, h⟩ := h; have f1 := AutoSeq1.idx_int; have f2 := F.sub_tuple_tuple; have f3 := F.sub_list_list; have f4 := F.sub_tuple_list; have f5 := F.sub_list_tuple;
    have hz' : (items ++ items2).size ≤ sizeLine + 1 := by rw [Array.size_append]; exact hs2
    wp_walk using (wpAny_updateSeq hl rfl (hz := hs1) (_hz' := hz')), wpAny_loadPart' hl, wpAny_loadPart' hb; exact ⟨_, rfl, h⟩
section
variable {X : Cx}
def rExtendT (K : PySem.W.Frag) : V → List V → Hp → VK → Prop := fun x vs H Q => ∃ l b xs zs, x = .ref l ∧ vs = [.ref b] ∧ H l = some (.lst xs) ∧ SqT K H b zs ∧ xs.length + zs.length ≤ sizeLine ∧ Q .non (upd H l (.lst (xs ++ zs)))
theorem mt_extendT : MtM X "list.extend" (rExtendT X.K) := by
  intro pins s σ H x vs v us Q I rx rv h
  obtain ⟨l, b, xs, zs, rfl, rfl, hH, hB, hz, q⟩ := h
  cases rx
  obtain ⟨u, rfl, ru⟩ := rv.one
  cases ru
  obtain ⟨z, its, n, r, hl, e⟩ := I.lstM hH
  obtain ⟨its2, r2, ⟨⟨cls, dd, data, sl⟩, ho, hc, n2, hd⟩, hl2⟩ := I.tuple hB
  simp only at hc hd
  subst hc hd
  have h1 := r.length
  have h2 := r2.length
  have hsz : its.toArray.size + its2.toArray.size ≤ sizeLine := by rw [List.size_toArray, List.size_toArray]; omega
  have hlong : ¬ (!its.toArray.isEmpty && Builtin.List.listTooLong (its.toArray.size + its2.toArray.size)) = true := by
    rw [notLongL hsz, Bool.and_false]
    exact Bool.false_ne_true
  refine call_meets F.slot_list_extend ⟨_, e, rfl⟩ F.entry_list_extend (F.args_list_extend_2 _ _)
    (list_extend_tup l its.toArray n b its2.toArray n2 dd sl hlong (by rw [List.size_toArray]; omega) (by omega)) ⟨e, ho, ?_⟩
  refine ⟨.non, _, I.lset (its' := its ++ its2) hH e (by simp) (r.append r2) ?_, rfl, q⟩
  rw [List.length_append]
  omega
end
end Gx

/-! ### a class of the text: its methods by FnG, its fields, a new instance -/
namespace Gx
open PySem PySem.Spec PyProof.Rows L2 GxR
/-- a method of the class at C -/
structure CalleeM (P : Program) (w : World) (K : PySem.W.Frag) (mg : Str → Option Value) (base : Heap) (CX : CXT) (k : Nat) (C : Addr) (m : Str) (ps : List Str) (sp : Sp) : Prop where
  is : ∃ f fd, FnG P w K mg base CX k f fd ps sp ∧ Meth K C m f ∧ Binds K fd ps []
  cls : Cls K C
/-- the class x, at C, is made by its __init__ -/
structure Maker (P : Program) (w : World) (K : PySem.W.Frag) (mg : Str → Option Value) (base : Heap) (CX : CXT) (k : Nat) (x : Str) (C : Addr) (ps : List Str) (sp : Sp) : Prop where
  is : ∃ f fd, FnG P w K mg base CX k f fd ps sp ∧ Mk K C f ∧ Binds K fd ps [] ∧ mg x = some (.ref C)
/-- o.m(..) -/
def tGM (C : Addr) (m : Str) (sp : Sp) (E : XK) (ta : TE) (t : TA) : TE := fun σ H Q => ta σ H fun x H1 => ∃ a dx fs, x = .ref a ∧ H1 a = some (.ins C dx fs) ∧ fs.lookup m = none ∧ t σ H1 fun vs H2 => sp (x :: vs) H2 Q E
/-- e.f -/
def tFN (C : Addr) (f : Str) (ta : TE) : TE := fun σ H Q => ta σ H fun x H1 => ∃ a dx fs v, x = .ref a ∧ H1 a = some (.ins C dx fs) ∧ fs.lookup f = some v ∧ Q v H1
/-- e.f = value -/
def sFN (C : Addr) (f : Str) (ta tv : TE) : TS := fun D σ H => tv σ H fun y H1 => ta σ H1 fun x H2 => ∃ a dx fs, x = .ref a ∧ H2 a = some (.ins C dx fs) ∧ fs.length < 1000 ∧ D.nx σ (upd H2 a (.ins C dx (putF f y fs)))
/-- C(..) -/
def tGMk (C : Addr) (sp : Sp) (E : XK) (t : TA) : TE := fun σ H Q => t σ H fun vs H1 => ∀ x dx, H1 x = none → H1 dx = none → dx ≠ x → sp (.ref x :: vs) (upd (upd H1 dx (.own x)) x (.ins C dx [])) (fun v H2 => v = .non ∧ Q (.ref x) H2) E
section
variable {X : Cx} {CX : CXT} {k : Nat} {C : Addr} {x m f : Str} {ps : List Str} {sp : Sp} {E : XK} {p pos apos pos' : Pos} {o e value : Expr} {es : List Expr} {t : TA} {ta tv : TE}
theorem pe_fN (c : Cls X.K C) (n : NoAttr X.K C f) (he : PE X e ta) (hb : attributeBase e f X.env (eval e X.env) = eval e X.env := by rfl) : PE X (.Attribute e f pos) (tFN C f ta) := by
  refine ⟨fun pins s σ H Q I h => ?_⟩
  refine attr_of hb (thn (he.run pins s σ H _ I h) fun u s1 ⟨x, H1, I1, rx, a, dx, fs, v, ex, ea, l, q⟩ => ?_)
  subst ex
  obtain rfl : u = Value.ref a := rx
  exact getattr_ok I1 ea c n l fun u' s2 I2 ru => ⟨v, H1, I2, ru, q⟩
theorem ps_fN (c : Cls X.K C) (n : NoAttr X.K C f) (ha : PE X o ta) (hv : PE X value tv) (hs : swapsWith value (some (.Attribute o f pos')) pos.line X.env = pure false := by rfl) : PS X (.Assign [.Attribute o f pos'] value pos) (sFN C f ta tv) := by
  refine ⟨fun pins s σ H D I h => ?_⟩
  refine plainObj_wpAny_Assign_Attribute (thn (hv.run pins s σ H _ I h) fun u s1 ⟨y, H1, I1, ry, q⟩ => thn (ha.run pins s1 σ H1 _ I1 q) fun ov s2 ⟨x, H2, I2, rx, a, dx, fs, ex, ea, l, q2⟩ => ?_) hs
  subst ex
  obtain rfl : ov = Value.ref a := rx
  exact setattr_ok I2 ea c n l ry fun s3 I3 => ⟨σ, _, I3, q2⟩
theorem pe_gm {pl : Sem Bool} (M : CalleeM X.prog X.w X.K X.mg X.base CX k C m ps sp) (g : X.A.guards = some []) (hr : Room k X.A) (hx : Passes CX X E) (he : PE X o ta) (ha : PA X (e :: es) t)
    (hst : starEach (e :: es) X.env = (false, eval e X.env) :: starEach es X.env := by rfl) (hpl : (backTo pos (starEach es X.env)).any (·.1) = false := by rfl)
    (ht : eval (.Call (.Attribute o m apos) (e :: es) [] pos) X.env = (do
      let ov ← eval o X.env
      standAt apos.atName
      let (f, first) ← holding [ov] (getMethod ov m pl)
      callWith pos f first (backTo pos (starEach (e :: es) X.env)) (backToKw pos (keywordEach [] X.env))) := by rfl) :
    PE X (.Call (.Attribute o m apos) (e :: es) [] pos) (tGM C m sp E ta t) := by
  obtain ⟨f, fd, F, hm, hb⟩ := M.is
  refine ⟨fun pins s σ H Q I h => ?_⟩
  refine PySem.W.methodCall_KW (pl := pl) (thn (he.run pins s σ H _ I h) fun u s1 ⟨x, H1, I1, rx, a, dx, fs, ex, ea, l, q⟩ => ?_) ht
  subst ex
  obtain rfl : u = Value.ref a := rx
  refine getmeth_ok I1 ea M.cls hm l ?_
  refine PySem.W.callWith_K (first := [.ref a]) (h₀ := X.base) I.ok.mod.kin hm.kp (thn (ha.run pos pins s1 σ H1 _ I1 q) fun us s2 ⟨vs, H2, I2, r, q2⟩ => ⟨I2.kIn, ?_⟩) hst hpl
  exact run_g (us := .ref a :: us) (vs := .ref a :: vs) F g hr hb hx I2 (.cons rfl r) q2
theorem pe_gm0 {pl : Sem Bool} (M : CalleeM X.prog X.w X.K X.mg X.base CX k C m ps sp) (g : X.A.guards = some []) (hr : Room k X.A) (hx : Passes CX X E) (he : PE X o ta)
    (ht : eval (.Call (.Attribute o m apos) [] [] pos) X.env = (do
      let ov ← eval o X.env
      standAt apos.atName
      let (f, first) ← holding [ov] (getMethod ov m pl)
      callWith pos f first (backTo pos (starEach [] X.env)) (backToKw pos (keywordEach [] X.env))) := by rfl) :
    PE X (.Call (.Attribute o m apos) [] [] pos) (tGM C m sp E ta tNil) := by
  obtain ⟨f, fd, F, hm, hb⟩ := M.is
  refine ⟨fun pins s σ H Q I h => ?_⟩
  refine PySem.W.methodCall_KW (pl := pl) (thn (he.run pins s σ H _ I h) fun u s1 ⟨x, H1, I1, rx, a, dx, fs, ex, ea, l, q⟩ => ?_) ht
  subst ex
  obtain rfl : u = Value.ref a := rx
  refine getmeth_ok I1 ea M.cls hm l ?_
  exact PySem.W.callWith_K0 (first := [.ref a]) I1.kIn hm.kp (run_g (us := [.ref a]) (vs := [.ref a]) F g hr hb hx I1 (.cons rfl .nil) q)
theorem run_gmk {pins : List (Addr × Obj)} {σ : L2.St} {H : Hp} {s : Shared} {Q : VK} {us : List Value} {vs : List V} {fA : Addr} {fd : FuncData} (M : Mk X.K C fA) (F : FnG X.prog X.w X.K X.mg X.base CX k fA fd ps sp) (g : X.A.guards = some []) (hr : Room (k + 1) X.A) (hb : Binds X.K fd ps []) (hx : Passes CX X E)
    (I : Inv X pins σ H s) (r : Vals vs us)
    (h : ∀ x dx, H x = none → H dx = none → dx ≠ x → sp (.ref x :: vs) (upd (upd H dx (.own x)) x (.ins C dx [])) (fun v H2 => v = .non ∧ Q (.ref x) H2) E) :
    wpAny (model X.prog X.w) X.A (call (.ref C) us) (EP X pins σ Q) X.xe s := by
  have hq := h (s.heap.objs.size + 1) s.heap.objs.size (I.hok.fresh (Nat.le_succ _)) (I.hok.fresh (Nat.le_refl _)) (Nat.ne_of_lt (Nat.lt_succ_self _))
  have I2 := Inv.made (C := C) I
  have r2 : Vals (V.ref (s.heap.objs.size + 1) :: vs) (Value.ref (s.heap.objs.size + 1) :: us) := .cons rfl r
  have hl : ((Value.ref (s.heap.objs.size + 1) :: us) ++ ([] : List Value)).length = ps.length := by rw [List.append_nil, ← r2.length]; exact F.many _ _ _ _ hq
  have hB := hb _ (Value.ref (s.heap.objs.size + 1) :: us) I2.kIn hl
  rw [List.append_nil] at hB
  refine wpAny_call (make_map (f := fA) I.kIn M.makes M.init (beq_iff_eq.mp M.fn) (codeAny_mono (F.runs _ X.stack _ _ ⟨Value.ref (s.heap.objs.size + 1) :: us, []⟩ (Value.ref (s.heap.objs.size + 1) :: us) _ _ E g (hr.make C us [])
    (I2.env0.make C us []) hB r2 hq) fun r s' hq' => ?_))
  cases r with
  | error e => exact hx pins σ _ _ e s' I2 hq'
  | ok fl =>
    cases fl with
    | ret u =>
      obtain ⟨v, H', I3, rv, ev, q3⟩ := I2.after hq'
      subst ev
      exact ⟨rv, ⟨V.ref (s.heap.objs.size + 1), H', I3, rfl, q3⟩⟩
    | next => exact False.elim hq'
    | brk => exact False.elim hq'
    | cont => exact False.elim hq'
theorem pe_gmk (M : Maker X.prog X.w X.K X.mg X.base CX k x C ps sp) (g : X.A.guards = some []) (hr : Room (k + 1) X.A) (hx : Passes CX X E) (ha : PA X (e :: es) t) (hg : Gl X x := by rfl)
    (hdb : (x == ("__debug__" : Str)) = false := by decide) (he : starEach (e :: es) X.env = (false, eval e X.env) :: starEach es X.env := by rfl) (hpl : (backTo pos (starEach es X.env)).any (·.1) = false := by rfl) :
    PE X (.Call (.Name x p) (e :: es) [] pos) (tGMk C sp E t) := by
  obtain ⟨f, fd, F, hm, hb, hmg⟩ := M.is
  refine ⟨fun pins s σ H Q I h => ?_⟩
  refine wpAny_Call_Name_kw (ld_glob I hg hmg ?_ hdb)
  refine PySem.W.callWith_K (h₀ := X.base) I.ok.mod.kin hm.kp (thn (ha.run pos pins s σ H _ I h) fun us s1 ⟨vs, H1, I1, r, q⟩ => ⟨I1.kIn, ?_⟩) he hpl
  exact run_gmk hm F g hr hb hx I1 r q
end
end Gx

/-! sorted(d), d a dict with pairs of texts as keys -/
namespace Gx
open PySem PySem.Spec PyProof.Rows L2 GxR GenW
section
variable {X : Cx}
def tkP (k : Str × Str) : List Key := [Sum.inr k.1, Sum.inr k.2]
def rSortK : List V → Hp → VK → Prop := fun xs H Q => ∃ (a : Addr) (kvs : List (List Key × V)) (ks : List (Str × Str)), xs = [.ref a] ∧ Rd H a (.dT kvs) ∧ kvs.map (·.1) = ks.map tkP ∧ ks.length ≤ sizeLine ∧
  ∀ (ps : List (Addr × (Str × Str))) p, H p = none → (∀ b ∈ ps, H b.1 = some (.tup [.str b.2.1, .str b.2.2])) → ps.map (·.2) = ks.mergeSort (PySem.W.dataLe false encP) → Q (.ref p) (upd H p (.lst (ps.map fun b => V.ref b.1)))
/-- the keys, with their addresses -/
theorem keys_at {H : Hp} : ∀ {kvs : List (List Key × V)} {xs : List (List Key × Addr × Value)} {ks : List (Str × Str)}, KT H kvs xs → kvs.map (·.1) = ks.map tkP →
    ∃ ps : List (Addr × (Str × Str)), ps.map (·.2) = ks ∧ ps.map (·.1) = xs.map (·.2.1) ∧ ∀ b ∈ ps, H b.1 = some (.tup [.str b.2.1, .str b.2.2])
  | [], _, ks, h, e => by
    cases h
    cases ks with
    | nil => exact ⟨[], rfl, rfl, fun b hb => by cases hb⟩
    | cons k ks => cases e
  | kv :: kvs, _, ks, h, e => by
    cases h with
    | @cons _ y _ ys h1 h2 =>
      cases ks with
      | nil => cases e
      | cons k ks =>
        injection e with e1 e2
        obtain ⟨ps, a1, a2, a3⟩ := keys_at h2 e2
        refine ⟨(y.2.1, k) :: ps, by rw [List.map_cons, a1], by rw [List.map_cons, List.map_cons, a2], fun b hb => ?_⟩
        rcases List.mem_cons.mp hb with q | q
        · rw [q]
          have := h1.2.1
          rw [show kv.1 = tkP k from e1] at this
          exact this
        · exact a3 b q
theorem cr_sortK (hcalm : X.calm = true) (hu : X.A.units + 64 < cLine) : CallR X (.builtin "sorted") rSortK := by
  intro pins s σ H xs us Q I r q
  obtain ⟨a, kvs, ks, ex, hd, hks, h64, q⟩ := q
  subst ex
  obtain ⟨u, eu, rx⟩ := vals1 r
  subst eu
  cases rx
  obtain ⟨z, lo, xs, rel, dd⟩ := dt_rd I.hok hd
  obtain ⟨o, es, ep, eo, ex, ed, ees, eis, end_⟩ := dd
  obtain ⟨ps, ps1, ps2, ps3⟩ := keys_at rel hks
  have hl : es.size = ks.length := by
    have e1 := congrArg List.length ees
    have e2 := congrArg List.length ps1
    have e3 := congrArg List.length ps2
    rw [List.length_map] at e1 e2 e3
    rw [List.length_map] at e3
    rw [Array.length_toList] at e1
    omega
  have psl : ps.length = ks.length := by rw [← ps1, List.length_map]
  refine Calls.call_function_entry PyProof.Rows.kind_sorted PyProof.Rows.plain_sorted PyProof.Rows.entry_sorted (PyProof.Rows.args_sorted1 _) ?_
  unfold Builtin.«sorted»
  refine wpAny_bind (m := checkCount "sorted" 1 1 _) (wpAny_pure ?_)
  refine wpAny_bind (PySem.W.kdu_collect (A := X.A.in1) (kdl_raw lo ex ed) (I.ok.hd hcalm) eo (by rw [hl]; exact h64) fun h' tk acc hk hacc => ?_)
  have eacc : acc.toList = ps.map fun b => Value.ref b.1 := by
    refine List.ext_getElem? fun j => ?_
    by_cases hj : j < acc.size
    · obtain ⟨en, e1, e2⟩ := hacc.2 j (acc[j]) (Array.getElem?_eq_getElem hj)
      have e3 : es.toList[j]? = some en := by rw [Array.getElem?_toList]; exact e1
      rw [ees, List.getElem?_map] at e3
      cases e4 : xs[j]? with
      | none => rw [e4] at e3; cases e3
      | some x =>
        rw [e4] at e3
        have e5 := Option.some.inj e3
        have e6 : (ps.map (·.1))[j]? = some x.2.1 := by rw [ps2, List.getElem?_map, e4]; rfl
        rw [List.getElem?_map] at e6
        cases e7 : ps[j]? with
        | none => rw [e7] at e6; cases e6
        | some b =>
          rw [e7] at e6
          have e8 : b.1 = x.2.1 := Option.some.inj e6
          rw [Array.getElem?_toList, Array.getElem?_eq_getElem hj, e2, List.getElem?_map, e7, ← e5]
          show some (Value.ref x.2.1) = some (Value.ref b.1)
          rw [e8]
    · rw [Array.getElem?_toList, Array.getElem?_eq_none (by omega), List.getElem?_map, List.getElem?_eq_none (by have := hacc.1; omega)]
      rfl
  have hal : acc.toList.length = ks.length := by rw [eacc, List.length_map, psl]
  have I1 : Inv X pins σ H { s with heap := h', toks := tk } := I.kept hk
  refine wpAny_bind (wpAny_newList ?_ (by rw [hal]; exact h64))
  have hoL : (h'.push (seqObj "list" acc.toList.toArray 0)).get? h'.objs.size = some (seqObj "list" acc.toList.toArray 0) := Heap.get?_push_size _ rfl
  show wpAny _ _ _ _ _ { s with heap := h'.push (seqObj "list" acc.toList.toArray 0), toks := tk }
  have I2 : Inv X pins σ H { s with heap := h'.push (seqObj "list" acc.toList.toArray 0), toks := tk } := I1.kept fun b u e => Heap.get?_push_of_some _ e
  have rd : ∀ b ∈ ps, Reads (h'.push (seqObj "list" acc.toList.toArray 0)) (.ref b.1) (encP b.2) [] := fun b hb => by
    obtain ⟨_, its, vi, ti⟩ := I2.hok _ _ (ps3 b hb)
    obtain ⟨ot, t1, t2, n, t3⟩ := ti
    cases vi with
    | cons r1 r2 =>
      cases r2 with
      | cons r3 r4 =>
        cases r4
        obtain ⟨u1, rfl⟩ := r1
        obtain ⟨u2, rfl⟩ := r3
        exact Reads.tuple t1 t2 t3 (ReadsAll.cons (Reads.str _ _) (ReadsAll.cons (Reads.str _ _) ReadsAll.nil))
  have each : ∀ {qs : List (Addr × (Str × Str))}, (∀ b ∈ qs, b ∈ ps) → PySem.W.EachIs (fun (v : Value) (b : Addr × (Str × Str)) => v = .ref b.1 ∧ b ∈ ps) (qs.map fun b => Value.ref b.1) qs := fun {qs} => by
    induction qs with
    | nil => exact fun _ => .nil
    | cons b qs ih => exact fun h => .cons ⟨rfl, h b List.mem_cons_self⟩ (ih fun d hd => h d (List.mem_cons_of_mem _ hd))
  have ev : PySem.W.EachIs (fun (v : Value) (b : Addr × (Str × Str)) => v = .ref b.1 ∧ b ∈ ps) acc.toList ps := by rw [eacc]; exact each fun b hb => hb
  have er : PySem.W.EachIs (fun v (b : Addr × (Str × Str)) => ∃ as, Reads (h'.push (seqObj "list" acc.toList.toArray 0)) v (encP b.2) as ∧ h'.objs.size ∉ as) acc.toList ps := each_mem ev fun v b hb rb => by
    rw [rb.1]
    exact ⟨_, rd b hb, List.not_mem_nil⟩
  have em : ps.map (fun b => encP b.2) = (ps.map (·.2)).map encP := by rw [List.map_map]; rfl
  refine wpAny_bind (wpAny_holding (PySem.W.list_sort_data (enc := fun b : Addr × (Str × Str) => encP b.2) (s := { s with heap := h'.push (seqObj "list" acc.toList.toArray 0), toks := tk }) hoL ev er (by rw [em]; exact alike_pairs _) (by rw [em]; exact sortable_pairs _) (by rw [psl]; exact h64) (fun b hb => by
    have : (encP b.2).depth ≤ 1 := by simp [encP, PyData.depth, PyData.depthAll]
    show X.A.in1.units + 1 + (encP b.2).depth < cLine
    have : X.A.in1.units ≤ X.A.units + 32 := by
      show X.A.units + 1 ≤ X.A.units + 32
      omega
    omega) fun out ho eo2 => ?_))
  obtain ⟨ps', hps'⟩ : ∃ ps', ps.mergeSort (PySem.W.dataLe false fun b : Addr × (Str × Str) => encP b.2) = ps' := ⟨_, rfl⟩
  rw [hps'] at eo2
  have pm : ps'.Perm ps := by rw [← hps']; exact List.mergeSort_perm _ _
  have rout : Vals (ps'.map fun b => V.ref b.1) out := by
    have : ∀ {vs : List Value} {bs : List (Addr × (Str × Str))}, PySem.W.EachIs (fun (v : Value) (b : Addr × (Str × Str)) => v = .ref b.1 ∧ b ∈ ps) vs bs → Vals (bs.map fun b => V.ref b.1) vs := fun h => by
      induction h with
      | nil => exact .nil
      | cons h1 _ ih => exact .cons (by rw [h1.1]; rfl) ih
    exact this eo2
  obtain ⟨e', he'⟩ := PyProof.Rows.sortedHeap_at (vs := acc.toList) (out := out.toArray) hoL
  have hlen : (ps'.map fun b => V.ref b.1).length ≤ sizeLine := by rw [List.length_map, pm.length_eq, psl]; exact h64
  refine wpAny_pure ⟨_, rfl, .ref h'.objs.size, upd H h'.objs.size (.lst (ps'.map fun b => V.ref b.1)), I1.laid (t' := tk) (fun b u e => ?_) (Nat.le_refl _)
    (show ObjOk X.prog X.w _ _ _ (.lst (ps'.map fun b => V.ref b.1)) from ⟨hlen, out, e', rout, he'⟩), rfl, q ps' _ (I1.hok.fresh (Nat.le_refl _)) (fun b hb => ps3 b (pm.mem_iff.mp hb)) ?_⟩
  · have hb : b < h'.objs.size := Heap.lt_size e
    rw [PyProof.Rows.sortedHeap_old (Nat.ne_of_lt hb) (by rw [size_push']; exact Nat.lt_succ_of_lt hb)]
    exact Heap.get?_push_of_some _ e
  · rw [← hps', List.map_mergeSort (f := Prod.snd) (r := PySem.W.dataLe false fun b : Addr × (Str × Str) => encP b.2) (s := PySem.W.dataLe false encP) fun a _ b _ => rfl, ps1]
end
end Gx

namespace Lw
open PySem PySem.Spec PyProof.Rows L2 GxR Gx
def topS (i : Nat) : Stmt := PySem.Challenge.pw_heardapart_k22_fewest_hearings.main.body.getD i (.Pass ⟨0, 0, 0, 0⟩)
def inS (s : Stmt) (j : Nat) : Stmt := match s with | .ClassDef _ _ _ b _ _ _ _ _ _ _ => b.getD j (.Pass ⟨0, 0, 0, 0⟩) | _ => .Pass ⟨0, 0, 0, 0⟩
/-- what the head says of the class -/
structure NetC (K : PySem.W.Frag) (C : Addr) : Prop where
  cls : Cls K C
  n_beside : NoAttr K C "_beside"
  n_near : NoAttr K C "_near"
  n_books : NoAttr K C "_books"
  n_mouths : NoAttr K C "_mouths"
  n_sent : NoAttr K C "_sent"
  n_heard : NoAttr K C "_heard"
abbrev st_wall : Stmt := topS 0
abbrev N_wall : List Str := ["k"]
theorem sc_wall : FnScope N_wall ["k"] (defScope st_wall) := ⟨rfl, rfl, rfl, by decide +kernel, rfl, by decide +kernel, by decide +kernel⟩
abbrev st_is_name : Stmt := topS 10
abbrev N_is_name : List Str := ["thing", "letter"]
theorem sc_is_name : FnScope N_is_name ["thing"] (defScope st_is_name) := ⟨rfl, rfl, rfl, by decide +kernel, rfl, by decide +kernel, by decide +kernel⟩
abbrev st_Net_init : Stmt := inS (topS 12) 0
abbrev N_Net_init : List Str := ["self", "name"]
theorem sc_Net_init : FnScope N_Net_init ["self", "name"] (defScope st_Net_init) := ⟨rfl, rfl, rfl, by decide +kernel, rfl, by decide +kernel, by decide +kernel⟩
abbrev st_Net_join : Stmt := inS (topS 12) 1
abbrev N_Net_join : List Str := ["self", "name", "hand"]
theorem sc_Net_join : FnScope N_Net_join ["self", "name", "hand"] (defScope st_Net_join) := ⟨rfl, rfl, rfl, by decide +kernel, rfl, by decide +kernel, by decide +kernel⟩
abbrev st_Net_shout : Stmt := inS (topS 12) 2
abbrev N_Net_shout : List Str := ["self", "hand", "word"]
theorem sc_Net_shout : FnScope N_Net_shout ["self", "hand", "word"] (defScope st_Net_shout) := ⟨rfl, rfl, rfl, by decide +kernel, rfl, by decide +kernel, by decide +kernel⟩
abbrev st_Net_step : Stmt := inS (topS 12) 3
abbrev N_Net_step : List Str := ["self", "hand", "other"]
theorem sc_Net_step : FnScope N_Net_step ["self", "hand", "other"] (defScope st_Net_step) := ⟨rfl, rfl, rfl, by decide +kernel, rfl, by decide +kernel, by decide +kernel⟩
abbrev st_Net_web : Stmt := inS (topS 12) 5
abbrev N_Net_web : List Str := ["self", "roads", "one", "other"]
theorem sc_Net_web : FnScope N_Net_web ["self"] (defScope st_Net_web) := ⟨rfl, rfl, rfl, by decide +kernel, rfl, by decide +kernel, by decide +kernel⟩
abbrev st_Net_words : Stmt := inS (topS 12) 6
abbrev N_Net_words : List Str := ["self"]
theorem sc_Net_words : FnScope N_Net_words ["self"] (defScope st_Net_words) := ⟨rfl, rfl, rfl, by decide +kernel, rfl, by decide +kernel, by decide +kernel⟩
abbrev st_Net_mouth : Stmt := inS (topS 12) 7
abbrev N_Net_mouth : List Str := ["self", "word"]
theorem sc_Net_mouth : FnScope N_Net_mouth ["self", "word"] (defScope st_Net_mouth) := ⟨rfl, rfl, rfl, by decide +kernel, rfl, by decide +kernel, by decide +kernel⟩
abbrev st_Net_book : Stmt := inS (topS 12) 8
abbrev N_Net_book : List Str := ["self", "hand"]
theorem sc_Net_book : FnScope N_Net_book ["self", "hand"] (defScope st_Net_book) := ⟨rfl, rfl, rfl, by decide +kernel, rfl, by decide +kernel, by decide +kernel⟩
abbrev st_Net_lane : Stmt := inS (topS 12) 9
abbrev N_Net_lane : List Str := ["self", "hand", "other"]
theorem sc_Net_lane : FnScope N_Net_lane ["self", "hand", "other"] (defScope st_Net_lane) := ⟨rfl, rfl, rfl, by decide +kernel, rfl, by decide +kernel, by decide +kernel⟩
abbrev st_Net_hearings_to : Stmt := inS (topS 12) 14
abbrev N_Net_hearings_to : List Str := ["self", "hand", "word", "way", "having", "one", "lane", "many", "told", "further"]
theorem sc_Net_hearings_to : FnScope N_Net_hearings_to ["self", "hand", "word"] (defScope st_Net_hearings_to) := ⟨rfl, rfl, rfl, by decide +kernel, rfl, by decide +kernel, by decide +kernel⟩
abbrev st_Net_check_hand : Stmt := inS (topS 12) 15
abbrev N_Net_check_hand : List Str := ["self", "thing"]
theorem sc_Net_check_hand : FnScope N_Net_check_hand ["self", "thing"] (defScope st_Net_check_hand) := ⟨rfl, rfl, rfl, by decide +kernel, rfl, by decide +kernel, by decide +kernel⟩
abbrev st_Net_check_word : Stmt := inS (topS 12) 16
abbrev N_Net_check_word : List Str := ["self", "thing"]
theorem sc_Net_check_word : FnScope N_Net_check_word ["self", "thing"] (defScope st_Net_check_word) := ⟨rfl, rfl, rfl, by decide +kernel, rfl, by decide +kernel, by decide +kernel⟩
abbrev st_Net_many_on : Stmt := inS (topS 12) 17
abbrev N_Net_many_on : List Str := ["self", "lane"]
theorem sc_Net_many_on : FnScope N_Net_many_on ["self", "lane"] (defScope st_Net_many_on) := ⟨rfl, rfl, rfl, by decide +kernel, rfl, by decide +kernel, by decide +kernel⟩
abbrev st_Net_hear : Stmt := inS (topS 12) 18
abbrev N_Net_hear : List Str := ["self", "hand", "other", "lane", "word"]
theorem sc_Net_hear : FnScope N_Net_hear ["self", "hand", "other"] (defScope st_Net_hear) := ⟨rfl, rfl, rfl, by decide +kernel, rfl, by decide +kernel, by decide +kernel⟩
abbrev st_Net_write : Stmt := inS (topS 12) 19
abbrev N_Net_write : List Str := ["self", "hand", "word", "source", "book", "other"]
theorem sc_Net_write : FnScope N_Net_write ["self", "hand", "word", "source"] (defScope st_Net_write) := ⟨rfl, rfl, rfl, by decide +kernel, rfl, by decide +kernel, by decide +kernel⟩
abbrev st_Net_way_to_first : Stmt := inS (topS 12) 20
abbrev N_Net_way_to_first : List Str := ["self", "hand", "way"]
theorem sc_Net_way_to_first : FnScope N_Net_way_to_first ["self", "hand"] (defScope st_Net_way_to_first) := ⟨rfl, rfl, rfl, by decide +kernel, rfl, by decide +kernel, by decide +kernel⟩
abbrev st_Net_way : Stmt := inS (topS 12) 21
abbrev N_Net_way : List Str := ["self", "one", "other", "ones", "others"]
theorem sc_Net_way : FnScope N_Net_way ["self", "one", "other"] (defScope st_Net_way) := ⟨rfl, rfl, rfl, by decide +kernel, rfl, by decide +kernel, by decide +kernel⟩
abbrev st_law_bag : Stmt := topS 14
abbrev N_law_bag : List Str := ["script", "k", "cell"]
theorem sc_law_bag : FnScope N_law_bag ["script", "k"] (defScope st_law_bag) := ⟨rfl, rfl, rfl, by decide +kernel, rfl, by decide +kernel, by decide +kernel⟩
abbrev st_law_take : Stmt := topS 15
abbrev N_law_take : List Str := ["bag", "many", "found", "mark"]
theorem sc_law_take : FnScope N_law_take ["bag", "many"] (defScope st_law_take) := ⟨rfl, rfl, rfl, by decide +kernel, rfl, by decide +kernel, by decide +kernel⟩
abbrev st_law_pick : Stmt := topS 16
abbrev N_law_pick : List Str := ["bag", "things"]
theorem sc_law_pick : FnScope N_law_pick ["bag", "things"] (defScope st_law_pick) := ⟨rfl, rfl, rfl, by decide +kernel, rfl, by decide +kernel, by decide +kernel⟩
abbrev st_law_name : Stmt := topS 17
abbrev N_law_name : List Str := ["bag", "some", "letters", "name", "turn", "sign"]
theorem sc_law_name : FnScope N_law_name ["bag", "some"] (defScope st_law_name) := ⟨rfl, rfl, rfl, by decide +kernel, rfl, by decide +kernel, by decide +kernel⟩
abbrev st_law_pairs : Stmt := topS 18
abbrev N_law_pairs : List Str := ["net", "found", "one", "other", "pair"]
theorem sc_law_pairs : FnScope N_law_pairs ["net"] (defScope st_law_pairs) := ⟨rfl, rfl, rfl, by decide +kernel, rfl, by decide +kernel, by decide +kernel⟩
abbrev st_law_hears : Stmt := topS 19
abbrev N_law_hears : List Str := ["bag", "net", "many", "turn", "pairs", "one", "other"]
theorem sc_law_hears : FnScope N_law_hears ["bag", "net", "many"] (defScope st_law_hears) := ⟨rfl, rfl, rfl, by decide +kernel, rfl, by decide +kernel, by decide +kernel⟩
abbrev st_law_deed : Stmt := topS 20
abbrev N_law_deed : List Str := ["bag", "net", "most", "hands", "roads", "way", "name", "hand", "word"]
theorem sc_law_deed : FnScope N_law_deed ["bag", "net", "most"] (defScope st_law_deed) := ⟨rfl, rfl, rfl, by decide +kernel, rfl, by decide +kernel, by decide +kernel⟩
abbrev st_law_way : Stmt := topS 21
abbrev N_law_way : List Str := ["roads", "one", "other", "rows", "row", "pair", "further"]
theorem sc_law_way : FnScope N_law_way ["roads", "one", "other"] (defScope st_law_way) := ⟨rfl, rfl, rfl, by decide +kernel, rfl, by decide +kernel, by decide +kernel⟩
abbrev st_law_meeting : Stmt := topS 22
abbrev N_law_meeting : List Str := ["roads", "one", "two", "three", "some", "hand"]
theorem sc_law_meeting : FnScope N_law_meeting ["roads", "one", "two", "three"] (defScope st_law_meeting) := ⟨rfl, rfl, rfl, by decide +kernel, rfl, by decide +kernel, by decide +kernel⟩
abbrev st_law_done : Stmt := topS 23
abbrev N_law_done : List Str := ["net", "done"]
theorem sc_law_done : FnScope N_law_done ["net", "done"] (defScope st_law_done) := ⟨rfl, rfl, rfl, by decide +kernel, rfl, by decide +kernel, by decide +kernel⟩
abbrev st_law_due : Stmt := topS 24
abbrev N_law_due : List Str := ["net", "hand", "word", "way", "last", "at", "one", "total", "many", "lane"]
theorem sc_law_due : FnScope N_law_due ["net", "hand", "word"] (defScope st_law_due) := ⟨rfl, rfl, rfl, by decide +kernel, rfl, by decide +kernel, by decide +kernel⟩
abbrev st_law_counted : Stmt := topS 25
abbrev N_law_counted : List Str := ["net", "hand", "word", "way", "last", "at", "one"]
theorem sc_law_counted : FnScope N_law_counted ["net", "hand", "word"] (defScope st_law_counted) := ⟨rfl, rfl, rfl, by decide +kernel, rfl, by decide +kernel, by decide +kernel⟩
abbrev st_law_one_more : Stmt := topS 26
abbrev N_law_one_more : List Str := ["bag", "net", "hand", "word", "pairs", "pair", "ahead", "less", "behind"]
theorem sc_law_one_more : FnScope N_law_one_more ["bag", "net", "hand", "word"] (defScope st_law_one_more) := ⟨rfl, rfl, rfl, by decide +kernel, rfl, by decide +kernel, by decide +kernel⟩
abbrev st_law_led : Stmt := topS 27
abbrev N_law_led : List Str := ["net", "hand", "word", "many", "turn", "lanes", "pair"]
theorem sc_law_led : FnScope N_law_led ["net", "hand", "word"] (defScope st_law_led) := ⟨rfl, rfl, rfl, by decide +kernel, rfl, by decide +kernel, by decide +kernel⟩
abbrev st_law : Stmt := topS 28
abbrev N_law : List Str := ["script", "net", "k", "bag", "slow", "turn", "words", "hand", "word", "step"]
theorem sc_law : FnScope N_law ["script"] (defScope st_law) := ⟨rfl, rfl, rfl, by decide +kernel, rfl, by decide +kernel, by decide +kernel⟩
/-- names that the top leaves to the built-ins -/
structure Nb (mg : Str → Option Value) : Prop where
  n_all : mg "all" = none
  n_enumerate : mg "enumerate" = none
  n_int : mg "int" = none
  n_len : mg "len" = none
  n_list : mg "list" = none
  n_max : mg "max" = none
  n_min : mg "min" = none
  n_range : mg "range" = none
  n_sorted : mg "sorted" = none
  n_str : mg "str" = none
  n_type : mg "type" = none
  n_zip : mg "zip" = none
section
variable {P : Program} {w : World} {K : PySem.W.Frag} {mg : Str → Option Value} {base : Heap}
/-! ### is_name -/
def nameC (c : Nat) : Bool := decide (97 ≤ c) && decide (c ≤ 122)
def isNm (z : Str) : Bool := decide (1 ≤ z.length) && decide (z.length ≤ 8) && z.cps.toList.all nameC
def spIsName (K : PySem.W.Frag) (T : Addr) : Sp := fun vs H Q _ => ∃ x, vs = [x] ∧ TabG H T ∧
  ((∃ z : Str, x = .str z ∧ z.length ≤ sizeLine ∧ ∀ H', Grow [] H H' → Q (.bl (isNm z)) H') ∨ ∃ U, U ≠ "str" ∧ TyB K H x U ∧ Q (.bl false) H)
theorem lt1 (a b : Nat) : decide ([a] < [b]) = decide (a < b) := by
  have h : ([a] < [b]) ↔ a < b := by
    rw [List.cons_lt_cons_iff]
    simp
  exact decide_eq_decide.mpr h
theorem ge_a (c : Nat) : (!decide ([c] < [97])) = decide (97 ≤ c) := by
  rw [lt1]
  by_cases h : 97 ≤ c
  · rw [decide_eq_true h, decide_eq_false (by omega)]; rfl
  · rw [decide_eq_false h, decide_eq_true (by omega)]; rfl
theorem le_z (c : Nat) : (!decide ([122] < [c])) = decide (c ≤ 122) := by
  rw [lt1]
  by_cases h : c ≤ 122
  · rw [decide_eq_true h, decide_eq_false (by omega)]; rfl
  · rw [decide_eq_false h, decide_eq_true (by omega)]; rfl
theorem ok_is_name {f c T : Addr} {fd : FuncData} {tk : Tok} (B : Nb mg) (D : DefIs K "is_name" "is_name" st_is_name f fd (.ref c)) (x_is_name : TabB base mg c T) (k_MOST_LETTERS : mg "MOST_LETTERS" = some (.int 8 tk)) :
    FnG P w K mg base CX0 4 f fd ["thing"] (spIsName K T) := by
  refine D.ok0 (k := 3) sc_is_name (fun vs H Q E h => ?_) (fun A outer s H vs Q E g hr h => ?_)
  · obtain ⟨x, rfl, _⟩ := h
    rfl
  obtain ⟨x, rfl, tT, h⟩ := h
  refine ⟨_,
      (pss_cons (ps_if (PW.pt (pw_or (pt_cmpR (op_notTyB) (pe_callTy call_type1 rfl B.n_type (by decide +kernel) (pa_cons (pv 0) pa_nil)) (pe_bltn (v := .ty "str") rfl B.n_str (by decide +kernel) rfl) (nomark _)) (pw_or1 (pt_not (pt_chain (op_le) (op_le) pe_int (pe_callB call_len_str rfl B.n_len PySem.boot_len (pa_cons (pv 0) pa_nil)) (pe_glob (v := .int 8) rfl k_MOST_LETTERS ⟨_, rfl⟩)))))) (
        (pss_one (ps_ret pe_bl))) pss_nil)
      (pss_one (ps_ret (pe_allG (own := [("letter", 1)]) hr (gx_ok (N := N_is_name) (dsc := defScope st_is_name) x_is_name sc_is_name.nd (by decide +kernel) (by decide +kernel)) rfl B.n_all (by decide +kernel) (pi_str (pv 0)) (fun _ _ _ _ _ => (pg_name (i := 1) sc_is_name.nd rfl (.inl rfl))) (fun _ _ _ _ _ => pe_to (pe_chain (op_le_str) (op_le_str) pe_str (pv 1) pe_str)))))), ?_⟩
  rcases h with ⟨z, rfl, hz, q⟩ | ⟨U, hU, ty, q⟩
  · refine ⟨.str z, rfl, _, "str", rfl, .str z, "str", "str", rfl, rfl, _, rfl, iteNS rfl ⟨.str z, rfl, z, rfl, hz, 1, z.length, rfl, rfl, _, rfl, ?_⟩⟩
    have no : isNm z = false → Q (.bl false) H := fun e => by
      rw [← e]
      exact q H (Grow.refl _ _)
    by_cases h1 : (1 : Int) ≤ z.length
    · rw [if_pos (decide_eq_true h1)]
      refine ⟨z.length, 8, rfl, rfl, _, rfl, ?_⟩
      by_cases h8 : (z.length : Int) ≤ 8
      · rw [decide_eq_true h8]
        refine iteF ⟨.str z, rfl, z, rfl, tT, ?_⟩
        have hall : ∀ b : Bool, b = z.cps.toList.all nameC → ∀ H', Grow [] H H' → Q (.bl b) H' := fun b e H' gr => by
          have e2 : isNm z = b := by
            unfold isNm
            rw [decide_eq_true (by omega : 1 ≤ z.length), decide_eq_true (by omega : z.length ≤ 8), e]
            rfl
          rw [← e2]
          exact q H' gr
        refine truth_text (fun i H' => Grow [] H H' ∧ (z.cps.toList.take i).all nameC = true) (fun H2 t => ⟨grow_tab tT t, rfl⟩) (fun i cc H' hc hp => ?_) fun H' hp => ?_
        · have e1 : (!decide ((⟨#[cc]⟩ : Str).cps.toList < (Str.ofString "a").cps.toList)) = decide (97 ≤ cc) := ge_a cc
          have e2 : (!decide ((Str.ofString "z").cps.toList < (⟨#[cc]⟩ : Str).cps.toList)) = decide (cc ≤ 122) := le_z cc
          have out : nameC cc = false → Q (.bl false) H' := fun e => by
            refine hall false ?_ H' hp.1
            refine (List.all_eq_false.mpr ⟨cc, List.mem_of_getElem? hc, ?_⟩).symm
            rw [e]
            exact Bool.false_ne_true
          refine ⟨rfl, .str ⟨#[cc]⟩, rfl, _, _, rfl, rfl, _, rfl, ?_⟩
          rw [e1]
          by_cases ca : 97 ≤ cc
          · rw [if_pos (decide_eq_true ca)]
            refine ⟨_, _, rfl, rfl, _, rfl, ?_⟩
            rw [e2]
            by_cases cz : cc ≤ 122
            · rw [if_neg (by rw [decide_eq_true cz]; exact fun z => Bool.noConfusion z)]
              refine ⟨hp.1, ?_⟩
              rw [List.take_add_one, hc, List.all_append, hp.2]
              show (true && (nameC cc && true)) = true
              unfold nameC
              rw [decide_eq_true ca, decide_eq_true cz]
              rfl
            · rw [if_pos (decide_eq_false cz)]
              refine out ?_
              unfold nameC
              rw [decide_eq_false cz, Bool.and_false]
          · rw [if_neg (by rw [decide_eq_false ca]; exact Bool.false_ne_true)]
            refine ⟨false, rfl, ?_⟩
            rw [if_pos rfl]
            refine out ?_
            unfold nameC
            rw [decide_eq_false ca, Bool.false_and]
        · refine hall true ?_ H' hp.1
          have := hp.2
          rw [List.take_length] at this
          exact this.symm
      · rw [decide_eq_false h8]
        refine iteT (no ?_)
        unfold isNm
        rw [decide_eq_false (by omega : ¬ z.length ≤ 8), Bool.and_false, Bool.false_and]
    · rw [decide_eq_false h1]
      refine iteF ⟨_, rfl, iteT (no ?_)⟩
      unfold isNm
      rw [decide_eq_false (by omega : ¬ 1 ≤ z.length), Bool.false_and, Bool.false_and]
  · refine ⟨x, rfl, _, U, rfl, ty, U, "str", rfl, rfl, _, rfl, ?_⟩
    rw [decide_eq_false hU]
    exact iteT (iteT q)
end

/-! ### names, shown and compared -/
theorem nm_lt {z : Str} (h : isNm z = true) : ∀ c ∈ z.cps.toList, c < 0x110000 := fun c hc => by
  unfold isNm at h
  rw [Bool.and_eq_true] at h
  have := List.all_eq_true.mp h.2 c hc
  unfold nameC at this
  rw [Bool.and_eq_true, decide_eq_true_iff, decide_eq_true_iff] at this
  omega
theorem fine_name {z : Str} (h1 : isNm z = true) : Fine (.str z) 0 8 := by
  refine .str (nm_lt h1) ?_
  unfold isNm at h1
  rw [Bool.and_eq_true, Bool.and_eq_true, decide_eq_true_iff, decide_eq_true_iff] at h1
  exact h1.1.2
theorem fine_names {zs : List Str} (hn : zs.all isNm = true) (hz : zs.length ≤ 200) : Fine (.list (zs.map PyData.str)) 1 1800 := Fine.list (n := 0) (m := 8) (fun d hd => by
  obtain ⟨z, h, rfl⟩ := List.mem_map.mp hd
  have h1 := List.all_eq_true.mp hn z h
  refine .str (nm_lt h1) ?_
  unfold isNm at h1
  rw [Bool.and_eq_true, Bool.and_eq_true, decide_eq_true_iff, decide_eq_true_iff] at h1
  exact h1.1.2) (by rw [List.length_map]; omega)
def optV : Option Str → V
  | none => .non
  | some z => .str z
def kvO (ks : List (Str × Option Str)) : List (Key × V) := ks.map fun p => (Sum.inr p.1, optV p.2)

/-! ### a net, without a heap -/
/-- a book with the words' places -/
abbrev Bk_ := List (Str × Nat)
def putN (b : List (Str × Nat)) (w : Str) (n : Nat) : List (Str × Nat) := if b.any (fun p => decide (p.1 = w)) then b.map fun p => if p.1 = w then (p.1, n) else p else b ++ [(w, n)]
structure Nst where
  hands : List Str
  beside : List (Str × Option Str)
  near : Str → List Str
  book : Str → List (Str × Nat)
  mouths : List (Str × Str)
  keys : List (Str × Str)
  sent : Str × Str → List Str
  heard : Str × Str → Nat
/-- f at x is y -/
def at_ {α β : Type} [DecidableEq α] (f : α → β) (x : α) (y : β) : α → β := fun z => if z = x then y else f z
theorem at_same {α β : Type} [DecidableEq α] (f : α → β) (x : α) (y : β) : at_ f x y x = y := by unfold at_; rw [if_pos rfl]
theorem at_ne {α β : Type} [DecidableEq α] (f : α → β) {x z : α} (y : β) (h : z ≠ x) : at_ f x y z = f z := by unfold at_; rw [if_neg h]
/-- the word lies on the lanes to these -/
def layN (s : Str × Str → List Str) (hand word : Str) (source : Option Str) : List Str → Str × Str → List Str
  | [] => s
  | x :: xs => layN (if some x ≠ source then at_ s (hand, x) (s (hand, x) ++ [word]) else s) hand word source xs
def writeN (N : Nst) (hand word : Str) (source : Option Str) : Nst :=
  { N with book := at_ N.book hand (putN (N.book hand) word (N.book hand).length), sent := layN N.sent hand word source (N.near hand) }
def hearN (N : Nst) (hand other : Str) : Nst :=
  writeN { N with heard := at_ N.heard (hand, other) (N.heard (hand, other) + 1) } other (((N.sent (hand, other))[N.heard (hand, other)]?).getD "") (some hand)
def shoutN (N : Nst) (hand word : Str) : Nst := writeN { N with mouths := N.mouths ++ [(word, hand)] } hand word none
def joinN (N : Nst) (name hand : Str) : Nst :=
  { hands := N.hands ++ [name], beside := N.beside ++ [(name, some hand)], near := at_ (at_ N.near hand (N.near hand ++ [name])) name [hand], book := at_ N.book name [], mouths := N.mouths,
    keys := N.keys ++ [(hand, name), (name, hand)], sent := at_ (at_ N.sent (hand, name) ((N.book hand).map Prod.fst)) (name, hand) [], heard := at_ (at_ N.heard (hand, name) 0) (name, hand) 0 }
def newN (name : Str) : Nst := { hands := [name], beside := [(name, none)], near := fun _ => [], book := fun _ => [], mouths := [], keys := [], sent := fun _ => [], heard := fun _ => 0 }
def manyN (N : Nst) (k : Str × Str) : Nat := if k ∈ N.keys then (N.sent k).length - N.heard k else 0
def laneN (N : Nst) (k : Str × Str) : List Str := if k ∈ N.keys then (N.sent k).drop (N.heard k) else []
/-- what always holds; T: as many words were written at most -/
structure Nok (N : Nst) (T : Nat) : Prop where
  nd : N.hands.Nodup
  nm : N.hands.all isNm = true
  len : N.hands.length ≤ 60
  bes : N.beside.map Prod.fst = N.hands
  knd : N.keys.Nodup
  kin : ∀ k ∈ N.keys, k.1 ∈ N.hands ∧ k.2 ∈ N.hands
  near : ∀ h ∈ N.hands, ∀ x ∈ N.near h, (h, x) ∈ N.keys
  nlen : ∀ h ∈ N.hands, (N.near h).length ≤ N.hands.length
  mnd : (N.mouths.map Prod.fst).Nodup
  mnm : ∀ m ∈ N.mouths, isNm m.1 = true ∧ m.2 ∈ N.hands
  mlen : N.mouths.length ≤ 100
  bnd : ∀ h ∈ N.hands, ((N.book h).map Prod.fst).Nodup ∧ (N.book h).length ≤ T ∧ ∀ x ∈ N.book h, isNm x.1 = true
  sen : ∀ k ∈ N.keys, (N.sent k).length ≤ 61 * T ∧ N.heard k ≤ (N.sent k).length ∧ (N.sent k).all isNm = true
/-! ### a net in the heap -/
def tk (k : Str × Str) : List Key := [Sum.inr k.1, Sum.inr k.2]
theorem tk_inj {k l : Str × Str} (h : tk k = tk l) : k = l := by
  unfold tk at h
  injection h with h1 h
  injection h with h2 _
  exact Prod.ext (Sum.inr.inj h1) (Sum.inr.inj h2)
/-- hands with what f tells of each -/
def kvF (hands : List Str) (f : Str → V) : List (Key × V) := hands.map fun h => (Sum.inr h, f h)
def kvB (b : List (Str × Nat)) : List (Key × V) := b.map fun p => (Sum.inr p.1, V.int (p.2 : Nat))
def kvM (m : List (Str × Str)) : List (Key × V) := m.map fun p => (Sum.inr p.1, V.str p.2)
def kvK (keys : List (Str × Str)) (f : Str × Str → V) : List (List Key × V) := keys.map fun k => (tk k, f k)
structure Ads where
  dx : Addr
  ab : Addr
  an : Addr
  ak : Addr
  am : Addr
  as_ : Addr
  ah : Addr
  na : Str → Addr
  ba : Str → Addr
  sa : Str × Str → Addr
def Ads.fs (A : Ads) : List (Str × V) := [("_beside", .ref A.ab), ("_near", .ref A.an), ("_books", .ref A.ak), ("_mouths", .ref A.am), ("_sent", .ref A.as_), ("_heard", .ref A.ah)]
/-- the addresses that are a net's own -/
def Ads.ft (A : Ads) (a : Addr) (N : Nst) : List Addr := [a, A.dx, A.ab, A.an, A.ak, A.am, A.as_, A.ah] ++ (N.hands.map A.na ++ (N.hands.map A.ba ++ N.keys.map A.sa))
structure NetAt (C a : Addr) (A : Ads) (N : Nst) (H : Hp) : Prop where
  obj : H a = some (.ins C A.dx A.fs)
  own : H A.dx = some (.own a)
  eab : H A.ab = some (.dK (kvO N.beside))
  ean : H A.an = some (.dK (kvF N.hands fun h => .ref (A.na h)))
  eak : H A.ak = some (.dK (kvF N.hands fun h => .ref (A.ba h)))
  eam : H A.am = some (.dK (kvM N.mouths))
  eas : H A.as_ = some (.dT (kvK N.keys fun k => .ref (A.sa k)))
  eah : H A.ah = some (.dT (kvK N.keys fun k => .int (N.heard k : Nat)))
  ena : ∀ h ∈ N.hands, H (A.na h) = some (.lst ((N.near h).map V.str))
  eba : ∀ h ∈ N.hands, H (A.ba h) = some (.dK (kvB (N.book h)))
  esa : ∀ k ∈ N.keys, H (A.sa k) = some (.lst ((N.sent k).map V.str))
  d1 : [A.ab, A.an, A.ak, A.am].Nodup
  d2 : ∀ h ∈ N.hands, A.ba h ∉ [A.ab, A.an, A.ak, A.am]
  d3 : ∀ h ∈ N.hands, ∀ h' ∈ N.hands, A.ba h = A.ba h' → h = h'
  d4 : A.as_ ≠ A.ah
  d5 : ∀ h ∈ N.hands, ∀ h' ∈ N.hands, A.na h = A.na h' → h = h'
  d6 : ∀ k ∈ N.keys, ∀ k' ∈ N.keys, A.sa k = A.sa k' → k = k'
  d7 : ∀ h ∈ N.hands, ∀ k ∈ N.keys, A.na h ≠ A.sa k
theorem mem_ft {A : Ads} {a b : Addr} {N : Nst} : b ∈ A.ft a N ↔ b ∈ [a, A.dx, A.ab, A.an, A.ak, A.am, A.as_, A.ah] ∨ (∃ h ∈ N.hands, A.na h = b) ∨ (∃ h ∈ N.hands, A.ba h = b) ∨ ∃ k ∈ N.keys, A.sa k = b := by
  unfold Ads.ft
  rw [List.mem_append, List.mem_append, List.mem_append, List.mem_map, List.mem_map, List.mem_map]
theorem NetAt.grow {C a : Addr} {A : Ads} {N : Nst} {H H' : Hp} {ex : List Addr} (n : NetAt C a A N H) (g : Grow ex H H') (h : ∀ b ∈ A.ft a N, b ∉ ex) : NetAt C a A N H' := by
  have m : ∀ {b}, b ∈ [a, A.dx, A.ab, A.an, A.ak, A.am, A.as_, A.ah] → b ∉ ex := fun hb => h _ (mem_ft.mpr (.inl hb))
  exact { n with
    obj := g.keep _ _ (m (by simp)) n.obj fun ps z => by cases z
    own := g.keep _ _ (m (by simp)) n.own fun ps z => by cases z
    eab := g.keep _ _ (m (by simp)) n.eab fun ps z => by cases z
    ean := g.keep _ _ (m (by simp)) n.ean fun ps z => by cases z
    eak := g.keep _ _ (m (by simp)) n.eak fun ps z => by cases z
    eam := g.keep _ _ (m (by simp)) n.eam fun ps z => by cases z
    eas := g.keep _ _ (m (by simp)) n.eas fun ps z => by cases z
    eah := g.keep _ _ (m (by simp)) n.eah fun ps z => by cases z
    ena := fun x hx => g.lst (h _ (mem_ft.mpr (.inr (.inl ⟨x, hx, rfl⟩)))) (n.ena x hx)
    eba := fun x hx => g.keep _ _ (h _ (mem_ft.mpr (.inr (.inr (.inl ⟨x, hx, rfl⟩))))) (n.eba x hx) fun ps z => by cases z
    esa := fun x hx => g.lst (h _ (mem_ft.mpr (.inr (.inr (.inr ⟨x, hx, rfl⟩))))) (n.esa x hx) }
theorem NetAt.grow0 {C a : Addr} {A : Ads} {N : Nst} {H H' : Hp} (n : NetAt C a A N H) (g : Grow [] H H') : NetAt C a A N H' := n.grow g fun b _ => by simp
/-- all of a net's own stands -/
theorem NetAt.there {C a : Addr} {A : Ads} {N : Nst} {H : Hp} (n : NetAt C a A N H) : ∀ b ∈ A.ft a N, ∃ o, H b = some o ∧ ∀ ps, o ≠ .tbl ps := fun b hb => by
  rcases mem_ft.mp hb with hb | ⟨h, hh, rfl⟩ | ⟨h, hh, rfl⟩ | ⟨k, hk, rfl⟩
  · simp only [List.mem_cons, List.not_mem_nil, or_false] at hb
    rcases hb with rfl | rfl | rfl | rfl | rfl | rfl | rfl | rfl
    · exact ⟨_, n.obj, fun ps z => by cases z⟩
    · exact ⟨_, n.own, fun ps z => by cases z⟩
    · exact ⟨_, n.eab, fun ps z => by cases z⟩
    · exact ⟨_, n.ean, fun ps z => by cases z⟩
    · exact ⟨_, n.eak, fun ps z => by cases z⟩
    · exact ⟨_, n.eam, fun ps z => by cases z⟩
    · exact ⟨_, n.eas, fun ps z => by cases z⟩
    · exact ⟨_, n.eah, fun ps z => by cases z⟩
  · exact ⟨_, n.ena h hh, fun ps z => by cases z⟩
  · exact ⟨_, n.eba h hh, fun ps z => by cases z⟩
  · exact ⟨_, n.esa k hk, fun ps z => by cases z⟩
/-! ### reading the dicts -/
theorem kvF_keys (hands : List Str) (f : Str → V) : (kvF hands f).map Prod.fst = hands.map Sum.inr := by
  unfold kvF
  rw [List.map_map]
  rfl
theorem inr_nd {hands : List Str} (nd : hands.Nodup) : (hands.map (Sum.inr : Str → Key)).Nodup := List.pairwise_map.mpr (nd.imp fun q e => q (Sum.inr.inj e))
theorem kvF_val {hands : List Str} (nd : hands.Nodup) (f : Str → V) {h : Str} (m : h ∈ hands) : valV (kvF hands f) (.inr h) = some (f h) := by
  obtain ⟨j, hj⟩ := List.mem_iff_getElem?.mp m
  exact valV_some (j := j) (by rw [kvF_keys]; exact inr_nd nd) (by unfold kvF; rw [List.getElem?_map, hj]; rfl)
theorem kvF_none {hands : List Str} (f : Str → V) {h : Str} (m : h ∉ hands) : valV (kvF hands f) (.inr h) = none := valV_none (by
  rw [kvF_keys]
  intro z
  obtain ⟨y, hy, e⟩ := List.mem_map.mp z
  cases e
  exact m hy)
theorem kvF_is {hands : List Str} (nd : hands.Nodup) (f : Str → V) (h : Str) : (valV (kvF hands f) (.inr h)).isSome = decide (h ∈ hands) := by
  by_cases m : h ∈ hands
  · rw [kvF_val nd f m, decide_eq_true m]; rfl
  · rw [kvF_none f m, decide_eq_false m]; rfl
theorem kvK_keys (keys : List (Str × Str)) (f : Str × Str → V) : (kvK keys f).map Prod.fst = keys.map tk := by
  unfold kvK
  rw [List.map_map]
  rfl
theorem kvK_val {keys : List (Str × Str)} (nd : keys.Nodup) (f : Str × Str → V) {k : Str × Str} (m : k ∈ keys) : valV (kvK keys f) (tk k) = some (f k) := by
  obtain ⟨j, hj⟩ := List.mem_iff_getElem?.mp m
  exact valV_some (j := j) (by rw [kvK_keys]; exact List.pairwise_map.mpr (nd.imp fun q e => q (tk_inj e))) (by unfold kvK; rw [List.getElem?_map, hj]; rfl)
theorem kvK_none {keys : List (Str × Str)} (f : Str × Str → V) {k : Str × Str} (m : k ∉ keys) : valV (kvK keys f) (tk k) = none := valV_none (by
  rw [kvK_keys]
  intro z
  obtain ⟨y, hy, e⟩ := List.mem_map.mp z
  rw [tk_inj e] at hy
  exact m hy)
theorem kvK_is {keys : List (Str × Str)} (nd : keys.Nodup) (f : Str × Str → V) (k : Str × Str) : (valV (kvK keys f) (tk k)).isSome = decide (k ∈ keys) := by
  by_cases m : k ∈ keys
  · rw [kvK_val nd f m, decide_eq_true m]; rfl
  · rw [kvK_none f m, decide_eq_false m]; rfl
theorem kvM_is {m : List (Str × Str)} (nd : (m.map Prod.fst).Nodup) (w : Str) : (valV (kvM m) (.inr w)).isSome = decide (w ∈ m.map Prod.fst) := by
  have hk : (kvM m).map Prod.fst = (m.map Prod.fst).map Sum.inr := by unfold kvM; rw [List.map_map, List.map_map]; rfl
  by_cases h : w ∈ m.map Prod.fst
  · obtain ⟨⟨x, y⟩, hx, rfl⟩ := List.mem_map.mp h
    obtain ⟨j, hj⟩ := List.mem_iff_getElem?.mp hx
    rw [valV_some (j := j) (v := .str y) (by rw [hk]; exact inr_nd nd) (by unfold kvM; rw [List.getElem?_map, hj]; rfl), decide_eq_true h]
    rfl
  · rw [valV_none (by
      rw [hk]
      intro z
      obtain ⟨y, hy, e⟩ := List.mem_map.mp z
      cases e
      exact h hy), decide_eq_false h]
    rfl
theorem dgF {H : Hp} {a : Addr} {hands : List Str} {f : Str → V} (e : H a = some (.dK (kvF hands f))) (nd : hands.Nodup) {h : Str} (m : h ∈ hands) : DGet H a (.str h) (some (f h)) := by
  rw [← kvF_val nd f m]
  exact DGet.k (k := .inr h) e
theorem dgK {H : Hp} {a b : Addr} {keys : List (Str × Str)} {f : Str × Str → V} (e : H a = some (.dT (kvK keys f))) (nd : keys.Nodup) {k : Str × Str} (m : k ∈ keys) (eb : H b = some (.tup [.str k.1, .str k.2])) : DGet H a (.ref b) (some (f k)) := by
  rw [← kvK_val nd f m]
  exact DGet.t (k := tk k) e eb
/-- what is read of a net where its lanes are counted, also while one walks them -/
structure ManyAt (C a : Addr) (A : Ads) (N : Nst) (H : Hp) : Prop where
  obj : H a = some (.ins C A.dx A.fs)
  eas : Rd H A.as_ (.dT (kvK N.keys fun k => .ref (A.sa k)))
  eah : Rd H A.ah (.dT (kvK N.keys fun k => .int (N.heard k : Nat)))
  esa : ∀ k ∈ N.keys, H (A.sa k) = some (.lst ((N.sent k).map V.str))
theorem NetAt.many {C a : Addr} {A : Ads} {N : Nst} {H : Hp} (n : NetAt C a A N H) : ManyAt C a A N H := ⟨n.obj, .inl n.eas, .inl n.eah, n.esa⟩
theorem dgR {H : Hp} {a b : Addr} {kvs : List (List Key × V)} {k : List Key} (e : Rd H a (.dT kvs)) (eb : H b = some (.tup (k.map kV))) : DGet H a (.ref b) (valV kvs k) := .inr ⟨kvs, k, b, e, rfl, eb, rfl⟩
theorem dgRK {H : Hp} {a b : Addr} {keys : List (Str × Str)} {f : Str × Str → V} (e : Rd H a (.dT (kvK keys f))) (nd : keys.Nodup) {k : Str × Str} (m : k ∈ keys) (eb : H b = some (.tup [.str k.1, .str k.2])) : DGet H a (.ref b) (some (f k)) := by
  rw [← kvK_val nd f m]
  exact dgR (k := tk k) e eb
theorem ManyAt.grow0 {C a : Addr} {A : Ads} {N : Nst} {H H' : Hp} (n : ManyAt C a A N H) (g : Grow [] H H') : ManyAt C a A N H' := by
  have rd : ∀ {b : Addr} {o : HO}, (∀ ps, o ≠ .tbl ps) → Rd H b o → Rd H' b o := fun {b o} no h => by
    rcases h with h | ⟨od, h⟩
    · exact .inl (g.keep _ _ (by simp) h no)
    · exact .inr ⟨od, g.keep _ _ (by simp) h fun ps z => by cases z⟩
  exact ⟨g.keep _ _ (by simp) n.obj (fun ps z => by cases z), rd (o := .dT _) (fun ps z => by cases z) n.eas, rd (o := .dT _) (fun ps z => by cases z) n.eah, fun k hk => g.lst (by simp) (n.esa k hk)⟩

end Lw

namespace Lw
open PySem PySem.Spec PyProof.Rows L2 GxR Gx
/-! ### what a net's fields are -/
theorem Ads.l_beside (A : Ads) : A.fs.lookup ("_beside" : Str) = some (.ref A.ab) := rfl
theorem Ads.l_near (A : Ads) : A.fs.lookup ("_near" : Str) = some (.ref A.an) := rfl
theorem Ads.l_books (A : Ads) : A.fs.lookup ("_books" : Str) = some (.ref A.ak) := rfl
theorem Ads.l_mouths (A : Ads) : A.fs.lookup ("_mouths" : Str) = some (.ref A.am) := rfl
theorem Ads.l_sent (A : Ads) : A.fs.lookup ("_sent" : Str) = some (.ref A.as_) := rfl
theorem Ads.l_heard (A : Ads) : A.fs.lookup ("_heard" : Str) = some (.ref A.ah) := rfl
section
variable {P : Program} {w : World} {K : PySem.W.Frag} {mg : Str → Option Value} {base : Heap} {C : Addr}
/-! ### _check_hand -/
def spChk (C : Addr) : Sp := fun vs H Q _ => ∃ (a : Addr) (A : Ads) (N : Nst) (T : Nat) (h : Str), vs = [.ref a, .str h] ∧ NetAt C a A N H ∧ Nok N T ∧ h ∈ N.hands ∧ Q .non H
theorem ok_Net_check_hand {f c : Addr} {fd : FuncData} (B : Nb mg) (D : DefIs K "_check_hand" "Net._check_hand" st_Net_check_hand f fd (.ref c)) (NC : NetC K C) : FnG P w K mg base CX0 2 f fd ["self", "thing"] (spChk C) := by
  refine D.ok0 (k := 1) sc_Net_check_hand (fun vs H Q E h => ?_) (fun A0 outer s H vs Q E g hr h => ?_)
  · obtain ⟨a, A, N, T, h, rfl, _⟩ := h
    rfl
  obtain ⟨a, A, N, T, h, rfl, n, ok, hh, q⟩ := h
  refine ⟨_,
      (pss_one (ps_if (PW.pt (pw_or (pt_cmpR (op_notTyB) (pe_callTy call_type1 rfl B.n_type (by decide +kernel) (pa_cons (pv 1) pa_nil)) (pe_bltn (v := .ty "str") rfl B.n_str (by decide +kernel) rfl) (nomark _)) (pw_or1 (pt_cmp (pc_dnotin (hu_of hr) (pv 1) (pe_fN NC.cls NC.n_books (pv 0))))))) (
        (pss_one ps_dead)) pss_nil)), ?_⟩
  refine ⟨.str h, rfl, _, "str", rfl, .str h, "str", "str", rfl, rfl, _, rfl, iteNS rfl ⟨.str h, rfl, .ref a, rfl, a, _, _, _, rfl, n.obj, A.l_books, A.ak, _, rfl, DGet.k (k := .inr h) n.eak, ?_⟩⟩
  rw [kvF_is ok.nd, decide_eq_true hh]
  exact ⟨_, rfl, iteF q⟩
/-! ### book, words -/
def spBook (C : Addr) : Sp := fun vs H Q _ => ∃ (a : Addr) (A : Ads) (N : Nst) (T : Nat) (h : Str), vs = [.ref a, .str h] ∧ NetAt C a A N H ∧ Nok N T ∧ T ≤ 10000 ∧ h ∈ N.hands ∧ ∀ L H', Fresh H L → Grow [] H H' → H' L = some (.lst (((N.book h).map Prod.fst).map V.str)) → Q (.ref L) H'
theorem ok_Net_book {f c : Addr} {fd : FuncData} (B : Nb mg) (D : DefIs K "book" "Net.book" st_Net_book f fd (.ref c)) (NC : NetC K C) (c_Net_check_hand : CalleeM P w K mg base CX0 2 C "_check_hand" ["self", "thing"] (spChk C)) : FnG P w K mg base CX0 3 f fd ["self", "hand"] (spBook C) := by
  refine D.ok0 (k := 2) sc_Net_book (fun vs H Q E h => ?_) (fun A0 outer s H vs Q E g hr h => ?_)
  · obtain ⟨a, A, N, T, h, rfl, _⟩ := h
    rfl
  obtain ⟨a, A, N, T, h, rfl, n, ok, hT, hh, q⟩ := h
  refine ⟨_,
      (pss_cons (ps_expr (pe_gm c_Net_check_hand g (hr.mono (by decide)) pass0 (pv 0) (pa_cons (pv 1) pa_nil)))
      (pss_one (ps_ret (pe_callTy (call_listD rfl) rfl B.n_list (by decide +kernel) (pa_cons (pe_dget (hu_of hr) (pe_fN NC.cls NC.n_books (pv 0)) (pv 1) (fun _ _ => rfl)) pa_nil))))), ?_⟩
  refine ⟨.ref a, rfl, a, _, _, rfl, n.obj, rfl, .str h, rfl, a, A, N, T, h, rfl, n, ok, hh, ?_⟩
  refine ⟨.ref a, rfl, a, _, _, _, rfl, n.obj, A.l_books, .str h, rfl, A.ak, _, rfl, dgF n.eak ok.nd hh, A.ba h, _, rfl, .inl (n.eba h hh), fun L nL => ?_⟩
  refine q L _ (fresh_none nL) (grow_new nL) ?_
  rw [upd_same]
  unfold kvB
  rw [List.map_map, List.map_map]
  rfl
/-- the words, as they are told -/
def wordsN (N : Nst) : List Str := (N.mouths.map Prod.fst).mergeSort (PySem.W.dataLe false PyData.str)
def spWords (C : Addr) : Sp := fun vs H Q _ => ∃ (a : Addr) (A : Ads) (N : Nst) (T : Nat), vs = [.ref a] ∧ NetAt C a A N H ∧ Nok N T ∧ ∀ L H', Fresh H L → Grow [] H H' → H' L = some (.lst ((wordsN N).map V.str)) → Q (.ref L) H'
theorem ok_Net_words {f c : Addr} {fd : FuncData} (B : Nb mg) (D : DefIs K "words" "Net.words" st_Net_words f fd (.ref c)) (NC : NetC K C) : FnG P w K mg base CX0 2 f fd ["self"] (spWords C) := by
  refine D.ok0 (k := 1) sc_Net_words (fun vs H Q E h => ?_) (fun A0 outer s H vs Q E g hr h => ?_)
  · obtain ⟨a, A, N, T, rfl, _⟩ := h
    rfl
  obtain ⟨a, A, N, T, rfl, n, ok, q⟩ := h
  refine ⟨_,
      (pss_one (ps_ret (pe_callB (cr_sortD rfl hr.units) rfl B.n_sorted (by decide +kernel) (pa_cons (pe_fN NC.cls NC.n_mouths (pv 0)) pa_nil)))), ?_⟩
  have hl := ok.mlen
  refine ⟨.ref a, rfl, a, _, _, _, rfl, n.obj, A.l_mouths, A.am, _, N.mouths.map Prod.fst, rfl, .inl n.eam, by unfold kvM; rw [List.map_map, List.map_map]; rfl, by rw [List.length_map, sizeLine_eq]; omega, fun L nL => ?_⟩
  exact q L _ (fresh_none nL) (grow_new nL) upd_same
/-! ### _many_on, lane -/
def spMany (C : Addr) : Sp := fun vs H Q _ => ∃ (a b : Addr) (A : Ads) (N : Nst) (T : Nat) (k : Str × Str), vs = [.ref a, .ref b] ∧ ManyAt C a A N H ∧ Nok N T ∧ H b = some (.tup [.str k.1, .str k.2]) ∧ Q (.int (manyN N k : Nat)) H
theorem ok_Net_many_on {f c : Addr} {fd : FuncData} (B : Nb mg) (D : DefIs K "_many_on" "Net._many_on" st_Net_many_on f fd (.ref c)) (NC : NetC K C) : FnG P w K mg base CX0 2 f fd ["self", "lane"] (spMany C) := by
  refine D.ok0 (k := 1) sc_Net_many_on (fun vs H Q E h => ?_) (fun A0 outer s H vs Q E g hr h => ?_)
  · obtain ⟨a, b, A, N, T, k, rfl, _⟩ := h
    rfl
  obtain ⟨a, b, A, N, T, k, rfl, n, ok, eb, q⟩ := h
  refine ⟨_,
      (pss_cons (ps_if (pt_cmp (pc_dnotin (hu_of hr) (pv 1) (pe_fN NC.cls NC.n_sent (pv 0)))) (
        (pss_one (ps_ret pe_int))) pss_nil)
      (pss_one (ps_ret (pe_op op_sub (pe_callB call_len_seq rfl B.n_len PySem.boot_len (pa_cons (pe_dget (hu_of hr) (pe_fN NC.cls NC.n_sent (pv 0)) (pv 1) (fun _ _ => rfl)) pa_nil)) (pe_dget (hu_of hr) (pe_fN NC.cls NC.n_heard (pv 0)) (pv 1) (fun _ _ => rfl)))))), ?_⟩
  have et : H b = some (.tup ((tk k).map kV)) := eb
  refine ⟨.ref b, rfl, .ref a, rfl, a, _, _, _, rfl, n.obj, A.l_sent, A.as_, _, rfl, dgR n.eas et, ?_⟩
  rw [kvK_is ok.knd]
  unfold manyN at q
  by_cases m : k ∈ N.keys
  · rw [decide_eq_true m]
    rw [if_pos m] at q
    have hs := (ok.sen k m).2.1
    refine ⟨_, rfl, iteF ?_⟩
    refine ⟨.ref a, rfl, a, _, _, _, rfl, n.obj, A.l_sent, .ref b, rfl, A.as_, _, rfl, dgRK n.eas ok.knd m eb, A.sa k, _, rfl, .inl (.inl (.inl (n.esa k m))), ?_⟩
    refine ⟨.ref a, rfl, a, _, _, _, rfl, n.obj, A.l_heard, .ref b, rfl, A.ah, _, rfl, dgRK n.eah ok.knd m eb, _, _, rfl, rfl, ?_⟩
    rw [List.length_map]
    rw [show (((N.sent k).length - N.heard k : Nat) : Int) = ((N.sent k).length : Nat) - (N.heard k : Nat) by omega] at q
    exact q
  · rw [decide_eq_false m]
    rw [if_neg m] at q
    exact ⟨_, rfl, iteT q⟩
def spLane (C : Addr) : Sp := fun vs H Q _ => ∃ (a : Addr) (A : Ads) (N : Nst) (T : Nat) (h o : Str), vs = [.ref a, .str h, .str o] ∧ NetAt C a A N H ∧ Nok N T ∧ T ≤ 10000 ∧ h ∈ N.hands ∧ o ∈ N.hands ∧ ∀ L H', Fresh H L → Grow [] H H' → H' L = some (.lst ((laneN N (h, o)).map V.str)) → Q (.ref L) H'
theorem ok_Net_lane {f c : Addr} {fd : FuncData} (B : Nb mg) (D : DefIs K "lane" "Net.lane" st_Net_lane f fd (.ref c)) (NC : NetC K C) (c_Net_check_hand : CalleeM P w K mg base CX0 2 C "_check_hand" ["self", "thing"] (spChk C)) : FnG P w K mg base CX0 3 f fd ["self", "hand", "other"] (spLane C) := by
  refine D.ok0 (k := 2) sc_Net_lane (fun vs H Q E h => ?_) (fun A0 outer s H vs Q E g hr h => ?_)
  · obtain ⟨a, A, N, T, h, o, rfl, _⟩ := h
    rfl
  obtain ⟨a, A, N, T, h, o, rfl, n, ok, hT, hh, ho, q⟩ := h
  refine ⟨_,
      (pss_cons (ps_expr (pe_gm c_Net_check_hand g (hr.mono (by decide)) pass0 (pv 0) (pa_cons (pv 1) pa_nil)))
      (pss_cons (ps_expr (pe_gm c_Net_check_hand g (hr.mono (by decide)) pass0 (pv 0) (pa_cons (pv 2) pa_nil)))
      (pss_cons (ps_if (pt_cmp (pc_dnotin (hu_of hr) (pe_tup (pa_cons (pv 1) (pa_cons (pv 2) pa_nil))) (pe_fN NC.cls NC.n_sent (pv 0)))) (
        (pss_one (ps_ret (pe_lst pa_nil)))) pss_nil)
      (pss_one (ps_ret (pe_slice sl_list (pe_dget (hu_of hr) (pe_fN NC.cls NC.n_sent (pv 0)) (pe_tup (pa_cons (pv 1) (pa_cons (pv 2) pa_nil))) (fun _ _ => rfl)) (po_some (pe_dget (hu_of hr) (pe_fN NC.cls NC.n_heard (pv 0)) (pe_tup (pa_cons (pv 1) (pa_cons (pv 2) pa_nil))) (fun _ _ => rfl))) po_none)))))), ?_⟩
  refine ⟨.ref a, rfl, a, _, _, rfl, n.obj, rfl, .str h, rfl, a, A, N, T, h, rfl, n, ok, hh, ?_⟩
  refine ⟨.ref a, rfl, a, _, _, rfl, n.obj, rfl, .str o, rfl, a, A, N, T, o, rfl, n, ok, ho, ?_⟩
  refine ⟨.str h, rfl, .str o, rfl, by show 2 ≤ sizeLine; decide, fun b nb => ?_⟩
  have g1 : Grow [] H (upd H b (.tup [.str h, .str o])) := grow_new nb
  have eb : upd H b (.tup [.str h, .str o]) b = some (.tup ((tk (h, o)).map kV)) := upd_same
  generalize upd H b (.tup [.str h, .str o]) = H1 at g1 eb ⊢
  have n1 := n.grow0 g1
  refine ⟨.ref a, rfl, a, _, _, _, rfl, n1.obj, A.l_sent, A.as_, _, rfl, DGet.t n1.eas eb, ?_⟩
  rw [kvK_is ok.knd]
  unfold laneN at q
  by_cases m : (h, o) ∈ N.keys
  · rw [decide_eq_true m]
    rw [if_pos m] at q
    have hs := (ok.sen _ m).2.1
    refine ⟨_, rfl, iteF ?_⟩
    refine ⟨.ref a, rfl, a, _, _, _, rfl, n1.obj, A.l_sent, .str h, rfl, .str o, rfl, by show 2 ≤ sizeLine; decide, fun b2 nb2 => ?_⟩
    have g2 : Grow [] H1 (upd H1 b2 (.tup [.str h, .str o])) := grow_new nb2
    have eb2 : upd H1 b2 (.tup [.str h, .str o]) b2 = some (.tup [.str h, .str o]) := upd_same
    generalize upd H1 b2 (.tup [.str h, .str o]) = H2 at g2 eb2 ⊢
    have n2 := n1.grow0 g2
    refine ⟨A.as_, _, rfl, dgK (k := (h, o)) n2.eas ok.knd m eb2, ?_⟩
    refine ⟨.ref a, rfl, a, _, _, _, rfl, n2.obj, A.l_heard, .str h, rfl, .str o, rfl, by show 2 ≤ sizeLine; decide, fun b3 nb3 => ?_⟩
    have g3 : Grow [] H2 (upd H2 b3 (.tup [.str h, .str o])) := grow_new nb3
    have eb3 : upd H2 b3 (.tup [.str h, .str o]) b3 = some (.tup [.str h, .str o]) := upd_same
    generalize upd H2 b3 (.tup [.str h, .str o]) = H3 at g3 eb3 ⊢
    have n3 := n2.grow0 g3
    refine ⟨A.ah, _, rfl, dgK (k := (h, o)) n3.eah ok.knd m eb3, _, rfl, A.sa (h, o), _, rfl, .inl (.inl (n3.esa _ m)), fun L nL => ?_⟩
    have g13 := (g1.trans g2).trans g3
    refine q L _ (g13.fresh0 nL) (g13.new nL) ?_
    rw [upd_same, cut_lo, List.map_drop]
  · rw [decide_eq_false m]
    rw [if_neg m] at q
    exact ⟨_, rfl, iteT ⟨by show 0 ≤ sizeLine; decide, fun L nL => q L _ (g1.fresh0 nL) (g1.new nL) upd_same⟩⟩
end

end Lw

namespace Lw
open PySem PySem.Spec PyProof.Rows L2 GxR Gx
/-! ### what changes -/
theorem putN_len (b : List (Str × Nat)) (w : Str) (n : Nat) : (putN b w n).length ≤ b.length + 1 := by
  unfold putN
  split
  · rw [List.length_map]; omega
  · rw [List.length_append, List.length_singleton]
    exact Nat.le_refl _
theorem putN_keys (b : List (Str × Nat)) (w : Str) (n : Nat) : (putN b w n).map Prod.fst = if w ∈ b.map Prod.fst then b.map Prod.fst else b.map Prod.fst ++ [w] := by
  have e : (b.any fun p => decide (p.1 = w)) = decide (w ∈ b.map Prod.fst) := by
    rw [Bool.eq_iff_iff, List.any_eq_true, decide_eq_true_iff, List.mem_map]
    exact ⟨fun ⟨p, hp, e⟩ => ⟨p, hp, of_decide_eq_true e⟩, fun ⟨p, hp, e⟩ => ⟨p, hp, decide_eq_true e⟩⟩
  unfold putN
  rw [e]
  by_cases c : w ∈ b.map Prod.fst
  · rw [decide_eq_true c, if_pos rfl, if_pos c, List.map_map]
    refine List.map_congr_left fun p _ => ?_
    show (if p.1 = w then (p.1, n) else p).1 = p.1
    split <;> rfl
  · rw [decide_eq_false c, if_neg Bool.false_ne_true, if_neg c, List.map_append]
    rfl
theorem putN_nd {b : List (Str × Nat)} (w : Str) (n : Nat) (h : (b.map Prod.fst).Nodup) : ((putN b w n).map Prod.fst).Nodup := by
  rw [putN_keys]
  split
  · exact h
  · rename_i c
    rw [List.nodup_append]
    refine ⟨h, by simp, fun x hx y hy e => ?_⟩
    rw [List.mem_singleton.mp hy] at e
    exact c (e ▸ hx)
theorem putN_nm {b : List (Str × Nat)} {w : Str} (n : Nat) (h : ∀ x ∈ b, isNm x.1 = true) (hw : isNm w = true) : ∀ x ∈ putN b w n, isNm x.1 = true := fun x hx => by
  have m : x.1 ∈ (putN b w n).map Prod.fst := List.mem_map.mpr ⟨x, hx, rfl⟩
  have k : ∀ y ∈ b.map Prod.fst, isNm y = true := fun y hy => by
    obtain ⟨p, hp, rfl⟩ := List.mem_map.mp hy
    exact h p hp
  rw [putN_keys] at m
  split at m
  · exact k _ m
  · rcases List.mem_append.mp m with m | m
    · exact k _ m
    · rw [List.mem_singleton.mp m]; exact hw
theorem kvB_put (b : List (Str × Nat)) (w : Str) (n : Nat) : putK (kvB b) (.inr w) (.int (n : Nat)) = kvB (putN b w n) := by
  unfold putK putN
  have e : ((kvB b).any fun kv => decide (kv.1 = (Sum.inr w : Key))) = b.any fun p => decide (p.1 = w) := by
    unfold kvB
    rw [List.any_map]
    congr 1
    funext p
    exact decide_eq_decide.mpr ⟨fun h => Sum.inr.inj h, fun h => congrArg Sum.inr h⟩
  rw [e]
  split
  · unfold kvB
    rw [List.map_map, List.map_map]
    refine List.map_congr_left fun p _ => ?_
    show (if (Sum.inr p.1 : Key) = Sum.inr w then ((Sum.inr p.1 : Key), V.int (n : Nat)) else (Sum.inr p.1, V.int (p.2 : Nat))) = (Sum.inr (if p.1 = w then (p.1, n) else p).1, V.int ((if p.1 = w then (p.1, n) else p).2 : Nat))
    by_cases c : p.1 = w
    · rw [if_pos (congrArg Sum.inr c), if_pos c]
    · rw [if_neg (fun z => c (Sum.inr.inj z)), if_neg c]
  · unfold kvB
    rw [List.map_append]
    rfl
theorem layN_snoc (s : Str × Str → List Str) (h w : Str) (src : Option Str) (xs : List Str) (x : Str) : layN s h w src (xs ++ [x]) = if some x ≠ src then at_ (layN s h w src xs) (h, x) (layN s h w src xs (h, x) ++ [w]) else layN s h w src xs := by
  induction xs generalizing s with
  | nil => rfl
  | cons y ys ih => exact ih _
theorem layN_len (h w : Str) (src : Option Str) (k : Str × Str) : ∀ (xs : List Str) (s : Str × Str → List Str), (layN s h w src xs k).length ≤ (s k).length + xs.length ∧ (s k).length ≤ (layN s h w src xs k).length
  | [], s => ⟨Nat.le_refl _, Nat.le_refl _⟩
  | x :: xs, s => by
    have ih := layN_len h w src k xs (if some x ≠ src then at_ s (h, x) (s (h, x) ++ [w]) else s)
    have e : ((if some x ≠ src then at_ s (h, x) (s (h, x) ++ [w]) else s) k).length ≤ (s k).length + 1 ∧ (s k).length ≤ ((if some x ≠ src then at_ s (h, x) (s (h, x) ++ [w]) else s) k).length := by
      split
      · by_cases c : k = (h, x)
        · rw [c, at_same, List.length_append, List.length_singleton]
          omega
        · rw [at_ne _ _ c]
          omega
      · omega
    show (layN _ h w src xs k).length ≤ _ ∧ _
    rw [List.length_cons]
    show (layN _ h w src xs k).length ≤ _ ∧ _ ≤ (layN _ h w src xs k).length
    omega
theorem layN_nm {h w : Str} {src : Option Str} (hw : isNm w = true) (k : Str × Str) : ∀ (xs : List Str) (s : Str × Str → List Str), (s k).all isNm = true → (layN s h w src xs k).all isNm = true
  | [], s, q => q
  | x :: xs, s, q => by
    refine layN_nm hw k xs _ ?_
    split
    · by_cases c : k = (h, x)
      · rw [c] at q ⊢
        rw [at_same, List.all_append, q]
        show (true && (isNm w && true)) = true
        rw [hw]
        rfl
      · rw [at_ne _ _ c]
        exact q
    · exact q
theorem nok_write {N : Nst} {T : Nat} (ok : Nok N T) {h w : Str} (src : Option Str) (hh : h ∈ N.hands) (hw : isNm w = true) : Nok (writeN N h w src) (T + 1) :=
  { ok with
    bnd := fun x hx => by
      obtain ⟨b1, b2, b3⟩ := ok.bnd x hx
      show ((at_ N.book h (putN (N.book h) w (N.book h).length) x).map Prod.fst).Nodup ∧ _
      by_cases c : x = h
      · subst c
        show ((at_ N.book x _ x).map Prod.fst).Nodup ∧ (at_ N.book x _ x).length ≤ T + 1 ∧ ∀ y ∈ at_ N.book x _ x, isNm y.1 = true
        rw [at_same]
        exact ⟨putN_nd _ _ b1, Nat.le_trans (putN_len _ _ _) (by omega), putN_nm _ b3 hw⟩
      · show ((at_ N.book h _ x).map Prod.fst).Nodup ∧ (at_ N.book h _ x).length ≤ T + 1 ∧ ∀ y ∈ at_ N.book h _ x, isNm y.1 = true
        rw [at_ne _ _ c]
        exact ⟨b1, by omega, b3⟩
    sen := fun k hk => by
      obtain ⟨s1, s2, s3⟩ := ok.sen k hk
      have l := layN_len h w src k (N.near h) N.sent
      have nl := Nat.le_trans (ok.nlen h hh) ok.len
      refine ⟨?_, ?_, layN_nm hw k _ _ s3⟩
      · show (layN N.sent h w src (N.near h) k).length ≤ _
        omega
      · show N.heard k ≤ (layN N.sent h w src (N.near h) k).length
        omega }
theorem NetAt.book {C a : Addr} {A : Ads} {N : Nst} {H : Hp} (n : NetAt C a A N H) {h : Str} (hh : h ∈ N.hands) (b : List (Str × Nat)) : NetAt C a A { N with book := at_ N.book h b } (upd H (A.ba h) (.dK (kvB b))) ∧ Grow (A.ft a N) H (upd H (A.ba h) (.dK (kvB b))) := by
  have e := n.eba h hh
  have d := n.d2 h hh
  simp only [List.mem_cons, List.not_mem_nil, or_false, not_or] at d
  have ne : ∀ {x : Addr} {o : HO}, H x = some o → o ≠ .dK (kvB (N.book h)) → x ≠ A.ba h := fun hx hn => ne_of hx e hn
  refine ⟨{ n with
    obj := by rw [upd_ne (ne n.obj (by simp))]; exact n.obj
    own := by rw [upd_ne (ne n.own (by simp))]; exact n.own
    eab := by rw [upd_ne (Ne.symm d.1)]; exact n.eab
    ean := by rw [upd_ne (Ne.symm d.2.1)]; exact n.ean
    eak := by rw [upd_ne (Ne.symm d.2.2.1)]; exact n.eak
    eam := by rw [upd_ne (Ne.symm d.2.2.2)]; exact n.eam
    eas := by rw [upd_ne (ne n.eas (by simp))]; exact n.eas
    eah := by rw [upd_ne (ne n.eah (by simp))]; exact n.eah
    ena := fun x hx => by rw [upd_ne (ne (n.ena x hx) (by simp))]; exact n.ena x hx
    eba := fun x hx => by
      show upd H (A.ba h) (.dK (kvB b)) (A.ba x) = some (.dK (kvB (at_ N.book h b x)))
      by_cases c : x = h
      · rw [c, upd_same, at_same]
      · rw [upd_ne (fun z => c (n.d3 x hx h hh z)), at_ne _ _ c]
        exact n.eba x hx
    esa := fun x hx => by rw [upd_ne (ne (n.esa x hx) (by simp))]; exact n.esa x hx }, grow_at e (fun ps z => by cases z) (mem_ft.mpr (.inr (.inr (.inl ⟨h, hh, rfl⟩))))⟩
theorem NetAt.lay {C a : Addr} {A : Ads} {N : Nst} {H : Hp} (n : NetAt C a A N H) {k : Str × Str} (hk : k ∈ N.keys) (ys : List Str) : NetAt C a A { N with sent := at_ N.sent k ys } (upd H (A.sa k) (.lst (ys.map V.str))) ∧ Grow (A.ft a N) H (upd H (A.sa k) (.lst (ys.map V.str))) := by
  have e := n.esa k hk
  have ne : ∀ {x : Addr} {o : HO}, H x = some o → o ≠ .lst ((N.sent k).map V.str) → x ≠ A.sa k := fun hx hn => ne_of hx e hn
  refine ⟨{ n with
    obj := by rw [upd_ne (ne n.obj (by simp))]; exact n.obj
    own := by rw [upd_ne (ne n.own (by simp))]; exact n.own
    eab := by rw [upd_ne (ne n.eab (by simp))]; exact n.eab
    ean := by rw [upd_ne (ne n.ean (by simp))]; exact n.ean
    eak := by rw [upd_ne (ne n.eak (by simp))]; exact n.eak
    eam := by rw [upd_ne (ne n.eam (by simp))]; exact n.eam
    eas := by rw [upd_ne (ne n.eas (by simp))]; exact n.eas
    eah := by rw [upd_ne (ne n.eah (by simp))]; exact n.eah
    ena := fun x hx => by rw [upd_ne (n.d7 x hx k hk)]; exact n.ena x hx
    eba := fun x hx => by rw [upd_ne (ne (n.eba x hx) (by simp))]; exact n.eba x hx
    esa := fun x hx => by
      show upd H (A.sa k) (.lst (ys.map V.str)) (A.sa x) = some (.lst ((at_ N.sent k ys x).map V.str))
      by_cases c : x = k
      · rw [c, upd_same, at_same]
      · rw [upd_ne (fun z => c (n.d6 x hx k hk z)), at_ne _ _ c]
        exact n.esa x hx }, grow_at e (fun ps z => by cases z) (mem_ft.mpr (.inr (.inr (.inr ⟨k, hk, rfl⟩))))⟩
theorem kvK_put {keys : List (Str × Str)} (nd : keys.Nodup) {f : Str × Str → V} {k : Str × Str} (m : k ∈ keys) (v : V) : putK (kvK keys f) (tk k) v = kvK keys fun x => if x = k then v else f x := by
  unfold putK
  have e : ((kvK keys f).any fun kv => decide (kv.1 = tk k)) = true := by
    rw [List.any_eq_true]
    exact ⟨(tk k, f k), List.mem_map.mpr ⟨k, m, rfl⟩, decide_eq_true rfl⟩
  rw [e, if_pos rfl]
  unfold kvK
  rw [List.map_map]
  refine List.map_congr_left fun x _ => ?_
  show (if tk x = tk k then (tk x, v) else (tk x, f x)) = (tk x, if x = k then v else f x)
  by_cases c : x = k
  · rw [if_pos (by rw [c]), if_pos c]
  · rw [if_neg (fun z => c (tk_inj z)), if_neg c]
theorem NetAt.hear {C a : Addr} {A : Ads} {N : Nst} {H : Hp} (n : NetAt C a A N H) (nd : N.keys.Nodup) {k : Str × Str} (hk : k ∈ N.keys) (m : Nat) :
    NetAt C a A { N with heard := at_ N.heard k m } (upd H A.ah (.dT (putK (kvK N.keys fun k => .int (N.heard k : Nat)) (tk k) (.int (m : Nat))))) ∧ Grow (A.ft a N) H (upd H A.ah (.dT (putK (kvK N.keys fun k => .int (N.heard k : Nat)) (tk k) (.int (m : Nat))))) := by
  have e := n.eah
  have ne : ∀ {x : Addr} {o : HO}, H x = some o → o ≠ .dT (kvK N.keys fun k => .int (N.heard k : Nat)) → x ≠ A.ah := fun hx hn => ne_of hx e hn
  refine ⟨{ n with
    obj := by rw [upd_ne (ne n.obj (by simp))]; exact n.obj
    own := by rw [upd_ne (ne n.own (by simp))]; exact n.own
    eab := by rw [upd_ne (ne n.eab (by simp))]; exact n.eab
    ean := by rw [upd_ne (ne n.ean (by simp))]; exact n.ean
    eak := by rw [upd_ne (ne n.eak (by simp))]; exact n.eak
    eam := by rw [upd_ne (ne n.eam (by simp))]; exact n.eam
    eas := by rw [upd_ne n.d4]; exact n.eas
    eah := by
      rw [upd_same, kvK_put nd hk]
      congr 2
      unfold kvK
      refine List.map_congr_left fun x _ => ?_
      show (tk x, if x = k then V.int (m : Nat) else .int (N.heard x : Nat)) = (tk x, V.int ((at_ N.heard k m x : Nat) : Int))
      by_cases c : x = k
      · rw [if_pos c, c, at_same]
      · rw [if_neg c, at_ne _ _ c]
    ena := fun x hx => by rw [upd_ne (ne (n.ena x hx) (by simp))]; exact n.ena x hx
    eba := fun x hx => by rw [upd_ne (ne (n.eba x hx) (by simp))]; exact n.eba x hx
    esa := fun x hx => by rw [upd_ne (ne (n.esa x hx) (by simp))]; exact n.esa x hx }, grow_at e (fun ps z => by cases z) (mem_ft.mpr (.inl (by simp)))⟩

end Lw

namespace Lw
open PySem PySem.Spec PyProof.Rows L2 GxR Gx
section
variable {P : Program} {w : World} {K : PySem.W.Frag} {mg : Str → Option Value} {base : Heap} {C : Addr}
/-! ### _write -/
def spWrite (C : Addr) : Sp := fun vs H Q _ => ∃ (a : Addr) (A : Ads) (N : Nst) (T : Nat) (h x : Str) (src : Option Str), vs = [.ref a, .str h, .str x, optV src] ∧ NetAt C a A N H ∧ Nok N T ∧ T ≤ 10000 ∧ h ∈ N.hands ∧
  ∀ H', Grow (A.ft a N) H H' → NetAt C a A (writeN N h x src) H' → Q .non H'
theorem ok_Net_write {f c : Addr} {fd : FuncData} (B : Nb mg) (D : DefIs K "_write" "Net._write" st_Net_write f fd (.ref c)) (NC : NetC K C) : FnG P w K mg base CX0 2 f fd ["self", "hand", "word", "source"] (spWrite C) := by
  refine D.ok0 (k := 1) sc_Net_write (fun vs H Q E h => ?_) (fun A0 outer s H vs Q E g hr h => ?_)
  · obtain ⟨a, A, N, T, h, x, src, rfl, _⟩ := h
    rfl
  obtain ⟨a, A, N, T, h, x, src, rfl, n, ok, hT, hh, q⟩ := h
  refine ⟨_,
      (pss_cons (ps_set (i := 4) sc_Net_write.nd rfl (.inl rfl) (pe_dget (hu_of hr) (pe_fN NC.cls NC.n_books (pv 0)) (pv 1) (fun _ _ => rfl)))
      (pss_cons (ps_asg (pe_callB call_lenD rfl B.n_len PySem.boot_len (pa_cons (pv 4) pa_nil)) (pg_sub (pv 4) (pv 2) (set_dict (hu_of hr))))
      (pss_one (ps_for PassesOwn.never rfl (pi_list (pe_dget (hu_of hr) (pe_fN NC.cls NC.n_near (pv 0)) (pv 1) (fun _ _ => rfl))) (pg_name (i := 5) sc_Net_write.nd rfl (.inl rfl)) (
        (pss_one (ps_if (pt_cmpR (op_ne) (pv 5) (pv 3) (nomark _)) (
          (pss_one (ps_expr (pe_bm PySem.F.plainAttrs_list PySem.F.slot_list_append PySem.F.type_list_append mt_append (pe_dget (hu_of hr) (pe_fN NC.cls NC.n_sent (pv 0)) (pe_tup (pa_cons (pv 1) (pa_cons (pv 5) pa_nil))) (fun _ _ => rfl)) (pa_cons (pv 2) pa_nil))))) pss_nil))))))), ?_⟩
  obtain ⟨b1, b2, b3⟩ := ok.bnd h hh
  refine ⟨.ref a, rfl, a, _, _, _, rfl, n.obj, A.l_books, .str h, rfl, A.ak, _, rfl, dgF n.eak ok.nd hh, ?_⟩
  refine ⟨.ref (A.ba h), rfl, A.ba h, _, rfl, n.eba h hh, ?_⟩
  refine ⟨.ref (A.ba h), rfl, .str x, rfl, A.ba h, _, rfl, .inl ⟨_, .inr x, n.eba h hh, rfl, by unfold kvB; rw [List.length_map, sizeLine_eq]; omega, rfl⟩, ?_⟩
  have el : (kvB (N.book h)).length = (N.book h).length := by unfold kvB; rw [List.length_map]
  rw [el, kvB_put]
  obtain ⟨n1, g1⟩ := n.book hh (putN (N.book h) x (N.book h).length)
  generalize upd H (A.ba h) (.dK (kvB (putN (N.book h) x (N.book h).length))) = H1 at n1 g1 ⊢
  have nl := Nat.le_trans (ok.nlen h hh) ok.len
  refine ⟨.ref a, rfl, a, _, _, _, rfl, n1.obj, A.l_near, .str h, rfl, A.an, _, rfl, dgF n1.ean ok.nd hh, A.na h, rfl, ⟨_, .inl (.inl (n1.ena h hh))⟩, ?_⟩
  refine for_it (walk_list (xs := (N.near h).map V.str)) (fun j σ H' => ∃ y : Option V, σ = [some (.ref a), some (.str h), some (.str x), some (optV src), some (.ref (A.ba h)), y] ∧ Grow (A.ft a N) H H' ∧
      NetAt C a A { N with book := at_ N.book h (putN (N.book h) x (N.book h).length), sent := layN N.sent h x src ((N.near h).take j) } H')
    ⟨_, rfl, g1, n1⟩ (fun j σ H' _ h0 => by
      obtain ⟨_, _, _, n2⟩ := h0
      exact .inl (.inl (n2.ena h hh))) (fun j z σ H2 H3 hj hp hy => ?_) (fun σ H2 hp => ?_)
  · obtain ⟨y, rfl, g2, n2⟩ := hp
    obtain ⟨rfl, ez⟩ := hy
    rw [List.length_map] at hj
    rw [List.getElem?_map, List.getElem?_eq_getElem hj] at ez
    cases ez
    obtain ⟨o, ho⟩ : ∃ o, (N.near h)[j] = o := ⟨_, rfl⟩
    have tk1 : (N.near h).take (j + 1) = (N.near h).take j ++ [o] := by rw [List.take_add_one, List.getElem?_eq_getElem hj, ho]; rfl
    have om : o ∈ N.near h := by rw [← ho]; exact List.getElem_mem hj
    have hk := ok.near h hh o om
    rw [ho]
    have ll := layN_len h x src (h, o) ((N.near h).take j) N.sent
    have tl : ((N.near h).take j).length ≤ 60 := by rw [List.length_take]; omega
    have sl := (ok.sen _ hk).1
    have esc : scal (V.str o) (optV src) = true := by cases src <;> rfl
    refine ⟨.str o, rfl, optV src, rfl, esc, _, rfl, ite2 (fun hb => ?_) fun hb => ?_⟩
    · have nb : some o ≠ src := fun z => by
        rw [← z] at hb
        rw [show decide (V.str o = optV (some o)) = true from decide_eq_true rfl] at hb
        cases hb
      refine ⟨.ref a, rfl, a, _, _, _, rfl, n2.obj, A.l_sent, .str h, rfl, .str o, rfl, by show 2 ≤ sizeLine; decide, fun b nb2 => ?_⟩
      have g3 : Grow [] H3 (upd H3 b (.tup [.str h, .str o])) := grow_new nb2
      have eb : upd H3 b (.tup [.str h, .str o]) b = some (.tup [.str h, .str o]) := upd_same
      generalize upd H3 b (.tup [.str h, .str o]) = H4 at g3 eb ⊢
      have n3 := n2.grow0 g3
      have e3 := n3.esa _ hk
      refine ⟨A.as_, _, rfl, dgK (k := (h, o)) n3.eas ok.knd hk eb, tyl e3, .str x, rfl, A.sa (h, o), _, _, rfl, rfl, e3, by rw [List.length_map, sizeLine_eq]; show (layN N.sent h x src ((N.near h).take j) (h, o)).length < _; omega, ?_⟩
      obtain ⟨n4, g4⟩ := n3.lay hk (layN N.sent h x src ((N.near h).take j) (h, o) ++ [x])
      rw [List.map_append] at n4 g4
      refine ⟨_, rfl, (g2.trans g3.any).trans g4, ?_⟩
      rw [tk1, layN_snoc, if_pos nb]
      exact n4
    · have eb : some o = src := by
        cases src with
        | none =>
          rw [show decide (V.str o = optV none) = false from decide_eq_false fun z => by cases z] at hb
          exact absurd rfl hb
        | some b =>
          by_cases e : o = b
          · rw [e]
          · rw [show decide (V.str o = optV (some b)) = false from decide_eq_false fun z => e (V.str.inj z)] at hb
            exact absurd rfl hb
      refine ⟨_, rfl, g2, ?_⟩
      rw [tk1, layN_snoc, if_neg (fun z => z eb)]
      exact n2
  · obtain ⟨y, rfl, g2, n2⟩ := hp
    rw [List.length_map, List.take_length] at n2
    exact q H2 g2 n2
/-! ### _hear -/
def spHear (C : Addr) : Sp := fun vs H Q _ => ∃ (a : Addr) (A : Ads) (N : Nst) (T : Nat) (h o : Str), vs = [.ref a, .str h, .str o] ∧ NetAt C a A N H ∧ Nok N T ∧ T ≤ 10000 ∧ (h, o) ∈ N.keys ∧ N.heard (h, o) < (N.sent (h, o)).length ∧
  ∀ H', Grow (A.ft a N) H H' → NetAt C a A (hearN N h o) H' → Nok (hearN N h o) (T + 1) → Q .non H'
theorem ok_Net_hear {f c : Addr} {fd : FuncData} (B : Nb mg) (D : DefIs K "_hear" "Net._hear" st_Net_hear f fd (.ref c)) (NC : NetC K C) (c_Net_write : CalleeM P w K mg base CX0 2 C "_write" ["self", "hand", "word", "source"] (spWrite C)) : FnG P w K mg base CX0 3 f fd ["self", "hand", "other"] (spHear C) := by
  refine D.ok0 (k := 2) sc_Net_hear (fun vs H Q E h => ?_) (fun A0 outer s H vs Q E g hr h => ?_)
  · obtain ⟨a, A, N, T, h, o, rfl, _⟩ := h
    rfl
  obtain ⟨a, A, N, T, h, o, rfl, n, ok, hT, hk, lt, q⟩ := h
  refine ⟨_,
      (pss_cons (ps_set (i := 3) sc_Net_hear.nd rfl (.inl rfl) (pe_tup (pa_cons (pv 1) (pa_cons (pv 2) pa_nil))))
      (pss_cons (ps_set (i := 4) sc_Net_hear.nd rfl (.inl rfl) (pe_ix ix_list (pe_dget (hu_of hr) (pe_fN NC.cls NC.n_sent (pv 0)) (pv 3) (fun _ _ => rfl)) (pe_dget (hu_of hr) (pe_fN NC.cls NC.n_heard (pv 0)) (pv 3) (fun _ _ => rfl)) (fun _ _ => rfl)))
      (pss_cons (ps_daug (hu_of hr) (pe_fN NC.cls NC.n_heard (pv 0)) (pv 3) pe_int in_add (fun _ _ _ => rfl))
      (pss_one (ps_expr (pe_gm c_Net_write g (hr.mono (by decide)) pass0 (pv 0) (pa_cons (pv 2) (pa_cons (pv 4) (pa_cons (pv 1) pa_nil))))))))), ?_⟩
  refine ⟨.str h, rfl, .str o, rfl, by show 2 ≤ sizeLine; decide, fun b nb => ?_⟩
  have g1 : Grow [] H (upd H b (.tup [.str h, .str o])) := grow_new nb
  have eb : upd H b (.tup [.str h, .str o]) b = some (.tup [.str h, .str o]) := upd_same
  have fb : Fresh H b := fresh_none nb
  generalize upd H b (.tup [.str h, .str o]) = H1 at g1 eb ⊢
  have n1 := n.grow0 g1
  obtain ⟨x, hx⟩ : ∃ x, (N.sent (h, o))[N.heard (h, o)]? = some x := ⟨_, List.getElem?_eq_getElem lt⟩
  obtain ⟨s1, s2, s3⟩ := ok.sen _ hk
  have nx : isNm x = true := List.all_eq_true.mp s3 x (List.mem_of_getElem? hx)
  have ho : o ∈ N.hands := (ok.kin _ hk).2
  refine ⟨.ref a, rfl, a, _, _, _, rfl, n1.obj, A.l_sent, .ref b, rfl, A.as_, _, rfl, dgK (k := (h, o)) n1.eas ok.knd hk eb, .ref a, rfl, a, _, _, _, rfl, n1.obj, A.l_heard, .ref b, rfl, A.ah, _, rfl, dgK (k := (h, o)) n1.eah ok.knd hk eb, ?_⟩
  refine ⟨A.sa (h, o), _, _, .str x, rfl, rfl, .inl (.inl (n1.esa _ hk)), atI_nat (by rw [List.getElem?_map, hx]; rfl), ?_⟩
  refine ⟨.ref a, rfl, a, _, _, _, rfl, n1.obj, A.l_heard, .ref b, rfl, A.ah, _, rfl, dgK (k := (h, o)) n1.eah ok.knd hk eb, _, _, rfl, rfl, ?_⟩
  have kl : N.keys.length ≤ 3600 := by
    have h1 : (N.keys.map tk).length ≤ (N.hands.flatMap fun u => N.hands.map fun v => tk (u, v)).length := List.Nodup.length_le_of_subset (List.pairwise_map.mpr (ok.knd.imp fun q e => q (tk_inj e))) fun y hy => by
      obtain ⟨k, hk2, rfl⟩ := List.mem_map.mp hy
      obtain ⟨k1, k2⟩ := ok.kin k hk2
      exact List.mem_flatMap.mpr ⟨k.1, k1, List.mem_map.mpr ⟨k.2, k2, rfl⟩⟩
    rw [List.length_map] at h1
    have h2 : ∀ (l m : List Str), (l.flatMap fun u => m.map fun v => tk (u, v)).length = l.length * m.length := fun l m => by
      induction l with
      | nil => simp
      | cons u l ih => rw [List.flatMap_cons, List.length_append, ih, List.length_map, List.length_cons, Nat.succ_mul]; omega
    rw [h2] at h1
    have h3 := Nat.mul_le_mul ok.len ok.len
    omega
  have et : H1 b = some (.tup ((tk (h, o)).map kV)) := eb
  refine ⟨_, DPut.t n1.eah et (by unfold kvK; rw [List.length_map, sizeLine_eq]; omega), ?_⟩
  obtain ⟨n2, g2⟩ := n1.hear ok.knd hk (N.heard (h, o) + 1)
  have ei : ((N.heard (h, o) : Nat) : Int) + 1 = ((N.heard (h, o) + 1 : Nat) : Int) := by omega
  rw [ei]
  generalize upd H1 A.ah (.dT (putK (kvK N.keys fun k => .int (N.heard k : Nat)) (tk (h, o)) (.int ((N.heard (h, o) + 1 : Nat) : Int)))) = H2 at n2 g2 ⊢
  have ok2 : Nok { N with heard := at_ N.heard (h, o) (N.heard (h, o) + 1) } T := { ok with
    sen := fun k hk2 => by
      obtain ⟨q1, q2, q3⟩ := ok.sen k hk2
      refine ⟨q1, ?_, q3⟩
      show at_ N.heard (h, o) (N.heard (h, o) + 1) k ≤ _
      by_cases c : k = (h, o)
      · rw [c, at_same]; exact lt
      · rw [at_ne _ _ c]; exact q2 }
  refine ⟨.ref a, rfl, a, _, _, rfl, n2.obj, rfl, .str o, rfl, .str x, rfl, .str h, rfl, a, A, _, T, o, x, some h, rfl, n2, ok2, hT, ho, fun H3 g3 n3 => ?_⟩
  have e : hearN N h o = writeN { N with heard := at_ N.heard (h, o) (N.heard (h, o) + 1) } o x (some h) := by
    unfold hearN
    rw [hx]
    rfl
  have n3' : NetAt C a A (hearN N h o) H3 := by rw [e]; exact n3
  have ok3 : Nok (hearN N h o) (T + 1) := by rw [e]; exact nok_write ok2 (some h) ho nx
  exact q H3 ((g1.any.trans g2).trans g3) n3' ok3
end

end Lw

namespace Lw
open PySem PySem.Spec PyProof.Rows L2 GxR Gx
section
variable {P : Program} {w : World} {K : PySem.W.Frag} {mg : Str → Option Value} {base : Heap} {C : Addr}
theorem kvM_new {m : List (Str × Str)} {x : Str} (h : x ∉ m.map Prod.fst) (y : Str) : putK (kvM m) (.inr x) (.str y) = kvM (m ++ [(x, y)]) := by
  rw [putK_new _ (valV_none (by
    intro z
    unfold kvM at z
    rw [List.map_map] at z
    obtain ⟨p, hp, e⟩ := List.mem_map.mp z
    exact h (List.mem_map.mpr ⟨p, hp, Sum.inr.inj e⟩)))]
  unfold kvM
  rw [List.map_append]
  rfl
theorem NetAt.mouth {C a : Addr} {A : Ads} {N : Nst} {H : Hp} (n : NetAt C a A N H) (m : List (Str × Str)) : NetAt C a A { N with mouths := m } (upd H A.am (.dK (kvM m))) ∧ Grow (A.ft a N) H (upd H A.am (.dK (kvM m))) := by
  have e := n.eam
  have d := n.d1
  simp only [List.nodup_cons, List.mem_cons, List.not_mem_nil, or_false, not_or] at d
  have ne : ∀ {x : Addr} {o : HO}, H x = some o → o ≠ .dK (kvM N.mouths) → x ≠ A.am := fun hx hn => ne_of hx e hn
  refine ⟨{ n with
    obj := by rw [upd_ne (ne n.obj (by simp))]; exact n.obj
    own := by rw [upd_ne (ne n.own (by simp))]; exact n.own
    eab := by rw [upd_ne d.1.2.2]; exact n.eab
    ean := by rw [upd_ne d.2.1.2]; exact n.ean
    eak := by rw [upd_ne d.2.2.1]; exact n.eak
    eam := upd_same
    eas := by rw [upd_ne (ne n.eas (by simp))]; exact n.eas
    eah := by rw [upd_ne (ne n.eah (by simp))]; exact n.eah
    ena := fun x hx => by rw [upd_ne (ne (n.ena x hx) (by simp))]; exact n.ena x hx
    eba := fun x hx => by
      have q := n.d2 x hx
      simp only [List.mem_cons, List.not_mem_nil, or_false, not_or] at q
      rw [upd_ne q.2.2.2]
      exact n.eba x hx
    esa := fun x hx => by rw [upd_ne (ne (n.esa x hx) (by simp))]; exact n.esa x hx }, grow_at e (fun ps z => by cases z) (mem_ft.mpr (.inl (by simp)))⟩
/-! ### shout, step -/
def spShout (C T1 : Addr) : Sp := fun vs H Q _ => ∃ (a : Addr) (A : Ads) (N : Nst) (T : Nat) (h x : Str), vs = [.ref a, .str h, .str x] ∧ TabG H T1 ∧ NetAt C a A N H ∧ Nok N T ∧ T ≤ 9000 ∧ h ∈ N.hands ∧ isNm x = true ∧ x ∉ N.mouths.map Prod.fst ∧ N.mouths.length < 100 ∧
  ∀ H', Grow (A.ft a N) H H' → NetAt C a A (shoutN N h x) H' → Nok (shoutN N h x) (T + 1) → Q .non H'
theorem ok_Net_shout {f c T1 : Addr} {fd : FuncData} (B : Nb mg) (D : DefIs K "shout" "Net.shout" st_Net_shout f fd (.ref c)) (NC : NetC K C) (c_is_name : Callee P w K mg base CX0 4 "is_name" ["thing"] (spIsName K T1))
    (c_Net_check_hand : CalleeM P w K mg base CX0 2 C "_check_hand" ["self", "thing"] (spChk C)) (c_Net_write : CalleeM P w K mg base CX0 2 C "_write" ["self", "hand", "word", "source"] (spWrite C)) : FnG P w K mg base CX0 5 f fd ["self", "hand", "word"] (spShout C T1) := by
  refine D.ok0 (k := 4) sc_Net_shout (fun vs H Q E h => ?_) (fun A0 outer s H vs Q E g hr h => ?_)
  · obtain ⟨a, A, N, T, h, x, rfl, _⟩ := h
    rfl
  obtain ⟨a, A, N, T, h, x, rfl, t1, n, ok, hT, hh, nx, new, ml, q⟩ := h
  refine ⟨_,
      (pss_cons (ps_expr (pe_gm c_Net_check_hand g (hr.mono (by decide)) pass0 (pv 0) (pa_cons (pv 1) pa_nil)))
      (pss_cons (ps_if (pt_not (pt_val (pe_g c_is_name g (hr.mono (by decide)) pass0 (pa_cons (pv 2) pa_nil)))) (
        (pss_one ps_dead)) pss_nil)
      (pss_cons (ps_if (pt_cmp (pc_din (hu_of hr) (pv 2) (pe_fN NC.cls NC.n_mouths (pv 0)))) (
        (pss_one ps_dead)) pss_nil)
      (pss_cons (ps_asg (pv 1) (pg_sub (pe_fN NC.cls NC.n_mouths (pv 0)) (pv 2) (set_dict (hu_of hr))))
      (pss_one (ps_expr (pe_gm c_Net_write g (hr.mono (by decide)) pass0 (pv 0) (pa_cons (pv 1) (pa_cons (pv 2) (pa_cons pe_non pa_nil)))))))))), ?_⟩
  have xl : x.length ≤ sizeLine := by
    unfold isNm at nx
    rw [Bool.and_eq_true, Bool.and_eq_true, decide_eq_true_iff, decide_eq_true_iff] at nx
    rw [sizeLine_eq]
    omega
  refine ⟨.ref a, rfl, a, _, _, rfl, n.obj, rfl, .str h, rfl, a, A, N, T, h, rfl, n, ok, hh, ?_⟩
  refine ⟨.str x, rfl, .str x, rfl, t1, .inl ⟨x, rfl, xl, fun H1 g1 => ?_⟩⟩
  rw [nx]
  have n1 := n.grow0 g1
  refine ⟨true, rfl, iteF ?_⟩
  refine ⟨.str x, rfl, .ref a, rfl, a, _, _, _, rfl, n1.obj, A.l_mouths, A.am, _, rfl, DGet.k (k := .inr x) n1.eam, ?_⟩
  rw [kvM_is ok.mnd, decide_eq_false new]
  refine ⟨_, rfl, iteF ?_⟩
  refine ⟨.str h, rfl, .ref a, rfl, a, _, _, _, rfl, n1.obj, A.l_mouths, .str x, rfl, A.am, _, rfl, .inl ⟨_, .inr x, n1.eam, rfl, by unfold kvM; rw [List.length_map, sizeLine_eq]; omega, rfl⟩, ?_⟩
  rw [kvM_new new]
  obtain ⟨n2, g2⟩ := n1.mouth (N.mouths ++ [(x, h)])
  generalize upd H1 A.am (.dK (kvM (N.mouths ++ [(x, h)]))) = H2 at n2 g2 ⊢
  have ok2 : Nok { N with mouths := N.mouths ++ [(x, h)] } T := { ok with
    mnd := by
      show ((N.mouths ++ [(x, h)]).map Prod.fst).Nodup
      rw [List.map_append, List.nodup_append]
      refine ⟨ok.mnd, by simp, fun y hy z hz e => ?_⟩
      have ez : z = x := by simpa using hz
      rw [ez] at e
      exact new (e ▸ hy)
    mnm := fun m hm => by
      rcases List.mem_append.mp hm with hm | hm
      · exact ok.mnm m hm
      · rw [List.mem_singleton.mp hm]; exact ⟨nx, hh⟩
    mlen := by show (N.mouths ++ [(x, h)]).length ≤ 100; rw [List.length_append]; show _ + 1 ≤ 100; omega }
  refine ⟨.ref a, rfl, a, _, _, rfl, n2.obj, rfl, .str h, rfl, .str x, rfl, a, A, _, T, h, x, none, rfl, n2, ok2, by omega, hh, fun H3 g3 n3 => ?_⟩
  exact q H3 ((g1.any.trans g2).trans g3) n3 (nok_write ok2 none hh nx)
def spStep (C : Addr) : Sp := fun vs H Q _ => ∃ (a : Addr) (A : Ads) (N : Nst) (T : Nat) (h o : Str), vs = [.ref a, .str h, .str o] ∧ NetAt C a A N H ∧ Nok N T ∧ T ≤ 9000 ∧ h ∈ N.hands ∧ o ∈ N.hands ∧ 0 < manyN N (h, o) ∧
  ∀ H', Grow (A.ft a N) H H' → NetAt C a A (hearN N h o) H' → Nok (hearN N h o) (T + 1) → Q .non H'
theorem ok_Net_step {f c : Addr} {fd : FuncData} (B : Nb mg) (D : DefIs K "step" "Net.step" st_Net_step f fd (.ref c)) (NC : NetC K C)
    (c_Net_check_hand : CalleeM P w K mg base CX0 2 C "_check_hand" ["self", "thing"] (spChk C)) (c_Net_many_on : CalleeM P w K mg base CX0 2 C "_many_on" ["self", "lane"] (spMany C)) (c_Net_hear : CalleeM P w K mg base CX0 3 C "_hear" ["self", "hand", "other"] (spHear C)) : FnG P w K mg base CX0 4 f fd ["self", "hand", "other"] (spStep C) := by
  refine D.ok0 (k := 3) sc_Net_step (fun vs H Q E h => ?_) (fun A0 outer s H vs Q E g hr h => ?_)
  · obtain ⟨a, A, N, T, h, o, rfl, _⟩ := h
    rfl
  obtain ⟨a, A, N, T, h, o, rfl, n, ok, hT, hh, ho, mn, q⟩ := h
  refine ⟨_,
      (pss_cons (ps_expr (pe_gm c_Net_check_hand g (hr.mono (by decide)) pass0 (pv 0) (pa_cons (pv 1) pa_nil)))
      (pss_cons (ps_expr (pe_gm c_Net_check_hand g (hr.mono (by decide)) pass0 (pv 0) (pa_cons (pv 2) pa_nil)))
      (pss_cons (ps_if (pt_cmpR (op_eq) (pe_gm c_Net_many_on g (hr.mono (by decide)) pass0 (pv 0) (pa_cons (pe_tup (pa_cons (pv 1) (pa_cons (pv 2) pa_nil))) pa_nil)) pe_int (nomark _)) (
        (pss_one ps_dead)) pss_nil)
      (pss_one (ps_expr (pe_gm c_Net_hear g (hr.mono (by decide)) pass0 (pv 0) (pa_cons (pv 1) (pa_cons (pv 2) pa_nil)))))))), ?_⟩
  have hk : (h, o) ∈ N.keys := Classical.byContradiction fun z => by
    unfold manyN at mn
    rw [if_neg z] at mn
    omega
  have lt : N.heard (h, o) < (N.sent (h, o)).length := by
    unfold manyN at mn
    rw [if_pos hk] at mn
    omega
  refine ⟨.ref a, rfl, a, _, _, rfl, n.obj, rfl, .str h, rfl, a, A, N, T, h, rfl, n, ok, hh, ?_⟩
  refine ⟨.ref a, rfl, a, _, _, rfl, n.obj, rfl, .str o, rfl, a, A, N, T, o, rfl, n, ok, ho, ?_⟩
  refine ⟨.ref a, rfl, a, _, _, rfl, n.obj, rfl, .str h, rfl, .str o, rfl, by show 2 ≤ sizeLine; decide, fun b nb => ?_⟩
  have g1 : Grow [] H (upd H b (.tup [.str h, .str o])) := grow_new nb
  have eb : upd H b (.tup [.str h, .str o]) b = some (.tup [.str h, .str o]) := upd_same
  generalize upd H b (.tup [.str h, .str o]) = H1 at g1 eb ⊢
  have n1 := n.grow0 g1
  refine ⟨a, b, A, N, T, (h, o), rfl, n1.many, ok, eb, rfl, _, rfl, ?_⟩
  rw [show decide (V.int ((manyN N (h, o) : Nat) : Int) = V.int 0) = false from decide_eq_false fun z => by have := V.int.inj z; omega]
  refine iteF ⟨.ref a, rfl, a, _, _, rfl, n1.obj, rfl, .str h, rfl, .str o, rfl, a, A, N, T, h, o, rfl, n1, ok, by omega, hk, lt, fun H2 g2 n2 ok2 => ?_⟩
  exact q H2 (g1.any.trans g2) n2 ok2
end

end Lw

namespace Lw
open PySem PySem.Spec PyProof.Rows L2 GxR Gx
/-! ### a net while a hand joins: its dicts one after another -/
structure NetR (C a : Addr) (A : Ads) (be : List (Str × Option Str)) (hn hb : List Str) (near : Str → List Str) (book : Str → List (Str × Nat)) (mo : List (Str × Str)) (ks kh : List (Str × Str)) (sent : Str × Str → List Str) (heard : Str × Str → Nat) (H : Hp) : Prop where
  obj : H a = some (.ins C A.dx A.fs)
  own : H A.dx = some (.own a)
  eab : H A.ab = some (.dK (kvO be))
  ean : H A.an = some (.dK (kvF hn fun h => .ref (A.na h)))
  eak : H A.ak = some (.dK (kvF hb fun h => .ref (A.ba h)))
  eam : H A.am = some (.dK (kvM mo))
  eas : H A.as_ = some (.dT (kvK ks fun k => .ref (A.sa k)))
  eah : H A.ah = some (.dT (kvK kh fun k => .int (heard k : Nat)))
  ena : ∀ h ∈ hn, H (A.na h) = some (.lst ((near h).map V.str))
  eba : ∀ h ∈ hb, H (A.ba h) = some (.dK (kvB (book h)))
  esa : ∀ k ∈ ks, H (A.sa k) = some (.lst ((sent k).map V.str))
  d1 : [A.ab, A.an, A.ak, A.am].Nodup
  d2 : ∀ h ∈ hb, A.ba h ∉ [A.ab, A.an, A.ak, A.am]
  d3 : ∀ h ∈ hb, ∀ h' ∈ hb, A.ba h = A.ba h' → h = h'
  d4 : A.as_ ≠ A.ah
  d5 : ∀ h ∈ hn, ∀ h' ∈ hn, A.na h = A.na h' → h = h'
  d6 : ∀ k ∈ ks, ∀ k' ∈ ks, A.sa k = A.sa k' → k = k'
  d7 : ∀ h ∈ hn, ∀ k ∈ ks, A.na h ≠ A.sa k
theorem NetAt.raw {C a : Addr} {A : Ads} {N : Nst} {H : Hp} (n : NetAt C a A N H) : NetR C a A N.beside N.hands N.hands N.near N.book N.mouths N.keys N.keys N.sent N.heard H :=
  ⟨n.obj, n.own, n.eab, n.ean, n.eak, n.eam, n.eas, n.eah, n.ena, n.eba, n.esa, n.d1, n.d2, n.d3, n.d4, n.d5, n.d6, n.d7⟩
section
variable {C a : Addr} {A : Ads} {be : List (Str × Option Str)} {hn hb : List Str} {near : Str → List Str} {book : Str → List (Str × Nat)} {mo : List (Str × Str)} {ks kh : List (Str × Str)} {sent : Str × Str → List Str} {heard : Str × Str → Nat} {H : Hp}
theorem NetR.net (n : NetR C a A be hn hn near book mo ks ks sent heard H) : NetAt C a A ⟨hn, be, near, book, mo, ks, sent, heard⟩ H :=
  ⟨n.obj, n.own, n.eab, n.ean, n.eak, n.eam, n.eas, n.eah, n.ena, n.eba, n.esa, n.d1, n.d2, n.d3, n.d4, n.d5, n.d6, n.d7⟩
/-- something new stands -/
theorem NetR.new (n : NetR C a A be hn hb near book mo ks kh sent heard H) {b : Addr} {o : HO} (f : H b = none) : NetR C a A be hn hb near book mo ks kh sent heard (upd H b o) := by
  have k : ∀ {x : Addr} {u : HO}, H x = some u → upd H b o x = some u := fun e => by rw [upd_ne (ne_of_none e f)]; exact e
  exact { n with
    obj := k n.obj, own := k n.own, eab := k n.eab, ean := k n.ean, eak := k n.eak, eam := k n.eam, eas := k n.eas, eah := k n.eah
    ena := fun h hh => k (n.ena h hh), eba := fun h hh => k (n.eba h hh), esa := fun h hh => k (n.esa h hh) }
theorem NetR.grow0 {H' : Hp} (n : NetR C a A be hn hb near book mo ks kh sent heard H) (g : Grow [] H H') : NetR C a A be hn hb near book mo ks kh sent heard H' := by
  have k : ∀ {x : Addr} {u : HO}, H x = some u → (∀ ps, u ≠ .tbl ps) → H' x = some u := fun e t => g.keep _ _ (by simp) e t
  exact { n with
    obj := k n.obj (fun ps z => by cases z), own := k n.own (fun ps z => by cases z), eab := k n.eab (fun ps z => by cases z), ean := k n.ean (fun ps z => by cases z), eak := k n.eak (fun ps z => by cases z), eam := k n.eam (fun ps z => by cases z), eas := k n.eas (fun ps z => by cases z), eah := k n.eah (fun ps z => by cases z)
    ena := fun h hh => k (n.ena h hh) (fun ps z => by cases z), eba := fun h hh => k (n.eba h hh) (fun ps z => by cases z), esa := fun h hh => k (n.esa h hh) (fun ps z => by cases z) }
/-- a lane more -/
theorem NetR.sent_ (n : NetR C a A be hn hb near book mo ks kh sent heard H) {k : Str × Str} (new : k ∉ ks) {L : Addr} {ys : List Str} (eL : H L = some (.lst (ys.map V.str))) (l1 : ∀ h ∈ hn, A.na h ≠ L) (l2 : ∀ k ∈ ks, A.sa k ≠ L) :
    NetR C a { A with sa := at_ A.sa k L } be hn hb near book mo (ks ++ [k]) kh (at_ sent k ys) heard (upd H A.as_ (.dT (putK (kvK ks fun k => .ref (A.sa k)) (tk k) (.ref L)))) := by
  have e := n.eas
  have ne : ∀ {x : Addr} {o : HO}, H x = some o → o ≠ .dT (kvK ks fun k => .ref (A.sa k)) → upd H A.as_ (.dT (putK (kvK ks fun k => .ref (A.sa k)) (tk k) (.ref L))) x = some o := fun hx hn => by rw [upd_ne (ne_of hx e hn)]; exact hx
  have old : ∀ {x : Str × Str}, x ∈ ks → x ≠ k := fun hx z => new (z ▸ hx)
  exact {
    obj := ne n.obj (by simp), own := ne n.own (by simp), eab := ne n.eab (by simp), ean := ne n.ean (by simp), eak := ne n.eak (by simp), eam := ne n.eam (by simp)
    eas := by
      show upd H A.as_ _ A.as_ = _
      rw [upd_same, putK_new _ (kvK_none _ new)]
      unfold kvK
      rw [List.map_append]
      congr 3
      · refine List.map_congr_left fun x hx => ?_
        show (tk x, V.ref (A.sa x)) = (tk x, V.ref (at_ A.sa k L x))
        rw [at_ne _ _ (old hx)]
      · show [(tk k, V.ref L)] = [(tk k, V.ref (at_ A.sa k L k))]
        rw [at_same]
    eah := by show upd H A.as_ _ A.ah = _; rw [upd_ne (Ne.symm n.d4)]; exact n.eah
    ena := fun h hh => ne (n.ena h hh) (by simp), eba := fun h hh => ne (n.eba h hh) (by simp)
    esa := fun x hx => by
      show upd H A.as_ _ (at_ A.sa k L x) = some (.lst ((at_ sent k ys x).map V.str))
      rcases List.mem_append.mp hx with hx | hx
      · rw [at_ne _ _ (old hx), at_ne _ _ (old hx)]
        exact ne (n.esa x hx) (by simp)
      · rw [List.mem_singleton.mp hx, at_same, at_same]
        exact ne eL (by simp)
    d1 := n.d1, d2 := n.d2, d3 := n.d3, d4 := n.d4, d5 := n.d5
    d6 := fun x hx y hy q => by
      replace q : at_ A.sa k L x = at_ A.sa k L y := q
      rcases List.mem_append.mp hx with hx | hx <;> rcases List.mem_append.mp hy with hy | hy
      · rw [at_ne _ _ (old hx), at_ne _ _ (old hy)] at q
        exact n.d6 x hx y hy q
      · rw [List.mem_singleton.mp hy, at_same, at_ne _ _ (old hx)] at q
        exact absurd q (l2 x hx)
      · rw [List.mem_singleton.mp hx, at_same, at_ne _ _ (old hy)] at q
        exact absurd q.symm (l2 y hy)
      · rw [List.mem_singleton.mp hx, List.mem_singleton.mp hy]
    d7 := fun h hh x hx => by
      show A.na h ≠ at_ A.sa k L x
      rcases List.mem_append.mp hx with hx | hx
      · rw [at_ne _ _ (old hx)]
        exact n.d7 h hh x hx
      · rw [List.mem_singleton.mp hx, at_same]
        exact l1 h hh }
theorem NetR.heard_ (n : NetR C a A be hn hb near book mo ks kh sent heard H) {k : Str × Str} (new : k ∉ kh) (m : Nat) :
    NetR C a A be hn hb near book mo ks (kh ++ [k]) sent (at_ heard k m) (upd H A.ah (.dT (putK (kvK kh fun k => .int (heard k : Nat)) (tk k) (.int (m : Nat))))) := by
  have e := n.eah
  have ne : ∀ {x : Addr} {o : HO}, H x = some o → o ≠ .dT (kvK kh fun k => .int (heard k : Nat)) → upd H A.ah (.dT (putK (kvK kh fun k => .int (heard k : Nat)) (tk k) (.int (m : Nat)))) x = some o := fun hx hn => by rw [upd_ne (ne_of hx e hn)]; exact hx
  exact { n with
    obj := ne n.obj (by simp), own := ne n.own (by simp), eab := ne n.eab (by simp), ean := ne n.ean (by simp), eak := ne n.eak (by simp), eam := ne n.eam (by simp)
    eas := by rw [upd_ne n.d4]; exact n.eas
    eah := by
      rw [upd_same, putK_new _ (kvK_none _ new)]
      unfold kvK
      rw [List.map_append]
      congr 3
      · refine List.map_congr_left fun x hx => ?_
        show (tk x, V.int (heard x : Nat)) = (tk x, V.int ((at_ heard k m x : Nat) : Int))
        rw [at_ne _ _ (show x ≠ k from fun z => new (by rw [← z]; exact hx))]
      · show [(tk k, V.int (m : Nat))] = [(tk k, V.int ((at_ heard k m k : Nat) : Int))]
        rw [at_same]
    ena := fun h hh => ne (n.ena h hh) (by simp), eba := fun h hh => ne (n.eba h hh) (by simp), esa := fun h hh => ne (n.esa h hh) (by simp) }
/-- a neighbour more -/
theorem NetR.near_ (n : NetR C a A be hn hb near book mo ks kh sent heard H) {h : Str} (hh : h ∈ hn) (ys : List Str) : NetR C a A be hn hb (at_ near h ys) book mo ks kh sent heard (upd H (A.na h) (.lst (ys.map V.str))) := by
  have e := n.ena h hh
  have ne : ∀ {x : Addr} {o : HO}, H x = some o → o ≠ .lst ((near h).map V.str) → upd H (A.na h) (.lst (ys.map V.str)) x = some o := fun hx hn => by rw [upd_ne (ne_of hx e hn)]; exact hx
  exact { n with
    obj := ne n.obj (by simp), own := ne n.own (by simp), eab := ne n.eab (by simp), ean := ne n.ean (by simp), eak := ne n.eak (by simp), eam := ne n.eam (by simp), eas := ne n.eas (by simp), eah := ne n.eah (by simp)
    ena := fun x hx => by
      by_cases c : x = h
      · rw [c, upd_same, at_same]
      · rw [upd_ne (fun z => c (n.d5 x hx h hh z)), at_ne _ _ c]
        exact n.ena x hx
    eba := fun x hx => ne (n.eba x hx) (by simp)
    esa := fun x hx => by rw [upd_ne (fun z => n.d7 h hh x hx z.symm)]; exact n.esa x hx }
/-- a hand more, with its neighbours -/
theorem NetR.nears_ (n : NetR C a A be hn hb near book mo ks kh sent heard H) {h : Str} (new : h ∉ hn) {L : Addr} {ys : List Str} (eL : H L = some (.lst (ys.map V.str))) (l1 : ∀ x ∈ hn, A.na x ≠ L) (l2 : ∀ k ∈ ks, A.sa k ≠ L) :
    NetR C a { A with na := at_ A.na h L } be (hn ++ [h]) hb (at_ near h ys) book mo ks kh sent heard (upd H A.an (.dK (putK (kvF hn fun h => .ref (A.na h)) (.inr h) (.ref L)))) := by
  have d := n.d1
  simp only [List.nodup_cons, List.mem_cons, List.not_mem_nil, or_false, not_or] at d
  have e := n.ean
  have ne : ∀ {x : Addr} {o : HO}, H x = some o → o ≠ .dK (kvF hn fun h => .ref (A.na h)) → upd H A.an (.dK (putK (kvF hn fun h => .ref (A.na h)) (.inr h) (.ref L))) x = some o := fun hx hn => by rw [upd_ne (ne_of hx e hn)]; exact hx
  have old : ∀ {x : Str}, x ∈ hn → x ≠ h := fun hx z => new (z ▸ hx)
  exact {
    obj := ne n.obj (by simp), own := ne n.own (by simp)
    eab := by show upd H A.an _ A.ab = _; rw [upd_ne d.1.1]; exact n.eab
    ean := by
      show upd H A.an _ A.an = _
      rw [upd_same, putK_new _ (kvF_none _ new)]
      unfold kvF
      rw [List.map_append]
      congr 3
      · refine List.map_congr_left fun x hx => ?_
        show ((Sum.inr x : Key), V.ref (A.na x)) = (Sum.inr x, V.ref (at_ A.na h L x))
        rw [at_ne _ _ (old hx)]
      · show [((Sum.inr h : Key), V.ref L)] = [(Sum.inr h, V.ref (at_ A.na h L h))]
        rw [at_same]
    eak := by show upd H A.an _ A.ak = _; rw [upd_ne (Ne.symm d.2.1.1)]; exact n.eak
    eam := by show upd H A.an _ A.am = _; rw [upd_ne (Ne.symm d.2.1.2)]; exact n.eam
    eas := ne n.eas (by simp), eah := ne n.eah (by simp)
    ena := fun x hx => by
      show upd H A.an _ (at_ A.na h L x) = some (.lst ((at_ near h ys x).map V.str))
      rcases List.mem_append.mp hx with hx | hx
      · rw [at_ne _ _ (old hx), at_ne _ _ (old hx)]
        exact ne (n.ena x hx) (by simp)
      · rw [List.mem_singleton.mp hx, at_same, at_same]
        exact ne eL (by simp)
    eba := fun x hx => by
      have q := n.d2 x hx
      simp only [List.mem_cons, List.not_mem_nil, or_false, not_or] at q
      show upd H A.an _ (A.ba x) = _
      rw [upd_ne q.2.1]
      exact n.eba x hx
    esa := fun x hx => ne (n.esa x hx) (by simp)
    d1 := n.d1, d2 := n.d2, d3 := n.d3, d4 := n.d4, d6 := n.d6
    d5 := fun x hx y hy q => by
      replace q : at_ A.na h L x = at_ A.na h L y := q
      rcases List.mem_append.mp hx with hx | hx <;> rcases List.mem_append.mp hy with hy | hy
      · rw [at_ne _ _ (old hx), at_ne _ _ (old hy)] at q
        exact n.d5 x hx y hy q
      · rw [List.mem_singleton.mp hy, at_same, at_ne _ _ (old hx)] at q
        exact absurd q (l1 x hx)
      · rw [List.mem_singleton.mp hx, at_same, at_ne _ _ (old hy)] at q
        exact absurd q.symm (l1 y hy)
      · rw [List.mem_singleton.mp hx, List.mem_singleton.mp hy]
    d7 := fun x hx k hk => by
      show at_ A.na h L x ≠ A.sa k
      rcases List.mem_append.mp hx with hx | hx
      · rw [at_ne _ _ (old hx)]
        exact n.d7 x hx k hk
      · rw [List.mem_singleton.mp hx, at_same]
        exact (l2 k hk).symm }
theorem NetR.beside_ (n : NetR C a A be hn hb near book mo ks kh sent heard H) (be' : List (Str × Option Str)) : NetR C a A be' hn hb near book mo ks kh sent heard (upd H A.ab (.dK (kvO be'))) := by
  have d := n.d1
  simp only [List.nodup_cons, List.mem_cons, List.not_mem_nil, or_false, not_or] at d
  have e := n.eab
  have ne : ∀ {x : Addr} {o : HO}, H x = some o → o ≠ .dK (kvO be) → upd H A.ab (.dK (kvO be')) x = some o := fun hx hn => by rw [upd_ne (ne_of hx e hn)]; exact hx
  exact { n with
    obj := ne n.obj (by simp), own := ne n.own (by simp), eab := upd_same
    ean := by rw [upd_ne (Ne.symm d.1.1)]; exact n.ean
    eak := by rw [upd_ne (Ne.symm d.1.2.1)]; exact n.eak
    eam := by rw [upd_ne (Ne.symm d.1.2.2)]; exact n.eam
    eas := ne n.eas (by simp), eah := ne n.eah (by simp)
    ena := fun x hx => ne (n.ena x hx) (by simp)
    eba := fun x hx => by
      have q := n.d2 x hx
      simp only [List.mem_cons, List.not_mem_nil, or_false, not_or] at q
      rw [upd_ne q.1]
      exact n.eba x hx
    esa := fun x hx => ne (n.esa x hx) (by simp) }
/-- a hand more, with an empty book -/
theorem NetR.books_ (n : NetR C a A be hn hb near book mo ks kh sent heard H) {h : Str} (new : h ∉ hb) {L : Addr} (eL : H L = some (.dK [])) (l1 : L ∉ [A.ab, A.an, A.ak, A.am]) (l2 : ∀ x ∈ hb, A.ba x ≠ L) :
    NetR C a { A with ba := at_ A.ba h L } be hn (hb ++ [h]) near (at_ book h []) mo ks kh sent heard (upd H A.ak (.dK (putK (kvF hb fun h => .ref (A.ba h)) (.inr h) (.ref L)))) := by
  have d := n.d1
  simp only [List.nodup_cons, List.mem_cons, List.not_mem_nil, or_false, not_or] at d
  have e := n.eak
  have ne : ∀ {x : Addr} {o : HO}, H x = some o → o ≠ .dK (kvF hb fun h => .ref (A.ba h)) → upd H A.ak (.dK (putK (kvF hb fun h => .ref (A.ba h)) (.inr h) (.ref L))) x = some o := fun hx hn => by rw [upd_ne (ne_of hx e hn)]; exact hx
  have old : ∀ {x : Str}, x ∈ hb → x ≠ h := fun hx z => new (z ▸ hx)
  exact {
    obj := ne n.obj (by simp), own := ne n.own (by simp)
    eab := by show upd H A.ak _ A.ab = _; rw [upd_ne d.1.2.1]; exact n.eab
    ean := by show upd H A.ak _ A.an = _; rw [upd_ne d.2.1.1]; exact n.ean
    eak := by
      show upd H A.ak _ A.ak = _
      rw [upd_same, putK_new _ (kvF_none _ new)]
      unfold kvF
      rw [List.map_append]
      congr 3
      · refine List.map_congr_left fun x hx => ?_
        show ((Sum.inr x : Key), V.ref (A.ba x)) = (Sum.inr x, V.ref (at_ A.ba h L x))
        rw [at_ne _ _ (old hx)]
      · show [((Sum.inr h : Key), V.ref L)] = [(Sum.inr h, V.ref (at_ A.ba h L h))]
        rw [at_same]
    eam := by show upd H A.ak _ A.am = _; rw [upd_ne (Ne.symm d.2.2.1)]; exact n.eam
    eas := ne n.eas (by simp), eah := ne n.eah (by simp)
    ena := fun x hx => ne (n.ena x hx) (by simp)
    eba := fun x hx => by
      show upd H A.ak _ (at_ A.ba h L x) = some (.dK (kvB (at_ book h [] x)))
      rcases List.mem_append.mp hx with hx | hx
      · have q := n.d2 x hx
        simp only [List.mem_cons, List.not_mem_nil, or_false, not_or] at q
        rw [at_ne _ _ (old hx), at_ne _ _ (old hx), upd_ne q.2.2.1]
        exact n.eba x hx
      · simp only [List.mem_cons, List.not_mem_nil, or_false, not_or] at l1
        rw [List.mem_singleton.mp hx, at_same, at_same, upd_ne l1.2.2.1]
        exact eL
    esa := fun x hx => ne (n.esa x hx) (by simp)
    d1 := n.d1, d4 := n.d4, d5 := n.d5, d6 := n.d6, d7 := n.d7
    d2 := fun x hx => by
      show at_ A.ba h L x ∉ _
      rcases List.mem_append.mp hx with hx | hx
      · rw [at_ne _ _ (old hx)]
        exact n.d2 x hx
      · rw [List.mem_singleton.mp hx, at_same]
        exact l1
    d3 := fun x hx y hy q => by
      replace q : at_ A.ba h L x = at_ A.ba h L y := q
      rcases List.mem_append.mp hx with hx | hx <;> rcases List.mem_append.mp hy with hy | hy
      · rw [at_ne _ _ (old hx), at_ne _ _ (old hy)] at q
        exact n.d3 x hx y hy q
      · rw [List.mem_singleton.mp hy, at_same, at_ne _ _ (old hx)] at q
        exact absurd q (l2 x hx)
      · rw [List.mem_singleton.mp hx, at_same, at_ne _ _ (old hy)] at q
        exact absurd q.symm (l2 y hy)
      · rw [List.mem_singleton.mp hx, List.mem_singleton.mp hy] }
end

end Lw

namespace Lw
open PySem PySem.Spec PyProof.Rows L2 GxR Gx
section
variable {P : Program} {w : World} {K : PySem.W.Frag} {mg : Str → Option Value} {base : Heap} {C : Addr}
/-! ### join -/
def spJoin (C T1 : Addr) : Sp := fun vs H Q _ => ∃ (a : Addr) (A : Ads) (N : Nst) (T : Nat) (x h : Str), vs = [.ref a, .str x, .str h] ∧ TabG H T1 ∧ NetAt C a A N H ∧ Nok N T ∧ T ≤ 9000 ∧ h ∈ N.hands ∧ isNm x = true ∧ x ∉ N.hands ∧ N.hands.length < 60 ∧
  ∀ (H' : Hp) (A' : Ads), Grow (A.ft a N) H H' → NetAt C a A' (joinN N x h) H' → Nok (joinN N x h) T → (∀ b ∈ A'.ft a (joinN N x h), b ∈ A.ft a N ∨ Fresh H b) → Q .non H'
theorem Nok.klen {N : Nst} {T : Nat} (ok : Nok N T) : N.keys.length ≤ 3600 := by
  have h1 : (N.keys.map tk).length ≤ (N.hands.flatMap fun u => N.hands.map fun v => tk (u, v)).length := List.Nodup.length_le_of_subset (List.pairwise_map.mpr (ok.knd.imp fun q e => q (tk_inj e))) fun y hy => by
    obtain ⟨k, hk2, rfl⟩ := List.mem_map.mp hy
    obtain ⟨k1, k2⟩ := ok.kin k hk2
    exact List.mem_flatMap.mpr ⟨k.1, k1, List.mem_map.mpr ⟨k.2, k2, rfl⟩⟩
  rw [List.length_map] at h1
  have h2 : ∀ (l m : List Str), (l.flatMap fun u => m.map fun v => tk (u, v)).length = l.length * m.length := fun l m => by
    induction l with
    | nil => simp
    | cons u l ih => rw [List.flatMap_cons, List.length_append, ih, List.length_map, List.length_cons, Nat.succ_mul]; omega
  rw [h2] at h1
  have h3 := Nat.mul_le_mul ok.len ok.len
  omega
theorem nok_join {N : Nst} {T : Nat} (ok : Nok N T) {x h : Str} (hh : h ∈ N.hands) (nx : isNm x = true) (new : x ∉ N.hands) (hl : N.hands.length < 60) : Nok (joinN N x h) T := by
  have xh : x ≠ h := fun z => new (by rw [z]; exact hh)
  have kn1 : (h, x) ∉ N.keys := fun z => new (ok.kin _ z).2
  have kn2 : (x, h) ∉ N.keys := fun z => new (ok.kin _ z).1
  have knn : (h, x) ≠ (x, h) := fun z => by injection z with z1 z2; exact xh z2
  have old : ∀ {k : Str × Str}, k ∈ N.keys → k ≠ (h, x) ∧ k ≠ (x, h) := fun hk => ⟨fun z => kn1 (z ▸ hk), fun z => kn2 (z ▸ hk)⟩
  have nearsub : ∀ y ∈ N.hands, ∀ z ∈ N.near y, (y, z) ∈ N.keys := ok.near
  refine ⟨?_, ?_, ?_, ?_, ?_, ?_, ?_, ?_, ok.mnd, ?_, ok.mlen, ?_, ?_⟩
  · show (N.hands ++ [x]).Nodup
    rw [List.nodup_append]
    exact ⟨ok.nd, by simp, fun y hy z hz e => new (by rw [List.mem_singleton.mp hz] at e; rw [← e]; exact hy)⟩
  · show (N.hands ++ [x]).all isNm = true
    rw [List.all_append, ok.nm]
    show (true && (isNm x && true)) = true
    rw [nx]; rfl
  · show (N.hands ++ [x]).length ≤ 60
    rw [List.length_append]; show _ + 1 ≤ 60; omega
  · show (N.beside ++ [(x, some h)]).map Prod.fst = N.hands ++ [x]
    rw [List.map_append, ok.bes]; rfl
  · show (N.keys ++ [(h, x), (x, h)]).Nodup
    rw [List.nodup_append]
    refine ⟨ok.knd, ?_, fun y hy z hz e => ?_⟩
    · rw [List.nodup_cons]
      exact ⟨fun z => knn (List.mem_singleton.mp z), by simp⟩
    · rw [e] at hy
      rcases List.mem_cons.mp hz with q | q
      · rw [q] at hy; exact kn1 hy
      · rw [List.mem_singleton.mp q] at hy; exact kn2 hy
  · intro k hk
    show k.1 ∈ N.hands ++ [x] ∧ k.2 ∈ N.hands ++ [x]
    rcases List.mem_append.mp hk with hk | hk
    · exact ⟨List.mem_append_left _ (ok.kin k hk).1, List.mem_append_left _ (ok.kin k hk).2⟩
    · rcases List.mem_cons.mp hk with q | q
      · rw [q]; exact ⟨List.mem_append_left _ hh, by simp⟩
      · rw [List.mem_singleton.mp q]; exact ⟨by simp, List.mem_append_left _ hh⟩
  · intro y hy z hz
    show (y, z) ∈ N.keys ++ [(h, x), (x, h)]
    replace hz : z ∈ at_ (at_ N.near h (N.near h ++ [x])) x [h] y := hz
    by_cases c : y = x
    · rw [c, at_same] at hz
      rw [c, List.mem_singleton.mp hz]; simp
    · rw [at_ne _ _ c] at hz
      have hy2 : y ∈ N.hands := by
        rcases List.mem_append.mp hy with q | q
        · exact q
        · exact absurd (List.mem_singleton.mp q) c
      by_cases c2 : y = h
      · rw [c2, at_same] at hz
        rcases List.mem_append.mp hz with q | q
        · exact List.mem_append_left _ (by rw [c2]; exact ok.near h hh z q)
        · rw [c2, List.mem_singleton.mp q]; simp
      · rw [at_ne _ _ c2] at hz
        exact List.mem_append_left _ (ok.near y hy2 z hz)
  · intro y hy
    show (at_ (at_ N.near h (N.near h ++ [x])) x [h] y).length ≤ (N.hands ++ [x]).length
    rw [List.length_append]
    by_cases c : y = x
    · rw [c, at_same]
      show 1 ≤ _ + 1
      omega
    · have hy2 : y ∈ N.hands := by
        rcases List.mem_append.mp hy with q | q
        · exact q
        · exact absurd (List.mem_singleton.mp q) c
      rw [at_ne _ _ c]
      by_cases c2 : y = h
      · rw [c2, at_same, List.length_append]
        show _ + 1 ≤ _ + 1
        have := ok.nlen h hh
        omega
      · rw [at_ne _ _ c2]
        show _ ≤ _ + 1
        have := ok.nlen y hy2
        omega
  · intro m hm
    exact ⟨(ok.mnm m hm).1, List.mem_append_left _ (ok.mnm m hm).2⟩
  · intro y hy
    show ((at_ N.book x [] y).map Prod.fst).Nodup ∧ (at_ N.book x [] y).length ≤ T ∧ ∀ p ∈ at_ N.book x [] y, isNm p.1 = true
    by_cases c : y = x
    · rw [c, at_same]
      exact ⟨List.nodup_nil, Nat.zero_le _, fun p hp => by cases hp⟩
    · rw [at_ne _ _ c]
      rcases List.mem_append.mp hy with q | q
      · exact ok.bnd y q
      · exact absurd (List.mem_singleton.mp q) c
  · intro k hk
    show (at_ (at_ N.sent (h, x) ((N.book h).map Prod.fst)) (x, h) [] k).length ≤ 61 * T ∧ at_ (at_ N.heard (h, x) 0) (x, h) 0 k ≤ (at_ (at_ N.sent (h, x) ((N.book h).map Prod.fst)) (x, h) [] k).length ∧ (at_ (at_ N.sent (h, x) ((N.book h).map Prod.fst)) (x, h) [] k).all isNm = true
    obtain ⟨b1, b2, b3⟩ := ok.bnd h hh
    rcases List.mem_append.mp hk with hk | hk
    · rw [at_ne _ _ (old hk).2, at_ne _ _ (old hk).1, at_ne _ _ (old hk).2, at_ne _ _ (old hk).1]
      exact ok.sen k hk
    · rcases List.mem_cons.mp hk with q | q
      · rw [q, at_ne _ _ knn, at_same, at_ne _ _ knn, at_same, List.length_map]
        refine ⟨by omega, Nat.zero_le _, ?_⟩
        rw [List.all_map, List.all_eq_true]
        exact b3
      · rw [List.mem_singleton.mp q, at_same, at_same]
        exact ⟨Nat.zero_le _, Nat.le_refl _, rfl⟩
/-- a new address is none of the old ones -/
theorem NetR.out {A A' : Ads} {N : Nst} {be : List (Str × Option Str)} {hn hb : List Str} {near : Str → List Str} {book : Str → List (Str × Nat)} {mo : List (Str × Str)} {ks kh : List (Str × Str)} {sent : Str × Str → List Str} {heard : Str × Str → Nat} {a L : Addr} {H : Hp}
    (n : NetR C a A' be hn hb near book mo ks kh sent heard H) (e0 : A'.dx = A.dx ∧ A'.ab = A.ab ∧ A'.an = A.an ∧ A'.ak = A.ak ∧ A'.am = A.am ∧ A'.as_ = A.as_ ∧ A'.ah = A.ah)
    (e1 : ∀ y ∈ N.hands, y ∈ hn ∧ A'.na y = A.na y) (e2 : ∀ y ∈ N.hands, y ∈ hb ∧ A'.ba y = A.ba y) (e3 : ∀ k ∈ N.keys, k ∈ ks ∧ A'.sa k = A.sa k) (f : H L = none) : L ∉ A.ft a N := fun m => by
  have no : ∀ {b : Addr} {o : HO}, H b = some o → L ≠ b := fun e z => by rw [z, e] at f; cases f
  obtain ⟨q1, q2, q3, q4, q5, q6, q7⟩ := e0
  rcases mem_ft.mp m with hb | ⟨y, hy, e⟩ | ⟨y, hy, e⟩ | ⟨k, hk, e⟩
  · simp only [List.mem_cons, List.not_mem_nil, or_false] at hb
    rcases hb with e | e | e | e | e | e | e | e
    · exact no n.obj e
    · exact no n.own (e.trans q1.symm)
    · exact no n.eab (e.trans q2.symm)
    · exact no n.ean (e.trans q3.symm)
    · exact no n.eak (e.trans q4.symm)
    · exact no n.eam (e.trans q5.symm)
    · exact no n.eas (e.trans q6.symm)
    · exact no n.eah (e.trans q7.symm)
  · exact no (n.ena y (e1 y hy).1) (e.symm.trans (e1 y hy).2.symm)
  · exact no (n.eba y (e2 y hy).1) (e.symm.trans (e2 y hy).2.symm)
  · exact no (n.esa k (e3 k hk).1) (e.symm.trans (e3 k hk).2.symm)
theorem kvO_put {be : List (Str × Option Str)} {x : Str} (new : x ∉ be.map Prod.fst) (y : Option Str) : putK (kvO be) (.inr x) (optV y) = kvO (be ++ [(x, y)]) := by
  rw [putK_new _ (valV_none (by
    intro z
    unfold kvO at z
    rw [List.map_map] at z
    obtain ⟨p, hp, e⟩ := List.mem_map.mp z
    exact new (List.mem_map.mpr ⟨p, hp, Sum.inr.inj e⟩)))]
  unfold kvO
  rw [List.map_append]
  rfl
theorem ok_Net_join {f c T1 : Addr} {fd : FuncData} (B : Nb mg) (D : DefIs K "join" "Net.join" st_Net_join f fd (.ref c)) (NC : NetC K C) (c_is_name : Callee P w K mg base CX0 4 "is_name" ["thing"] (spIsName K T1))
    (c_Net_check_hand : CalleeM P w K mg base CX0 2 C "_check_hand" ["self", "thing"] (spChk C)) (c_Net_book : CalleeM P w K mg base CX0 3 C "book" ["self", "hand"] (spBook C)) : FnG P w K mg base CX0 5 f fd ["self", "name", "hand"] (spJoin C T1) := by
  refine D.ok0 (k := 4) sc_Net_join (fun vs H Q E h => ?_) (fun A0 outer s H vs Q E g hr h => ?_)
  · obtain ⟨a, A, N, T, x, h, rfl, _⟩ := h
    rfl
  obtain ⟨a, A, N, T, x, h, rfl, t1, n, ok, hT, hh, nx, new, hl, q⟩ := h
  have kl := ok.klen
  refine ⟨_,
      (pss_cons (ps_if (pt_not (pt_val (pe_g c_is_name g (hr.mono (by decide)) pass0 (pa_cons (pv 1) pa_nil)))) (
        (pss_one ps_dead)) pss_nil)
      (pss_cons (ps_if (pt_cmp (pc_din (hu_of hr) (pv 1) (pe_fN NC.cls NC.n_books (pv 0)))) (
        (pss_one ps_dead)) pss_nil)
      (pss_cons (ps_expr (pe_gm c_Net_check_hand g (hr.mono (by decide)) pass0 (pv 0) (pa_cons (pv 2) pa_nil)))
      (pss_cons (ps_asg (pe_gm c_Net_book g (hr.mono (by decide)) pass0 (pv 0) (pa_cons (pv 2) pa_nil)) (pg_sub (pe_fN NC.cls NC.n_sent (pv 0)) (pe_tup (pa_cons (pv 2) (pa_cons (pv 1) pa_nil))) (set_dict (hu_of hr))))
      (pss_cons (ps_asg (pe_lst pa_nil) (pg_sub (pe_fN NC.cls NC.n_sent (pv 0)) (pe_tup (pa_cons (pv 1) (pa_cons (pv 2) pa_nil))) (set_dict (hu_of hr))))
      (pss_cons (ps_asg pe_int (pg_sub (pe_fN NC.cls NC.n_heard (pv 0)) (pe_tup (pa_cons (pv 2) (pa_cons (pv 1) pa_nil))) (set_dict (hu_of hr))))
      (pss_cons (ps_asg pe_int (pg_sub (pe_fN NC.cls NC.n_heard (pv 0)) (pe_tup (pa_cons (pv 1) (pa_cons (pv 2) pa_nil))) (set_dict (hu_of hr))))
      (pss_cons (ps_expr (pe_bm PySem.F.plainAttrs_list PySem.F.slot_list_append PySem.F.type_list_append mt_append (pe_dget (hu_of hr) (pe_fN NC.cls NC.n_near (pv 0)) (pv 2) (fun _ _ => rfl)) (pa_cons (pv 1) pa_nil)))
      (pss_cons (ps_asg (pe_lst (pa_cons (pv 2) pa_nil)) (pg_sub (pe_fN NC.cls NC.n_near (pv 0)) (pv 1) (set_dict (hu_of hr))))
      (pss_cons (ps_asg (pv 2) (pg_sub (pe_fN NC.cls NC.n_beside (pv 0)) (pv 1) (set_dict (hu_of hr))))
      (pss_one (ps_asg pe_dnewK (pg_sub (pe_fN NC.cls NC.n_books (pv 0)) (pv 1) (set_dict (hu_of hr))))))))))))))), ?_⟩
  have xl : x.length ≤ sizeLine := by
    unfold isNm at nx
    rw [Bool.and_eq_true, Bool.and_eq_true, decide_eq_true_iff, decide_eq_true_iff] at nx
    rw [sizeLine_eq]
    omega
  have xh : x ≠ h := fun z => new (by rw [z]; exact hh)
  have kn1 : (h, x) ∉ N.keys := fun z => new (ok.kin _ z).2
  have kn2 : (x, h) ∉ N.keys ++ [(h, x)] := fun z => by
    rcases List.mem_append.mp z with z | z
    · exact new (ok.kin _ z).1
    · have e := List.mem_singleton.mp z
      injection e with e1 e2
      exact xh e1
  refine ⟨.str x, rfl, .str x, rfl, t1, .inl ⟨x, rfl, xl, fun H1 g1 => ?_⟩⟩
  rw [nx]
  have n1 := n.grow0 g1
  refine ⟨true, rfl, iteF ?_⟩
  refine ⟨.str x, rfl, .ref a, rfl, a, _, _, _, rfl, n1.obj, A.l_books, A.ak, _, rfl, DGet.k (k := .inr x) n1.eak, ?_⟩
  rw [kvF_is ok.nd, decide_eq_false new]
  refine ⟨_, rfl, iteF ?_⟩
  refine ⟨.ref a, rfl, a, _, _, rfl, n1.obj, rfl, .str h, rfl, a, A, N, T, h, rfl, n1, ok, hh, ?_⟩
  refine ⟨.ref a, rfl, a, _, _, rfl, n1.obj, rfl, .str h, rfl, a, A, N, T, h, rfl, n1, ok, by omega, hh, fun L1 H2 f1 g2 e1 => ?_⟩
  have n2 := (n1.grow0 g2).raw
  refine ⟨.ref a, rfl, a, _, _, _, rfl, n2.obj, A.l_sent, .str h, rfl, .str x, rfl, by show 2 ≤ sizeLine; decide, fun b nb => ?_⟩
  have g3 : Grow [] H2 (upd H2 b (.tup [.str h, .str x])) := grow_new nb
  have eb : upd H2 b (.tup [.str h, .str x]) b = some (.tup [.str h, .str x]) := upd_same
  generalize upd H2 b (.tup [.str h, .str x]) = H3 at g3 eb ⊢
  have n3 := n2.grow0 g3
  have l1n : ∀ y ∈ N.hands, A.na y ≠ L1 := fun y hy => Fresh.ne f1 (n1.ena y hy) (fun ps z => by cases z)
  have l1s : ∀ k ∈ N.keys, A.sa k ≠ L1 := fun k hk => Fresh.ne f1 (n1.esa k hk) (fun ps z => by cases z)
  have fr1 : Fresh H L1 := g1.fresh (by simp) f1
  have e1 := g3.lst (by simp) e1
  have et : H3 b = some (.tup ((tk (h, x)).map kV)) := eb
  refine ⟨A.as_, _, rfl, DPut.t n3.eas et (by unfold kvK; rw [List.length_map, sizeLine_eq]; omega), ?_⟩
  have n4 := n3.sent_ kn1 e1 l1n l1s
  have g4 : Grow (A.ft a N) H3 (upd H3 A.as_ (.dT (putK (kvK N.keys fun k => .ref (A.sa k)) (tk (h, x)) (.ref L1)))) := grow_at n3.eas (fun ps z => by cases z) (mem_ft.mpr (.inl (by simp)))
  generalize upd H3 A.as_ (.dT (putK (kvK N.keys fun k => .ref (A.sa k)) (tk (h, x)) (.ref L1))) = H4 at n4 g4 ⊢
  replace g4 := ((g1.trans g2).trans g3).any.trans g4
  have c3 : ∀ k ∈ N.keys, k ∈ N.keys ++ [(h, x)] ∧ at_ A.sa (h, x) L1 k = A.sa k := fun k hk => ⟨List.mem_append_left _ hk, at_ne _ _ (fun z => kn1 (z ▸ hk))⟩
  refine ⟨by show 0 ≤ sizeLine; decide, fun L2 nL2 => ?_⟩
  have o2 : L2 ∉ A.ft a N := n4.out ⟨rfl, rfl, rfl, rfl, rfl, rfl, rfl⟩ (fun y hy => ⟨hy, rfl⟩) (fun y hy => ⟨hy, rfl⟩) c3 nL2
  have fr2 : Fresh H L2 := g4.fresh o2 (fresh_none nL2)
  have l2n : ∀ y ∈ N.hands, A.na y ≠ L2 := fun y hy => ne_of_none (n4.ena y hy) nL2
  have l2s : ∀ k ∈ N.keys ++ [(h, x)], at_ A.sa (h, x) L1 k ≠ L2 := fun k hk => ne_of_none (n4.esa k hk) nL2
  have n5 := n4.new (o := .lst []) nL2
  have g5 : Grow [] H4 (upd H4 L2 (.lst [])) := grow_new nL2
  have e2 : upd H4 L2 (.lst []) L2 = some (.lst []) := upd_same
  generalize upd H4 L2 (.lst []) = H5 at n5 g5 e2 ⊢
  refine ⟨.ref a, rfl, a, _, _, _, rfl, n5.obj, Ads.l_sent _, .str x, rfl, .str h, rfl, by show 2 ≤ sizeLine; decide, fun b2 nb2 => ?_⟩
  have n6 := n5.new (o := .tup [.str x, .str h]) nb2
  have g6 : Grow [] H5 (upd H5 b2 (.tup [.str x, .str h])) := grow_new nb2
  have eb2 : upd H5 b2 (.tup [.str x, .str h]) b2 = some (.tup ((tk (x, h)).map kV)) := upd_same
  generalize upd H5 b2 (.tup [.str x, .str h]) = H6 at n6 g6 eb2 ⊢
  have e2 := g6.lst (by simp) (xs := []) e2
  refine ⟨A.as_, _, rfl, DPut.t n6.eas eb2 (by unfold kvK; rw [List.length_map, List.length_append, sizeLine_eq]; show _ + 1 < _; omega), ?_⟩
  have n7 := n6.sent_ kn2 (ys := []) e2 l2n l2s
  have g7 : Grow (A.ft a N) H6 (upd H6 A.as_ (.dT (putK (kvK (N.keys ++ [(h, x)]) fun k => .ref (at_ A.sa (h, x) L1 k)) (tk (x, h)) (.ref L2)))) := grow_at n6.eas (fun ps z => by cases z) (mem_ft.mpr (.inl (by simp)))
  generalize upd H6 A.as_ (.dT (putK (kvK (N.keys ++ [(h, x)]) fun k => .ref (at_ A.sa (h, x) L1 k)) (tk (x, h)) (.ref L2))) = H7 at n7 g7 ⊢
  replace g7 := (g4.trans (g5.trans g6).any).trans g7
  refine ⟨.ref a, rfl, a, _, _, _, rfl, n7.obj, Ads.l_heard _, .str h, rfl, .str x, rfl, by show 2 ≤ sizeLine; decide, fun b3 nb3 => ?_⟩
  have n8 := n7.new (o := .tup [.str h, .str x]) nb3
  have g8 : Grow [] H7 (upd H7 b3 (.tup [.str h, .str x])) := grow_new nb3
  have eb3 : upd H7 b3 (.tup [.str h, .str x]) b3 = some (.tup ((tk (h, x)).map kV)) := upd_same
  generalize upd H7 b3 (.tup [.str h, .str x]) = H8 at n8 g8 eb3 ⊢
  refine ⟨A.ah, _, rfl, DPut.t n8.eah eb3 (by unfold kvK; rw [List.length_map, sizeLine_eq]; omega), ?_⟩
  have n9 : NetR C a _ _ _ _ _ _ _ _ _ _ _ (upd H8 A.ah (.dT (putK (kvK N.keys fun k => .int (N.heard k : Nat)) (tk (h, x)) (.int 0)))) := n8.heard_ kn1 0
  have g9 : Grow (A.ft a N) H8 (upd H8 A.ah (.dT (putK (kvK N.keys fun k => .int (N.heard k : Nat)) (tk (h, x)) (.int 0)))) := grow_at n8.eah (fun ps z => by cases z) (mem_ft.mpr (.inl (by simp)))
  generalize upd H8 A.ah (.dT (putK (kvK N.keys fun k => .int (N.heard k : Nat)) (tk (h, x)) (.int 0))) = H9 at n9 g9 ⊢
  replace g9 := (g7.trans g8.any).trans g9
  refine ⟨.ref a, rfl, a, _, _, _, rfl, n9.obj, Ads.l_heard _, .str x, rfl, .str h, rfl, by show 2 ≤ sizeLine; decide, fun b4 nb4 => ?_⟩
  have n10 := n9.new (o := .tup [.str x, .str h]) nb4
  have g10 : Grow [] H9 (upd H9 b4 (.tup [.str x, .str h])) := grow_new nb4
  have eb4 : upd H9 b4 (.tup [.str x, .str h]) b4 = some (.tup ((tk (x, h)).map kV)) := upd_same
  generalize upd H9 b4 (.tup [.str x, .str h]) = H10 at n10 g10 eb4 ⊢
  refine ⟨A.ah, _, rfl, DPut.t n10.eah eb4 (by unfold kvK; rw [List.length_map, List.length_append, sizeLine_eq]; show _ + 1 < _; omega), ?_⟩
  have n11 : NetR C a _ _ _ _ _ _ _ _ _ _ _ (upd H10 A.ah (.dT (putK (kvK (N.keys ++ [(h, x)]) fun k => .int (at_ N.heard (h, x) 0 k : Nat)) (tk (x, h)) (.int 0)))) := n10.heard_ kn2 0
  have g11 : Grow (A.ft a N) H10 (upd H10 A.ah (.dT (putK (kvK (N.keys ++ [(h, x)]) fun k => .int (at_ N.heard (h, x) 0 k : Nat)) (tk (x, h)) (.int 0)))) := grow_at n10.eah (fun ps z => by cases z) (mem_ft.mpr (.inl (by simp)))
  generalize upd H10 A.ah (.dT (putK (kvK (N.keys ++ [(h, x)]) fun k => .int (at_ N.heard (h, x) 0 k : Nat)) (tk (x, h)) (.int 0))) = H11 at n11 g11 ⊢
  replace g11 := (g9.trans g10.any).trans g11
  have nl := Nat.le_trans (ok.nlen h hh) ok.len
  refine ⟨.ref a, rfl, a, _, _, _, rfl, n11.obj, Ads.l_near _, .str h, rfl, A.an, _, rfl, dgF n11.ean ok.nd hh, tyl (n11.ena h hh), .str x, rfl, A.na h, _, _, rfl, rfl, n11.ena h hh, by rw [List.length_map, sizeLine_eq]; omega, ?_⟩
  have n12 := n11.near_ hh (N.near h ++ [x])
  have g12 : Grow (A.ft a N) H11 (upd H11 (A.na h) (.lst ((N.near h ++ [x]).map V.str))) := grow_at (n11.ena h hh) (fun ps z => by cases z) (mem_ft.mpr (.inr (.inl ⟨h, hh, rfl⟩)))
  rw [show (N.near h ++ [x]).map V.str = (N.near h).map V.str ++ [V.str x] from List.map_append] at n12 g12
  generalize upd H11 (A.na h) (.lst ((N.near h).map V.str ++ [V.str x])) = H12 at n12 g12 ⊢
  replace g12 := g11.trans g12
  have c4 : ∀ k ∈ N.keys, k ∈ N.keys ++ [(h, x)] ++ [(x, h)] ∧ at_ (at_ A.sa (h, x) L1) (x, h) L2 k = A.sa k := fun k hk =>
    ⟨List.mem_append_left _ (List.mem_append_left _ hk), by rw [at_ne _ _ (fun z => kn2 (by rw [← z]; exact List.mem_append_left _ hk))]; exact (c3 k hk).2⟩
  refine ⟨.str h, rfl, by show 1 ≤ sizeLine; decide, fun L3 nL3 => ?_⟩
  have o3 : L3 ∉ A.ft a N := n12.out ⟨rfl, rfl, rfl, rfl, rfl, rfl, rfl⟩ (fun y hy => ⟨hy, rfl⟩) (fun y hy => ⟨hy, rfl⟩) c4 nL3
  have fr3 : Fresh H L3 := g12.fresh o3 (fresh_none nL3)
  have l3n : ∀ y ∈ N.hands, A.na y ≠ L3 := fun y hy => ne_of_none (n12.ena y hy) nL3
  have l3s : ∀ k ∈ N.keys ++ [(h, x)] ++ [(x, h)], at_ (at_ A.sa (h, x) L1) (x, h) L2 k ≠ L3 := fun k hk => ne_of_none (n12.esa k hk) nL3
  have n13 := n12.new (o := .lst [.str h]) nL3
  have g13 : Grow [] H12 (upd H12 L3 (.lst [.str h])) := grow_new nL3
  have e3 : upd H12 L3 (.lst [.str h]) L3 = some (.lst [.str h]) := upd_same
  generalize upd H12 L3 (.lst [.str h]) = H13 at n13 g13 e3 ⊢
  refine ⟨.ref a, rfl, a, _, _, _, rfl, n13.obj, Ads.l_near _, .str x, rfl, A.an, _, rfl, DPut.k (k := .inr x) n13.ean (by unfold kvF; rw [List.length_map, sizeLine_eq]; omega), ?_⟩
  have n14 := n13.nears_ new (ys := [h]) e3 l3n l3s
  have g14 : Grow (A.ft a N) H13 (upd H13 A.an (.dK (putK (kvF N.hands fun y => .ref (A.na y)) (.inr x) (.ref L3)))) := grow_at n13.ean (fun ps z => by cases z) (mem_ft.mpr (.inl (by simp)))
  generalize upd H13 A.an (.dK (putK (kvF N.hands fun y => .ref (A.na y)) (.inr x) (.ref L3))) = H14 at n14 g14 ⊢
  replace g14 := (g12.trans g13.any).trans g14
  have bl : (kvO N.beside).length < sizeLine := by
    have := congrArg List.length ok.bes
    rw [List.length_map] at this
    unfold kvO
    rw [List.length_map, sizeLine_eq]
    omega
  refine ⟨.str h, rfl, .ref a, rfl, a, _, _, _, rfl, n14.obj, Ads.l_beside _, .str x, rfl, A.ab, _, rfl, DPut.k (k := .inr x) n14.eab bl, ?_⟩
  rw [show (V.str h) = optV (some h) from rfl, kvO_put (by rw [ok.bes]; exact new)]
  have n15 := n14.beside_ (N.beside ++ [(x, some h)])
  have g15 : Grow (A.ft a N) H14 (upd H14 A.ab (.dK (kvO (N.beside ++ [(x, some h)])))) := grow_at n14.eab (fun ps z => by cases z) (mem_ft.mpr (.inl (by simp)))
  generalize upd H14 A.ab (.dK (kvO (N.beside ++ [(x, some h)]))) = H15 at n15 g15 ⊢
  replace g15 := g14.trans g15
  refine fun L4 nL4 => ?_
  have c5 : ∀ y ∈ N.hands, y ∈ N.hands ++ [x] ∧ at_ A.na x L3 y = A.na y := fun y hy => ⟨List.mem_append_left _ hy, at_ne _ _ (fun z => new (z ▸ hy))⟩
  have o4 : L4 ∉ A.ft a N := n15.out ⟨rfl, rfl, rfl, rfl, rfl, rfl, rfl⟩ c5 (fun y hy => ⟨hy, rfl⟩) c4 nL4
  have fr4 : Fresh H L4 := g15.fresh o4 (fresh_none nL4)
  have l4 : L4 ∉ [A.ab, A.an, A.ak, A.am] := fun z => o4 (mem_ft.mpr (.inl (by simp only [List.mem_cons, List.not_mem_nil, or_false] at z ⊢; rcases z with z | z | z | z <;> simp [z])))
  have l4b : ∀ y ∈ N.hands, A.ba y ≠ L4 := fun y hy => ne_of_none (n15.eba y hy) nL4
  have n16 := n15.new (o := .dK []) nL4
  have g16 : Grow [] H15 (upd H15 L4 (.dK [])) := grow_new nL4
  have e4 : upd H15 L4 (.dK []) L4 = some (.dK []) := upd_same
  generalize upd H15 L4 (.dK []) = H16 at n16 g16 e4 ⊢
  refine ⟨.ref a, rfl, a, _, _, _, rfl, n16.obj, Ads.l_books _, .str x, rfl, A.ak, _, rfl, DPut.k (k := .inr x) n16.eak (by unfold kvF; rw [List.length_map, sizeLine_eq]; omega), ?_⟩
  have n17 := n16.books_ new e4 l4 l4b
  have g17 : Grow (A.ft a N) H16 (upd H16 A.ak (.dK (putK (kvF N.hands fun y => .ref (A.ba y)) (.inr x) (.ref L4)))) := grow_at n16.eak (fun ps z => by cases z) (mem_ft.mpr (.inl (by simp)))
  generalize upd H16 A.ak (.dK (putK (kvF N.hands fun y => .ref (A.ba y)) (.inr x) (.ref L4))) = H17 at n17 g17 ⊢
  replace g17 := (g15.trans g16.any).trans g17
  rw [List.append_assoc] at n17
  refine q H17 _ g17 n17.net (nok_join ok hh nx new hl) fun c hc => ?_
  rcases mem_ft.mp hc with hb | ⟨y, hy, e⟩ | ⟨y, hy, e⟩ | ⟨k, hk, e⟩
  · exact .inl (mem_ft.mpr (.inl hb))
  · replace e : at_ A.na x L3 y = c := e
    rcases List.mem_append.mp hy with hy | hy
    · rw [(c5 y hy).2] at e
      exact .inl (mem_ft.mpr (.inr (.inl ⟨y, hy, e⟩)))
    · rw [List.mem_singleton.mp hy, at_same] at e
      exact .inr (e ▸ fr3)
  · replace e : at_ A.ba x L4 y = c := e
    rcases List.mem_append.mp hy with hy | hy
    · rw [at_ne _ _ (show y ≠ x from fun z => new (by rw [← z]; exact hy))] at e
      exact .inl (mem_ft.mpr (.inr (.inr (.inl ⟨y, hy, e⟩))))
    · rw [List.mem_singleton.mp hy, at_same] at e
      exact .inr (e ▸ fr4)
  · replace e : at_ (at_ A.sa (h, x) L1) (x, h) L2 k = c := e
    rcases List.mem_append.mp hk with hk | hk
    · rw [(c4 k hk).2] at e
      exact .inl (mem_ft.mpr (.inr (.inr (.inr ⟨k, hk, e⟩))))
    · rcases List.mem_cons.mp hk with hk | hk
      · rw [hk, at_ne _ _ (fun z => by injection z with z1 z2; exact xh z2), at_same] at e
        exact .inr (e ▸ fr1)
      · rw [List.mem_singleton.mp hk, at_same] at e
        exact .inr (e ▸ fr2)
end

end Lw

namespace Lw
open PySem PySem.Spec PyProof.Rows L2 GxR Gx
section
variable {P : Program} {w : World} {K : PySem.W.Frag} {mg : Str → Option Value} {base : Heap} {C : Addr}
/-! ### __init__ -/
def spInit (C T1 : Addr) : Sp := fun vs H Q _ => ∃ (a dx : Addr) (x : Str), vs = [.ref a, .str x] ∧ TabG H T1 ∧ isNm x = true ∧ H a = some (.ins C dx []) ∧ H dx = some (.own a) ∧
  ∀ (H' : Hp) (A : Ads), Grow [a] H H' → NetAt C a A (newN x) H' → (∀ b ∈ A.ft a (newN x), b = a ∨ b = dx ∨ Fresh H b) → Q .non H'
theorem nok_new {x : Str} (nx : isNm x = true) : Nok (newN x) 0 := by
  have one : ∀ y ∈ (newN x).hands, y = x := fun y hy => List.mem_singleton.mp hy
  refine ⟨(by show [x].Nodup; simp), (by show (isNm x && true) = true; rw [nx]; rfl), (by show 1 ≤ 60; omega), rfl, List.nodup_nil, (fun k hk => by cases hk), (fun y hy z hz => by cases hz), (fun y hy => Nat.zero_le _), List.nodup_nil, (fun m hm => by cases hm), Nat.zero_le _, (fun y hy => ⟨List.nodup_nil, Nat.zero_le _, fun p hp => by cases hp⟩), (fun k hk => by cases hk)⟩
theorem grow_less {H H' : Hp} {p : Addr} (g : Grow [p] H H') (f : H p = none) : Grow [] H H' :=
  ⟨fun b u _ e n => g.keep b u (fun m => ne_of_none e f (List.mem_singleton.mp m)) e n, g.tabs⟩
theorem disp_in {H : Hp} {p r : Addr} {o u v : HO} (np : H p = none) (nr : upd H p o r = none) (ho : ∀ ps, o ≠ .tbl ps) : r ≠ p ∧ H r = none ∧ (upd (upd H p o) r u) p = some o ∧ Grow [] H (upd (upd (upd H p o) r u) p v) ∧ upd (upd (upd H p o) r u) p v p = some v ∧ upd (upd (upd H p o) r u) p v r = some u := by
  have e : r ≠ p := fun z => by rw [z, upd_same] at nr; cases nr
  have n : H r = none := by rw [upd_ne e] at nr; exact nr
  have ep : (upd (upd H p o) r u) p = some o := by rw [upd_ne (Ne.symm e), upd_same]
  exact ⟨e, n, ep, grow_less (((grow_new np).trans (grow_new nr)).trans (grow_at ep ho (by simp))) np, upd_same, by rw [upd_ne e, upd_same]⟩
theorem ok_Net_init {f c T1 : Addr} {fd : FuncData} (B : Nb mg) (D : DefIs K "__init__" "Net.__init__" st_Net_init f fd (.ref c)) (NC : NetC K C) (c_is_name : Callee P w K mg base CX0 4 "is_name" ["thing"] (spIsName K T1)) : FnG P w K mg base CX0 5 f fd ["self", "name"] (spInit C T1) := by
  refine D.ok0 (k := 4) sc_Net_init (fun vs H Q E h => ?_) (fun A0 outer s H vs Q E g hr h => ?_)
  · obtain ⟨a, dx, x, rfl, _⟩ := h
    rfl
  obtain ⟨a, dx, x, rfl, t1, nx, ea, ed, q⟩ := h
  refine ⟨_,
      (pss_cons (ps_if (pt_not (pt_val (pe_g c_is_name g (hr.mono (by decide)) pass0 (pa_cons (pv 1) pa_nil)))) (
        (pss_one ps_dead)) pss_nil)
      (pss_cons (ps_fN NC.cls NC.n_beside (pv 0) (pe_disp (pps_cons (pv 1) pe_non pps_nil) rfl rfl (List.cons_ne_nil _ _) (by decide)))
      (pss_cons (ps_fN NC.cls NC.n_near (pv 0) (pe_disp (pps_cons (pv 1) (pe_lst pa_nil) pps_nil) rfl rfl (List.cons_ne_nil _ _) (by decide)))
      (pss_cons (ps_fN NC.cls NC.n_books (pv 0) (pe_disp (pps_cons (pv 1) pe_dnewK pps_nil) rfl rfl (List.cons_ne_nil _ _) (by decide)))
      (pss_cons (ps_fN NC.cls NC.n_mouths (pv 0) pe_dnewK)
      (pss_cons (ps_fN NC.cls NC.n_sent (pv 0) pe_dnewT)
      (pss_one (ps_fN NC.cls NC.n_heard (pv 0) pe_dnewT)))))))), ?_⟩
  have xl : x.length ≤ sizeLine := by
    unfold isNm at nx
    rw [Bool.and_eq_true, Bool.and_eq_true, decide_eq_true_iff, decide_eq_true_iff] at nx
    rw [sizeLine_eq]
    omega
  refine ⟨.str x, rfl, .str x, rfl, t1, .inl ⟨x, rfl, xl, fun H1 g1 => ?_⟩⟩
  rw [nx]
  refine ⟨true, rfl, iteF ?_⟩
  have ea1 := g1.keep _ _ (by simp) ea fun ps z => by cases z
  have ed1 := g1.keep _ _ (by simp) ed fun ps z => by cases z
  refine fun p1 np1 => ⟨.str x, rfl, upd_same, [(.inr x, .non)], rfl, by show 1 ≤ 15; omega, ?_⟩
  have g2 : Grow [] H1 (upd (upd H1 p1 (.dK [])) p1 (.dK (mergeK [] [(.inr x, .non)]))) := grow_less ((grow_new np1).trans (grow_at upd_same (fun ps z => by cases z) (by simp))) np1
  have e1 : upd (upd H1 p1 (.dK [])) p1 (.dK (mergeK [] [(.inr x, .non)])) p1 = some (.dK (kvO [(x, none)])) := upd_same
  generalize upd (upd H1 p1 (.dK [])) p1 (.dK (mergeK [] [(.inr x, .non)])) = H2 at g2 e1 ⊢
  have pa : ∀ {G : Hp} {fs : List (Str × V)} {r : Addr}, G a = some (.ins C dx fs) → G r = none → r ≠ a := fun e f z => by rw [z, e] at f; cases f
  have ga : ∀ {G : Hp} {fs fs' : List (Str × V)}, G a = some (.ins C dx fs) → Grow [a] G (upd G a (.ins C dx fs')) := fun e => grow_at e (fun ps z => by cases z) (by simp)
  have ke : ∀ {G G' : Hp} {r : Addr} {o : HO}, Grow [a] G G' → G r = some o → r ≠ a → (∀ ps, o ≠ .tbl ps) → G' r = some o := fun g e n t => g.keep _ _ (by simpa using n) e t
  have kz : ∀ {G G' : Hp} {r : Addr} {o : HO}, Grow [] G G' → G r = some o → (∀ ps, o ≠ .tbl ps) → G' r = some o := fun g e t => g.keep _ _ (by simp) e t
  have da : dx ≠ a := fun z => by rw [z, ea] at ed; cases ed
  -- _beside
  have m1 := pa ea1 np1
  have fr1 : Fresh H p1 := g1.fresh0 np1
  have ea2 := kz g2 ea1 fun ps z => by cases z
  have ed2 := kz g2 ed1 fun ps z => by cases z
  refine ⟨.ref a, rfl, a, dx, [], rfl, ea2, by show 0 < 1000; omega, ?_⟩
  have g3 : Grow [a] H2 (upd H2 a (.ins C dx (putF "_beside" (.ref p1) []))) := ga ea2
  have ea3 : upd H2 a (.ins C dx (putF "_beside" (.ref p1) [])) a = some (.ins C dx [("_beside", .ref p1)]) := upd_same
  generalize upd H2 a (.ins C dx (putF "_beside" (.ref p1) [])) = H3 at g3 ea3 ⊢
  have ed3 := ke g3 ed2 da fun ps z => by cases z
  have e1 := ke g3 e1 m1 fun ps z => by cases z
  replace g3 := (g1.trans g2).any.trans g3
  -- _near
  refine fun p2 np2 => ⟨.str x, rfl, by show 0 ≤ sizeLine; decide, fun q2 nq2 => ?_⟩
  have m2 := pa ea3 np2
  have fr2 : Fresh H p2 := g3.fresh (by simpa using m2) (fresh_none np2)
  obtain ⟨qp2, nz2, w2, g4, e2, f2⟩ := disp_in (u := .lst []) (v := .dK (mergeK [] [(.inr x, .ref q2)])) np2 nq2 (fun ps z => by cases z)
  have m2q := pa ea3 nz2
  have fr2q : Fresh H q2 := g3.fresh (by simpa using m2q) (fresh_none nz2)
  refine ⟨w2, [(.inr x, .ref q2)], rfl, by show 1 ≤ 15; omega, ?_⟩
  generalize upd (upd (upd H3 p2 (.dK [])) q2 (.lst [])) p2 (.dK (mergeK [] [(.inr x, .ref q2)])) = H4 at g4 e2 f2 ⊢
  have ea4 := kz g4 ea3 fun ps z => by cases z
  have ed4 := kz g4 ed3 fun ps z => by cases z
  have d12 : p1 ≠ p2 := ne_of_none e1 np2
  have e1 := kz g4 e1 fun ps z => by cases z
  refine ⟨.ref a, rfl, a, dx, _, rfl, ea4, by show 1 < 1000; omega, ?_⟩
  have g5 : Grow [a] H4 (upd H4 a (.ins C dx (putF "_near" (.ref p2) [("_beside", .ref p1)]))) := ga ea4
  have ea5 : upd H4 a (.ins C dx (putF "_near" (.ref p2) [("_beside", .ref p1)])) a = some (.ins C dx [("_beside", .ref p1), ("_near", .ref p2)]) := upd_same
  generalize upd H4 a (.ins C dx (putF "_near" (.ref p2) [("_beside", .ref p1)])) = H5 at g5 ea5 ⊢
  have ed5 := ke g5 ed4 da fun ps z => by cases z
  have e1 := ke g5 e1 m1 fun ps z => by cases z
  have e2 := ke g5 e2 m2 fun ps z => by cases z
  have f2 := ke g5 f2 m2q fun ps z => by cases z
  replace g5 := (g3.trans g4.any).trans g5
  -- _books
  refine fun p3 np3 => ⟨.str x, rfl, fun q3 nq3 => ?_⟩
  have m3 := pa ea5 np3
  have fr3 : Fresh H p3 := g5.fresh (by simpa using m3) (fresh_none np3)
  obtain ⟨qp3, nz3, w3, g6, e3, f3⟩ := disp_in (u := .dK []) (v := .dK (mergeK [] [(.inr x, .ref q3)])) np3 nq3 (fun ps z => by cases z)
  have m3q := pa ea5 nz3
  have fr3q : Fresh H q3 := g5.fresh (by simpa using m3q) (fresh_none nz3)
  refine ⟨w3, [(.inr x, .ref q3)], rfl, by show 1 ≤ 15; omega, ?_⟩
  generalize upd (upd (upd H5 p3 (.dK [])) q3 (.dK [])) p3 (.dK (mergeK [] [(.inr x, .ref q3)])) = H6 at g6 e3 f3 ⊢
  have ea6 := kz g6 ea5 fun ps z => by cases z
  have ed6 := kz g6 ed5 fun ps z => by cases z
  have d13 : p1 ≠ p3 := ne_of_none e1 np3
  have d23 : p2 ≠ p3 := ne_of_none e2 np3
  have s1 : p1 ≠ q3 := ne_of_none e1 nz3
  have s2 : p2 ≠ q3 := ne_of_none e2 nz3
  have e1 := kz g6 e1 fun ps z => by cases z
  have e2 := kz g6 e2 fun ps z => by cases z
  have f2 := kz g6 f2 fun ps z => by cases z
  refine ⟨.ref a, rfl, a, dx, _, rfl, ea6, by show 2 < 1000; omega, ?_⟩
  have g7 : Grow [a] H6 (upd H6 a (.ins C dx (putF "_books" (.ref p3) [("_beside", .ref p1), ("_near", .ref p2)]))) := ga ea6
  have ea7 : upd H6 a (.ins C dx (putF "_books" (.ref p3) [("_beside", .ref p1), ("_near", .ref p2)])) a = some (.ins C dx [("_beside", .ref p1), ("_near", .ref p2), ("_books", .ref p3)]) := upd_same
  generalize upd H6 a (.ins C dx (putF "_books" (.ref p3) [("_beside", .ref p1), ("_near", .ref p2)])) = H7 at g7 ea7 ⊢
  have ed7 := ke g7 ed6 da fun ps z => by cases z
  have e1 := ke g7 e1 m1 fun ps z => by cases z
  have e2 := ke g7 e2 m2 fun ps z => by cases z
  have f2 := ke g7 f2 m2q fun ps z => by cases z
  have e3 := ke g7 e3 m3 fun ps z => by cases z
  have f3 := ke g7 f3 m3q fun ps z => by cases z
  replace g7 := (g5.trans g6.any).trans g7
  -- _mouths
  refine fun p4 np4 => ⟨.ref a, rfl, a, dx, _, rfl, by rw [upd_ne (Ne.symm (pa ea7 np4))]; exact ea7, by show 3 < 1000; omega, ?_⟩
  have m4 := pa ea7 np4
  have fr4 : Fresh H p4 := g7.fresh (by simpa using m4) (fresh_none np4)
  have g8 : Grow [] H7 (upd H7 p4 (.dK [])) := grow_new np4
  have e4 : upd H7 p4 (.dK []) p4 = some (.dK []) := upd_same
  have d14 : p1 ≠ p4 := ne_of_none e1 np4
  have d24 : p2 ≠ p4 := ne_of_none e2 np4
  have d34 : p3 ≠ p4 := ne_of_none e3 np4
  have s4 : q3 ≠ p4 := ne_of_none f3 np4
  generalize upd H7 p4 (.dK []) = H8 at g8 e4 ⊢
  have ea8 := kz g8 ea7 fun ps z => by cases z
  have ed8 := kz g8 ed7 fun ps z => by cases z
  have e1 := kz g8 e1 fun ps z => by cases z
  have e2 := kz g8 e2 fun ps z => by cases z
  have f2 := kz g8 f2 fun ps z => by cases z
  have e3 := kz g8 e3 fun ps z => by cases z
  have f3 := kz g8 f3 fun ps z => by cases z
  have g9 : Grow [a] H8 (upd H8 a (.ins C dx (putF "_mouths" (.ref p4) [("_beside", .ref p1), ("_near", .ref p2), ("_books", .ref p3)]))) := ga ea8
  have ea9 : upd H8 a (.ins C dx (putF "_mouths" (.ref p4) [("_beside", .ref p1), ("_near", .ref p2), ("_books", .ref p3)])) a = some (.ins C dx [("_beside", .ref p1), ("_near", .ref p2), ("_books", .ref p3), ("_mouths", .ref p4)]) := upd_same
  generalize upd H8 a (.ins C dx (putF "_mouths" (.ref p4) [("_beside", .ref p1), ("_near", .ref p2), ("_books", .ref p3)])) = H9 at g9 ea9 ⊢
  have ed9 := ke g9 ed8 da fun ps z => by cases z
  have e1 := ke g9 e1 m1 fun ps z => by cases z
  have e2 := ke g9 e2 m2 fun ps z => by cases z
  have f2 := ke g9 f2 m2q fun ps z => by cases z
  have e3 := ke g9 e3 m3 fun ps z => by cases z
  have f3 := ke g9 f3 m3q fun ps z => by cases z
  have e4 := ke g9 e4 m4 fun ps z => by cases z
  replace g9 := (g7.trans g8.any).trans g9
  -- _sent
  refine fun p5 np5 => ⟨.ref a, rfl, a, dx, _, rfl, by rw [upd_ne (Ne.symm (pa ea9 np5))]; exact ea9, by show 4 < 1000; omega, ?_⟩
  have m5 := pa ea9 np5
  have fr5 : Fresh H p5 := g9.fresh (by simpa using m5) (fresh_none np5)
  have ga' : Grow [] H9 (upd H9 p5 (.dT [])) := grow_new np5
  have e5 : upd H9 p5 (.dT []) p5 = some (.dT []) := upd_same
  generalize upd H9 p5 (.dT []) = H10 at ga' e5 ⊢
  have ea10 := kz ga' ea9 fun ps z => by cases z
  have ed10 := kz ga' ed9 fun ps z => by cases z
  have e1 := kz ga' e1 fun ps z => by cases z
  have e2 := kz ga' e2 fun ps z => by cases z
  have f2 := kz ga' f2 fun ps z => by cases z
  have e3 := kz ga' e3 fun ps z => by cases z
  have f3 := kz ga' f3 fun ps z => by cases z
  have e4 := kz ga' e4 fun ps z => by cases z
  have g11 : Grow [a] H10 (upd H10 a (.ins C dx (putF "_sent" (.ref p5) [("_beside", .ref p1), ("_near", .ref p2), ("_books", .ref p3), ("_mouths", .ref p4)]))) := ga ea10
  have ea11 : upd H10 a (.ins C dx (putF "_sent" (.ref p5) [("_beside", .ref p1), ("_near", .ref p2), ("_books", .ref p3), ("_mouths", .ref p4)])) a = some (.ins C dx [("_beside", .ref p1), ("_near", .ref p2), ("_books", .ref p3), ("_mouths", .ref p4), ("_sent", .ref p5)]) := upd_same
  generalize upd H10 a (.ins C dx (putF "_sent" (.ref p5) [("_beside", .ref p1), ("_near", .ref p2), ("_books", .ref p3), ("_mouths", .ref p4)])) = H11 at g11 ea11 ⊢
  have ed11 := ke g11 ed10 da fun ps z => by cases z
  have e1 := ke g11 e1 m1 fun ps z => by cases z
  have e2 := ke g11 e2 m2 fun ps z => by cases z
  have f2 := ke g11 f2 m2q fun ps z => by cases z
  have e3 := ke g11 e3 m3 fun ps z => by cases z
  have f3 := ke g11 f3 m3q fun ps z => by cases z
  have e4 := ke g11 e4 m4 fun ps z => by cases z
  have e5 := ke g11 e5 m5 fun ps z => by cases z
  replace g11 := (g9.trans ga'.any).trans g11
  -- _heard
  refine fun p6 np6 => ⟨.ref a, rfl, a, dx, _, rfl, by rw [upd_ne (Ne.symm (pa ea11 np6))]; exact ea11, by show 5 < 1000; omega, ?_⟩
  have m6 := pa ea11 np6
  have fr6 : Fresh H p6 := g11.fresh (by simpa using m6) (fresh_none np6)
  have gb : Grow [] H11 (upd H11 p6 (.dT [])) := grow_new np6
  have e6 : upd H11 p6 (.dT []) p6 = some (.dT []) := upd_same
  have d56 : p5 ≠ p6 := ne_of_none e5 np6
  generalize upd H11 p6 (.dT []) = H12 at gb e6 ⊢
  have ea12 := kz gb ea11 fun ps z => by cases z
  have ed12 := kz gb ed11 fun ps z => by cases z
  have e1 := kz gb e1 fun ps z => by cases z
  have e2 := kz gb e2 fun ps z => by cases z
  have f2 := kz gb f2 fun ps z => by cases z
  have e3 := kz gb e3 fun ps z => by cases z
  have f3 := kz gb f3 fun ps z => by cases z
  have e4 := kz gb e4 fun ps z => by cases z
  have e5 := kz gb e5 fun ps z => by cases z
  have g13 : Grow [a] H12 (upd H12 a (.ins C dx (putF "_heard" (.ref p6) [("_beside", .ref p1), ("_near", .ref p2), ("_books", .ref p3), ("_mouths", .ref p4), ("_sent", .ref p5)]))) := ga ea12
  have ea13 : upd H12 a (.ins C dx (putF "_heard" (.ref p6) [("_beside", .ref p1), ("_near", .ref p2), ("_books", .ref p3), ("_mouths", .ref p4), ("_sent", .ref p5)])) a = some (.ins C dx [("_beside", .ref p1), ("_near", .ref p2), ("_books", .ref p3), ("_mouths", .ref p4), ("_sent", .ref p5), ("_heard", .ref p6)]) := upd_same
  generalize upd H12 a (.ins C dx (putF "_heard" (.ref p6) [("_beside", .ref p1), ("_near", .ref p2), ("_books", .ref p3), ("_mouths", .ref p4), ("_sent", .ref p5)])) = H13 at g13 ea13 ⊢
  have ed13 := ke g13 ed12 da fun ps z => by cases z
  have e1 := ke g13 e1 m1 fun ps z => by cases z
  have e2 := ke g13 e2 m2 fun ps z => by cases z
  have f2 := ke g13 f2 m2q fun ps z => by cases z
  have e3 := ke g13 e3 m3 fun ps z => by cases z
  have f3 := ke g13 f3 m3q fun ps z => by cases z
  have e4 := ke g13 e4 m4 fun ps z => by cases z
  have e5 := ke g13 e5 m5 fun ps z => by cases z
  have e6 := ke g13 e6 m6 fun ps z => by cases z
  replace g13 := (g11.trans gb.any).trans g13
  have one : ∀ {y : Str}, y ∈ (newN x).hands → y = x := fun hy => List.mem_singleton.mp hy
  refine q H13 ⟨dx, p1, p2, p3, p4, p5, p6, fun _ => q2, fun _ => q3, fun _ => 0⟩ g13 ?_ fun b hb => ?_
  · exact {
      obj := ea13, own := ed13, eab := e1, ean := e2, eak := e3, eam := e4, eas := e5, eah := e6
      ena := fun y _ => f2, eba := fun y _ => f3, esa := fun k hk => by cases hk
      d1 := by
        show [p1, p2, p3, p4].Nodup
        simp only [List.nodup_cons, List.mem_cons, List.not_mem_nil, or_false, not_or, not_false_eq_true, List.nodup_nil, and_true]
        exact ⟨⟨d12, d13, d14⟩, ⟨d23, d24⟩, d34⟩
      d2 := fun y _ => by
        show q3 ∉ [p1, p2, p3, p4]
        simp only [List.mem_cons, List.not_mem_nil, or_false, not_or]
        exact ⟨Ne.symm s1, Ne.symm s2, qp3, s4⟩
      d3 := fun y hy z hz _ => (one hy).trans (one hz).symm
      d4 := d56
      d5 := fun y hy z hz _ => (one hy).trans (one hz).symm
      d6 := fun k hk => by cases hk
      d7 := fun y hy k hk => by cases hk }
  · rcases mem_ft.mp hb with hb | ⟨y, hy, e⟩ | ⟨y, hy, e⟩ | ⟨k, hk, e⟩
    · simp only [List.mem_cons, List.not_mem_nil, or_false] at hb
      rcases hb with e | e | e | e | e | e | e | e
      · exact .inl e
      · exact .inr (.inl e)
      · exact .inr (.inr (e ▸ fr1))
      · exact .inr (.inr (e ▸ fr2))
      · exact .inr (.inr (e ▸ fr3))
      · exact .inr (.inr (e ▸ fr4))
      · exact .inr (.inr (e ▸ fr5))
      · exact .inr (.inr (e ▸ fr6))
    · exact .inr (.inr (e ▸ fr2q))
    · exact .inr (.inr (e ▸ fr3q))
    · cases hk
end

end Lw

namespace Lw
open PySem PySem.Spec PyProof.Rows L2 GxR Gx
/-! ### a dict that is walked -/
theorem truth_keys {P : Addr} {H1 : Hp} {sb : Bool} {g : TG} {te : TE} {vs : List Nat} {σ : L2.St} {Q : VK} {d : Addr} {o : Obj} {kvs : List (Key × V)} (Pv : Nat → Hp → Prop) (h0 : ∀ H2, Tabbed P H1 H2 → Pv 0 H2) (hl : ∀ i H, Pv i H → H d = some (.frz o (.dK kvs)))
    (step : ∀ i x H, (kvs.map fun q => kV q.1)[i]? = some x → Pv i H → g x (wipe σ vs) H fun σ2 H2 => wipe σ2 vs = wipe σ vs ∧ te σ2 H2 fun y H4 => ∃ b, y = .bl b ∧ if b = sb then Q (.bl sb) H4 else Pv (i + 1) H4)
    (fin : ∀ H, Pv kvs.length H → Q (.bl (!sb)) H) : rTruth P sb g te vs σ Q (Itk d o kvs) H1 := by
  have el : (kvs.map fun q => kV q.1).length = kvs.length := List.length_map _
  refine truth_by (items := kvs.map fun q => kV q.1) Pv h0 (fun i H x H' hp hy => ?_) (fun i H hi hp => ?_) (fun H hp => ?_) step fun H hp => fin H (by rw [← el]; exact hp)
  · obtain ⟨e, k, v, hk, rfl⟩ := hy
    exact ⟨e, by rw [List.getElem?_map, hk]; rfl⟩
  · exact ⟨hl i H hp, by rw [← el]; exact hi⟩
  · exact ⟨hl _ H hp, by rw [el]; exact Nat.le_refl _⟩
theorem truth_vals {P : Addr} {H1 : Hp} {sb : Bool} {g : TG} {te : TE} {vs : List Nat} {σ : L2.St} {Q : VK} {d : Addr} {o : Obj} {kvs : List (Key × V)} (Pv : Nat → Hp → Prop) (h0 : ∀ H2, Tabbed P H1 H2 → Pv 0 H2) (hl : ∀ i H, Pv i H → H d = some (.frz o (.dK kvs)))
    (step : ∀ i x H, (kvs.map fun q => q.2)[i]? = some x → Pv i H → g x (wipe σ vs) H fun σ2 H2 => wipe σ2 vs = wipe σ vs ∧ te σ2 H2 fun y H4 => ∃ b, y = .bl b ∧ if b = sb then Q (.bl sb) H4 else Pv (i + 1) H4)
    (fin : ∀ H, Pv kvs.length H → Q (.bl (!sb)) H) : rTruth P sb g te vs σ Q (Itd d o kvs) H1 := by
  have el : (kvs.map fun q => q.2).length = kvs.length := List.length_map _
  refine truth_by (items := kvs.map fun q => q.2) Pv h0 (fun i H x H' hp hy => ?_) (fun i H hi hp => ?_) (fun H hp => ?_) step fun H hp => fin H (by rw [← el]; exact hp)
  · obtain ⟨e, k, hk⟩ := hy
    exact ⟨e, by rw [List.getElem?_map, hk]; rfl⟩
  · exact ⟨hl i H hp, by rw [← el]; exact hi⟩
  · exact ⟨hl _ H hp, by rw [el]; exact Nat.le_refl _⟩
theorem tab_lock {H : Hp} {p T : Addr} {u o : HO} (t : TabG H T) (e : H p = some u) (hu : ∀ ps, u ≠ .tbl ps) : TabG (upd H p o) T := (grow_at (ex := [p]) e hu (by simp)).tabs T t
theorem grow_unlock {H H' : Hp} {p : Addr} {u : HO} {od : Obj} (e : H p = some u) (hu : ∀ ps, u ≠ .tbl ps) (g : Grow [] (upd H p (.frz od u)) H') (h' : H' p = some (.frz od u)) : Grow [] H (upd H' p u) := by
  refine ⟨fun b o n eb t => ?_, fun b t => ?_⟩
  · by_cases hb : b = p
    · rw [hb, e] at eb
      rw [hb, upd_same]
      exact eb
    · rw [upd_ne hb]
      exact g.keep b o n (by rw [upd_ne hb]; exact eb) t
  · exact (grow_at (ex := [p]) h' (fun ps z => by cases z) (by simp)).tabs b (g.tabs b (tab_lock t e hu))

section
variable {P : Program} {w : World} {K : PySem.W.Frag} {mg : Str → Option Value} {base : Heap} {C : Addr}
/-! ### web -/
/-- hands and roads, as they are told -/
def webH (N : Nst) : List Str := N.hands.mergeSort (PySem.W.dataLe false PyData.str)
def fwdN (k : Str × Str) : Bool := decide (k.1.cps.toList < k.2.cps.toList)
def webR (N : Nst) : List (Str × Str) := (N.keys.filter fwdN).mergeSort (PySem.W.dataLe false encP)
/-- (hands, roads) at W -/
structure WebR (H0 : Hp) (W LH LR : Addr) (hs : List Str) (rs : List (Str × Str)) (H : Hp) : Prop where
  top : H W = some (.tup [.ref LH, .ref LR])
  hds : H LH = some (.lst (hs.map V.str))
  rds : ∃ ps : List (Addr × (Str × Str)), H LR = some (.lst (ps.map fun b => V.ref b.1)) ∧ ps.map Prod.snd = rs ∧ ∀ b ∈ ps, H b.1 = some (.tup [.str b.2.1, .str b.2.2]) ∧ Fresh H0 b.1
  ne : LH ≠ LR
  fr : Fresh H0 W ∧ Fresh H0 LH ∧ Fresh H0 LR
def spWeb (C : Addr) : Sp := fun vs H Q _ => ∃ (a : Addr) (A : Ads) (N : Nst) (T : Nat), vs = [.ref a] ∧ NetAt C a A N H ∧ Nok N T ∧ ∀ W LH LR H', Grow [] H H' → WebR H W LH LR (webH N) (webR N) H' → Q (.ref W) H'
theorem ok_Net_web {f c : Addr} {fd : FuncData} (B : Nb mg) (D : DefIs K "web" "Net.web" st_Net_web f fd (.ref c)) (NC : NetC K C) : FnG P w K mg base CX0 2 f fd ["self"] (spWeb C) := by
  refine D.ok0 (k := 1) sc_Net_web (fun vs H Q E h => ?_) (fun A0 outer s H vs Q E g hr h => ?_)
  · obtain ⟨a, A, N, T, rfl, _⟩ := h
    rfl
  obtain ⟨a, A, N, T, rfl, n, ok, q⟩ := h
  refine ⟨_,
      (pss_cons (ps_lock (ps_setLc (i := 1) (own := [("one", 2), ("other", 3)]) (g := (gTup _ 2 (gCons (gName 2) (gCons (gName 3) gNil)))) rfl sc_Net_web.nd rfl rfl (sw_true rfl rfl rfl (by decide +kernel)) (pi_keys (pe_fN NC.cls NC.n_sent (pv 0))) (blkOk_by (N := N_Net_web) (sc := defScope st_Net_web) (by decide +kernel)) (fun _ _ _ _ _ => (pg_tup rfl (pgs_cons (pg_name (i := 2) sc_Net_web.nd rfl (.inl rfl)) (pgs_cons (pg_name (i := 3) sc_Net_web.nd rfl (.inl rfl)) pgs_nil)))) (fun _ _ _ _ _ => pts_to (pts_one (pt_cmpR (op_lt_str) (pv 2) (pv 3) (nomark _)))) (fun _ _ _ _ _ => pe_to (pe_tup (pa_cons (pv 2) (pa_cons (pv 3) pa_nil))))))
      (pss_one (ps_ret (pe_tup (pa_cons (pe_callB (cr_sortD rfl hr.units) rfl B.n_sorted (by decide +kernel) (pa_cons (pe_fN NC.cls NC.n_books (pv 0)) pa_nil)) (pa_cons (pe_callB (cr_sortG (val := fun b : Addr × (Str × Str) => V.ref b.1) (enc := fun b : Addr × (Str × Str) => encP b.2) hr.units) rfl B.n_sorted (by decide +kernel) (pa_cons (pv 1) pa_nil)) pa_nil)))))), ?_⟩
  have kl := ok.klen
  have hl := ok.len
  have ntl : ∀ ps, HO.dT (kvK N.keys fun k => .ref (A.sa k)) ≠ .tbl ps := fun ps z => by cases z
  have ol : (HO.dT (kvK N.keys fun k => .ref (A.sa k))) ≠ HO.ins C A.dx A.fs := fun z => by cases z
  have na : a ≠ A.as_ := fun z => by have := n.eas; rw [← z, n.obj] at this; cases this
  refine ⟨A.as_, _, n.eas, trivial, fun od => ⟨.ref a, rfl, a, _, _, _, rfl, by rw [upd_ne na]; exact n.obj, A.l_sent, A.as_, od, rfl, .inr ⟨_, upd_same, fun L1 nL1 => ?_⟩⟩⟩
  have eS : upd H A.as_ (.frz od (.dT (kvK N.keys fun k => .ref (A.sa k)))) A.as_ = some (.frz od (.dT (kvK N.keys fun k => .ref (A.sa k)))) := upd_same
  have un : ∀ H', Grow [] (upd H A.as_ (.frz od (.dT (kvK N.keys fun k => .ref (A.sa k))))) H' → Grow [] H (upd H' A.as_ (.dT (kvK N.keys fun k => .ref (A.sa k)))) := fun H' g' => grow_unlock n.eas ntl g' (g'.keep _ _ (by simp) upd_same fun ps z => by cases z)
  have fr : ∀ {b : Addr}, upd H A.as_ (.frz od (.dT (kvK N.keys fun k => .ref (A.sa k)))) b = none → H b = none := fun {b} e => by
    rw [upd_ne (show b ≠ A.as_ from fun z => by rw [z, upd_same] at e; cases e)] at e
    exact e
  have frF : ∀ {b : Addr}, Fresh (upd H A.as_ (.frz od (.dT (kvK N.keys fun k => .ref (A.sa k))))) b → Fresh H b := fun {b} e o eo => by
    have nb : b ≠ A.as_ := fun z => by
      obtain ⟨ps, z2⟩ := e _ (by rw [z]; exact upd_same)
      cases z2
    exact e o (by rw [upd_ne nb]; exact eo)
  generalize upd H A.as_ (.frz od (.dT (kvK N.keys fun k => .ref (A.sa k)))) = H1 at nL1 eS un fr frF ⊢
  refine lc_it walk_keysT (fun j H' => Grow [] H1 H' ∧ ∃ ps : List (Addr × (Str × Str)), H' L1 = some (.lst (ps.map fun b => V.ref b.1)) ∧ ps.map Prod.snd = (N.keys.take j).filter fwdN ∧ ∀ b ∈ ps, H' b.1 = some (.tup [.str b.2.1, .str b.2.2]) ∧ Fresh H1 b.1)
    ⟨grow_new nL1, [], upd_same, rfl, fun b hb => by cases hb⟩ (fun j H' _ h => h.1.keep A.as_ _ (by simp) eS fun ps z => by cases z) (fun j x Ha Hb hj hp hy => ?_) (fun Hc hp => ?_)
  · obtain ⟨ga, ps, eL1, mp, hps⟩ := hp
    obtain ⟨rfl, kk, v, Tq, ek, rfl, eq⟩ := hy
    obtain ⟨k, ek2, rfl⟩ : ∃ k, N.keys[j]? = some k ∧ kk = tk k := by
      unfold kvK at ek
      rw [List.getElem?_map] at ek
      cases hk : N.keys[j]? with
      | none => rw [hk] at ek; cases ek
      | some k =>
        rw [hk] at ek
        exact ⟨k, rfl, (Prod.mk.inj (Option.some.inj ek)).1.symm⟩
    have tk1 : N.keys.take (j + 1) = N.keys.take j ++ [k] := by rw [List.take_add_one, ek2]; rfl
    refine ⟨Tq, [.str k.1, .str k.2], rfl, .inl (.inl eq), rfl, .str k.1, _, rfl, .str k.2, _, rfl, rfl, rfl, ?_⟩
    refine ⟨.str k.1, rfl, .str k.2, rfl, k.1, k.2, rfl, rfl, _, rfl, ?_⟩
    by_cases hb : fwdN k = true
    · rw [show decide (k.1.cps.toList < k.2.cps.toList) = true from hb]
      show if true = true then _ else _
      rw [if_pos (show true = true from rfl)]
      refine ⟨.str k.1, rfl, .str k.2, rfl, by show 2 ≤ sizeLine; decide, fun b nb => ?_⟩
      have g3 : Grow [] Hb (upd Hb b (.tup [.str k.1, .str k.2])) := grow_new nb
      have eb : upd Hb b (.tup [.str k.1, .str k.2]) b = some (.tup [.str k.1, .str k.2]) := upd_same
      have fb : Fresh H1 b := ga.fresh0 nb
      generalize upd Hb b (.tup [.str k.1, .str k.2]) = Hd at g3 eb ⊢
      have eL2 := g3.lst (by simp) eL1
      have pl : ps.length ≤ 3600 := by
        have h1 := congrArg List.length mp
        rw [List.length_map] at h1
        have h2 := List.length_filter_le fwdN (N.keys.take j)
        rw [List.length_take] at h2
        omega
      have ne1 : ∀ {a : Addr} {xs : List V}, Hd a = some (.tup xs) → a ≠ L1 := fun e z => by rw [z, eL2] at e; cases e
      refine ⟨_, eL2, by rw [List.length_map, sizeLine_eq]; omega, (ga.trans g3).put (fresh_none nL1) eL2 (fun ps z => by cases z), ps ++ [(b, k)], by rw [upd_same, List.map_append]; rfl, ?_, fun d hd => ?_⟩
      · rw [List.map_append, mp, tk1, List.filter_append, List.filter_cons_of_pos hb]
        rfl
      · rcases List.mem_append.mp hd with hd | hd
        · obtain ⟨r1, r2⟩ := hps d hd
          have r3 := g3.tup (by simp) r1
          exact ⟨by rw [upd_ne (ne1 r3)]; exact r3, r2⟩
        · rw [List.mem_singleton.mp hd]
          exact ⟨by rw [upd_ne (ne1 eb)]; exact eb, fb⟩
    · have hf : fwdN k = false := by simpa using hb
      rw [show decide (k.1.cps.toList < k.2.cps.toList) = false from hf]
      show if false = true then _ else _
      rw [if_neg Bool.false_ne_true]
      refine ⟨ga, ps, eL1, ?_, hps⟩
      rw [mp, tk1, List.filter_append, List.filter_cons_of_neg (by rw [hf]; exact Bool.false_ne_true), List.filter_nil, List.append_nil]
  · obtain ⟨ga, ps, eL1, mp, hps⟩ := hp
    have eSc : Hc A.as_ = some (.frz od (.dT (kvK N.keys fun k => .ref (A.sa k)))) := ga.keep _ _ (by simp) eS fun ps z => by cases z
    have pl : ps.length ≤ 3600 := by
      have h1 := congrArg List.length mp
      rw [List.length_map] at h1
      have h2 := List.length_filter_le fwdN (N.keys.take (kvK N.keys fun k => V.ref (A.sa k)).length)
      rw [List.length_take] at h2
      omega
    have mp2 : ps.map Prod.snd = N.keys.filter fwdN := by
      rw [mp]
      unfold kvK
      rw [List.length_map, List.take_length]
    refine ⟨eSc, ?_⟩
    have g1 := un Hc ga
    have eL2 : upd Hc A.as_ (.dT (kvK N.keys fun k => .ref (A.sa k))) L1 = some (.lst (ps.map fun b => V.ref b.1)) := by rw [upd_ne (fun z => by rw [z, eSc] at eL1; cases eL1)]; exact eL1
    have hps2 : ∀ b ∈ ps, upd Hc A.as_ (.dT (kvK N.keys fun k => .ref (A.sa k))) b.1 = some (.tup [.str b.2.1, .str b.2.2]) ∧ Fresh H b.1 := fun b hb => by
      obtain ⟨r1, r2⟩ := hps b hb
      exact ⟨by rw [upd_ne (fun z => by rw [z, eSc] at r1; cases r1)]; exact r1, frF r2⟩
    generalize upd Hc A.as_ (.dT (kvK N.keys fun k => .ref (A.sa k))) = H2 at g1 eL2 hps2 ⊢
    have n2 := n.grow0 g1
    refine ⟨.ref a, rfl, a, _, _, _, rfl, n2.obj, A.l_books, A.ak, _, N.hands, rfl, .inl n2.eak, by rw [kvF_keys], by rw [sizeLine_eq]; omega, fun LH nLH => ?_⟩
    have g3 : Grow [] H2 (upd H2 LH (.lst ((webH N).map V.str))) := grow_new nLH
    have e3 : upd H2 LH (.lst ((webH N).map V.str)) LH = some (.lst ((webH N).map V.str)) := upd_same
    have f3 : Fresh H LH := g1.fresh0 nLH
    replace g3 := g1.trans g3
    have eL3 := (grow_new (ex := []) (o := .lst ((webH N).map V.str)) nLH).lst (by simp) eL2
    have hps3 : ∀ b ∈ ps, upd H2 LH (.lst ((webH N).map V.str)) b.1 = some (.tup [.str b.2.1, .str b.2.2]) ∧ Fresh H b.1 := fun b hb => ⟨(grow_new (ex := []) nLH).tup (by simp) (hps2 b hb).1, (hps2 b hb).2⟩
    rw [show N.hands.mergeSort (PySem.W.dataLe false PyData.str) = webH N from rfl]
    generalize upd H2 LH (.lst ((webH N).map V.str)) = H3 at g3 e3 eL3 hps3 ⊢
    refine ⟨.ref L1, rfl, L1, ps, rfl, .inl (.inl eL3), fun b hb => ⟨(DpT.tup (hps3 b hb).1 (.cons (.str _) (.cons (.str _) .nil))).dp, by simp [encP, PyData.depth, PyData.depthAll]⟩, ?_, ?_, by rw [sizeLine_eq]; omega, fun LR nLR => ?_⟩
    · rw [show ps.map (fun b => encP b.2) = (ps.map Prod.snd).map encP by rw [List.map_map]; rfl]
      exact alike_pairs _
    · rw [show ps.map (fun b => encP b.2) = (ps.map Prod.snd).map encP by rw [List.map_map]; rfl]
      exact sortable_pairs _
    obtain ⟨ps', eps⟩ : ∃ ps', ps.mergeSort (PySem.W.dataLe false fun b : Addr × (Str × Str) => encP b.2) = ps' := ⟨_, rfl⟩
    have pm : ps'.Perm ps := by rw [← eps]; exact List.mergeSort_perm _ _
    have mp3 : ps'.map Prod.snd = webR N := by
      rw [← eps, List.map_mergeSort (f := Prod.snd) (r := PySem.W.dataLe false fun b : Addr × (Str × Str) => encP b.2) (s := PySem.W.dataLe false encP) fun a _ b _ => rfl, mp2]
      rfl
    rw [eps]
    have g4 : Grow [] H3 (upd H3 LR (.lst (ps'.map fun b => V.ref b.1))) := grow_new nLR
    have e4 : upd H3 LR (.lst (ps'.map fun b => V.ref b.1)) LR = some (.lst (ps'.map fun b => V.ref b.1)) := upd_same
    have f4 : Fresh H LR := g3.fresh0 nLR
    have ne : LH ≠ LR := ne_of_none e3 nLR
    have e3b := g4.lst (by simp) e3
    have hps4 : ∀ b ∈ ps', upd H3 LR (.lst (ps'.map fun b => V.ref b.1)) b.1 = some (.tup [.str b.2.1, .str b.2.2]) ∧ Fresh H b.1 := fun b hb => by
      obtain ⟨r1, r2⟩ := hps3 b (pm.mem_iff.mp hb)
      exact ⟨g4.tup (by simp) r1, r2⟩
    generalize upd H3 LR (.lst (ps'.map fun b => V.ref b.1)) = H4 at g4 e4 e3b hps4 ⊢
    refine ⟨by show 2 ≤ sizeLine; decide, fun W nW => ?_⟩
    have g5 : Grow [] H4 (upd H4 W (.tup [.ref LH, .ref LR])) := grow_new nW
    refine q W LH LR _ ((g3.trans g4).trans g5) ⟨upd_same, g5.lst (by simp) e3b, ⟨ps', g5.lst (by simp) e4, mp3, fun b hb => ⟨g5.tup (by simp) (hps4 b hb).1, (hps4 b hb).2⟩⟩, ne, (g3.trans g4).fresh0 nW, f3, f4⟩
end

end Lw

namespace Lw
open PySem PySem.Spec PyProof.Rows L2 GxR Gx
/-! ### mouths -/
theorem lookup_nd {m : List (Str × Str)} (nd : (m.map Prod.fst).Nodup) {x y : Str} (h : (x, y) ∈ m) : m.lookup x = some y := by
  induction m with
  | nil => cases h
  | cons p m ih =>
    obtain ⟨u, v⟩ := p
    rw [List.map_cons, List.nodup_cons] at nd
    rcases List.mem_cons.mp h with e | h
    · cases e
      exact List.lookup_cons_self
    · have ne : x ≠ u := fun z => nd.1 (List.mem_map.mpr ⟨(x, y), h, z⟩)
      rw [List.lookup_cons, beq_eq_false_iff_ne.mpr ne]
      exact ih nd.2 h
def mouthN (N : Nst) (x : Str) : Str := (N.mouths.lookup x).getD ""
theorem kvM_val {N : Nst} (nd : (N.mouths.map Prod.fst).Nodup) {x : Str} (h : x ∈ N.mouths.map Prod.fst) : valV (kvM N.mouths) (.inr x) = some (.str (mouthN N x)) := by
  obtain ⟨⟨x, y⟩, hx, rfl⟩ := List.mem_map.mp h
  have hk : (kvM N.mouths).map Prod.fst = (N.mouths.map Prod.fst).map Sum.inr := by unfold kvM; rw [List.map_map, List.map_map]; rfl
  obtain ⟨j, hj⟩ := List.mem_iff_getElem?.mp hx
  unfold mouthN
  rw [lookup_nd nd hx]
  exact valV_some (j := j) (v := .str y) (by rw [hk]; exact inr_nd nd) (by unfold kvM; rw [List.getElem?_map, hj]; rfl)
theorem kvF_snoc (xs : List Str) (x : Str) (f : Str → V) : kvF (xs ++ [x]) f = kvF xs f ++ [(Sum.inr x, f x)] := by
  unfold kvF
  rw [List.map_append]
  rfl
theorem take_new {xs : List Str} (nd : xs.Nodup) {i : Nat} {x : Str} (e : xs[i]? = some x) : x ∉ xs.take i := fun m => by
  obtain ⟨j, hj⟩ := List.mem_iff_getElem?.mp m
  rw [List.getElem?_take] at hj
  by_cases c : j < i
  · rw [if_pos c] at hj
    have := (List.getElem?_inj (List.getElem?_eq_some_iff.mp hj).1 nd).mp (hj.trans e.symm)
    omega
  · rw [if_neg c] at hj
    cases hj

end Lw

namespace Lw
open PySem PySem.Spec PyProof.Rows L2 GxR Gx
section
variable {P : Program} {w : World} {K : PySem.W.Frag} {mg : Str → Option Value} {base : Heap}
/-! ### the drawing: _law_bag, _law_take -/
/-- what is drawn from: a number used up first, then a marked one; no more than c turns of it -/
def Bag (H : Hp) (p : Addr) (c : Int) : Prop := ∃ a b k : Int, H p = some (.lst [.int a, .int b, .int k]) ∧ 0 ≤ b ∧ b < 2 ^ 134 ∧ 0 ≤ k ∧ k ≤ c
theorem Bag.mono {H : Hp} {p : Addr} {c c' : Int} (h : Bag H p c) (l : c ≤ c') : Bag H p c' := by
  obtain ⟨a, b, k, e, b1, b2, b3, b4⟩ := h
  exact ⟨a, b, k, e, b1, b2, b3, by omega⟩
theorem Bag.keep {ex : List Addr} {H H' : Hp} {p : Addr} {c : Int} (h : Bag H p c) (g : Grow ex H H') (n : p ∉ ex) : Bag H' p c := by
  obtain ⟨a, b, k, e, r⟩ := h
  exact ⟨a, b, k, g.lst n e, r⟩
theorem Bag.ne {H : Hp} {D p : Addr} {c : Int} (h : Bag H p c) (fr : Fresh H D) : D ≠ p := by
  obtain ⟨a, b, k, e, _⟩ := h
  exact (fr.ne e (fun ps z => by cases z)).symm
def spBag (K : PySem.W.Frag) : Sp := fun vs H Q _ => ∃ (s : Addr) (ns : List Int) (k : Nat), vs = [.ref s, .int k] ∧ SqL K H s (ns.map V.int) ∧ k ≤ 24 ∧ ∀ p H', Fresh H p → Grow [] H H' → Bag H' p 1464 → Q (.ref p) H'
theorem ok_law_bag {f c : Addr} {fd : FuncData} (B : Nb mg) (D : DefIs K "_law_bag" "_law_bag" st_law_bag f fd (.ref c)) : FnG P w K mg base CX0 3 f fd ["script", "k"] (spBag K) := by
  refine D.ok0 (k := 2) sc_law_bag (fun vs H Q E h => ?_) (fun A outer s H vs Q E g hr h => ?_)
  · obtain ⟨s, ns, k, rfl, _⟩ := h
    rfl
  obtain ⟨l, ns, k, rfl, hl, hk, q⟩ := h
  refine ⟨_,
      (pss_cons (ps_set (i := 2) sc_law_bag.nd rfl (.inl rfl) pe_int)
      (pss_cons (ps_if (pt_cmpR (op_lt) (pv 1) (pe_callB call_len_seq rfl B.n_len PySem.boot_len (pa_cons (pv 0) pa_nil)) (nomark _)) (
        (pss_one (ps_set (i := 2) sc_law_bag.nd rfl (.inl rfl) (pe_ix ix_list (pv 0) (pv 1) (fun _ _ => rfl))))) pss_nil)
      (pss_one (ps_ret (pe_lst (pa_cons (pe_callB (call_max2 rfl) rfl B.n_max (by decide +kernel) (pa_cons pe_int (pa_cons (pe_op op_sub (pv 2) (pe_op op_powX pe_int pe_int)) pa_nil))) (pa_cons (pe_op op_mod (pv 2) (pe_op op_add (pe_op op_powX pe_int pe_int) pe_int)) (pa_cons (pe_op op_mulX pe_int (pv 1)) pa_nil)))))))), ?_⟩
  have mp : (0 : Int) < 10 ^ (40 : Int).toNat + 121 := by decide
  have fq : ∀ (cell : Int) p, H p = none → Q (.ref p) (upd H p (.lst [.int (if cell - 10 ^ (18 : Int).toNat > 0 then cell - 10 ^ (18 : Int).toNat else 0), .int (cell % (10 ^ (40 : Int).toNat + 121)), .int (61 * (k : Int))])) := fun cell p np =>
    q p _ (fresh_none np) (grow_new np) ⟨_, _, _, upd_same, Int.emod_nonneg cell (by omega), Int.lt_trans (Int.emod_lt_of_pos cell mp) (by decide), by omega, by omega⟩
  have cp : CPowX 10 18 := ⟨by decide, by decide⟩
  have cp2 : CPowX 10 40 := ⟨by decide, by decide⟩
  have cm : CMulX 61 (k : Int) := by
    have h1 : Builtin.Int.intBits (k : Int) ≤ 5 := bits_le (by decide) (by omega)
    have h2 : Builtin.Int.intBits 61 ≤ 6 := bits_le (by decide) (by decide)
    unfold CMulX
    omega
  refine ⟨.int k, rfl, .ref l, rfl, l, _, rfl, .inl hl, _, _, rfl, rfl, _, rfl, ?_⟩
  by_cases hlt : (k : Int) < ((ns.map V.int).length : Nat)
  · rw [decide_eq_true hlt]
    have hi : k < ns.length := by rw [List.length_map] at hlt; omega
    refine iteT ⟨.ref l, rfl, .int k, rfl, l, _, _, .int (ns[k]), rfl, rfl, hl, ?_, ?_⟩
    · exact atI_nat (by rw [List.getElem?_map, List.getElem?_eq_getElem hi]; rfl)
    · exact ⟨.int (ns[k]), rfl, 10, 18, rfl, rfl, cp, _, _, rfl, rfl, _, _, rfl, .int (ns[k]), rfl, 10, 40, rfl, rfl, cp2, _, _, rfl, rfl, _, _, rfl, rfl, mp, .int k, rfl, _, _, rfl, rfl, cm, by show 3 ≤ sizeLine; decide, fq _⟩
  · rw [decide_eq_false hlt]
    exact iteF ⟨.int 0, rfl, 10, 18, rfl, rfl, cp, _, _, rfl, rfl, _, _, rfl, .int 0, rfl, 10, 40, rfl, rfl, cp2, _, _, rfl, rfl, _, _, rfl, rfl, mp, .int k, rfl, _, _, rfl, rfl, cm, by show 3 ≤ sizeLine; decide, fq _⟩
def spTake (K : PySem.W.Frag) : Sp := fun vs H Q _ => ∃ (p : Addr) (m c : Int), vs = [.ref p, .int m] ∧ 1 ≤ m ∧ m < 2 ^ 30 ∧ c ≤ 2 ^ 30 ∧ Bag H p c ∧ ∀ v H', 0 ≤ v → v < m → Grow [p] H H' → Bag H' p (c + 1) → Q (.int v) H'
theorem ok_law_take {f c : Addr} {fd : FuncData} (B : Nb mg) (D : DefIs K "_law_take" "_law_take" st_law_take f fd (.ref c)) : FnG P w K mg base CX0 3 f fd ["bag", "many"] (spTake K) := by
  refine D.ok0 (k := 2) sc_law_take (fun vs H Q E h => ?_) (fun A outer s H vs Q E g hr h => ?_)
  · obtain ⟨p, m, c, rfl, _⟩ := h
    rfl
  obtain ⟨p, m, c, rfl, m1, m2, c1, ⟨a, b, k, e, b1, b2, k1, k2⟩, q⟩ := h
  refine ⟨_,
      (pss_cons (ps_if (pt_cmpR (op_gt) (pe_ix ix_list (pv 0) pe_int (fun _ _ => rfl)) pe_int (nomark _)) (
        (pss_cons (ps_set (i := 2) sc_law_take.nd rfl (.inl rfl) (pe_op op_mod (pe_ix ix_list (pv 0) pe_int (fun _ _ => rfl)) (pv 1)))
        (pss_cons (ps_asg (pe_op op_fdiv (pe_ix ix_list (pv 0) pe_int (fun _ _ => rfl)) (pv 1)) (pg_sub (pv 0) pe_int set_list))
        (pss_one (ps_ret (pv 2)))))) pss_nil)
      (pss_cons (ps_asg (pe_op op_add (pe_ix ix_list (pv 0) pe_int (fun _ _ => rfl)) pe_int) (pg_sub (pv 0) pe_int set_list))
      (pss_cons (ps_set (i := 3) sc_law_take.nd rfl (.inl rfl) (pe_op op_add (pe_op op_mulX (pe_op op_add (pe_ix ix_list (pv 0) pe_int (fun _ _ => rfl)) pe_int) (pe_op op_add (pe_op op_mulX pe_int (pe_ix ix_list (pv 0) pe_int (fun _ _ => rfl))) pe_int)) (pe_op op_mulX (pe_op op_mulX pe_int (pe_ix ix_list (pv 0) pe_int (fun _ _ => rfl))) (pe_ix ix_list (pv 0) pe_int (fun _ _ => rfl)))))
      (pss_cons (ps_set (i := 3) sc_law_take.nd rfl (.inl rfl) (pe_op op_mod (pe_op op_mulX (pv 3) (pv 3)) (pe_op op_add (pe_op op_powX pe_int pe_int) pe_int)))
      (pss_one (ps_ret (pe_op op_mod (pe_op op_fdiv (pe_op op_mod (pe_op op_mulX (pv 3) (pe_op op_add (pv 3) pe_int)) (pe_op op_add (pe_op op_powX pe_int pe_int) pe_int)) pe_int) (pv 1)))))))), ?_⟩
  have sq : ∀ {H' : Hp} {x y z : Int}, H' p = some (.lst [.int x, .int y, .int z]) → SqL K H' p [.int x, .int y, .int z] := fun h => .inl (.inl h)
  refine ⟨.ref p, rfl, p, _, 0, .int a, rfl, rfl, sq e, rfl, _, _, rfl, rfl, _, rfl, ?_⟩
  by_cases ha : 0 < a
  · rw [decide_eq_true ha]
    refine iteT ⟨.ref p, rfl, p, _, 0, .int a, rfl, rfl, sq e, rfl, .int m, rfl, _, _, rfl, rfl, m1, .ref p, rfl, p, _, 0, .int a, rfl, rfl, sq e, rfl, .int m, rfl, _, _, rfl, rfl, ⟨m1, m2⟩, .ref p, rfl, p, _, 0, 0, rfl, rfl, e, rfl, .int (a % m), rfl, ?_⟩
    exact q _ _ (Int.emod_nonneg _ (by omega)) (Int.emod_lt_of_pos _ m1) (grow_at e (fun ps z => by cases z) (by simp)) ⟨_, _, _, upd_same, b1, b2, k1, by omega⟩
  · rw [decide_eq_false ha]
    refine iteF ⟨.ref p, rfl, p, _, 2, .int k, rfl, rfl, sq e, rfl, _, _, rfl, rfl, .ref p, rfl, p, _, 2, 2, rfl, rfl, e, rfl, ?_⟩
    have e2 : upd H p (.lst [.int a, .int b, .int (k + 1)]) p = some (.lst [.int a, .int b, .int (k + 1)]) := upd_same
    have fin : ∀ x : Int, Q (.int (x % m)) (upd H p (.lst [.int a, .int b, .int (k + 1)])) := fun x =>
      q _ _ (Int.emod_nonneg _ (by omega)) (Int.emod_lt_of_pos _ m1) (grow_at e (fun ps z => by cases z) (by simp)) ⟨_, _, _, e2, b1, b2, by omega, by omega⟩
    have bk : Builtin.Int.intBits (k + 1) ≤ 31 := bits_le (by decide) (by omega)
    have bb : Builtin.Int.intBits (b + 1) ≤ 135 := bits_le (by decide) (by omega)
    have i1 : Builtin.Int.intBits 30011 ≤ 15 := bits_le (by decide) (by decide)
    have i2 : Builtin.Int.intBits 104729 ≤ 17 := bits_le (by decide) (by decide)
    have cm1 : CMulX 30011 (k + 1) := by unfold CMulX; omega
    have b3 : Builtin.Int.intBits (30011 * (k + 1) + 7) ≤ 47 := bits_le (by decide) (by omega)
    have cm2 : CMulX (b + 1) (30011 * (k + 1) + 7) := by unfold CMulX; omega
    have cm3 : CMulX 104729 (k + 1) := by unfold CMulX; omega
    have b4 : Builtin.Int.intBits (104729 * (k + 1)) ≤ 48 := bits_le (by decide) (by omega)
    have cm4 : CMulX (104729 * (k + 1)) (k + 1) := by unfold CMulX; omega
    have n1 : (0 : Int) ≤ (b + 1) * (30011 * (k + 1) + 7) := Int.mul_nonneg (by omega) (by omega)
    have n2 : (b + 1) * (30011 * (k + 1) + 7) ≤ 2 ^ 135 * 2 ^ 47 := Int.mul_le_mul (by omega) (by omega) (by omega) (by decide)
    have n3 : (0 : Int) ≤ 104729 * (k + 1) * (k + 1) := Int.mul_nonneg (by omega) (by omega)
    have n4 : 104729 * (k + 1) * (k + 1) ≤ 2 ^ 48 * 2 ^ 31 := Int.mul_le_mul (by omega) (by omega) (by omega) (by decide)
    obtain ⟨x, hx⟩ : ∃ x, (b + 1) * (30011 * (k + 1) + 7) + 104729 * (k + 1) * (k + 1) = x := ⟨_, rfl⟩
    have bx : Builtin.Int.intBits x ≤ 184 := bits_le (by decide) (by omega)
    have cm5 : CMulX x x := by unfold CMulX; omega
    have p41 : (0 : Int) < 10 ^ (41 : Int).toNat + 37 := by decide
    have p40 : (0 : Int) < 10 ^ (40 : Int).toNat + 4323 := by decide
    have cp1 : CPowX 10 41 := ⟨by decide, by decide⟩
    have cp2 : CPowX 10 40 := ⟨by decide, by decide⟩
    have cm6 : ∀ y : Int, CMulX (y % (10 ^ (41 : Int).toNat + 37)) (y % (10 ^ (41 : Int).toNat + 37) + 97) := fun y => by
      have h1 := Int.emod_nonneg y (b := 10 ^ (41 : Int).toNat + 37) (by omega)
      have h2 : y % (10 ^ (41 : Int).toNat + 37) < 2 ^ 138 := Int.lt_trans (Int.emod_lt_of_pos y p41) (by decide)
      obtain ⟨z, hz⟩ : ∃ z, y % (10 ^ (41 : Int).toNat + 37) = z := ⟨_, rfl⟩
      rw [hz] at h1 h2 ⊢
      have b1 : Builtin.Int.intBits z ≤ 138 := bits_le (by decide) (by omega)
      have b2 : Builtin.Int.intBits (z + 97) ≤ 139 := bits_le (by decide) (by omega)
      unfold CMulX
      omega
    refine ⟨.ref p, rfl, p, _, 1, .int b, rfl, rfl, sq e2, rfl, _, _, rfl, rfl, .ref p, rfl, p, _, 2, .int (k + 1), rfl, rfl, sq e2, rfl, _, _, rfl, rfl, cm1, _, _, rfl, rfl, _, _, rfl, rfl, cm2, ?_⟩
    have cm7 : CMulX ((b + 1) * (30011 * (k + 1) + 7) + 104729 * (k + 1) * (k + 1)) ((b + 1) * (30011 * (k + 1) + 7) + 104729 * (k + 1) * (k + 1)) := by rw [hx]; exact cm5
    refine ⟨.ref p, rfl, p, _, 2, .int (k + 1), rfl, rfl, sq e2, rfl, _, _, rfl, rfl, cm3, .ref p, rfl, p, _, 2, .int (k + 1), rfl, rfl, sq e2, rfl, _, _, rfl, rfl, cm4, _, _, rfl, rfl, ?_⟩
    refine ⟨.int _, rfl, .int _, rfl, _, _, rfl, rfl, cm7, 10, 41, rfl, rfl, cp1, _, _, rfl, rfl, _, _, rfl, rfl, p41, ?_⟩
    refine ⟨.int _, rfl, .int _, rfl, _, _, rfl, rfl, _, _, rfl, rfl, cm6 _, 10, 40, rfl, rfl, cp2, _, _, rfl, rfl, _, _, rfl, rfl, p40, _, _, rfl, rfl, (⟨by decide, by decide⟩ : CDiv _ 100003), .int m, rfl, _, _, rfl, rfl, m1, fin _⟩
end

end Lw

namespace Lw
open PySem PySem.Spec PyProof.Rows L2 GxR Gx
section
variable {P : Program} {w : World} {K : PySem.W.Frag} {mg : Str → Option Value} {base : Heap}
/-! ### _law_pick, _law_name -/
def spPick (K : PySem.W.Frag) : Sp := fun vs H Q _ => ∃ (p l : Addr) (xs : List V) (c : Int), vs = [.ref p, .ref l] ∧ SqL K H l xs ∧ l ≠ p ∧ xs ≠ [] ∧ xs.length < 2 ^ 30 ∧ c ≤ 2 ^ 30 ∧ Bag H p c ∧
  ∀ (i : Nat) v H', xs[i]? = some v → Grow [p] H H' → Bag H' p (c + 1) → Q v H'
theorem ok_law_pick {f c : Addr} {fd : FuncData} (B : Nb mg) (D : DefIs K "_law_pick" "_law_pick" st_law_pick f fd (.ref c)) (c_law_take : Callee P w K mg base CX0 3 "_law_take" ["bag", "many"] (spTake K)) : FnG P w K mg base CX0 4 f fd ["bag", "things"] (spPick K) := by
  refine D.ok0 (k := 3) sc_law_pick (fun vs H Q E h => ?_) (fun A outer s H vs Q E g hr h => ?_)
  · obtain ⟨p, l, xs, c, rfl, _⟩ := h
    rfl
  obtain ⟨p, l, xs, c, rfl, hl, lp, ne, len, hc, bag, q⟩ := h
  refine ⟨_,
      (pss_one (ps_ret (pe_ix ix_list (pv 1) (pe_g c_law_take g (hr.mono (by decide)) pass0 (pa_cons (pv 0) (pa_cons (pe_callB call_len_seq rfl B.n_len PySem.boot_len (pa_cons (pv 1) pa_nil)) pa_nil))) (fun _ _ => rfl)))), ?_⟩
  have pos : 0 < xs.length := List.length_pos_iff.mpr ne
  refine ⟨.ref l, rfl, .ref p, rfl, .ref l, rfl, l, _, rfl, .inl hl, p, (xs.length : Nat), c, rfl, by omega, by omega, hc, bag, fun v H1 v0 v1 g1 b1 => ?_⟩
  obtain ⟨i, rfl⟩ := Int.eq_ofNat_of_zero_le v0
  have hi : i < xs.length := by omega
  exact ⟨l, xs, i, xs[i], rfl, rfl, g1.seq (by simpa using lp) hl, atI_nat (List.getElem?_eq_getElem hi), q i _ H1 (List.getElem?_eq_getElem hi) g1 b1⟩
theorem joinL_nil : ∀ l : List (List Nat), TL.joinL [] l = l.flatten
  | [] => rfl
  | [p] => by simp [TL.joinL]
  | p :: q :: r => by
    show p ++ ([] ++ TL.joinL [] (q :: r)) = _
    rw [joinL_nil (q :: r)]
    rfl
theorem join_cps (ys : List Str) : (Txt.join "" ys).cps.toList = (ys.map fun y => y.cps.toList).flatten := by
  have e : ys = (ys.map fun y => y.cps.toList).map SX.S := by
    rw [List.map_map]
    exact (List.map_id' ys).symm.trans (List.map_congr_left fun y _ => (SX.S_tl y).symm)
  have h := SX.join_S [] (ys.map fun y => y.cps.toList)
  rw [← e] at h
  rw [show Txt.join "" ys = _ from h, joinL_nil]
theorem join_one (cs : List Nat) : Txt.join "" (cs.map fun ch => (⟨#[ch]⟩ : Str)) = SX.S cs := by
  have h := join_cps (cs.map fun ch => (⟨#[ch]⟩ : Str))
  rw [List.map_map] at h
  have e : ∀ l : List Nat, (l.map ((fun y : Str => y.cps.toList) ∘ fun ch => (⟨#[ch]⟩ : Str))).flatten = l := fun l => by
    induction l with
    | nil => rfl
    | cons a l ih => rw [List.map_cons, List.flatten_cons, ih]; rfl
  rw [e] at h
  rw [← SX.S_tl (Txt.join "" (cs.map fun ch => (⟨#[ch]⟩ : Str))), h]
theorem nm_S {cs : List Nat} (h1 : 1 ≤ cs.length) (h2 : cs.length ≤ 8) (h3 : cs.all nameC = true) : isNm (SX.S cs) = true := by
  unfold isNm
  rw [SX.S_len, decide_eq_true h1, decide_eq_true h2]
  exact h3
theorem nm_inv {x : Str} (h : isNm x = true) : ∃ cs, x = SX.S cs ∧ 1 ≤ cs.length ∧ cs.length ≤ 8 ∧ cs.all nameC = true := by
  refine ⟨x.cps.toList, (SX.S_tl x).symm, ?_⟩
  unfold isNm at h
  rw [Bool.and_eq_true, Bool.and_eq_true, decide_eq_true_iff, decide_eq_true_iff] at h
  have e : x.length = x.cps.toList.length := by show x.cps.size = _; rw [Array.length_toList]
  rw [e] at h
  exact ⟨h.1.1, h.1.2, h.2⟩
theorem nm_next {x : Str} (h : isNm x = true) {ch : Nat} (hc : nameC ch = true) : isNm (cutS (cutS x none (some 6) ++ ⟨#[ch]⟩ ++ "z") (some (-8)) none) = true := by
  obtain ⟨cs, rfl, h1, h2, h3⟩ := nm_inv h
  have e1 : cutS (SX.S cs) none (some 6) = SX.S (cs.take (min 6 cs.length)) := by
    unfold cutS
    rw [show (some (6 : Int)) = some ((6 : Nat) : Int) from rfl, HT.sIx_nat, HT.sIx_none, SX.S_len]
    rfl
  rw [e1, show (⟨#[ch]⟩ : Str) = SX.S [ch] from rfl, show ("z" : Str) = SX.S [122] from rfl, SX.S_cat, SX.S_cat]
  obtain ⟨ds, ed⟩ : ∃ ds, cs.take (min 6 cs.length) ++ [ch] ++ [122] = ds := ⟨_, rfl⟩
  have dl : ds.length = min 6 cs.length + 2 := by
    rw [← ed, List.length_append, List.length_append, List.length_take]
    show min (min 6 cs.length) cs.length + 1 + 1 = _
    omega
  have da : ds.all nameC = true := by
    rw [← ed, List.all_append, List.all_append]
    have : (cs.take (min 6 cs.length)).all nameC = true := List.all_eq_true.mpr fun y hy => List.all_eq_true.mp h3 y (List.mem_of_mem_take hy)
    rw [this]
    show (true && (nameC ch && true) && true) = true
    rw [hc]; rfl
  rw [ed]
  have e2 : cutS (SX.S ds) (some (-8)) none = SX.S ((ds.drop (ds.length - 8)).take (ds.length - (ds.length - 8))) := by
    unfold cutS
    have : HT.sIx ds.length 0 (some (-8)) = ds.length - 8 := by
      show (if (-8 : Int) < 0 then ((-8 : Int) + (ds.length : Int)).toNat else min (-8 : Int).toNat ds.length) = _
      rw [if_pos (by decide)]
      omega
    rw [HT.sIx_none, SX.S_len, this]
  rw [e2]
  refine nm_S ?_ ?_ (List.all_eq_true.mpr fun y hy => List.all_eq_true.mp da y (List.mem_of_mem_drop (List.mem_of_mem_take hy)))
  · rw [List.length_take, List.length_drop]; omega
  · rw [List.length_take, List.length_drop]; omega
theorem app_len (a b : Str) : (a ++ b).length = a.length + b.length := by
  rw [← SX.S_tl a, ← SX.S_tl b, SX.S_cat, SX.S_len, SX.S_len, SX.S_len, List.length_append]
def spName (K : PySem.W.Frag) : Sp := fun vs H Q _ => ∃ (p l : Addr) (zs : List Str) (c : Int), vs = [.ref p, .ref l] ∧ SqL K H l (zs.map V.str) ∧ l ≠ p ∧ c ≤ 2 ^ 29 ∧ Bag H p c ∧
  ∀ x H', isNm x = true → Grow [p] H H' → Bag H' p (c + 10) → Q (.str x) H'
theorem ok_law_name {f c : Addr} {fd : FuncData} (B : Nb mg) (D : DefIs K "_law_name" "_law_name" st_law_name f fd (.ref c)) (c_law_take : Callee P w K mg base CX0 3 "_law_take" ["bag", "many"] (spTake K)) : FnG P w K mg base CX0 4 f fd ["bag", "some"] (spName K) := by
  refine D.ok0 (k := 3) sc_law_name (fun vs H Q E h => ?_) (fun A outer s H vs Q E g hr h => ?_)
  · obtain ⟨p, l, zs, c, rfl, _⟩ := h
    rfl
  obtain ⟨p, l, zs, c, rfl, hl, lp, hc, bag, q⟩ := h
  refine ⟨_,
      (pss_cons (ps_set (i := 2) sc_law_name.nd rfl (.inr rfl) (pe_ix ix_list (pe_lst (pa_cons pe_str (pa_cons pe_str pa_nil))) (pe_g c_law_take g (hr.mono (by decide)) pass0 (pa_cons (pv 0) (pa_cons pe_int pa_nil))) (fun _ _ => rfl)))
      (pss_cons (ps_set (i := 3) sc_law_name.nd rfl (.inl rfl) (pe_bm PySem.F.plainAttrs_str PySem.F.slot_str_join PySem.F.type_str_join mt_join pe_str (pa_cons (pe_lc (own := [("turn", 4)]) (tt := tYes) (g := (gName 4)) rfl sc_law_name.nd (pi_range1 rfl B.n_range (pa_cons (pe_op op_add pe_int (pe_g c_law_take g (hr.mono (by decide)) pass0 (pa_cons (pv 0) (pa_cons pe_int pa_nil)))) pa_nil)) (blkOk_by (N := N_law_name) (sc := defScope st_law_name) (by decide +kernel)) (fun _ _ _ _ _ => (pg_name (i := 4) sc_law_name.nd rfl (.inl rfl))) (fun _ _ _ _ _ => pts_nil) (fun _ _ _ _ _ => pe_to (pe_ix ix_str (pv 2) (pe_g c_law_take g (hr.mono (by decide)) pass0 (pa_cons (pv 0) (pa_cons (pe_callB call_len_str rfl B.n_len PySem.boot_len (pa_cons (pv 2) pa_nil)) pa_nil))) (fun _ _ => rfl)))) pa_nil)))
      (pss_cons (ps_for PassesOwn.never rfl (pi_str pe_str) (pg_name (i := 5) sc_law_name.nd rfl (.inl rfl)) (
        (pss_one (ps_if (pt_cmpR (op_in_seq) (pv 3) (pv 1) rfl) (
          (pss_one (ps_set (i := 3) sc_law_name.nd rfl (.inl rfl) (pe_slice sl_str (pe_op op_add_str (pe_op op_add_str (pe_slice sl_str (pv 3) po_none (po_some pe_int)) (pv 5)) pe_str) (po_some (pe_un un_neg pe_int)) po_none)))) pss_nil))))
      (pss_one (ps_ret (pe_ifExp (pt_cmpR (op_notIn_seq) (pv 3) (pv 1) rfl) (pv 3) (pe_op op_mulS pe_str pe_int))))))), ?_⟩
  refine ⟨by show 2 ≤ sizeLine; decide, fun L0 nL0 => ?_⟩
  have g0 : Grow [] H (upd H L0 (.lst [.str "ab", .str "abcdefghijklmnopqrstuvwxyz"])) := grow_new nL0
  have e0 : upd H L0 (.lst [.str "ab", .str "abcdefghijklmnopqrstuvwxyz"]) L0 = some (.lst [.str "ab", .str "abcdefghijklmnopqrstuvwxyz"]) := upd_same
  have L0p : L0 ≠ p := bag.ne (fresh_none nL0)
  have bag0 := bag.keep g0 (by simp)
  generalize upd H L0 (.lst [.str "ab", .str "abcdefghijklmnopqrstuvwxyz"]) = H0 at g0 e0 bag0 ⊢
  refine ⟨.ref p, rfl, p, 2, c, rfl, by decide, by decide, by omega, bag0, fun v H1 v0 v1 g1 b1 => ?_⟩
  obtain ⟨i, rfl⟩ := Int.eq_ofNat_of_zero_le v0
  obtain ⟨z, hz, z1, z2, z3⟩ : ∃ z : Str, ([V.str "ab", V.str "abcdefghijklmnopqrstuvwxyz"] : List V)[i]? = some (.str z) ∧ 1 ≤ z.cps.toList.length ∧ z.cps.toList.length ≤ 26 ∧ z.cps.toList.all nameC = true := by
    have : i = 0 ∨ i = 1 := by omega
    rcases this with rfl | rfl
    · exact ⟨_, rfl, by decide, by decide, by decide⟩
    · exact ⟨_, rfl, by decide, by decide, by decide⟩
  refine ⟨L0, _, i, .str z, rfl, rfl, .inl (.inl (g1.lst (by simpa using L0p) e0)), atI_nat hz, ?_⟩
  have g01 := g0.any.trans g1
  have lp1 : l ≠ p := lp
  have q1 : ∀ x H', isNm x = true → Grow [p] H1 H' → Bag H' p (c + 1 + 9) → Q (.str x) H' := fun x H' nx g b => q x H' nx (g01.trans g) (b.mono (by omega))
  have hl1 : SqL K H1 l (zs.map V.str) := g01.seq (by simpa using lp) hl
  obtain ⟨d, ed⟩ : ∃ d, c + 1 = d := ⟨_, rfl⟩
  rw [ed] at b1 q1
  have hd : d ≤ 2 ^ 30 - 100 := by omega
  clear ed q hl bag bag0 g0 g1 g01 e0 nL0
  have tyE : tyV K "str" (V.str "") H1 := rfl
  refine ⟨tyE, .ref p, rfl, p, 8, d, rfl, by decide, by decide, by omega, b1, fun v H2 v0 v1 g2 b2 => ?_⟩
  refine ⟨_, _, rfl, rfl, _, rfl, by omega, by omega, fun L1 nL1 => ?_⟩
  have L1p : L1 ≠ p := b2.ne (fresh_none nL1)
  have fL1 : Fresh H1 L1 := g2.fresh (by simpa using L1p) (fresh_none nL1)
  obtain ⟨n, hn, n1, n8⟩ : ∃ n : Nat, (1 + v).toNat = n ∧ 1 ≤ n ∧ n ≤ 8 := ⟨_, rfl, by omega, by omega⟩
  rw [hn]
  have zl : z.length ≤ sizeLine := by rw [sizeLine_eq]; show z.cps.size ≤ _; rw [← Array.length_toList]; omega
  have zle : ((z.length : Nat) : Int) = (z.cps.toList.length : Nat) := by show ((z.cps.size : Nat) : Int) = _; rw [Array.length_toList]
  refine lc_it walk_range (fun i H' => Grow [p] H1 H' ∧ Bag H' p (d + 1 + i) ∧ ∃ cs : List Nat, H' L1 = some (.lst ((cs.map fun ch => (⟨#[ch]⟩ : Str)).map V.str)) ∧ cs.length = i ∧ cs.all nameC = true)
    ⟨g2.trans (grow_new nL1), (b2.keep (grow_new (ex := []) nL1) (by simp)).mono (by omega), [], upd_same, rfl, rfl⟩ (fun _ _ _ _ => trivial) (fun i x Ha Hb hi hp hy => ?_) (fun Hc hp => ?_)
  · obtain ⟨ga, ba, cs, eL, cl, ca⟩ := hp
    obtain ⟨rfl, rfl⟩ := hy
    refine ⟨rfl, yes_if ?_⟩
    refine ⟨.str z, rfl, .ref p, rfl, .str z, rfl, z, rfl, zl, p, ((z.length : Nat) : Int), d + 1 + i, rfl, by rw [zle]; omega, by rw [zle]; omega, by omega, ba, fun u H3 u0 u1 g3 b3 => ?_⟩
    obtain ⟨k, rfl⟩ := Int.eq_ofNat_of_zero_le u0
    have hk : k < z.cps.toList.length := by rw [zle] at u1; omega
    have hch : nameC (z.cps.toList[k]) = true := List.all_eq_true.mp z3 _ (List.getElem_mem hk)
    have eL3 := g3.lst (by simpa using L1p) eL
    refine ⟨z, k, z.cps.toList[k], rfl, rfl, zl, atI_nat (List.getElem?_eq_getElem hk), _, eL3, by rw [List.length_map, List.length_map, cl, sizeLine_eq]; omega, ?_, ?_, cs ++ [z.cps.toList[k]], ?_, ?_, ?_⟩
    · exact (ga.trans g3).put fL1 eL3 (fun ps z => by cases z)
    · obtain ⟨a1, b1, k1, e1, r1⟩ := b3
      exact ⟨a1, b1, k1, by rw [upd_ne (Ne.symm L1p)]; exact e1, r1.1, r1.2.1, r1.2.2.1, by omega⟩
    · rw [upd_same, List.map_append, List.map_append]
      rfl
    · rw [List.length_append, cl]; rfl
    · rw [List.all_append, ca]
      show (true && (nameC _ && true)) = true
      rw [hch]; rfl
  · obtain ⟨ga, ba, cs, eL, cl, ca⟩ := hp
    refine ⟨"", L1, cs.map fun ch => ⟨#[ch]⟩, rfl, rfl, .inl (.inl (.inl eL)), ?_, ?_⟩
    · rw [List.map_map, List.length_map]
      have : ∀ l : List Nat, (l.map ((fun x : Str => x.length) ∘ fun ch => (⟨#[ch]⟩ : Str))).sum = l.length := fun l => by
        induction l with
        | nil => rfl
        | cons a l ih => rw [List.map_cons, List.sum_cons, ih, List.length_cons]; show 1 + _ = _; omega
      rw [this]
      show _ + cs.length * 0 ≤ _
      omega
    rw [join_one]
    have nx0 := nm_S (by omega) (by omega) ca
    obtain ⟨x0, hx0⟩ : ∃ x0, SX.S cs = x0 := ⟨_, rfl⟩
    rw [hx0] at nx0 ⊢
    have q2 : ∀ x, isNm x = true → Q (.str x) Hc := fun x nx => q1 x Hc nx ga (ba.mono (by omega))
    have hl2 : SqL K Hc l (zs.map V.str) := ga.seq (by simpa using lp) hl1
    have fz : (zs.map V.str).all flatV = true := by
      rw [List.all_map, List.all_eq_true]
      exact fun _ _ => rfl
    refine ⟨_, rfl, ?_⟩
    refine for_it walk_str (fun i σ H' => ∃ (x : Str) (y : Option V), σ = [some (.ref p), some (.ref l), some (.str z), some (.str x), none, y] ∧ isNm x = true ∧ H' = Hc) ⟨x0, none, rfl, nx0, rfl⟩ (fun _ _ _ _ _ => trivial) (fun i y σ H2 H3 hi hp hy => ?_) (fun σ H2 hp => ?_)
    · obtain ⟨x, y0, rfl, nx, rfl⟩ := hp
      obtain ⟨rfl, ch, ec, rfl⟩ := hy
      have nc : nameC ch = true := by
        have all : ("qrstuvwxyzabcdefghijklmnop" : Str).cps.toList.all nameC = true := by decide
        refine List.all_eq_true.mp all ch (List.mem_of_getElem? (i := i) ?_)
        rw [Array.getElem?_toList]
        exact ec
      have xl : x.length ≤ 8 := by
        unfold isNm at nx
        rw [Bool.and_eq_true, Bool.and_eq_true, decide_eq_true_iff, decide_eq_true_iff] at nx
        exact nx.1.2
      have cl6 := Nat.le_trans (cutS_length x none (some 6)) xl
      have sz : 100 ≤ sizeLine := by decide
      refine ⟨.str x, rfl, .ref l, rfl, l, zs.map V.str, rfl, .inl hl2, rfl, fz, _, rfl, ite2 (fun _ => ?_) fun _ => ⟨x, _, rfl, nx, rfl⟩⟩
      refine ⟨.str x, rfl, 6, rfl, x, rfl, by omega, .str ⟨#[ch]⟩, rfl, _, _, rfl, rfl, by show _ + 1 ≤ _; omega, _, _, rfl, rfl, ?_, ?_⟩
      · rw [app_len]
        show _ + 1 + 1 ≤ _
        omega
      · refine ⟨8, rfl, _, rfl, _, rfl, ?_, _, _, rfl, nm_next nx nc, rfl⟩
        rw [app_len, app_len]
        show _ + 1 + 1 ≤ _
        omega
    · obtain ⟨x, y0, rfl, nx, rfl⟩ := hp
      refine ⟨.str x, rfl, .ref l, rfl, l, zs.map V.str, rfl, .inl hl2, rfl, fz, _, rfl, ?_⟩
      have ok8 : MulOk "z" 8 := ⟨by decide, fun _ _ => by decide, fun _ _ => by decide⟩
      exact ite2 (fun _ => ⟨.str x, rfl, q2 x nx⟩) fun _ => ⟨"z", 8, rfl, rfl, ok8, q2 _ (by decide)⟩
end

end Lw

namespace Lw
open PySem PySem.Spec PyProof.Rows L2 GxR Gx
section
variable {P : Program} {w : World} {K : PySem.W.Frag} {mg : Str → Option Value} {base : Heap} {C : Addr}
/-! ### _law_pairs -/
theorem lane_many {N : Nst} {T : Nat} (ok : Nok N T) {k : Str × Str} (h : laneN N k ≠ []) : k ∈ N.keys ∧ 0 < manyN N k := by
  unfold laneN at h
  unfold manyN
  by_cases m : k ∈ N.keys
  · rw [if_pos m] at h ⊢
    refine ⟨m, Nat.pos_of_ne_zero fun z => h (List.drop_eq_nil_of_le (by omega))⟩
  · rw [if_neg m] at h
    exact absurd rfl h
theorem webR_keys {N : Nst} {k : Str × Str} (h : k ∈ webR N) : k ∈ N.keys := by
  unfold webR at h
  exact (List.mem_filter.mp ((List.mergeSort_perm _ _).mem_iff.mp h)).1
theorem webR_len {N : Nst} {T : Nat} (ok : Nok N T) : (webR N).length ≤ 3600 := by
  unfold webR
  rw [(List.mergeSort_perm _ _).length_eq]
  exact Nat.le_trans (List.length_filter_le _ _) ok.klen
def spPairs (C : Addr) : Sp := fun vs H Q _ => ∃ (a : Addr) (A : Ads) (N : Nst) (T : Nat), vs = [.ref a] ∧ NetAt C a A N H ∧ Nok N T ∧ T ≤ 10000 ∧ ∀ L (ps : List (Addr × (Str × Str))) H', Fresh H L → Grow [] H H' → H' L = some (.lst (ps.map fun b => V.ref b.1)) → ps.length ≤ 7200 →
  (∀ b ∈ ps, H' b.1 = some (.tup [.str b.2.1, .str b.2.2]) ∧ b.2 ∈ N.keys ∧ 0 < manyN N b.2) → (∀ k, (k ∈ webR N ∨ (k.2, k.1) ∈ webR N) → laneN N k ≠ [] → k ∈ ps.map Prod.snd) → Q (.ref L) H'
theorem ok_law_pairs {f c : Addr} {fd : FuncData} (B : Nb mg) (D : DefIs K "_law_pairs" "_law_pairs" st_law_pairs f fd (.ref c)) (c_Net_web : CalleeM P w K mg base CX0 2 C "web" ["self"] (spWeb C))
    (c_Net_lane : CalleeM P w K mg base CX0 3 C "lane" ["self", "hand", "other"] (spLane C)) : FnG P w K mg base CX0 4 f fd ["net"] (spPairs C) := by
  refine D.ok0 (k := 3) sc_law_pairs (fun vs H Q E h => ?_) (fun A0 outer s H vs Q E g hr h => ?_)
  · obtain ⟨a, A, N, T, rfl, _⟩ := h
    rfl
  obtain ⟨a, A, N, T, rfl, n, ok, hT, q⟩ := h
  refine ⟨_,
      (pss_cons (ps_set (i := 1) sc_law_pairs.nd rfl (.inl rfl) (pe_lst pa_nil))
      (pss_cons (ps_for PassesOwn.never rfl (pi_list (pe_ix ix_tup (pe_gm0 c_Net_web g (hr.mono (by decide)) pass0 (pv 0)) pe_int (fun _ _ => rfl))) (pg_tup rfl (pgs_cons (pg_name (i := 2) sc_law_pairs.nd rfl (.inl rfl)) (pgs_cons (pg_name (i := 3) sc_law_pairs.nd rfl (.inl rfl)) pgs_nil))) (
        (pss_one (ps_expr (pe_bm PySem.F.plainAttrs_list PySem.F.slot_list_extend PySem.F.type_list_extend mt_extend (pv 1) (pa_cons (pe_lc (own := [("pair", 4)]) (g := (gName 4)) rfl sc_law_pairs.nd (pi_list (pe_lst (pa_cons (pe_tup (pa_cons (pv 2) (pa_cons (pv 3) pa_nil))) (pa_cons (pe_tup (pa_cons (pv 3) (pa_cons (pv 2) pa_nil))) pa_nil)))) (blkOk_by (N := N_law_pairs) (sc := defScope st_law_pairs) (by decide +kernel)) (fun _ _ _ _ _ => (pg_name (i := 4) sc_law_pairs.nd rfl (.inl rfl))) (fun _ _ _ _ _ => pts_to (pts_one (pt_cmpR (op_neE hr.units) (pe_gm c_Net_lane g (hr.mono (by decide)) pass0 (pv 0) (pa_cons (pe_ix ix_tup (pv 4) pe_int (fun _ _ => rfl)) (pa_cons (pe_ix ix_tup (pv 4) pe_int (fun _ _ => rfl)) pa_nil))) (pe_lst pa_nil) (nomark _)))) (fun _ _ _ _ _ => pe_to (pv 4))) pa_nil))))))
      (pss_one (ps_ret (pv 1))))), ?_⟩
  refine ⟨by show 0 ≤ sizeLine; decide, fun L0 nL0 => ?_⟩
  have g0 : Grow [] H (upd H L0 (.lst [])) := grow_new nL0
  have e0 : upd H L0 (.lst []) L0 = some (.lst []) := upd_same
  generalize upd H L0 (.lst []) = H0 at g0 e0 ⊢
  have n0 := n.grow0 g0
  have aL0 : ∀ b ∈ A.ft a N, b ≠ L0 := fun b hb z => by
    obtain ⟨o, eo, _⟩ := n.there b hb
    rw [z, nL0] at eo
    cases eo
  refine ⟨.ref a, rfl, a, _, _, rfl, n0.obj, rfl, a, A, N, T, rfl, n0, ok, fun W LH LR H1 g1 wr => ?_⟩
  obtain ⟨rs, eR, mR, hR⟩ := wr.rds
  have LR0 : LR ≠ L0 := (Fresh.ne wr.fr.2.2 e0 (fun ps z => by cases z)).symm
  refine ⟨W, _, 1, .ref LR, rfl, rfl, .inl (.inl wr.top), rfl, LR, rfl, ⟨_, .inl (.inl eR)⟩, ?_⟩
  have e1 := g1.lst (by simp) e0
  have n1 := n0.grow0 g1
  have rl : rs.length ≤ 3600 := by
    have := congrArg List.length mR
    rw [List.length_map] at this
    rw [this]
    exact webR_len ok
  refine for_it (walk_list (xs := rs.map fun b => V.ref b.1)) (fun j σ H' => ∃ (x y : Option V), σ = [some (.ref a), some (.ref L0), x, y, none] ∧ Grow [L0] H1 H' ∧ ∃ ps : List (Addr × (Str × Str)), H' L0 = some (.lst (ps.map fun b => V.ref b.1)) ∧ ps.length ≤ 2 * j ∧ (∀ b ∈ ps, H' b.1 = some (.tup [.str b.2.1, .str b.2.2]) ∧ b.2 ∈ N.keys ∧ 0 < manyN N b.2) ∧ ∀ k, (k ∈ (rs.take j).map Prod.snd ∨ (k.2, k.1) ∈ (rs.take j).map Prod.snd) → laneN N k ≠ [] → k ∈ ps.map Prod.snd)
    ⟨none, none, rfl, Grow.refl _ _, [], e1, Nat.zero_le _, (fun b hb => by cases hb), fun k hk => by
      rw [List.take_zero] at hk
      rcases hk with hk | hk <;> cases hk⟩ (fun j σ H' _ h => by
      obtain ⟨_, _, _, gg, _⟩ := h
      exact .inl (.inl (gg.lst (by simpa using LR0) eR))) (fun j z σ H2 H3 hj hp hy => ?_) (fun σ H2 hp => ?_)
  · obtain ⟨x, y, rfl, g2, ps, eL, lp, hps, cpl⟩ := hp
    obtain ⟨rfl, ez⟩ := hy
    obtain ⟨r, er⟩ : ∃ r, rs[j]? = some r := by
      rw [List.length_map] at hj
      exact ⟨_, List.getElem?_eq_getElem hj⟩
    have zo : z = V.ref r.1 := by
      have : (rs.map fun b => V.ref b.1)[j]? = some z := ez
      rw [List.getElem?_map, er] at this
      exact (Option.some.inj this).symm
    subst zo
    have jl : j < 3600 := by
      rw [List.length_map] at hj
      omega
    have rm := List.mem_of_getElem? er
    have rk : r.2 ∈ N.keys := webR_keys (by rw [← mR]; exact List.mem_map_of_mem rm)
    have rh := ok.kin _ rk
    have tL : ∀ {b : Addr} {xs : List V}, H1 b = some (.tup xs) → b ∉ [L0] := fun e => by
      intro z
      rw [List.mem_singleton.mp z, e1] at e
      cases e
    have et := g2.tup (tL (hR r rm).1) (hR r rm).1
    have n2 := n1.grow g2 fun b hb => by simpa using aL0 b hb
    refine ⟨r.1, _, rfl, .inl (.inl et), rfl, .str r.2.1, _, rfl, .str r.2.2, _, rfl, rfl, ?_⟩
    obtain ⟨o, ho⟩ : ∃ o, r.2.1 = o := ⟨_, rfl⟩
    obtain ⟨u, hu⟩ : ∃ u, r.2.2 = u := ⟨_, rfl⟩
    rw [ho] at rh ⊢
    rw [hu] at rh ⊢
    have pl : ps.length ≤ 7200 := by omega
    refine ⟨.ref L0, rfl, tyl eL, .str o, rfl, .str u, rfl, by show 2 ≤ sizeLine; decide, fun b1 nb1 => ⟨.str u, rfl, .str o, rfl, by show 2 ≤ sizeLine; decide, fun b2 nb2 => ⟨by show 2 ≤ sizeLine; decide, fun Lp nLp => ?_⟩⟩⟩
    have g3 : Grow [] H3 (upd H3 b1 (.tup [.str o, .str u])) := grow_new nb1
    have x1 : upd H3 b1 (.tup [.str o, .str u]) b1 = some (.tup [.str o, .str u]) := upd_same
    generalize upd H3 b1 (.tup [.str o, .str u]) = H4 at nb2 nLp g3 x1 ⊢
    have g4 : Grow [] H4 (upd H4 b2 (.tup [.str u, .str o])) := grow_new nb2
    have x2 : upd H4 b2 (.tup [.str u, .str o]) b2 = some (.tup [.str u, .str o]) := upd_same
    have x1 := g4.tup (by simp) x1
    generalize upd H4 b2 (.tup [.str u, .str o]) = H5 at nLp g4 x1 x2 ⊢
    have g5 : Grow [] H5 (upd H5 Lp (.lst [.ref b1, .ref b2])) := grow_new nLp
    have x3 : upd H5 Lp (.lst [.ref b1, .ref b2]) Lp = some (.lst [.ref b1, .ref b2]) := upd_same
    have x1 := g5.tup (by simp) x1
    have x2 := g5.tup (by simp) x2
    generalize upd H5 Lp (.lst [.ref b1, .ref b2]) = H6 at g5 x1 x2 x3 ⊢
    have g36 := (g3.trans g4).trans g5
    have n6 := n2.grow0 g36
    refine ⟨Lp, rfl, ⟨_, .inl (.inl x3)⟩, fun Dd nDd => ?_⟩
    refine lc_filt (walk_list (xs := [V.ref b1, V.ref b2])) [(b1, (o, u)), (b2, (u, o))] (fun b => !decide (laneN N b.2 = [])) (fun b => V.ref b.1) nDd rfl (by show 2 ≤ 1000000; omega) (fun Hx gx => .inl (.inl (gx.lst (by simp) x3)))
      (fun i w x Ha Hb Pu Pn ei ga2 hy kt kf => ?_) fun Hx gx ex => ?_
    · obtain ⟨rfl, ez2⟩ := hy
      have wo : x = V.ref w.1 ∧ Hb w.1 = some (.tup [.str w.2.1, .str w.2.2]) ∧ w.2.1 ∈ N.hands ∧ w.2.2 ∈ N.hands := by
        have i2 : i = 0 ∨ i = 1 := by
          have := (List.getElem?_eq_some_iff.mp ei).1
          have : i < 2 := this
          omega
        rcases i2 with rfl | rfl
        · cases Option.some.inj ei
          exact ⟨(Option.some.inj ez2).symm, ga2.tup (by simp) x1, rh.1, rh.2⟩
        · cases Option.some.inj ei
          exact ⟨(Option.some.inj ez2).symm, ga2.tup (by simp) x2, rh.2, rh.1⟩
      obtain ⟨rfl, ew, w1, w2⟩ := wo
      have n7 := n6.grow0 ga2
      refine ⟨rfl, .ref a, rfl, a, _, _, rfl, n7.obj, rfl, .ref w.1, rfl, w.1, _, 0, .str w.2.1, rfl, rfl, .inl (.inl ew), rfl, .ref w.1, rfl, w.1, _, 1, .str w.2.2, rfl, rfl, .inl (.inl ew), rfl, ?_⟩
      refine ⟨a, A, N, T, w.2.1, w.2.2, rfl, n7, ok, hT, w1, w2, fun Ll H7 fl gl el => ?_⟩
      refine ⟨by show 0 ≤ sizeLine; decide, fun Le nLe => ?_⟩
      refine ⟨Ll, Le, _, rfl, rfl, (grow_new (ex := []) nLe).lst (by simp) el, upd_same, ?_⟩
      have em : decide ((laneN N (w.2.1, w.2.2)).map V.str = []) = decide (laneN N w.2 = []) := decide_eq_decide.mpr List.map_eq_nil_iff
      rw [em]
      refine ⟨_, rfl, ?_⟩
      have gk := gl.trans (grow_new (o := .lst []) nLe)
      by_cases hb : (!decide (laneN N w.2 = [])) = true
      · rw [hb]
        exact iteT ⟨_, rfl, kt _ gk hb⟩
      · have hf : (!decide (laneN N w.2 = [])) = false := by simpa using hb
        rw [hf]
        exact iteF (kf _ gk hf)
    · obtain ⟨ks, hks⟩ : ∃ ks, ([(b1, (o, u)), (b2, (u, o))] : List (Addr × (Str × Str))).filter (fun b => !decide (laneN N b.2 = [])) = ks := ⟨_, rfl⟩
      have kl : ks.length ≤ 2 := by rw [← hks]; exact List.length_filter_le _ _
      have kp : ∀ b ∈ ks, H6 b.1 = some (.tup [.str b.2.1, .str b.2.2]) ∧ b.2 ∈ N.keys ∧ 0 < manyN N b.2 := fun b hb => by
        rw [← hks] at hb
        obtain ⟨m1, m2⟩ := List.mem_filter.mp hb
        have ln : laneN N b.2 ≠ [] := by simpa using m2
        obtain ⟨l1, l2⟩ := lane_many ok ln
        rcases List.mem_cons.mp m1 with e | m1
        · rw [e] at l1 l2 ⊢; exact ⟨x1, l1, l2⟩
        · rw [List.mem_singleton.mp m1] at l1 l2 ⊢; exact ⟨x2, l1, l2⟩
      have ks2 : ∀ k, (k = (o, u) ∨ (k.2, k.1) = (o, u)) → laneN N k ≠ [] → k ∈ ks.map Prod.snd := fun k hk ln => by
        rw [← hks]
        rcases hk with e | e
        · exact List.mem_map.mpr ⟨(b1, (o, u)), List.mem_filter.mpr ⟨List.mem_cons_self, by rw [← e]; simpa using ln⟩, e.symm⟩
        · have e2 : k = (u, o) := by
            injection e with z1 z2
            exact Prod.ext z2 z1
          exact List.mem_map.mpr ⟨(b2, (u, o)), List.mem_filter.mpr ⟨List.mem_cons_of_mem _ List.mem_cons_self, by rw [← e2]; simpa using ln⟩, e2.symm⟩
      have tk1 : rs.take (j + 1) = rs.take j ++ [r] := by rw [List.take_add_one, er]; rfl
      have r2 : r.2 = (o, u) := Prod.ext ho hu
      have cpl2 : ∀ k, (k ∈ (rs.take (j + 1)).map Prod.snd ∨ (k.2, k.1) ∈ (rs.take (j + 1)).map Prod.snd) → laneN N k ≠ [] → k ∈ (ps ++ ks).map Prod.snd := fun k hk ln => by
        rw [tk1, List.map_append, List.mem_append, List.mem_append, List.map_cons, List.map_nil, List.mem_singleton, List.mem_singleton, r2] at hk
        rw [List.map_append, List.mem_append]
        rcases hk with (z | z) | (z | z)
        · exact .inl (cpl k (.inl z) ln)
        · exact .inr (ks2 k (.inl z) ln)
        · exact .inl (cpl k (.inr z) ln)
        · exact .inr (ks2 k (.inr z) ln)
      rw [hks] at ex
      have gx6 := g36.trans gx
      have eL6 := gx6.lst (by simp) eL
      have tN : ∀ {b : Addr} {xs : List V}, Hx b = some (.tup xs) → b ≠ L0 := fun e z => by rw [z, eL6] at e; cases e
      refine ⟨L0, Dd, _, _, rfl, rfl, eL6, ex, by rw [List.length_map, List.length_map, sizeLine_eq]; omega, ?_⟩
      refine ⟨_, _, rfl, (g2.trans gx6.any).trans (grow_at eL6 (fun ps z => by cases z) (by simp)), ps ++ ks, by rw [upd_same, List.map_append], by rw [List.length_append]; omega, fun b hb => ?_, cpl2⟩
      rcases List.mem_append.mp hb with hb | hb
      · obtain ⟨q1, q2⟩ := hps b hb
        have q3 := gx6.tup (by simp) q1
        exact ⟨by rw [upd_ne (tN q3)]; exact q3, q2⟩
      · obtain ⟨q1, q2⟩ := kp b hb
        have q3 := gx.tup (by simp) q1
        exact ⟨by rw [upd_ne (tN q3)]; exact q3, q2⟩
  · obtain ⟨x, y, rfl, g2, ps, eL, lp, hps, cpl⟩ := hp
    rw [List.length_map] at lp
    have f0 : Fresh H L0 := fresh_none nL0
    refine ⟨.ref L0, rfl, q L0 ps H2 f0 (((g0.trans g1).any.trans g2).drop f0) eL (by omega) hps fun k hk => cpl k (by rw [List.length_map, List.take_length, mR]; exact hk)⟩
end

end Lw

namespace Lw
open PySem PySem.Spec PyProof.Rows L2 GxR Gx
section
variable {P : Program} {w : World} {K : PySem.W.Frag} {mg : Str → Option Value} {base : Heap} {C : Addr}
/-! ### _law_deed -/
/-- a hand joins, or shouts, or nothing is done -/
inductive Deed where
  | none
  | join (x h : Str)
  | shout (h x : Str)
def Deed.ok (N : Nst) : Deed → Prop
  | .none => True
  | .join x h => isNm x = true ∧ x ∉ N.hands ∧ h ∈ N.hands ∧ N.hands.length < 12
  | .shout h x => isNm x = true ∧ h ∈ N.hands ∧ x ∉ N.mouths.map Prod.fst ∧ N.mouths.length < 14
def doN (N : Nst) : Deed → Nst
  | .none => N
  | .join x h => joinN N x h
  | .shout h x => shoutN N h x
/-- what is told of it -/
def Deed.At (v : V) (H : Hp) : Deed → Prop
  | .none => v = .non
  | .join x h => ∃ D, v = .ref D ∧ H D = some (.tup [.str "join", .str x, .str h])
  | .shout h x => ∃ D, v = .ref D ∧ H D = some (.tup [.str "shout", .str h, .str x])
theorem do_small {N : Nst} {o : Deed} (h : o.ok N) (h1 : N.hands.length ≤ 12) (h2 : N.mouths.length ≤ 14) (h3 : N.hands ≠ []) : (doN N o).hands.length ≤ 12 ∧ (doN N o).mouths.length ≤ 14 ∧ (doN N o).hands ≠ [] := by
  cases o with
  | none => exact ⟨h1, h2, h3⟩
  | join x y =>
    obtain ⟨_, _, _, h4⟩ := h
    refine ⟨?_, h2, fun z => ?_⟩
    · show (N.hands ++ [x]).length ≤ 12
      rw [List.length_append]
      show _ + 1 ≤ 12
      omega
    · have : N.hands ++ [x] = [] := z
      simp at this
  | shout y x =>
    obtain ⟨_, _, _, h4⟩ := h
    refine ⟨h1, ?_, h3⟩
    show (N.mouths ++ [(x, y)]).length ≤ 14
    rw [List.length_append]
    show _ + 1 ≤ 14
    omega
theorem mem_webH {N : Nst} {h : Str} : h ∈ webH N ↔ h ∈ N.hands := (List.mergeSort_perm _ _).mem_iff
theorem webH_len {N : Nst} : (webH N).length = N.hands.length := (List.mergeSort_perm _ _).length_eq
def spDeed (K : PySem.W.Frag) (C T1 : Addr) : Sp := fun vs H Q _ => ∃ (p a : Addr) (A : Ads) (N : Nst) (T : Nat) (c : Int), vs = [.ref p, .ref a, .int 12] ∧ TabG H T1 ∧ Bag H p c ∧ c ≤ 2 ^ 28 ∧ NetAt C a A N H ∧ Nok N T ∧ T ≤ 8000 ∧ p ∉ A.ft a N ∧ N.hands ≠ [] ∧ N.hands.length ≤ 12 ∧ N.mouths.length ≤ 14 ∧
  ∀ (o : Deed) v H' A', o.ok N → Grow (p :: A.ft a N) H H' → NetAt C a A' (doN N o) H' → Nok (doN N o) (T + 1) → (∀ b ∈ A'.ft a (doN N o), b ∈ A.ft a N ∨ Fresh H b) → Bag H' p (c + 40) → o.At v H' → Q v H'
theorem Nok.mono {N : Nst} {T T' : Nat} (ok : Nok N T) (h : T ≤ T') : Nok N T' := { ok with
  bnd := fun x hx => ⟨(ok.bnd x hx).1, Nat.le_trans (ok.bnd x hx).2.1 h, (ok.bnd x hx).2.2⟩
  sen := fun k hk => ⟨Nat.le_trans (ok.sen k hk).1 (Nat.mul_le_mul_left _ h), (ok.sen k hk).2⟩ }
theorem in_strs (x : Str) (zs : List Str) : inV (.str x) (zs.map V.str) = decide (x ∈ zs) := by
  induction zs with
  | nil => rfl
  | cons y zs ih =>
    unfold inV at ih ⊢
    rw [List.map_cons, List.any_cons, ih]
    show (decide (y = x) || decide (x ∈ zs)) = _
    by_cases c : y = x
    · simp [c]
    · simp [c, Ne.symm c]
theorem last_of {xs : List Str} (ne : xs ≠ []) : ∃ zs : List Str, cutV (xs.map V.str) (some (-1)) none = zs.map V.str ∧ zs ≠ [] ∧ zs.length ≤ xs.length ∧ ∀ z ∈ zs, z ∈ xs := by
  have pos : 0 < xs.length := List.length_pos_iff.mpr ne
  refine ⟨(xs.drop (xs.length - 1)).take (xs.length - (xs.length - 1)), ?_, fun z => ?_, ?_, fun z hz => List.mem_of_mem_drop (List.mem_of_mem_take hz)⟩
  · unfold cutV
    have : HT.sIx (xs.map V.str).length 0 (some (-1)) = xs.length - 1 := by
      show (if (-1 : Int) < 0 then ((-1 : Int) + ((xs.map V.str).length : Int)).toNat else min (-1 : Int).toNat (xs.map V.str).length) = _
      rw [if_pos (by decide), List.length_map]
      omega
    rw [HT.sIx_none, this, List.length_map, List.map_take, List.map_drop]
  · have := congrArg List.length z
    rw [List.length_take, List.length_drop, List.length_nil] at this
    omega
  · rw [List.length_take, List.length_drop]
    omega
/-- what follows is named -/
theorem seq_half {s r : TS} {D : Ends} {σ : L2.St} {H : Hp} (Pm : L2.St → Hp → Prop) (hr : ∀ σ' H', Pm σ' H' → r D σ' H') (hs : (∀ σ' H', Pm σ' H' → r D σ' H') → tSeq s r D σ H) : tSeq s r D σ H := hs hr
theorem ok_law_deed {f c T1 : Addr} {fd : FuncData} (B : Nb mg) (D : DefIs K "_law_deed" "_law_deed" st_law_deed f fd (.ref c)) (c_Net_web : CalleeM P w K mg base CX0 2 C "web" ["self"] (spWeb C))
    (c_Net_words : CalleeM P w K mg base CX0 2 C "words" ["self"] (spWords C)) (c_Net_join : CalleeM P w K mg base CX0 5 C "join" ["self", "name", "hand"] (spJoin C T1)) (c_Net_shout : CalleeM P w K mg base CX0 5 C "shout" ["self", "hand", "word"] (spShout C T1))
    (c_law_take : Callee P w K mg base CX0 3 "_law_take" ["bag", "many"] (spTake K)) (c_law_name : Callee P w K mg base CX0 4 "_law_name" ["bag", "some"] (spName K)) (c_law_pick : Callee P w K mg base CX0 4 "_law_pick" ["bag", "things"] (spPick K)) :
    FnG P w K mg base CX0 6 f fd ["bag", "net", "most"] (spDeed K C T1) := by
  refine D.ok0 (k := 5) sc_law_deed (fun vs H Q E h => ?_) (fun A0 outer s H vs Q E g hr h => ?_)
  · obtain ⟨p, a, A, N, T, d, rfl, _⟩ := h
    rfl
  obtain ⟨p, a, A, N, T, d, rfl, t1, bag, hd, n, ok, hT, pft, hne, h12, h14, q⟩ := h
  refine ⟨_,
      (pss_cons (ps_asg (pe_gm0 c_Net_web g (hr.mono (by decide)) pass0 (pv 1)) (pg_tup rfl (pgs_cons (pg_name (i := 3) sc_law_deed.nd rfl (.inl rfl)) (pgs_cons (pg_name (i := 4) sc_law_deed.nd rfl (.inl rfl)) pgs_nil))))
      (pss_cons (ps_set (i := 5) sc_law_deed.nd rfl (.inl rfl) (pe_g c_law_take g (hr.mono (by decide)) pass0 (pa_cons (pv 0) (pa_cons pe_int pa_nil))))
      (pss_cons (ps_if (PW.pt (pw_and (pt_cmpR (op_lt) (pv 5) pe_int (nomark _)) (pw_and1 (pt_cmpR (op_lt) (pe_callB call_len_seq rfl B.n_len PySem.boot_len (pa_cons (pv 3) pa_nil)) (pv 2) (nomark _))))) (
        (pss_cons (ps_par (i := 6) (j := 7) rfl sc_law_deed.nd rfl rfl (by decide) rfl rfl (pa_cons (pe_g c_law_name g (hr.mono (by decide)) pass0 (pa_cons (pv 0) (pa_cons (pv 3) pa_nil))) (pa_cons (pe_g c_law_pick g (hr.mono (by decide)) pass0 (pa_cons (pv 0) (pa_cons (pe_ix ix_list (pe_lst (pa_cons (pv 3) (pa_cons (pe_slice sl_list (pv 3) (po_some (pe_un un_neg pe_int)) po_none) pa_nil))) (pe_g c_law_take g (hr.mono (by decide)) pass0 (pa_cons (pv 0) (pa_cons pe_int pa_nil))) (fun _ _ => rfl)) pa_nil))) pa_nil)) rfl)
        (pss_one (ps_if (pt_cmpR (op_notIn_seq) (pv 6) (pv 3) rfl) (
          (pss_cons (ps_expr (pe_gm c_Net_join g (hr.mono (by decide)) pass0 (pv 1) (pa_cons (pv 6) (pa_cons (pv 7) pa_nil))))
          (pss_one (ps_ret (pe_tup (pa_cons pe_str (pa_cons (pv 6) (pa_cons (pv 7) pa_nil)))))))) pss_nil)))) pss_nil)
      (pss_cons (ps_par (i := 8) (j := 7) rfl sc_law_deed.nd rfl rfl (by decide) rfl rfl (pa_cons (pe_g c_law_name g (hr.mono (by decide)) pass0 (pa_cons (pv 0) (pa_cons (pe_gm0 c_Net_words g (hr.mono (by decide)) pass0 (pv 1)) pa_nil))) (pa_cons (pe_g c_law_pick g (hr.mono (by decide)) pass0 (pa_cons (pv 0) (pa_cons (pv 3) pa_nil))) pa_nil)) rfl)
      (pss_cons (ps_if (PW.pt (pw_and (pt_cmpR (op_lt) (pe_callB call_len_seq rfl B.n_len PySem.boot_len (pa_cons (pe_gm0 c_Net_words g (hr.mono (by decide)) pass0 (pv 1)) pa_nil)) pe_int (nomark _)) (pw_and1 (pt_cmpR (op_notIn_seq) (pv 8) (pe_gm0 c_Net_words g (hr.mono (by decide)) pass0 (pv 1)) rfl)))) (
        (pss_cons (ps_expr (pe_gm c_Net_shout g (hr.mono (by decide)) pass0 (pv 1) (pa_cons (pv 7) (pa_cons (pv 8) pa_nil))))
        (pss_one (ps_ret (pe_tup (pa_cons pe_str (pa_cons (pv 7) (pa_cons (pv 8) pa_nil)))))))) pss_nil)
      (pss_one (ps_ret pe_non))))))), ?_⟩
  refine ⟨.ref a, rfl, a, _, _, rfl, n.obj, rfl, a, A, N, T, rfl, n, ok, fun W LH LR H1 g1 wr => ?_⟩
  have bag1 := bag.keep g1 (by simp)
  have n1 := n.grow0 g1
  have pLH : LH ≠ p := bag.ne wr.fr.2.1
  refine ⟨W, _, rfl, .inl (.inl wr.top), rfl, .ref LH, _, rfl, .ref LR, _, rfl, rfl, ?_⟩
  refine ⟨.ref p, rfl, p, 8, d, rfl, by decide, by decide, by omega, bag1, fun v H2 v0 v1 g2 b2 => ?_⟩
  have np : ∀ b ∈ A.ft a N, b ∉ [p] := fun b hb z => pft (by rw [← List.mem_singleton.mp z]; exact hb)
  have n2 := n1.grow g2 np
  have eH := g2.lst (by simpa using pLH) wr.hds
  have t2 := (g1.any.trans g2).tabs _ t1
  have g12 : Grow [p] H H2 := g1.any.trans g2
  have wl := webH_len (N := N)
  have fz : ((webH N).map V.str).all flatV = true := by
    rw [List.all_map, List.all_eq_true]
    exact fun _ _ => rfl
  dsimp only [gName]
  refine seq_half (fun σ' H3 => ∃ (x5 x6 x7 : Option V) (e : Int), σ' = [some (.ref p), some (.ref a), some (.int 12), some (.ref LH), some (.ref LR), x5, x6, x7, none] ∧ Grow [p] H1 H3 ∧ Bag H3 p e ∧ e ≤ d + 25) (fun σ' H3 hp => ?_) (fun half => ?_)
  · obtain ⟨x5, x6, x7, e, rfl, g3, b3, he⟩ := hp
    have n3 := n1.grow g3 np
    have eH3 := g3.lst (by simpa using pLH) wr.hds
    refine ⟨.ref p, rfl, .ref a, rfl, a, _, _, rfl, n3.obj, rfl, a, A, N, T, rfl, n3, ok, fun Lw H4 fw g4 ew => ?_⟩
    have b4 := b3.keep g4 (by simp)
    refine ⟨p, Lw, wordsN N, e, rfl, .inl (.inl ew), b3.ne fw, by omega, b4, fun x H5 nx g5 b5 => ?_⟩
    have eH5 := (g4.any.trans g5).lst (by simpa using pLH) eH3
    refine ⟨.ref p, rfl, .ref LH, rfl, p, LH, _, e + 10, rfl, .inl (.inl eH5), pLH, (fun z => hne (List.eq_nil_of_length_eq_zero (by rw [← wl]; have := congrArg List.length z; rw [List.length_map] at this; exact this))), by rw [List.length_map, wl]; omega, by omega, b5, fun i v H6 ei g6 b6 => ?_⟩
    obtain ⟨h, hh, rfl⟩ : ∃ h, h ∈ N.hands ∧ v = .str h := by
      obtain ⟨y, hy, e⟩ := List.mem_map.mp (List.mem_of_getElem? ei)
      exact ⟨y, mem_webH.mp hy, e.symm⟩
    refine ⟨_, _, rfl, ?_⟩
    have g06 : Grow [p] H H6 := g1.any.trans (((g3.trans g4.any).trans g5).trans g6)
    have n6 := n.grow g06 np
    have bz : Bag H6 p (d + 40) := b6.mono (by omega)
    clear b6 g6 b5 g5 b4 ew fw g4 eH5 ei b3
    have stop : ∀ H7, Grow [] H6 H7 → Q .non H7 := fun H7 g7 => q .none _ H7 A trivial ((g06.trans g7.any).mono fun b hb => by rw [List.mem_singleton.mp hb]; exact List.mem_cons_self) (n6.grow0 g7) (ok.mono (by omega)) (fun b hb => .inl hb) (bz.keep g7 (by simp)) rfl
    refine ⟨.ref a, rfl, a, _, _, rfl, n6.obj, rfl, a, A, N, T, rfl, n6, ok, fun Lw2 H7 f7 g7 e7 => ?_⟩
    have n7 := n6.grow0 g7
    refine ⟨Lw2, _, rfl, .inl (.inl (.inl e7)), _, _, rfl, rfl, _, rfl, ite2 (fun c14 => ?_) fun _ => ?_⟩
    · have wp : (wordsN N).Perm (N.mouths.map Prod.fst) := List.mergeSort_perm _ _
      have l14 : N.mouths.length < 14 := by
        have e1 := of_decide_eq_true c14
        rw [List.length_map, wp.length_eq, List.length_map] at e1
        omega
      refine ⟨.str x, rfl, .ref a, rfl, a, _, _, rfl, n7.obj, rfl, a, A, N, T, rfl, n7, ok, fun Lw3 H8 f8 g8 e8 => ?_⟩
      have n8 := n7.grow0 g8
      refine ⟨Lw3, _, rfl, .inl (.inl (.inl e8)), rfl, (by rw [List.all_map, List.all_eq_true]; exact fun _ _ => rfl), _, rfl, ite2 (fun nin => ?_) fun _ => stop H8 (g7.trans g8)⟩
      have new : x ∉ N.mouths.map Prod.fst := fun m => by
        have e1 : (!inV (.str x) ((wordsN N).map V.str)) = true := nin
        rw [in_strs, decide_eq_true (wp.mem_iff.mpr m)] at e1
        cases e1
      have t8 : TabG H8 T1 := ((g06.trans g7.any).trans g8.any).tabs _ t1
      refine ⟨.ref a, rfl, a, _, _, rfl, n8.obj, rfl, .str h, rfl, .str x, rfl, a, A, N, T, h, x, rfl, t8, n8, ok, by omega, hh, nx, new, by omega, fun H9 g9 n9 ok9 => ?_⟩
      refine ⟨.str h, rfl, .str x, rfl, by show 3 ≤ sizeLine; decide, fun Dn nD => ?_⟩
      have g10 : Grow [] H9 (upd H9 Dn (.tup [.str "shout", .str h, .str x])) := grow_new nD
      have ft : (Ads.ft A a (doN N (.shout h x))) = A.ft a N := rfl
      have b9 : Bag H9 p (d + 40) := (bz.keep (g7.trans g8) (by simp)).keep g9 pft
      have gall : Grow (p :: A.ft a N) H H9 := ((g06.trans (g7.trans g8).any).mono fun b hb => by rw [List.mem_singleton.mp hb]; exact List.mem_cons_self).trans (g9.mono fun b hb => List.mem_cons_of_mem _ hb)
      exact q (.shout h x) _ _ A ⟨nx, hh, new, l14⟩ (gall.trans g10.any) (n9.grow0 g10) ok9 (fun b hb => .inl hb) (b9.keep g10 (by simp)) ⟨Dn, rfl, upd_same⟩
    · exact stop H7 g7
  · refine ⟨.int v, rfl, _, _, rfl, rfl, _, rfl, ite2 (fun w3 => ?_) fun _ => ?_⟩
    · refine ⟨.ref LH, rfl, LH, _, rfl, .inl (.inl (.inl eH)), .int 12, rfl, _, _, rfl, rfl, _, rfl, ite2 (fun l12 => ?_) fun _ => ?_⟩
      · have h12' : N.hands.length < 12 := by
          have e1 := of_decide_eq_true l12
          rw [List.length_map, wl] at e1
          omega
        refine ⟨.ref p, rfl, .ref LH, rfl, p, LH, webH N, d + 1, rfl, .inl (.inl eH), pLH, by omega, b2, fun x H3 nx g3 b3 => ?_⟩
        have eH3 := g3.lst (by simpa using pLH) eH
        have wne : webH N ≠ [] := fun z => hne (List.eq_nil_of_length_eq_zero (by rw [← wl, z]; rfl))
        obtain ⟨zs, hz, z1, z2, z3⟩ := last_of wne
        refine ⟨.ref p, rfl, .ref LH, rfl, .ref LH, rfl, 1, rfl, _, rfl, LH, _, rfl, .inl (.inl eH3), fun Ls nLs => ?_⟩
        rw [show (-1 : Int) = -1 from rfl, hz]
        have g4 : Grow [] H3 (upd H3 Ls (.lst (zs.map V.str))) := grow_new nLs
        have es : upd H3 Ls (.lst (zs.map V.str)) Ls = some (.lst (zs.map V.str)) := upd_same
        have lsp : Ls ≠ p := b3.ne (fresh_none nLs)
        have eH4 := g4.lst (by simp) eH3
        have b4 := b3.keep g4 (by simp)
        generalize upd H3 Ls (.lst (zs.map V.str)) = H4 at g4 es eH4 b4 ⊢
        refine ⟨by show 2 ≤ sizeLine; decide, fun Ll nLl => ?_⟩
        have g5 : Grow [] H4 (upd H4 Ll (.lst [.ref LH, .ref Ls])) := grow_new nLl
        have el : upd H4 Ll (.lst [.ref LH, .ref Ls]) Ll = some (.lst [.ref LH, .ref Ls]) := upd_same
        have llp : Ll ≠ p := b4.ne (fresh_none nLl)
        have eH5 := g5.lst (by simp) eH4
        have es5 := g5.lst (by simp) es
        have b5 := b4.keep g5 (by simp)
        generalize upd H4 Ll (.lst [.ref LH, .ref Ls]) = H5 at g5 el eH5 es5 b5 ⊢
        refine ⟨.ref p, rfl, p, 2, d + 1 + 10, rfl, by decide, by decide, by omega, b5, fun u H6 u0 u1 g6 b6 => ?_⟩
        have eH6 := g6.lst (by simpa using pLH) eH5
        have es6 := g6.lst (by simpa using lsp) es5
        have el6 := g6.lst (by simpa using llp) el
        have g26 : Grow [p] H1 H6 := (((g2.trans g3).trans g4.any).trans g5.any).trans g6
        obtain ⟨k, rfl⟩ := Int.eq_ofNat_of_zero_le u0
        -- the list that is picked from
        obtain ⟨M, ys, hM, eM, mp, yne, ylen, yin⟩ : ∃ (M : Addr) (ys : List Str), ([V.ref LH, V.ref Ls] : List V)[k]? = some (.ref M) ∧ H6 M = some (.lst (ys.map V.str)) ∧ M ≠ p ∧ ys ≠ [] ∧ ys.length ≤ 12 ∧ ∀ y ∈ ys, y ∈ N.hands := by
          have : k = 0 ∨ k = 1 := by omega
          rcases this with rfl | rfl
          · exact ⟨LH, webH N, rfl, eH6, pLH, wne, by omega, fun y hy => mem_webH.mp hy⟩
          · exact ⟨Ls, zs, rfl, es6, lsp, z1, by omega, fun y hy => mem_webH.mp (z3 y hy)⟩
        refine ⟨Ll, _, k, .ref M, rfl, rfl, .inl (.inl el6), atI_nat hM, ?_⟩
        refine ⟨p, M, _, d + 1 + 10 + 1, rfl, .inl (.inl eM), mp, (fun z => yne (by have := congrArg List.length z; rw [List.length_map] at this; exact List.eq_nil_of_length_eq_zero this)), by rw [List.length_map]; omega, by omega, b6, fun i v' H7 ei g7 b7 => ?_⟩
        obtain ⟨h, hh, rfl⟩ : ∃ h, h ∈ N.hands ∧ v' = .str h := by
          obtain ⟨y, hy, e⟩ := List.mem_map.mp (List.mem_of_getElem? ei)
          exact ⟨y, yin y hy, e.symm⟩
        have g17 := g26.trans g7
        have n7 := n1.grow g17 np
        have eH7 := g7.lst (by simpa using pLH) eH6
        refine ⟨_, _, rfl, ?_⟩
        refine ⟨.str x, rfl, .ref LH, rfl, LH, _, rfl, .inl (.inl (.inl eH7)), rfl, fz, _, rfl, ite2 (fun nin => ?_) fun _ => ?_⟩
        · have new : x ∉ N.hands := fun m => by
            have e1 : (!inV (.str x) ((webH N).map V.str)) = true := nin
            rw [in_strs, decide_eq_true (mem_webH.mpr m)] at e1
            cases e1
          have g07 : Grow [p] H H7 := g1.any.trans g17
          have t7 : TabG H7 T1 := g07.tabs _ t1
          refine ⟨.ref a, rfl, a, _, _, rfl, n7.obj, rfl, .str x, rfl, .str h, rfl, a, A, N, T, x, h, rfl, t7, n7, ok, by omega, hh, nx, new, by omega, fun H8 A' g8 n8 ok8 fr8 => ?_⟩
          refine ⟨.str x, rfl, .str h, rfl, by show 3 ≤ sizeLine; decide, fun Dn nD => ?_⟩
          have g10 : Grow [] H8 (upd H8 Dn (.tup [.str "join", .str x, .str h])) := grow_new nD
          have b8 : Bag H8 p (d + 40) := (b7.keep g8 pft).mono (by omega)
          have gall : Grow (p :: A.ft a N) H H8 := (g07.mono fun b hb => by rw [List.mem_singleton.mp hb]; exact List.mem_cons_self).trans (g8.mono fun b hb => List.mem_cons_of_mem _ hb)
          have fr : ∀ {b : Addr}, Fresh H7 b → Fresh H b := fun {b} f => by
            have bp : b ≠ p := b7.ne f
            exact g07.fresh (by simpa using bp) f
          exact q (.join x h) _ _ A' ⟨nx, new, hh, h12'⟩ (gall.trans g10.any) (n8.grow0 g10) (ok8.mono (by omega)) (fun b hb => (fr8 b hb).imp id fr) (b8.keep g10 (by simp)) ⟨Dn, rfl, upd_same⟩
        · exact half _ _ ⟨some (.int v), some (.str x), some (.str h), _, rfl, g17, b7, by omega⟩
      · exact half _ _ ⟨some (.int v), none, none, d + 1, rfl, g2, b2, by omega⟩
    · exact half _ _ ⟨some (.int v), none, none, d + 1, rfl, g2, b2, by omega⟩
end

end Lw

namespace Lw
open PySem PySem.Spec PyProof.Rows L2 GxR Gx
/-! ### each word's hands are one piece of the tree: p tells beside whom a hand came to stand, r when -/
def hasN (N : Nst) (h w : Str) : Prop := w ∈ (N.book h).map Prod.fst
structure Wok (N : Nst) (p : Str → Option Str) (r : Str → Nat) : Prop where
  par : ∀ h g, p h = some g → r g < r h
  bes : ∀ m ∈ N.beside, p m.1 = m.2
  key : ∀ k ∈ N.keys, p k.1 = some k.2 ∨ p k.2 = some k.1
  sym : ∀ k ∈ N.keys, (k.2, k.1) ∈ N.keys
  nnd : ∀ h ∈ N.hands, (N.near h).Nodup
  nall : ∀ k ∈ N.keys, k.2 ∈ N.near k.1
  bm : ∀ h ∈ N.hands, ∀ w, hasN N h w → w ∈ N.mouths.map Prod.fst
  lnd : ∀ k ∈ N.keys, (laneN N k).Nodup
  lin : ∀ k ∈ N.keys, ∀ w ∈ laneN N k, hasN N k.1 w ∧ ¬ hasN N k.2 w
  all : ∀ k ∈ N.keys, ∀ w, hasN N k.1 w → hasN N k.2 w ∨ w ∈ laneN N k
  top : ∀ w ∈ N.mouths.map Prod.fst, ∃ t ∈ N.hands, hasN N t w ∧ ∀ x ∈ N.hands, hasN N x w → x ≠ t → ∃ g, p x = some g ∧ hasN N g w ∧ r t < r x
theorem ifC {α : Type} {a b : Prop} [Decidable a] [Decidable b] (h : a ↔ b) (x y : α) : (if a then x else y) = if b then x else y := by
  by_cases c : a
  · rw [if_pos c, if_pos (h.mp c)]
  · rw [if_neg c, if_neg fun z => c (h.mpr z)]
theorem putN_new {b : List (Str × Nat)} {w : Str} (h : w ∉ b.map Prod.fst) (n : Nat) : putN b w n = b ++ [(w, n)] := by
  unfold putN
  rw [if_neg]
  intro z
  obtain ⟨x, hx, e⟩ := List.any_eq_true.mp z
  exact h (List.mem_map.mpr ⟨x, hx, of_decide_eq_true e⟩)
theorem layN_at (h w : Str) (src : Option Str) (xs : List Str) (nd : xs.Nodup) (s : Str × Str → List Str) (k : Str × Str) : layN s h w src xs k = s k ++ (if k.1 = h ∧ k.2 ∈ xs ∧ some k.2 ≠ src then [w] else []) := by
  induction xs generalizing s with
  | nil => rw [layN, if_neg (fun z => by cases z.2.1), List.append_nil]
  | cons x xs ih =>
    obtain ⟨n1, n2⟩ := List.nodup_cons.mp nd
    rw [layN, ih n2]
    by_cases c : some x ≠ src
    · rw [if_pos c]
      by_cases e : k = (h, x)
      · rw [e, at_same, if_neg (fun z => n1 z.2.1), if_pos ⟨rfl, List.mem_cons_self, c⟩, List.append_nil]
      · rw [at_ne _ _ e]
        refine congrArg _ (ifC ?_ _ _)
        constructor
        · exact fun z => ⟨z.1, List.mem_cons_of_mem _ z.2.1, z.2.2⟩
        · rintro ⟨z1, z2, z3⟩
          rcases List.mem_cons.mp z2 with q | q
          · exact absurd (Prod.ext z1 q) e
          · exact ⟨z1, q, z3⟩
    · rw [if_neg c]
      refine congrArg _ (ifC ?_ _ _)
      constructor
      · exact fun z => ⟨z.1, List.mem_cons_of_mem _ z.2.1, z.2.2⟩
      · rintro ⟨z1, z2, z3⟩
        rcases List.mem_cons.mp z2 with q | q
        · rw [q] at z3; exact absurd z3 c
        · exact ⟨z1, q, z3⟩
theorem has_write {N : Nst} {o w : Str} {src : Option Str} (n : ¬ hasN N o w) (h v : Str) : hasN (writeN N o w src) h v ↔ hasN N h v ∨ (h = o ∧ v = w) := by
  unfold hasN writeN
  show v ∈ (at_ N.book o (putN (N.book o) w (N.book o).length) h).map Prod.fst ↔ _
  by_cases c : h = o
  · rw [c, at_same, putN_new n, List.map_append, List.mem_append]
    simp
  · rw [at_ne _ _ c]
    exact ⟨.inl, fun z => z.resolve_right fun y => c y.1⟩
theorem lane_write {N : Nst} {T : Nat} (ok : Nok N T) {o w : Str} {src : Option Str} (ho : o ∈ N.hands) (nd : (N.near o).Nodup) (nall : ∀ k ∈ N.keys, k.2 ∈ N.near k.1) {k : Str × Str} (hk : k ∈ N.keys) :
    laneN (writeN N o w src) k = laneN N k ++ (if k.1 = o ∧ some k.2 ≠ src then [w] else []) := by
  unfold laneN writeN
  show (if k ∈ N.keys then (layN N.sent o w src (N.near o) k).drop (N.heard k) else []) = (if k ∈ N.keys then (N.sent k).drop (N.heard k) else []) ++ _
  rw [if_pos hk, if_pos hk, layN_at _ _ _ _ nd, List.drop_append_of_le_length (ok.sen k hk).2.1]
  refine congrArg _ (ifC ?_ _ _)
  exact ⟨fun z => ⟨z.1, z.2.2⟩, fun z => ⟨z.1, by rw [← z.1]; exact nall k hk, z.2⟩⟩
/-- of what a hand's neighbours have, it has not -/
theorem one_near {N : Nst} {T : Nat} (ok : Nok N T) {p : Str → Option Str} {r : Str → Nat} (W : Wok N p r) {o h g w : Str} (ho : (h, o) ∈ N.keys) (go : (g, o) ∈ N.keys) (n : ¬ hasN N o w) (hh : hasN N h w) (hg : hasN N g w) : g = h := by
  have oh := (ok.kin _ ho).2
  have h1 := (ok.kin _ ho).1
  have g1 := (ok.kin _ go).1
  obtain ⟨t, tm, th, tt⟩ := W.top w (W.bm h h1 w hh)
  -- a hand that came beside o and has it, is the first
  have first : ∀ {x : Str}, x ∈ N.hands → hasN N x w → p x = some o → x = t := fun {x} xm xh e => Classical.byContradiction fun z => by
    obtain ⟨y, e2, hy, _⟩ := tt x xm xh z
    rw [e] at e2
    cases e2
    exact n hy
  have low : ∀ {x : Str}, x ∈ N.hands → hasN N x w → r t ≤ r x := fun {x} xm xh => by
    by_cases c : x = t
    · rw [c]; exact Nat.le_refl _
    · obtain ⟨_, _, _, l⟩ := tt x xm xh c
      exact Nat.le_of_lt l
  rcases W.key _ ho with a | a <;> rcases W.key _ go with b | b
  · exact (first g1 hg b).trans (first h1 hh a).symm
  · have e := first h1 hh a
    have l1 : r o < r h := W.par _ _ a
    have l2 : r g < r o := W.par _ _ b
    have l3 : r t ≤ r g := low g1 hg
    have e2 : h = t := e
    rw [e2] at l1
    omega
  · have e := first g1 hg b
    have l1 : r o < r g := W.par _ _ b
    have l2 : r h < r o := W.par _ _ a
    have l3 : r t ≤ r h := low h1 hh
    have e2 : g = t := e
    rw [e2] at l1
    omega
  · have : some g = some h := b.symm.trans a
    exact Option.some.inj this
theorem wok_new (x : Str) : Wok (newN x) (fun _ => none) (fun _ => 0) := by
  refine ⟨fun _ _ e => (by cases e), fun m hm => ?_, fun _ h => (by cases h), fun _ h => (by cases h), fun _ _ => List.nodup_nil, fun _ h => (by cases h), fun _ _ _ h => (by cases h), fun _ h => (by cases h), fun _ h => (by cases h), fun _ h => (by cases h), fun _ h => (by cases h)⟩
  rw [List.mem_singleton.mp hm]
theorem key_ne {N : Nst} {p : Str → Option Str} {r : Str → Nat} (W : Wok N p r) {k : Str × Str} (h : k ∈ N.keys) : k.1 ≠ k.2 := fun e => by
  rcases W.key k h with a | a
  · have := W.par _ _ a; rw [e] at this; omega
  · have := W.par _ _ a; rw [e] at this; omega
theorem wok_join {N : Nst} {T : Nat} (ok : Nok N T) {p : Str → Option Str} {r : Str → Nat} (W : Wok N p r) {x h : Str} (hh : h ∈ N.hands) (new : x ∉ N.hands) (pn : ∀ y g, p y = some g → y ∈ N.hands ∧ g ∈ N.hands) :
    Wok (joinN N x h) (at_ p x (some h)) (at_ r x (r h + 1)) ∧ ∀ y g, at_ p x (some h) y = some g → y ∈ (joinN N x h).hands ∧ g ∈ (joinN N x h).hands := by
  have xh : x ≠ h := fun z => new (by rw [z]; exact hh)
  have nx : ∀ {y : Str}, y ∈ N.hands → y ≠ x := fun hy z => new (by rw [← z]; exact hy)
  have knn : (h, x) ≠ (x, h) := fun z => by injection z with z1 z2; exact xh z2
  have old : ∀ {k : Str × Str}, k ∈ N.keys → k ≠ (h, x) ∧ k ≠ (x, h) := fun hk => ⟨fun z => new (by have := (ok.kin _ hk).2; rw [z] at this; exact this), fun z => new (by have := (ok.kin _ hk).1; rw [z] at this; exact this)⟩
  have ks : ∀ {k : Str × Str}, k ∈ (joinN N x h).keys → k ∈ N.keys ∨ k = (h, x) ∨ k = (x, h) := fun {k} hk => by
    rcases List.mem_append.mp hk with hk | hk
    · exact .inl hk
    · rcases List.mem_cons.mp hk with q | q
      · exact .inr (.inl q)
      · exact .inr (.inr (List.mem_singleton.mp q))
  have hs : ∀ {y : Str}, y ∈ (joinN N x h).hands → y ∈ N.hands ∨ y = x := fun {y} hy => by
    rcases List.mem_append.mp hy with q | q
    · exact .inl q
    · exact .inr (List.mem_singleton.mp q)
  have k1 : (h, x) ∈ (joinN N x h).keys := List.mem_append_right _ (by simp)
  have k2 : (x, h) ∈ (joinN N x h).keys := List.mem_append_right _ (by simp)
  have hx : ∀ w, ¬ hasN (joinN N x h) x w := fun w z => by
    replace z : w ∈ (at_ N.book x [] x).map Prod.fst := z
    rw [at_same] at z
    cases z
  have ho : ∀ {y : Str} (w : Str), y ≠ x → (hasN (joinN N x h) y w ↔ hasN N y w) := fun {y} w c => by
    show w ∈ (at_ N.book x [] y).map Prod.fst ↔ _
    rw [at_ne _ _ c]
    exact Iff.rfl
  have lo : ∀ {k : Str × Str}, k ∈ N.keys → laneN (joinN N x h) k = laneN N k := fun {k} hk => by
    unfold laneN
    rw [if_pos hk, if_pos (show k ∈ (joinN N x h).keys from List.mem_append_left _ hk)]
    show (at_ (at_ N.sent (h, x) _) (x, h) [] k).drop (at_ (at_ N.heard (h, x) 0) (x, h) 0 k) = _
    rw [at_ne _ _ (old hk).2, at_ne _ _ (old hk).1, at_ne _ _ (old hk).2, at_ne _ _ (old hk).1]
  have l1 : laneN (joinN N x h) (h, x) = (N.book h).map Prod.fst := by
    unfold laneN
    rw [if_pos k1]
    show (at_ (at_ N.sent (h, x) _) (x, h) [] (h, x)).drop (at_ (at_ N.heard (h, x) 0) (x, h) 0 (h, x)) = _
    rw [at_ne _ _ knn, at_same, at_ne _ _ knn, at_same]
    rfl
  have l2 : laneN (joinN N x h) (x, h) = [] := by
    unfold laneN
    rw [if_pos k2]
    show (at_ (at_ N.sent (h, x) _) (x, h) [] (x, h)).drop (at_ (at_ N.heard (h, x) 0) (x, h) 0 (x, h)) = _
    rw [at_same, at_same]
    rfl
  refine ⟨⟨fun y g e => ?_, fun m hm => ?_, fun k hk => ?_, fun k hk => ?_, fun y hy => ?_, fun k hk => ?_, fun y hy w hw => ?_, fun k hk => ?_, fun k hk w hw => ?_, fun k hk w hw => ?_, fun w hw => ?_⟩, fun y g e => ?_⟩
  · by_cases c : y = x
    · rw [c, at_same] at e
      cases e
      rw [c, at_same, at_ne _ _ xh.symm]
      omega
    · rw [at_ne _ _ c] at e
      rw [at_ne _ _ c, at_ne _ _ (nx (pn y g e).2)]
      exact W.par y g e
  · rcases List.mem_append.mp hm with hm | hm
    · rw [at_ne _ _ (nx (by rw [← ok.bes]; exact List.mem_map_of_mem hm))]
      exact W.bes m hm
    · rw [List.mem_singleton.mp hm, at_same]
  · rcases ks hk with q | q | q
    · rw [at_ne _ _ (nx (ok.kin k q).1), at_ne _ _ (nx (ok.kin k q).2)]
      exact W.key k q
    · rw [q]; exact .inr (at_same _ _ _)
    · rw [q]; exact .inl (at_same _ _ _)
  · rcases ks hk with q | q | q
    · exact List.mem_append_left _ (W.sym k q)
    · rw [q]; exact k2
    · rw [q]; exact k1
  · show (at_ (at_ N.near h (N.near h ++ [x])) x [h] y).Nodup
    by_cases c : y = x
    · rw [c, at_same]; simp
    · have hy2 := (hs hy).resolve_right c
      rw [at_ne _ _ c]
      by_cases c2 : y = h
      · rw [c2, at_same, List.nodup_append]
        refine ⟨W.nnd h hh, by simp, fun a ha b hb e => ?_⟩
        rw [List.mem_singleton.mp hb] at e
        rw [e] at ha
        exact new (ok.kin _ (ok.near h hh x ha)).2
      · rw [at_ne _ _ c2]
        exact W.nnd y hy2
  · show k.2 ∈ at_ (at_ N.near h (N.near h ++ [x])) x [h] k.1
    rcases ks hk with q | q | q
    · rw [at_ne _ _ (nx (ok.kin k q).1)]
      by_cases c2 : k.1 = h
      · rw [c2, at_same]
        exact List.mem_append_left _ (by rw [← c2]; exact W.nall k q)
      · rw [at_ne _ _ c2]
        exact W.nall k q
    · rw [q]
      show x ∈ at_ _ x [h] h
      rw [at_ne _ _ xh.symm, at_same]; simp
    · rw [q]
      show h ∈ at_ _ x [h] x
      rw [at_same]; simp
  · rcases hs hy with q | q
    · exact W.bm y q w ((ho w (nx q)).mp hw)
    · rw [q] at hw; exact absurd hw (hx w)
  · rcases ks hk with q | q | q
    · rw [lo q]; exact W.lnd k q
    · rw [q, l1]; exact (ok.bnd h hh).1
    · rw [q, l2]; exact List.nodup_nil
  · rcases ks hk with q | q | q
    · rw [lo q] at hw
      rw [ho w (nx (ok.kin k q).1), ho w (nx (ok.kin k q).2)]
      exact W.lin k q w hw
    · rw [q, l1] at hw
      rw [q]
      exact ⟨(ho w xh.symm).mpr hw, hx w⟩
    · rw [q, l2] at hw
      cases hw
  · rcases ks hk with q | q | q
    · rw [lo q, ho w (nx (ok.kin k q).2)]
      exact W.all k q w ((ho w (nx (ok.kin k q).1)).mp hw)
    · rw [q] at hw ⊢
      rw [l1]
      exact .inr ((ho w xh.symm).mp hw)
    · rw [q] at hw
      exact absurd hw (hx w)
  · obtain ⟨t, tm, th, tt⟩ := W.top w hw
    refine ⟨t, List.mem_append_left _ tm, (ho w (nx tm)).mpr th, fun y hy hyw c => ?_⟩
    rcases hs hy with q | q
    · obtain ⟨g, e, hg, l⟩ := tt y q ((ho w (nx q)).mp hyw) c
      refine ⟨g, by rw [at_ne _ _ (nx q)]; exact e, (ho w (nx (pn y g e).2)).mpr hg, by rw [at_ne _ _ (nx q), at_ne _ _ (nx tm)]; exact l⟩
    · rw [q] at hyw; exact absurd hyw (hx w)
  · by_cases c : y = x
    · rw [c, at_same] at e
      cases e
      rw [c]
      exact ⟨by show x ∈ N.hands ++ [x]; simp, List.mem_append_left _ hh⟩
    · rw [at_ne _ _ c] at e
      exact ⟨List.mem_append_left _ (pn y g e).1, List.mem_append_left _ (pn y g e).2⟩
/-- a word is written at a hand that had it not -/
theorem wok_write {N : Nst} {T : Nat} (ok : Nok N T) {p : Str → Option Str} {r : Str → Nat} {o w : Str} {src : Option Str} (ho : o ∈ N.hands) (n : ¬ hasN N o w) (wm : w ∈ N.mouths.map Prod.fst)
    (par : ∀ h g, p h = some g → r g < r h) (bes : ∀ m ∈ N.beside, p m.1 = m.2) (key : ∀ k ∈ N.keys, p k.1 = some k.2 ∨ p k.2 = some k.1) (sym : ∀ k ∈ N.keys, (k.2, k.1) ∈ N.keys) (nnd : ∀ h ∈ N.hands, (N.near h).Nodup) (nall : ∀ k ∈ N.keys, k.2 ∈ N.near k.1)
    (bm : ∀ h ∈ N.hands, ∀ v, hasN N h v → v ∈ N.mouths.map Prod.fst) (lnd : ∀ k ∈ N.keys, (laneN N k).Nodup) (lin : ∀ k ∈ N.keys, ∀ v ∈ laneN N k, hasN N k.1 v ∧ ¬ hasN N k.2 v ∧ (k.2 = o → v ≠ w))
    (far : ∀ x, (o, x) ∈ N.keys → some x ≠ src → ¬ hasN N x w) (srcH : ∀ s, src = some s → hasN N s w)
    (all : ∀ k ∈ N.keys, ∀ v, hasN N k.1 v → hasN N k.2 v ∨ v ∈ laneN N k ∨ (v = w ∧ k.2 = o))
    (topO : ∀ v ∈ N.mouths.map Prod.fst, v ≠ w → ∃ t ∈ N.hands, hasN N t v ∧ ∀ x ∈ N.hands, hasN N x v → x ≠ t → ∃ g, p x = some g ∧ hasN N g v ∧ r t < r x)
    (topW : ∃ t ∈ N.hands, (hasN N t w ∨ t = o) ∧ ∀ x ∈ N.hands, (hasN N x w ∨ x = o) → x ≠ t → ∃ g, p x = some g ∧ (hasN N g w ∨ g = o) ∧ r t < r x) : Wok (writeN N o w src) p r := by
  have hw := fun h v => has_write (src := src) n h v
  have lw : ∀ {k : Str × Str}, k ∈ N.keys → _ := fun {k} hk => lane_write ok (w := w) (src := src) ho (nnd o ho) nall hk
  have kne : ∀ {k : Str × Str}, k ∈ N.keys → k.1 ≠ k.2 := fun {k} h e => by
    rcases key k h with a | a
    · have := par _ _ a; rw [e] at this; omega
    · have := par _ _ a; rw [e] at this; omega
  refine ⟨par, bes, key, sym, nnd, nall, fun h hh v hv => ?_, fun k hk => ?_, fun k hk v hv => ?_, fun k hk v hv => ?_, fun v hv => ?_⟩
  · rcases (hw h v).mp hv with q | q
    · exact bm h hh v q
    · rw [q.2]; exact wm
  · rw [lw hk]
    by_cases c : k.1 = o ∧ some k.2 ≠ src
    · rw [if_pos c, List.nodup_append]
      refine ⟨lnd k hk, by simp, fun a ha b hb e => ?_⟩
      rw [List.mem_singleton.mp hb] at e
      rw [e] at ha
      exact n (by rw [← c.1]; exact (lin k hk w ha).1)
    · rw [if_neg c, List.append_nil]
      exact lnd k hk
  · rw [lw hk] at hv
    rw [hw, hw]
    rcases List.mem_append.mp hv with q | q
    · obtain ⟨a, b, c⟩ := lin k hk v q
      exact ⟨.inl a, fun z => z.elim b fun y => c y.1 y.2⟩
    · by_cases c : k.1 = o ∧ some k.2 ≠ src
      · rw [if_pos c] at q
        rw [List.mem_singleton.mp q]
        refine ⟨.inr ⟨c.1, rfl⟩, fun z => ?_⟩
        rcases z with z | z
        · exact far k.2 (by rw [← c.1]; exact hk) c.2 z
        · exact kne hk (c.1.trans z.1.symm)
      · rw [if_neg c] at q
        cases q
  · rw [lw hk, hw]
    rcases (hw _ _).mp hv with q | ⟨q1, q2⟩
    · rcases all k hk v q with a | a | a
      · exact .inl (.inl a)
      · exact .inr (List.mem_append_left _ a)
      · exact .inl (.inr ⟨a.2, a.1⟩)
    · by_cases c : some k.2 = src
      · exact .inl (.inl (by rw [q2]; exact srcH _ c.symm))
      · rw [if_pos ⟨q1, c⟩]
        exact .inr (List.mem_append_right _ (by rw [q2]; exact List.mem_singleton.mpr rfl))
  · by_cases c : v = w
    · rw [c]
      obtain ⟨t, tm, th, tt⟩ := topW
      have e : ∀ h, hasN (writeN N o w src) h w ↔ hasN N h w ∨ h = o := fun h => (hw h w).trans ⟨fun z => z.imp id (·.1), fun z => z.imp id fun y => ⟨y, rfl⟩⟩
      refine ⟨t, tm, (e t).mpr th, fun x hx hxw cx => ?_⟩
      obtain ⟨g, a, b, d⟩ := tt x hx ((e x).mp hxw) cx
      exact ⟨g, a, (e g).mpr b, d⟩
    · obtain ⟨t, tm, th, tt⟩ := topO v hv c
      have e : ∀ h, hasN (writeN N o w src) h v ↔ hasN N h v := fun h => (hw h v).trans ⟨fun z => z.resolve_right fun y => c y.2, .inl⟩
      refine ⟨t, tm, (e t).mpr th, fun x hx hxw cx => ?_⟩
      obtain ⟨g, a, b, d⟩ := tt x hx ((e x).mp hxw) cx
      exact ⟨g, a, (e g).mpr b, d⟩
theorem wok_shout {N : Nst} {T : Nat} (ok : Nok N T) {p : Str → Option Str} {r : Str → Nat} (W : Wok N p r) {h x : Str} (hh : h ∈ N.hands) (new : x ∉ N.mouths.map Prod.fst) (ok2 : Nok { N with mouths := N.mouths ++ [(x, h)] } T) : ¬ hasN N h x ∧ Wok (shoutN N h x) p r := by
  have no : ∀ y ∈ N.hands, ¬ hasN N y x := fun y hy z => new (W.bm y hy x z)
  have mm : ∀ {v : Str}, v ∈ (N.mouths ++ [(x, h)]).map Prod.fst → v ∈ N.mouths.map Prod.fst ∨ v = x := fun {v} hv => by
    rw [List.map_append] at hv
    rcases List.mem_append.mp hv with q | q
    · exact .inl q
    · exact .inr (List.mem_singleton.mp q)
  refine ⟨no h hh, wok_write (N := { N with mouths := N.mouths ++ [(x, h)] }) ok2 hh (no h hh) (by show x ∈ (N.mouths ++ [(x, h)]).map Prod.fst; simp) W.par W.bes W.key W.sym W.nnd W.nall (fun y hy v hv => by
    show v ∈ (N.mouths ++ [(x, h)]).map Prod.fst
    rw [List.map_append]
    exact List.mem_append_left _ (W.bm y hy v hv)) W.lnd (fun k hk v hv => ⟨(W.lin k hk v hv).1, (W.lin k hk v hv).2, fun _ e => no k.1 (ok.kin k hk).1 (by rw [← e]; exact (W.lin k hk v hv).1)⟩) (fun y hy _ => no y (ok.kin _ hy).2) (fun s e => by cases e)
    (fun k hk v hv => (W.all k hk v hv).imp id .inl) (fun v hv c => W.top v ((mm hv).resolve_right c)) ⟨h, hh, .inr rfl, fun y hy hyw c => hyw.elim (fun z => absurd z (no y hy)) fun z => absurd z c⟩⟩
theorem wok_hear {N : Nst} {T : Nat} (ok : Nok N T) {p : Str → Option Str} {r : Str → Nat} (W : Wok N p r) {h o : Str} (hk : (h, o) ∈ N.keys) (lt : N.heard (h, o) < (N.sent (h, o)).length) (ok2 : Nok { N with heard := at_ N.heard (h, o) (N.heard (h, o) + 1) } T) :
    ∃ w, laneN N (h, o) = w :: (N.sent (h, o)).drop (N.heard (h, o) + 1) ∧ ¬ hasN N o w ∧ hearN N h o = writeN { N with heard := at_ N.heard (h, o) (N.heard (h, o) + 1) } o w (some h) ∧ Wok (hearN N h o) p r := by
  obtain ⟨w, hw⟩ : ∃ w, (N.sent (h, o))[N.heard (h, o)]'lt = w := ⟨_, rfl⟩
  have el : laneN N (h, o) = w :: (N.sent (h, o)).drop (N.heard (h, o) + 1) := by
    unfold laneN
    rw [if_pos hk, List.drop_eq_getElem_cons lt, hw]
  have en : hearN N h o = writeN { N with heard := at_ N.heard (h, o) (N.heard (h, o) + 1) } o w (some h) := by
    unfold hearN
    rw [List.getElem?_eq_getElem lt, hw]
    rfl
  obtain ⟨kh, ko⟩ := ok.kin _ hk
  obtain ⟨a1, a2⟩ := W.lin _ hk w (by rw [el]; exact List.mem_cons_self)
  refine ⟨w, el, a2, en, ?_⟩
  rw [en]
  have lanes : ∀ {k : Str × Str}, k ∈ N.keys → laneN { N with heard := at_ N.heard (h, o) (N.heard (h, o) + 1) } k = if k = (h, o) then (N.sent (h, o)).drop (N.heard (h, o) + 1) else laneN N k := fun {k} hk2 => by
    unfold laneN
    show (if k ∈ N.keys then (N.sent k).drop (at_ N.heard (h, o) (N.heard (h, o) + 1) k) else []) = _
    rw [if_pos hk2, if_pos hk2]
    by_cases c : k = (h, o)
    · rw [c, at_same, if_pos rfl]
    · rw [at_ne _ _ c, if_neg c]
  have nd := W.lnd _ hk
  rw [el] at nd
  obtain ⟨nd1, nd2⟩ := List.nodup_cons.mp nd
  have sub : ∀ {k : Str × Str}, k ∈ N.keys → ∀ v ∈ laneN { N with heard := at_ N.heard (h, o) (N.heard (h, o) + 1) } k, v ∈ laneN N k ∧ (k = (h, o) → v ≠ w) := fun {k} hk2 v hv => by
    rw [lanes hk2] at hv
    by_cases c : k = (h, o)
    · rw [if_pos c] at hv
      rw [c, el]
      exact ⟨List.mem_cons_of_mem _ hv, fun _ e => nd1 (by rw [← e]; exact hv)⟩
    · rw [if_neg c] at hv
      exact ⟨hv, fun z => absurd z c⟩
  have wm := W.bm h kh w a1
  refine wok_write (N := { N with heard := at_ N.heard (h, o) (N.heard (h, o) + 1) }) ok2 ko a2 wm W.par W.bes W.key W.sym W.nnd W.nall W.bm (fun k hk2 => ?_) (fun k hk2 v hv => ?_) (fun x hx c hxw => ?_) (fun s e => ?_) (fun k hk2 v hv => ?_) (fun v hv _ => W.top v hv) ?_
  · rw [lanes hk2]
    by_cases c : k = (h, o)
    · rw [if_pos c]; exact nd2
    · rw [if_neg c]; exact W.lnd k hk2
  · obtain ⟨s1, s2⟩ := sub hk2 v hv
    obtain ⟨b1, b2⟩ := W.lin k hk2 v s1
    refine ⟨b1, b2, fun ko2 e => ?_⟩
    have k1 : (k.1, o) ∈ N.keys := by rw [← ko2]; exact hk2
    rw [e] at b1
    have := one_near ok W hk k1 a2 a1 b1
    exact s2 (Prod.ext this ko2) e
  · have e : x = h := one_near ok W hk (W.sym _ hx) a2 a1 hxw
    exact c (by rw [e])
  · cases e
    exact a1
  · rcases W.all k hk2 v hv with q | q
    · exact .inl q
    · by_cases c : k = (h, o)
      · rw [c, el] at q
        rcases List.mem_cons.mp q with e | q
        · exact .inr (.inr ⟨e, by rw [c]⟩)
        · rw [lanes hk2, if_pos c]
          exact .inr (.inl q)
      · rw [lanes hk2, if_neg c]
        exact .inr (.inl q)
  · obtain ⟨t, tm, th, tt⟩ := W.top w wm
    rcases W.key _ hk with a | a
    · -- h came beside o: h is the first one, now o is
      have e : h = t := Classical.byContradiction fun z => by
        obtain ⟨g, e1, hg, _⟩ := tt h kh a1 z
        have : some g = some o := e1.symm.trans a
        rw [Option.some.inj this] at hg
        exact a2 hg
      have l0 : r o < r t := by rw [← e]; exact W.par _ _ a
      refine ⟨o, ko, .inr rfl, fun x hx hxw c => ?_⟩
      have hxw2 := hxw.resolve_right c
      by_cases ct : x = t
      · exact ⟨o, by rw [ct, ← e]; exact a, .inr rfl, by rw [ct]; exact l0⟩
      · obtain ⟨g, e1, hg, l⟩ := tt x hx hxw2 ct
        exact ⟨g, e1, .inl hg, Nat.lt_trans l0 l⟩
    · have lo : r t ≤ r h := by
        by_cases ct : h = t
        · rw [ct]; exact Nat.le_refl _
        · obtain ⟨_, _, _, l⟩ := tt h kh a1 ct
          exact Nat.le_of_lt l
      have l0 : r h < r o := W.par _ _ a
      refine ⟨t, tm, .inl th, fun x hx hxw c => ?_⟩
      by_cases co : x = o
      · exact ⟨h, by rw [co]; exact a, .inl a1, by rw [co]; omega⟩
      · obtain ⟨g, e1, hg, l⟩ := tt x hx (hxw.resolve_right co) c
        exact ⟨g, e1, .inl hg, l⟩
theorem many_pos {N : Nst} {k : Str × Str} (mn : 0 < manyN N k) : k ∈ N.keys ∧ N.heard k < (N.sent k).length := by
  have hk : k ∈ N.keys := Classical.byContradiction fun z => by
    unfold manyN at mn
    rw [if_neg z] at mn
    omega
  refine ⟨hk, ?_⟩
  unfold manyN at mn
  rw [if_pos hk] at mn
  omega
theorem nok_tick {N : Nst} {T : Nat} (ok : Nok N T) {k : Str × Str} (lt : N.heard k < (N.sent k).length) : Nok { N with heard := at_ N.heard k (N.heard k + 1) } T := { ok with
  sen := fun l hk2 => by
    obtain ⟨q1, q2, q3⟩ := ok.sen l hk2
    refine ⟨q1, ?_, q3⟩
    show at_ N.heard k (N.heard k + 1) l ≤ _
    by_cases c : l = k
    · rw [c, at_same]; exact lt
    · rw [at_ne _ _ c]; exact q2 }

section
variable {P : Program} {w : World} {K : PySem.W.Frag} {mg : Str → Option Value} {base : Heap} {C : Addr}
/-! ### _check_word, mouth -/
def spChkW (C : Addr) : Sp := fun vs H Q _ => ∃ (a : Addr) (A : Ads) (N : Nst) (T : Nat) (x : Str), vs = [.ref a, .str x] ∧ NetAt C a A N H ∧ Nok N T ∧ x ∈ N.mouths.map Prod.fst ∧ Q .non H
theorem ok_Net_check_word {f c : Addr} {fd : FuncData} (B : Nb mg) (D : DefIs K "_check_word" "Net._check_word" st_Net_check_word f fd (.ref c)) (NC : NetC K C) : FnG P w K mg base CX0 2 f fd ["self", "thing"] (spChkW C) := by
  refine D.ok0 (k := 1) sc_Net_check_word (fun vs H Q E h => ?_) (fun A0 outer s H vs Q E g hr h => ?_)
  · obtain ⟨a, A, N, T, h, rfl, _⟩ := h
    rfl
  obtain ⟨a, A, N, T, h, rfl, n, ok, hh, q⟩ := h
  refine ⟨_,
      (pss_one (ps_if (PW.pt (pw_or (pt_cmpR (op_notTyB) (pe_callTy call_type1 rfl B.n_type (by decide +kernel) (pa_cons (pv 1) pa_nil)) (pe_bltn (v := .ty "str") rfl B.n_str (by decide +kernel) rfl) (nomark _)) (pw_or1 (pt_cmp (pc_dnotin (hu_of hr) (pv 1) (pe_fN NC.cls NC.n_mouths (pv 0))))))) (
        (pss_one ps_dead)) pss_nil)), ?_⟩
  refine ⟨.str h, rfl, _, "str", rfl, .str h, "str", "str", rfl, rfl, _, rfl, iteNS rfl ⟨.str h, rfl, .ref a, rfl, a, _, _, _, rfl, n.obj, A.l_mouths, A.am, _, rfl, DGet.k (k := .inr h) n.eam, ?_⟩⟩
  rw [kvM_is ok.mnd, decide_eq_true hh]
  exact ⟨_, rfl, iteF q⟩
def spMouth (C : Addr) : Sp := fun vs H Q _ => ∃ (a : Addr) (A : Ads) (N : Nst) (T : Nat) (x : Str), vs = [.ref a, .str x] ∧ NetAt C a A N H ∧ Nok N T ∧ x ∈ N.mouths.map Prod.fst ∧ Q (.str (mouthN N x)) H
theorem ok_Net_mouth {f c : Addr} {fd : FuncData} (B : Nb mg) (D : DefIs K "mouth" "Net.mouth" st_Net_mouth f fd (.ref c)) (NC : NetC K C) (c_Net_check_word : CalleeM P w K mg base CX0 2 C "_check_word" ["self", "thing"] (spChkW C)) : FnG P w K mg base CX0 3 f fd ["self", "word"] (spMouth C) := by
  refine D.ok0 (k := 2) sc_Net_mouth (fun vs H Q E h => ?_) (fun A0 outer s H vs Q E g hr h => ?_)
  · obtain ⟨a, A, N, T, h, rfl, _⟩ := h
    rfl
  obtain ⟨a, A, N, T, h, rfl, n, ok, hh, q⟩ := h
  refine ⟨_,
      (pss_cons (ps_expr (pe_gm c_Net_check_word g (hr.mono (by decide)) pass0 (pv 0) (pa_cons (pv 1) pa_nil)))
      (pss_one (ps_ret (pe_dget (hu_of hr) (pe_fN NC.cls NC.n_mouths (pv 0)) (pv 1) (fun _ _ => rfl))))), ?_⟩
  refine ⟨.ref a, rfl, a, _, _, rfl, n.obj, rfl, .str h, rfl, a, A, N, T, h, rfl, n, ok, hh, ?_⟩
  have dg : DGet H A.am (.str h) (some (.str (mouthN N h))) := by
    rw [← kvM_val ok.mnd hh]
    exact DGet.k (k := .inr h) n.eam
  exact ⟨.ref a, rfl, a, _, _, _, rfl, n.obj, A.l_mouths, .str h, rfl, A.am, _, rfl, dg, q⟩
end

end Lw

namespace Lw
open PySem PySem.Spec PyProof.Rows L2 GxR Gx
/-! ### ways in a tree: p tells beside whom a hand came to stand, r when -/
def AdjP (p : Str → Option Str) (x y : Str) : Prop := p x = some y ∨ p y = some x
theorem AdjP.symm {p : Str → Option Str} {x y : Str} (h : AdjP p x y) : AdjP p y x := h.elim .inr .inl
def ChP (p : Str → Option Str) : List Str → Prop
  | [] => True
  | [_] => True
  | x :: y :: l => AdjP p x y ∧ ChP p (y :: l)
theorem ChP.tail {p : Str → Option Str} {x : Str} {l : List Str} (h : ChP p (x :: l)) : ChP p l := by
  cases l with
  | nil => trivial
  | cons y l => exact h.2
theorem ChP.snoc {p : Str → Option Str} : ∀ {l : List Str} {x z : Str}, ChP p (l ++ [x]) → AdjP p x z → ChP p (l ++ [x] ++ [z])
  | [], _, _, _, a => ⟨a, trivial⟩
  | [y], x, z, h, a => ⟨h.1, a, trivial⟩
  | y :: y2 :: l, x, z, h, a => ⟨h.1, ChP.snoc (l := y2 :: l) h.2 a⟩
theorem ChP.init {p : Str → Option Str} : ∀ {l : List Str} {x : Str}, ChP p (l ++ [x]) → ChP p l
  | [], _, _ => trivial
  | [_], _, _ => trivial
  | y :: y2 :: l, x, h => ⟨h.1, ChP.init (l := y2 :: l) h.2⟩
theorem ChP.last {p : Str → Option Str} : ∀ {l : List Str} {x z : Str}, ChP p (l ++ [x, z]) → AdjP p x z
  | [], _, _, h => h.1
  | [y], _, _, h => h.2.1
  | y :: y2 :: l, x, z, h => ChP.last (l := y2 :: l) h.2
theorem ChP.reverse {p : Str → Option Str} : ∀ {l : List Str}, ChP p l → ChP p l.reverse
  | [], _ => trivial
  | [_], _ => trivial
  | x :: y :: l, h => by
    have ih := ChP.reverse (l := y :: l) h.2
    rw [List.reverse_cons] at ih ⊢
    rw [List.reverse_cons]
    exact ih.snoc h.1.symm
/-- once away from the first, never again -/
theorem down_far {p : Str → Option Str} {r : Str → Nat} (par : ∀ h g, p h = some g → r g < r h) : ∀ {l : List Str} {x y : Str}, ChP p (x :: y :: l) → (x :: y :: l).Nodup → p y = some x → ∀ z ∈ y :: l, r x < r z
  | [], x, y, _, _, e, z, hz => by
    rw [List.mem_singleton.mp hz]
    exact par _ _ e
  | u :: l, x, y, h, nd, e, z, hz => by
    have l1 := par _ _ e
    rcases List.mem_cons.mp hz with q | q
    · rw [q]; exact l1
    · obtain ⟨n1, n2⟩ := List.nodup_cons.mp nd
      have e2 : p u = some y := by
        rcases h.2.1 with a | a
        · rw [e] at a
          cases a
          exact absurd (List.mem_cons_of_mem _ List.mem_cons_self) n1
        · exact a
      exact Nat.lt_trans l1 (down_far par h.2 n2 e2 z q)
structure PthP (p : Str → Option Str) (a b : Str) (ys : List Str) : Prop where
  ch : ChP p ys
  nd : ys.Nodup
  fst : ys.head? = some a
  lst : ys.getLast? = some b
theorem PthP.rev {p : Str → Option Str} {a b : Str} {ys : List Str} (h : PthP p a b ys) : PthP p b a ys.reverse :=
  ⟨h.ch.reverse, (List.reverse_perm _).nodup_iff.mpr h.nd, by rw [List.head?_reverse]; exact h.lst, by rw [List.getLast?_reverse]; exact h.fst⟩
theorem PthP.one {p : Str → Option Str} {a : Str} {ys : List Str} (h : PthP p a a ys) : ys = [a] := by
  cases ys with
  | nil => cases h.fst
  | cons x l =>
    have e : x = a := Option.some.inj h.fst
    subst e
    cases l with
    | nil => rfl
    | cons y l =>
      have e2 := h.lst
      rw [List.getLast?_cons_cons] at e2
      exact absurd (List.mem_of_getLast? e2) (List.nodup_cons.mp h.nd).1
/-- from the one that came no sooner the way goes up first -/
theorem PthP.up {p : Str → Option Str} {r : Str → Nat} (par : ∀ h g, p h = some g → r g < r h) {a b : Str} {ys : List Str} (h : PthP p a b ys) (ne : a ≠ b) (le : r b ≤ r a) : ∃ g l, p a = some g ∧ ys = a :: l ∧ PthP p g b l := by
  cases ys with
  | nil => cases h.fst
  | cons x l =>
    have e : x = a := Option.some.inj h.fst
    subst e
    cases l with
    | nil =>
      have := h.lst
      cases this
      exact absurd rfl ne
    | cons y l =>
      have e2 := h.lst
      rw [List.getLast?_cons_cons] at e2
      rcases h.ch.1 with q | q
      · exact ⟨y, y :: l, q, rfl, ⟨h.ch.2, (List.nodup_cons.mp h.nd).2, rfl, e2⟩⟩
      · have := down_far par h.ch h.nd q b (List.mem_of_getLast? e2)
        omega
theorem pth_one {p : Str → Option Str} {r : Str → Nat} (par : ∀ h g, p h = some g → r g < r h) : ∀ (n : Nat) {a b : Str} {P Q : List Str}, P.length ≤ n → PthP p a b P → PthP p a b Q → P = Q
  | 0, a, b, P, Q, hn, h, _ => by
    have := List.eq_nil_of_length_eq_zero (Nat.le_zero.mp hn)
    rw [this] at h
    cases h.fst
  | n + 1, a, b, P, Q, hn, h, g => by
    by_cases e : a = b
    · subst e
      rw [h.one, g.one]
    · by_cases le : r b ≤ r a
      · obtain ⟨x, l, e1, e2, h2⟩ := h.up par e le
        obtain ⟨y, m, e3, e4, g2⟩ := g.up par e le
        rw [e1] at e3
        cases e3
        rw [e2] at hn
        rw [e2, e4, pth_one par n (Nat.le_of_succ_le_succ hn) h2 g2]
      · obtain ⟨x, l, e1, e2, h2⟩ := h.rev.up par (Ne.symm e) (by omega)
        obtain ⟨y, m, e3, e4, g2⟩ := g.rev.up par (Ne.symm e) (by omega)
        rw [e1] at e3
        cases e3
        have hl : l.length ≤ n := by
          have := congrArg List.length e2
          rw [List.length_reverse, List.length_cons] at this
          omega
        have : P.reverse = Q.reverse := by rw [e2, e4, pth_one par n hl h2 g2]
        exact List.reverse_inj.mp this
/-- the way up to the first hand -/
def UpP (p : Str → Option Str) : List Str → Prop
  | [] => False
  | [x] => p x = none
  | x :: y :: l => p x = some y ∧ UpP p (y :: l)
theorem UpP.same {p : Str → Option Str} : ∀ {P Q : List Str}, UpP p P → UpP p Q → P.head? = Q.head? → P = Q
  | [], _, h, _, _ => h.elim
  | _, [], _, h, _ => h.elim
  | [x], [y], _, _, e => by cases e; rfl
  | [x], y :: z :: l, h, g, e => by
    cases e
    have h : p x = none := h
    rw [g.1] at h
    cases h
  | x :: z :: l, [y], h, g, e => by
    cases e
    have g : p x = none := g
    rw [h.1] at g
    cases g
  | x :: z :: l, y :: u :: m, h, g, e => by
    cases e
    have e2 := h.1.symm.trans g.1
    cases e2
    rw [UpP.same (P := z :: l) (Q := z :: m) h.2 g.2 rfl]
theorem UpP.suf {p : Str → Option Str} : ∀ {U : List Str} {x : Str} {S : List Str}, UpP p (U ++ x :: S) → UpP p (x :: S)
  | [], _, _, h => h
  | [u], x, S, h => h.2
  | u :: v :: U, x, S, h => UpP.suf (U := v :: U) h.2
theorem UpP.ch {p : Str → Option Str} : ∀ {l : List Str}, UpP p l → ChP p l
  | [], _ => trivial
  | [_], _ => trivial
  | x :: y :: l, h => ⟨.inl h.1, UpP.ch (l := y :: l) h.2⟩
theorem UpP.low {p : Str → Option Str} {r : Str → Nat} (par : ∀ h g, p h = some g → r g < r h) : ∀ {x : Str} {l : List Str}, UpP p (x :: l) → ∀ z ∈ l, r z < r x
  | x, [], _, z, hz => by cases hz
  | x, y :: l, h, z, hz => by
    have l1 := par _ _ h.1
    rcases List.mem_cons.mp hz with q | q
    · rw [q]; exact l1
    · exact Nat.lt_trans (UpP.low par h.2 z q) l1
theorem UpP.nd {p : Str → Option Str} {r : Str → Nat} (par : ∀ h g, p h = some g → r g < r h) : ∀ {l : List Str}, UpP p l → l.Nodup
  | [], h => h.elim
  | [_], _ => by simp
  | x :: y :: l, h => List.nodup_cons.mpr ⟨fun m => Nat.lt_irrefl _ (UpP.low par h x m), UpP.nd par (l := y :: l) h.2⟩
theorem ChP.pre {p : Str → Option Str} : ∀ {l m : List Str}, ChP p (l ++ m) → ChP p l
  | [], _, _ => trivial
  | [_], _, _ => trivial
  | x :: y :: l, m, h => ⟨h.1, ChP.pre (l := y :: l) h.2⟩
theorem ChP.glue {p : Str → Option Str} : ∀ {l : List Str} {x : Str} {m : List Str}, ChP p (l ++ [x]) → ChP p (x :: m) → ChP p (l ++ x :: m)
  | [], _, _, _, g => g
  | [y], x, m, h, g => ⟨h.1, g⟩
  | y :: z :: l, x, m, h, g => ⟨h.1, ChP.glue (l := z :: l) h.2 g⟩
/-- both ways up, cut where they come together, are the way -/
theorem up_pth {p : Str → Option Str} {r : Str → Nat} (par : ∀ h g, p h = some g → r g < r h) {a b m : Str} {A B rest : List Str} (ha : UpP p (A ++ m :: rest)) (hb : UpP p (B ++ m :: rest)) (fa : (A ++ [m]).head? = some a) (fb : (B ++ [m]).head? = some b)
    (df : A = [] ∨ A.getLast? ≠ B.getLast?) : PthP p a b (A ++ [m] ++ B.reverse) := by
  have ca : ChP p (A ++ [m]) := ChP.pre (m := rest) (by have := ha.ch; rw [show A ++ m :: rest = A ++ [m] ++ rest by simp] at this; exact this)
  have cb : ChP p (B ++ [m]) := ChP.pre (m := rest) (by have := hb.ch; rw [show B ++ m :: rest = B ++ [m] ++ rest by simp] at this; exact this)
  have cb2 : ChP p (m :: B.reverse) := by
    have := cb.reverse
    rw [List.reverse_append] at this
    exact this
  have na := UpP.nd par ha
  have nb := UpP.nd par hb
  rw [List.nodup_append] at na nb
  have dis : ∀ x ∈ A, x ∉ B := fun x xa xb => by
    obtain ⟨U, S, rfl⟩ := List.append_of_mem xa
    obtain ⟨V, R, rfl⟩ := List.append_of_mem xb
    have h1 : UpP p (x :: (S ++ m :: rest)) := UpP.suf (U := U) (by have := ha; rw [List.append_assoc] at this; exact this)
    have h2 : UpP p (x :: (R ++ m :: rest)) := UpP.suf (U := V) (by have := hb; rw [List.append_assoc] at this; exact this)
    have e := UpP.same h1 h2 rfl
    have e2 : S ++ m :: rest = R ++ m :: rest := (List.cons.inj e).2
    have e3 := List.append_cancel_right e2
    subst e3
    rcases df with d | d
    · have := congrArg List.length d
      simp at this
    · exact d (by rw [List.getLast?_append, List.getLast?_append, List.getLast?_cons]; rfl)
  refine ⟨?_, ?_, ?_, ?_⟩
  · rw [List.append_assoc]
    exact ca.glue cb2
  · rw [List.append_assoc, List.nodup_append]
    refine ⟨na.1, ?_, fun x xa y hy e => ?_⟩
    · show (m :: B.reverse).Nodup
      rw [List.nodup_cons]
      refine ⟨fun z => ?_, (List.reverse_perm _).nodup_iff.mpr nb.1⟩
      exact nb.2.2 m (List.mem_reverse.mp z) m List.mem_cons_self rfl
    · rw [← e] at hy
      rcases List.mem_cons.mp (show x ∈ m :: B.reverse from hy) with q | q
      · exact na.2.2 x xa m List.mem_cons_self q
      · exact dis x xa (List.mem_reverse.mp q)
  · cases A with
    | nil => exact fa
    | cons x A => exact fa
  · cases B with
    | nil =>
      cases fb
      rw [List.reverse_nil, List.append_nil, List.getLast?_append]
      rfl
    | cons x B =>
      cases fb
      rw [List.reverse_cons, ← List.append_assoc, List.getLast?_append]
      rfl

end Lw

namespace Lw
open PySem PySem.Spec PyProof.Rows L2 GxR Gx
/-! ### by how few hearings, without a heap -/
theorem up_ex {p : Str → Option Str} {r : Str → Nat} (par : ∀ h g, p h = some g → r g < r h) (S : Str → Prop) (cl : ∀ x, S x → ∀ g, p x = some g → S g) : ∀ (n : Nat) (x : Str), r x ≤ n → S x → ∃ l, UpP p (x :: l) ∧ ∀ z ∈ x :: l, S z := fun n => by
  induction n with
  | zero =>
    intro x hx s
    cases e : p x with
    | none => exact ⟨[], e, fun z hz => by rw [List.mem_singleton.mp hz]; exact s⟩
    | some g => have := par x g e; omega
  | succ n ih =>
    intro x hx s
    cases e : p x with
    | none => exact ⟨[], e, fun z hz => by rw [List.mem_singleton.mp hz]; exact s⟩
    | some g =>
      obtain ⟨l, h1, h2⟩ := ih g (by have := par x g e; omega) (cl x s g e)
      refine ⟨g :: l, ⟨e, h1⟩, fun z hz => ?_⟩
      rcases List.mem_cons.mp hz with q | q
      · rw [q]; exact s
      · exact h2 z q
theorem up_last {p : Str → Option Str} : ∀ {l : List Str}, UpP p l → ∃ m t, l = m ++ [t] ∧ p t = none
  | [], h => h.elim
  | [x], h => ⟨[], x, rfl, h⟩
  | x :: y :: l, h => by
    obtain ⟨m, t, e, ht⟩ := up_last (l := y :: l) h.2
    exact ⟨x :: m, t, by rw [e]; rfl, ht⟩
theorem meet_ex {α : Type} [DecidableEq α] : ∀ (n : Nat) (A B rest : List α) (m : α), A.length ≤ n → ∃ A' B' m' rest', A ++ m :: rest = A' ++ m' :: rest' ∧ B ++ m :: rest = B' ++ m' :: rest' ∧ (A' = [] ∨ A'.getLast? ≠ B'.getLast?)
  | 0, A, B, rest, m, h => ⟨A, B, m, rest, rfl, rfl, .inl (List.eq_nil_of_length_eq_zero (Nat.le_zero.mp h))⟩
  | n + 1, A, B, rest, m, h => by
    by_cases e : A = []
    · exact ⟨A, B, m, rest, rfl, rfl, .inl e⟩
    · by_cases d : A.getLast? = B.getLast?
      · have eA := List.dropLast_concat_getLast e
        have hb : B ≠ [] := fun z => by
          rw [z, List.getLast?_eq_some_getLast e] at d
          cases d
        have eB := List.dropLast_concat_getLast hb
        rw [List.getLast?_eq_some_getLast e, List.getLast?_eq_some_getLast hb] at d
        have d2 := Option.some.inj d
        obtain ⟨A', B', m', rest', h1, h2, h3⟩ := meet_ex n A.dropLast B.dropLast (m :: rest) (A.getLast e) (by rw [List.length_dropLast]; omega)
        refine ⟨A', B', m', rest', ?_, ?_, h3⟩
        · rw [← h1]
          conv => lhs; rw [← eA]
          rw [List.append_assoc]
          rfl
        · rw [← h2, d2]
          conv => lhs; rw [← eB]
          rw [List.append_assoc]
          rfl
      · exact ⟨A, B, m, rest, rfl, rfl, .inr d⟩
/-- a way between two of a set that goes up to one root within itself -/
theorem path_in {p : Str → Option Str} {r : Str → Nat} (par : ∀ h g, p h = some g → r g < r h) (S : Str → Prop) (cl : ∀ x, S x → ∀ g, p x = some g → S g) {t : Str} (root : ∀ x, S x → p x = none → x = t) {a b : Str} (sa : S a) (sb : S b) : ∃ Z, PthP p a b Z ∧ ∀ z ∈ Z, S z := by
  obtain ⟨l, h1, h2⟩ := up_ex par S cl (r a) a (Nat.le_refl _) sa
  obtain ⟨k, g1, g2⟩ := up_ex par S cl (r b) b (Nat.le_refl _) sb
  obtain ⟨m, u, e1, hu⟩ := up_last h1
  obtain ⟨n, v, e2, hv⟩ := up_last g1
  have eu : u = t := root u (h2 u (by rw [e1]; simp)) hu
  have ev : v = t := root v (g2 v (by rw [e2]; simp)) hv
  subst eu
  subst ev
  obtain ⟨A, B, w, rest, f1, f2, f3⟩ := meet_ex m.length m n [] v (Nat.le_refl _)
  have ha : UpP p (A ++ w :: rest) := by rw [← f1, ← e1]; exact h1
  have hb : UpP p (B ++ w :: rest) := by rw [← f2, ← e2]; exact g1
  have hd : ∀ {C : List Str} {x : Str} {l : List Str}, x :: l = C ++ w :: rest → (C ++ [w]).head? = some x := fun {C x l} e => by
    cases C with
    | nil => cases e; rfl
    | cons y C => cases e; rfl
  refine ⟨_, up_pth par ha hb (hd (e1.trans f1)) (hd (e2.trans f2)) f3, fun z hz => ?_⟩
  rcases List.mem_append.mp hz with hz | hz
  · exact h2 z (by
      rw [e1, f1]
      rcases List.mem_append.mp hz with q | q
      · exact List.mem_append_left _ q
      · rw [List.mem_singleton.mp q]; simp)
  · exact g2 z (by rw [e2, f2]; exact List.mem_append_left _ (List.mem_reverse.mp hz))
/-- further: where each hand has one it came beside lanes run, one is the first, a mouth has its word, and what was heard on a lane is in the book -/
structure Tok (N : Nst) (p : Str → Option Str) : Prop where
  back : ∀ h g, p h = some g → (h, g) ∈ N.keys
  root : ∃ t, ∀ h ∈ N.hands, p h = none → h = t
  mou : ∀ m ∈ N.mouths, hasN N m.2 m.1
  hrd : ∀ k ∈ N.keys, ∀ w ∈ (N.sent k).take (N.heard k), hasN N k.2 w
theorem has_more {N : Nst} {o w : Str} {src : Option Str} {h v : Str} (y : hasN N h v) : hasN (writeN N o w src) h v := by
  unfold hasN writeN at *
  show v ∈ (at_ N.book o (putN (N.book o) w (N.book o).length) h).map Prod.fst
  by_cases c : h = o
  · rw [c] at y ⊢
    rw [at_same]
    by_cases d : w ∈ (N.book o).map Prod.fst
    · have : (putN (N.book o) w (N.book o).length).map Prod.fst = (N.book o).map Prod.fst := by
        unfold putN
        split
        · rw [List.map_map]
          refine List.map_congr_left fun x _ => ?_
          show (if x.1 = w then (x.1, (N.book o).length) else x).1 = x.1
          split <;> rfl
        · rename_i z
          exfalso
          obtain ⟨x, hx, e⟩ := List.mem_map.mp d
          exact z (List.any_eq_true.mpr ⟨x, hx, decide_eq_true e⟩)
      rw [this]; exact y
    · rw [putN_new d, List.map_append]
      exact List.mem_append_left _ y
  · rw [at_ne _ _ c]; exact y
theorem tok_new (x : Str) : Tok (newN x) (fun _ => none) := ⟨(fun _ _ e => by cases e), ⟨x, fun h hh _ => List.mem_singleton.mp hh⟩, (fun _ h => by cases h), (fun _ h => by cases h)⟩
theorem tok_join {N : Nst} {T : Nat} (ok : Nok N T) {p : Str → Option Str} (W : Tok N p) {x h : Str} (hh : h ∈ N.hands) (new : x ∉ N.hands) (pn : ∀ y g, p y = some g → y ∈ N.hands ∧ g ∈ N.hands) : Tok (joinN N x h) (at_ p x (some h)) := by
  have xh : x ≠ h := fun z => new (by rw [z]; exact hh)
  have knn : (h, x) ≠ (x, h) := fun z => by injection z with z1 z2; exact xh z2
  have nx : ∀ {y : Str}, y ∈ N.hands → y ≠ x := fun hy z => new (by rw [← z]; exact hy)
  have hs : ∀ {y w : Str}, y ≠ x → hasN N y w → hasN (joinN N x h) y w := fun {y w} c z => by
    show w ∈ (at_ N.book x [] y).map Prod.fst
    rw [at_ne _ _ c]
    exact z
  refine ⟨fun y g e => ?_, ?_, fun m hm => hs (nx (ok.mnm m hm).2) (W.mou m hm), fun k hk w hw => ?_⟩
  · by_cases c : y = x
    · rw [c, at_same] at e
      cases e
      rw [c]
      exact List.mem_append_right _ (by simp)
    · rw [at_ne _ _ c] at e
      exact List.mem_append_left _ (W.back y g e)
  · obtain ⟨t, ht⟩ := W.root
    refine ⟨t, fun y hy e => ?_⟩
    by_cases c : y = x
    · rw [c, at_same] at e; cases e
    · rw [at_ne _ _ c] at e
      exact ht y ((List.mem_append.mp hy).resolve_right fun z => c (List.mem_singleton.mp z)) e
  · replace hw : w ∈ (at_ (at_ N.sent (h, x) ((N.book h).map Prod.fst)) (x, h) [] k).take (at_ (at_ N.heard (h, x) 0) (x, h) 0 k) := hw
    rcases List.mem_append.mp (show k ∈ N.keys ++ [(h, x), (x, h)] from hk) with q | q
    · have o1 : k ≠ (h, x) := fun z => new (by have := (ok.kin _ q).2; rw [z] at this; exact this)
      have o2 : k ≠ (x, h) := fun z => new (by have := (ok.kin _ q).1; rw [z] at this; exact this)
      rw [at_ne _ _ o2, at_ne _ _ o1, at_ne _ _ o2, at_ne _ _ o1] at hw
      exact hs (nx (ok.kin _ q).2) (W.hrd k q w hw)
    · rcases List.mem_cons.mp q with e | e
      · rw [e, at_ne _ _ knn, at_same, at_ne _ _ knn, at_same, List.take_zero] at hw
        cases hw
      · rw [List.mem_singleton.mp e, at_same, at_same, List.take_zero] at hw
        cases hw
theorem tok_write {N : Nst} {T : Nat} (ok : Nok N T) {p : Str → Option Str} (nnd : ∀ h ∈ N.hands, (N.near h).Nodup) {o w : Str} {src : Option Str} (ho : o ∈ N.hands) (back : ∀ h g, p h = some g → (h, g) ∈ N.keys) (root : ∃ t, ∀ h ∈ N.hands, p h = none → h = t)
    (mou : ∀ m ∈ N.mouths, hasN N m.2 m.1 ∨ (m.2 = o ∧ m.1 = w)) (hrd : ∀ k ∈ N.keys, ∀ v ∈ (N.sent k).take (N.heard k), hasN N k.2 v ∨ (k.2 = o ∧ v = w)) (n : ¬ hasN N o w) : Tok (writeN N o w src) p := by
  refine ⟨back, root, fun m hm => (has_write n _ _).mpr (mou m hm), fun k hk v hv => (has_write n _ _).mpr (hrd k hk v ?_)⟩
  replace hv : v ∈ (layN N.sent o w src (N.near o) k).take (N.heard k) := hv
  rw [layN_at _ _ _ _ (nnd o ho), List.take_append_of_le_length (ok.sen k hk).2.1] at hv
  exact hv
theorem tok_shout {N : Nst} {T : Nat} {p : Str → Option Str} {r : Str → Nat} (W : Wok N p r) (K : Tok N p) {h x : Str} (hh : h ∈ N.hands) (new : x ∉ N.mouths.map Prod.fst) (ok2 : Nok { N with mouths := N.mouths ++ [(x, h)] } T) : Tok (shoutN N h x) p :=
  tok_write (N := { N with mouths := N.mouths ++ [(x, h)] }) ok2 W.nnd hh K.back K.root (fun m hm => (List.mem_append.mp hm).imp (K.mou m) fun z => by rw [List.mem_singleton.mp z]; exact ⟨rfl, rfl⟩) (fun k hk v hv => .inl (K.hrd k hk v hv)) (fun z => new (W.bm h hh x z))
theorem tok_hear {N : Nst} {T : Nat} (ok : Nok N T) {p : Str → Option Str} {r : Str → Nat} (W : Wok N p r) (K : Tok N p) {h o : Str} (hk : (h, o) ∈ N.keys) (lt : N.heard (h, o) < (N.sent (h, o)).length) : Tok (hearN N h o) p := by
  obtain ⟨w, el, nh, en, _⟩ := wok_hear ok W hk lt (nok_tick ok lt)
  rw [en]
  refine tok_write (N := { N with heard := at_ N.heard (h, o) (N.heard (h, o) + 1) }) (nok_tick ok lt) W.nnd (ok.kin _ hk).2 K.back K.root (fun m hm => .inl (K.mou m hm)) (fun k hk2 v hv => ?_) nh
  replace hv : v ∈ (N.sent k).take (at_ N.heard (h, o) (N.heard (h, o) + 1) k) := hv
  by_cases c : k = (h, o)
  · subst c
    rw [at_same, List.take_add_one, List.mem_append] at hv
    rcases hv with hv | hv
    · exact .inl (K.hrd _ hk v hv)
    · have e : (N.sent (h, o))[N.heard (h, o)]? = some w := by
        have : laneN N (h, o) = (N.sent (h, o)).drop (N.heard (h, o)) := by unfold laneN; rw [if_pos hk]
        rw [this] at el
        have := congrArg List.head? el
        rw [List.head?_drop] at this
        exact this
      rw [e] at hv
      exact .inr ⟨rfl, by simpa using hv⟩
  · rw [at_ne _ _ c] at hv
    exact .inl (K.hrd k hk2 v hv)
/-- on the way from a hand that has a word those that have it stand ahead -/
theorem have_pre {N : Nst} {T : Nat} (ok : Nok N T) {p : Str → Option Str} {r : Str → Nat} (W : Wok N p r) (K : Tok N p) {w m b : Str} {Y : List Str} (h : PthP p m b Y) (yh : ∀ y ∈ Y, y ∈ N.hands) (hm : hasN N m w) {i j : Nat} (ij : i ≤ j) {y z : Str} (hi : Y[i]? = some y) (hj : Y[j]? = some z) (hz : hasN N z w) : hasN N y w := by
  have ym : ∀ {k : Nat} {x : Str}, Y[k]? = some x → x ∈ N.hands := fun e => yh _ (List.mem_of_getElem? e)
  have mh : m ∈ N.hands := yh m (List.mem_of_mem_head? h.fst)
  obtain ⟨t, tm, th, tt⟩ := W.top w (W.bm m mh w hm)
  obtain ⟨q, hq⟩ : ∃ q : Str → Option Str, q = fun x => if x = t then none else p x := ⟨_, rfl⟩
  have qp : ∀ x g, q x = some g → x ≠ t ∧ p x = some g := fun x g e => by
    rw [hq] at e
    have e : (if x = t then none else p x) = some g := e
    by_cases c : x = t
    · rw [if_pos c] at e; cases e
    · rw [if_neg c] at e; exact ⟨c, e⟩
  have parq : ∀ x g, q x = some g → r g < r x := fun x g e => W.par x g (qp x g e).2
  obtain ⟨Z, hZ, sZ⟩ := path_in parq (fun x => x ∈ N.hands ∧ hasN N x w) (fun x sx g e => by
    obtain ⟨c, e2⟩ := qp x g e
    obtain ⟨g', e3, hg, _⟩ := tt x sx.1 sx.2 c
    rw [e2] at e3
    cases e3
    exact ⟨(ok.kin _ (K.back x g e2)).2, hg⟩) (t := t) (fun x sx e => Classical.byContradiction fun c => by
    obtain ⟨g', e3, _, _⟩ := tt x sx.1 sx.2 c
    rw [hq] at e
    have e : (if x = t then none else p x) = none := e
    rw [if_neg c, e3] at e
    cases e) ⟨mh, hm⟩ ⟨ym hj, hz⟩
  have chq : ∀ {l : List Str}, ChP q l → ChP p l := fun {l} => by
    induction l with
    | nil => exact fun _ => trivial
    | cons x l ih =>
      cases l with
      | nil => exact fun _ => trivial
      | cons y l => exact fun g => ⟨g.1.imp (fun e => (qp _ _ e).2) (fun e => (qp _ _ e).2), ih g.2⟩
  have hY : PthP p m z (Y.take (j + 1)) := by
    have jl := (List.getElem?_eq_some_iff.mp hj).1
    refine ⟨ChP.pre (m := Y.drop (j + 1)) (by rw [List.take_append_drop]; exact h.ch), h.nd.sublist (List.take_sublist _ _), by rw [List.head?_take]; exact h.fst, ?_⟩
    rw [List.take_add_one, hj]
    simp
  have e := pth_one W.par _ (Nat.le_refl _) hY ⟨chq hZ.ch, hZ.nd, hZ.fst, hZ.lst⟩
  have : y ∈ Y.take (j + 1) := List.mem_of_getElem? (i := i) (by rw [List.getElem?_take, if_pos (by omega)]; exact hi)
  rw [e] at this
  exact (sZ y this).2

end Lw

namespace Lw
open PySem PySem.Spec PyProof.Rows L2 GxR Gx
/-! ### how the number changes by a hearing -/
def hasB (N : Nst) (w h : Str) : Bool := decide (w ∈ (N.book h).map Prod.fst)
theorem hasB_iff {N : Nst} {w h : Str} : hasB N w h = true ↔ hasN N h w := decide_eq_true_iff
theorem pre_count {α : Type} (q : α → Bool) : ∀ (l : List α), (∀ (i j : Nat) x y, i ≤ j → l[i]? = some x → l[j]? = some y → q y = true → q x = true) → ∀ (i : Nat) x, l[i]? = some x → (q x = true ↔ i < (l.filter q).length)
  | [], _, i, x, h => by cases h
  | a :: l, pre, i, x, h => by
    have ih := pre_count q l (fun i j x y ij hx hy => pre (i + 1) (j + 1) x y (by omega) hx hy)
    cases ha : q a with
    | true =>
      rw [List.filter_cons_of_pos ha, List.length_cons]
      cases i with
      | zero =>
        cases h
        exact ⟨fun _ => Nat.succ_pos _, fun _ => ha⟩
      | succ i =>
        rw [ih i x h]
        omega
    | false =>
      have none : ∀ (j : Nat) y, (a :: l)[j]? = some y → q y = false := fun j y hy => by
        cases hq : q y with
        | false => rfl
        | true => have := pre 0 j a y (Nat.zero_le _) rfl hy hq; rw [ha] at this; cases this
      have e : (a :: l).filter q = [] := List.filter_eq_nil_iff.mpr fun y hy => by
        obtain ⟨j, hj⟩ := List.mem_iff_getElem?.mp hy
        rw [none j y hj]; exact Bool.false_ne_true
      rw [e, none i x h]
      exact ⟨fun z => (by cases z), fun z => absurd z (Nat.not_lt_zero _)⟩
def ixS (w : Str) : List Str → Nat
  | [] => 0
  | x :: l => if x = w then 0 else ixS w l + 1
theorem ixS_app {w : Str} : ∀ {l : List Str} (m : List Str), w ∈ l → ixS w (l ++ m) = ixS w l
  | [], _, h => by cases h
  | x :: l, m, h => by
    show (if x = w then 0 else ixS w (l ++ m) + 1) = if x = w then 0 else ixS w l + 1
    by_cases c : x = w
    · rw [if_pos c, if_pos c]
    · rw [if_neg c, if_neg c, ixS_app m ((List.mem_cons.mp h).resolve_left (Ne.symm c))]
theorem ixS_new {w : Str} : ∀ {l : List Str} (m : List Str), w ∉ l → ixS w (l ++ m) = l.length + ixS w m
  | [], m, _ => by rw [List.nil_append, List.length_nil, Nat.zero_add]
  | x :: l, m, h => by
    obtain ⟨h1, h2⟩ : w ≠ x ∧ w ∉ l := by simpa using h
    show (if x = w then 0 else ixS w (l ++ m) + 1) = _
    rw [if_neg (Ne.symm h1), ixS_new m h2, List.length_cons]
    omega
theorem ixS_lt {w : Str} : ∀ {l : List Str}, w ∈ l → ixS w l < l.length
  | [], h => by cases h
  | x :: l, h => by
    show (if x = w then 0 else ixS w l + 1) < l.length + 1
    by_cases c : x = w
    · rw [if_pos c]; omega
    · rw [if_neg c]
      have := ixS_lt ((List.mem_cons.mp h).resolve_left (Ne.symm c))
      omega
theorem ixS_at {w : Str} : ∀ {l : List Str}, w ∈ l → l[ixS w l]? = some w ∧ ∀ (m : Nat) z, m < ixS w l → l[m]? = some z → z ≠ w
  | [], h => by cases h
  | x :: l, h => by
    by_cases c : x = w
    · have e : ixS w (x :: l) = 0 := by show (if x = w then 0 else ixS w l + 1) = 0; rw [if_pos c]
      rw [e]
      exact ⟨by rw [c]; rfl, fun m z hm => absurd hm (Nat.not_lt_zero _)⟩
    · have e : ixS w (x :: l) = ixS w l + 1 := by show (if x = w then 0 else ixS w l + 1) = _; rw [if_neg c]
      obtain ⟨h1, h2⟩ := ixS_at ((List.mem_cons.mp h).resolve_left (Ne.symm c))
      rw [e]
      refine ⟨h1, fun m z hm hz => ?_⟩
      cases m with
      | zero => cases hz; exact c
      | succ m => exact h2 m z (by omega) hz
def sumT (f : Nat → Nat) : Nat → Nat
  | 0 => 0
  | n + 1 => sumT f n + f n
theorem sumT_le {f g : Nat → Nat} : ∀ {n : Nat}, (∀ i < n, f i ≤ g i) → sumT f n ≤ sumT g n
  | 0, _ => Nat.le_refl _
  | n + 1, h => Nat.add_le_add (sumT_le fun i hi => h i (by omega)) (h n (by omega))
theorem sumT_eq {f g : Nat → Nat} : ∀ {n : Nat}, (∀ i < n, f i = g i) → sumT f n = sumT g n
  | 0, _ => rfl
  | n + 1, h => by rw [sumT, sumT, sumT_eq fun i hi => h i (by omega), h n (by omega)]
theorem sumT_less {f g : Nat → Nat} {i0 : Nat} : ∀ {n : Nat}, i0 < n → (∀ i < n, i ≠ i0 → g i = f i) → g i0 + 1 = f i0 → sumT g n + 1 = sumT f n
  | 0, h, _, _ => absurd h (Nat.not_lt_zero _)
  | n + 1, h, h1, h2 => by
    rw [sumT, sumT]
    by_cases c : i0 = n
    · rw [sumT_eq (f := g) (g := f) fun i hi => h1 i (by omega) (by omega), ← c]
      omega
    · have := sumT_less (n := n) (by omega) (fun i hi => h1 i (by omega)) h2
      have := h1 n (by omega) (Ne.symm c)
      omega
theorem sumT_bump {f g : Nat → Nat} {i0 : Nat} {n : Nat} (h1 : ∀ i < n, i ≠ i0 → i ≠ i0 + 1 → g i = f i) (h2 : i0 < n → g i0 + 1 = f i0) (h3 : i0 + 1 < n → g (i0 + 1) = f (i0 + 1) + 1) : ∀ k ≤ n, sumT g k + (if k = i0 + 1 then 1 else 0) = sumT f k
  | 0, _ => by rw [if_neg (by omega)]; rfl
  | k + 1, hk => by
    have ih := sumT_bump h1 h2 h3 k (by omega)
    rw [sumT, sumT]
    by_cases c : k = i0
    · subst c
      rw [if_neg (by omega)] at ih
      rw [if_pos rfl]
      have := h2 (by omega)
      omega
    · by_cases d : k = i0 + 1
      · subst d
        rw [if_pos rfl] at ih
        rw [if_neg (by omega)]
        have := h3 (by omega)
        omega
      · rw [if_neg d] at ih
        rw [if_neg (by omega)]
        have := h1 k (by omega) c d
        omega
theorem sumT_shift (f : Nat → Nat) : ∀ n, sumT f (n + 1) = f 0 + sumT (fun i => f (i + 1)) n
  | 0 => by show 0 + f 0 = f 0 + 0; omega
  | n + 1 => by
    rw [sumT, sumT_shift f n, sumT]
    omega
def hvN (N : Nst) (w : Str) (Y : List Str) : Nat := (Y.filter (hasB N w)).length
def lnY (Y : List Str) (i : Nat) : Str × Str := (Y.getD i "", Y.getD (i + 1) "")
/-- of each lane that counts: the place of the word, how many lie -/
def dueA (N : Nst) (w : Str) (Y : List Str) (c j : Nat) : Nat := if j = 0 then ixS w (laneN N (lnY Y (c - 1))) + 1 else (laneN N (lnY Y (c - 1 + j))).length
def dueM (N : Nst) (w : Str) (Y : List Str) (c i : Nat) : Nat := sumT (dueA N w Y c) (i + 1)
def dueT (N : Nst) (w : Str) (Y : List Str) (c : Nat) : Nat := sumT (dueM N w Y c) (Y.length - c)
theorem lane_hear {N : Nst} {T : Nat} (ok : Nok N T) {p : Str → Option Str} {r : Str → Nat} (W : Wok N p r) {h o : Str} (hk : (h, o) ∈ N.keys) (lt : N.heard (h, o) < (N.sent (h, o)).length) : ∃ v rest, laneN N (h, o) = v :: rest ∧ ¬ hasN N o v ∧ (∀ g x, hasN (hearN N h o) g x ↔ hasN N g x ∨ (g = o ∧ x = v)) ∧ Wok (hearN N h o) p r ∧
    ∀ k ∈ N.keys, laneN (hearN N h o) k = (if k = (h, o) then rest else laneN N k) ++ (if k.1 = o ∧ k.2 ≠ h then [v] else []) := by
  have ok2 := nok_tick ok lt
  obtain ⟨v, el, nh, en, W2⟩ := wok_hear ok W hk lt ok2
  refine ⟨v, _, el, nh, fun g x => by rw [en]; exact has_write (N := { N with heard := at_ N.heard (h, o) (N.heard (h, o) + 1) }) (src := some h) nh g x, W2, fun k hk2 => ?_⟩
  rw [en, lane_write ok2 (ok.kin _ hk).2 (W.nnd _ (ok.kin _ hk).2) W.nall hk2]
  have e1 : laneN { N with heard := at_ N.heard (h, o) (N.heard (h, o) + 1) } k = if k = (h, o) then (N.sent (h, o)).drop (N.heard (h, o) + 1) else laneN N k := by
    unfold laneN
    show (if k ∈ N.keys then (N.sent k).drop (at_ N.heard (h, o) (N.heard (h, o) + 1) k) else []) = _
    rw [if_pos hk2, if_pos hk2]
    by_cases c : k = (h, o)
    · rw [c, at_same, if_pos rfl]
    · rw [at_ne _ _ c, if_neg c]
  rw [e1]
  refine congrArg _ (ifC ?_ _ _)
  exact ⟨fun z => ⟨z.1, fun y => z.2 (by rw [y])⟩, fun z => ⟨z.1, fun y => z.2 (Option.some.inj y)⟩⟩
/-- a way from a word's mouth to a hand -/
structure WayN (N : Nst) (p : Str → Option Str) (w : Str) (b : Str) (Y : List Str) : Prop where
  pth : ∃ m, (w, m) ∈ N.mouths ∧ PthP p m b Y
  yh : ∀ y ∈ Y, y ∈ N.hands
theorem WayN.has {N : Nst} {T : Nat} (ok : Nok N T) {p : Str → Option Str} {r : Str → Nat} (W : Wok N p r) (K : Tok N p) {w b : Str} {Y : List Str} (h : WayN N p w b Y) : (∀ (i : Nat) y, Y[i]? = some y → (hasN N y w ↔ i < hvN N w Y)) ∧ 1 ≤ hvN N w Y ∧ hvN N w Y ≤ Y.length := by
  obtain ⟨m, mm, pt⟩ := h.pth
  have hm : hasN N m w := K.mou _ mm
  have key := pre_count (hasB N w) Y (fun i j x y ij hx hy hq => hasB_iff.mpr (have_pre ok W K pt h.yh hm ij hx hy (hasB_iff.mp hq)))
  have key2 : ∀ (i : Nat) y, Y[i]? = some y → (hasN N y w ↔ i < hvN N w Y) := fun i y hy => by rw [← hasB_iff]; exact key i y hy
  refine ⟨key2, ?_, List.length_filter_le _ _⟩
  have h0 : Y[0]? = some m := by rw [← List.head?_eq_getElem?]; exact pt.fst
  exact (key2 0 m h0).mp hm
theorem lnY_key {N : Nst} {T : Nat} (ok : Nok N T) {p : Str → Option Str} {r : Str → Nat} (W : Wok N p r) (K : Tok N p) {Y : List Str} (ch : ChP p Y) {i : Nat} (hi : i + 1 < Y.length) : lnY Y i ∈ N.keys ∧ Y[i]? = some (lnY Y i).1 ∧ Y[i + 1]? = some (lnY Y i).2 := by
  have e1 : Y[i]? = some (Y.getD i "") := by rw [List.getD, List.getElem?_eq_getElem (by omega)]; rfl
  have e2 : Y[i + 1]? = some (Y.getD (i + 1) "") := by rw [List.getD, List.getElem?_eq_getElem hi]; rfl
  refine ⟨?_, e1, e2⟩
  have adj : ∀ (l : List Str) (i : Nat) x y, ChP p l → l[i]? = some x → l[i + 1]? = some y → AdjP p x y := fun l => by
    induction l with
    | nil => intro i x y _ h _; cases h
    | cons a l ih =>
      intro i x y hc hx hy
      cases i with
      | zero =>
        cases l with
        | nil => cases hy
        | cons b l => cases hx; cases hy; exact hc.1
      | succ i => exact ih i x y hc.tail hx hy
  rcases adj Y i _ _ ch e1 e2 with a | a
  · exact K.back _ _ a
  · exact W.sym _ (K.back _ _ a)
theorem nd_get {Y : List Str} (nd : Y.Nodup) {i j : Nat} {x : Str} (hi : Y[i]? = some x) (hj : Y[j]? = some x) : i = j := (List.getElem?_inj (List.getElem?_eq_some_iff.mp hi).1 nd).mp (hi.trans hj.symm)
/-- the number is one less behind a hearing that counts, else no less -/
theorem hear_due {N : Nst} {T : Nat} (ok : Nok N T) {p : Str → Option Str} {r : Str → Nat} (W : Wok N p r) (K : Tok N p) {w b : Str} {Y : List Str} (h : WayN N p w b Y) {k : Str × Str} (hk : k ∈ N.keys) (lt : N.heard k < (N.sent k).length) :
    (∀ i, hvN N w Y - 1 ≤ i → i + 1 < Y.length → k = lnY Y i → dueT (hearN N k.1 k.2) w Y (hvN (hearN N k.1 k.2) w Y) + 1 = dueT N w Y (hvN N w Y)) ∧
    ((∀ i, hvN N w Y - 1 ≤ i → i + 1 < Y.length → k ≠ lnY Y i) → dueT N w Y (hvN N w Y) ≤ dueT (hearN N k.1 k.2) w Y (hvN (hearN N k.1 k.2) w Y)) := by
  obtain ⟨x, y⟩ := k
  obtain ⟨v, rest, el, nv, hs, W1, ln⟩ := lane_hear ok W hk lt
  have K1 := tok_hear ok W K hk lt
  obtain ⟨N1, hN1⟩ : ∃ N1, hearN N x y = N1 := ⟨_, rfl⟩
  have ok1 : Nok N1 (T + 1) := by
    rw [← hN1]
    obtain ⟨v', el', nh', en', _⟩ := wok_hear ok W hk lt (nok_tick ok lt)
    rw [en']
    refine nok_write (nok_tick ok lt) (some x) (ok.kin _ hk).2 ?_
    have : v' ∈ laneN N (x, y) := by rw [el']; exact List.mem_cons_self
    unfold laneN at this
    rw [if_pos hk] at this
    exact List.all_eq_true.mp (ok.sen _ hk).2.2 v' (List.mem_of_mem_drop this)
  have mo1 : N1.mouths = N.mouths := by rw [← hN1]; rfl
  have hd1 : N1.hands = N.hands := by rw [← hN1]; rfl
  show (∀ i, _ → _ → (x, y) = lnY Y i → dueT (hearN N x y) w Y (hvN (hearN N x y) w Y) + 1 = _) ∧ (_ → _ ≤ dueT (hearN N x y) w Y (hvN (hearN N x y) w Y))
  rw [hN1] at hs W1 ln K1 ⊢
  have h1 : WayN N1 p w b Y := ⟨by rw [mo1]; exact h.pth, by rw [hd1]; exact h.yh⟩
  obtain ⟨m, mm, pt⟩ := h.pth
  have nd := pt.nd
  obtain ⟨A1, A2, A3⟩ := h.has ok W K
  obtain ⟨B1, B2, B3⟩ := h1.has ok1 W1 K1
  obtain ⟨c, hc⟩ : ∃ c, hvN N w Y = c := ⟨_, rfl⟩
  obtain ⟨c1, hc1⟩ : ∃ c1, hvN N1 w Y = c1 := ⟨_, rfl⟩
  rw [hc] at A1 A2 A3 ⊢
  rw [hc1] at B1 B2 B3 ⊢
  obtain ⟨n, hn⟩ : ∃ n, Y.length = n := ⟨_, rfl⟩
  have at1 : ∀ i, i < n → ∃ z, Y[i]? = some z := fun i hi => ⟨_, List.getElem?_eq_getElem (by omega)⟩
  have keyL : ∀ i, i + 1 < n → lnY Y i ∈ N.keys ∧ Y[i]? = some (lnY Y i).1 ∧ Y[i + 1]? = some (lnY Y i).2 := fun i hi => lnY_key ok W K pt.ch (by omega)
  have xS : hasN N x v := (W.lin _ hk v (by rw [el]; exact List.mem_cons_self)).1
  -- the count stays, or grows by the one behind
  have cc : (c1 = c ∧ ∀ z, c < n → Y[c]? = some z → ¬ (z = y ∧ v = w)) ∨ (c1 = c + 1 ∧ c < n ∧ Y[c]? = some y ∧ v = w) := by
    obtain ⟨z0, hz0⟩ := at1 (c - 1) (by omega)
    have lo : c - 1 < c1 := (B1 _ _ hz0).mp ((hs _ _).mpr (.inl ((A1 _ _ hz0).mpr (by omega))))
    by_cases cn : c < n
    · obtain ⟨z, hz⟩ := at1 c cn
      by_cases e : z = y ∧ v = w
      · right
        have c2 : c < c1 := (B1 _ _ hz).mp ((hs _ _).mpr (.inr ⟨e.1, e.2.symm⟩))
        refine ⟨?_, cn, by rw [← e.1]; exact hz, e.2⟩
        by_cases cn2 : c + 1 < n
        · obtain ⟨u, hu⟩ := at1 (c + 1) cn2
          have : ¬ c + 1 < c1 := fun g => by
            rcases (hs _ _).mp ((B1 _ _ hu).mpr g) with q | q
            · have := (A1 _ _ hu).mp q; omega
            · have : u = z := q.1.trans e.1.symm
              rw [this] at hu
              have := nd_get nd hz hu
              omega
          omega
        · omega
      · left
        have : ¬ c < c1 := fun g => by
          rcases (hs _ _).mp ((B1 _ _ hz).mpr g) with q | q
          · have := (A1 _ _ hz).mp q; omega
          · exact e ⟨q.1, q.2.symm⟩
        refine ⟨by omega, fun u _ hu => ?_⟩
        rw [hz] at hu
        cases hu
        exact e
    · left
      exact ⟨by omega, fun u hu => absurd hu cn⟩
  -- the lanes of the way
  have lane1 : ∀ i, i + 1 < n → laneN N1 (lnY Y i) = (if lnY Y i = (x, y) then rest else laneN N (lnY Y i)) ++ (if (lnY Y i).1 = y ∧ (lnY Y i).2 ≠ x then [v] else []) := fun i hi => ln _ (keyL i hi).1
  have wIn : c < n → w ∈ laneN N (lnY Y (c - 1)) := fun cn => by
    obtain ⟨k1, k2, k3⟩ := keyL (c - 1) (by omega)
    rw [show c - 1 + 1 = c by omega] at k3
    rcases W.all _ k1 w ((A1 _ _ k2).mpr (by omega)) with q | q
    · have := (A1 _ _ k3).mp q; omega
    · exact q
  have inj : ∀ {i j : Nat}, i + 1 < n → j + 1 < n → lnY Y i = lnY Y j → i = j := fun {i j} hi hj e => by
    have e1 := (keyL i hi).2.1
    have e2 := (keyL j hj).2.1
    rw [e] at e1
    exact nd_get nd e1 e2
  have yAt : ∀ {i : Nat}, i + 1 < n → (x, y) = lnY Y i → Y[i]? = some x ∧ Y[i + 1]? = some y := fun {i} hi e => by
    obtain ⟨_, k2, k3⟩ := keyL i hi
    rw [← e] at k2 k3
    exact ⟨k2, k3⟩
  refine ⟨fun i ci hi e => ?_, fun nc => ?_⟩
  · rw [hn] at hi
    obtain ⟨ex, ey⟩ := yAt hi e
    rcases cc with ⟨e1, e2⟩ | ⟨e1, cn, hcy, vw⟩
    · -- the place moves on
      subst e1
      have i0 : i = c1 - 1 + (i - (c1 - 1)) := by omega
      obtain ⟨i', hi'⟩ : ∃ i', i - (c1 - 1) = i' := ⟨_, rfl⟩
      rw [hi'] at i0
      have bump := sumT_bump (f := dueA N w Y c1) (g := dueA N1 w Y c1) (i0 := i') (n := n - c1) (fun j hj ne1 ne2 => ?_) (fun hj => ?_) (fun hj => ?_)
      · unfold dueT
        rw [hn]
        refine sumT_less (i0 := i') (by omega) (fun j hj ne => ?_) ?_
        · have := bump (j + 1) (by omega)
          rw [if_neg (by omega)] at this
          exact this
        · have := bump (i' + 1) (by omega)
          rw [if_pos rfl] at this
          exact this
      · have lj := lane1 (c1 - 1 + j) (by omega)
        have n1 : lnY Y (c1 - 1 + j) ≠ (x, y) := fun z => ne1 (by have := inj (by omega) hi (z.trans e); omega)
        have n2 : ¬ ((lnY Y (c1 - 1 + j)).1 = y ∧ (lnY Y (c1 - 1 + j)).2 ≠ x) := fun z => by
          have := (keyL (c1 - 1 + j) (by omega)).2.1
          rw [z.1] at this
          have := nd_get nd this ey
          omega
        rw [if_neg n1, if_neg n2, List.append_nil] at lj
        unfold dueA
        by_cases j0 : j = 0
        · subst j0
          rw [Nat.add_zero] at lj
          rw [if_pos rfl, if_pos rfl, lj]
        · rw [if_neg j0, if_neg j0, lj]
      · have lj := lane1 i hi
        have n2 : ¬ ((lnY Y i).1 = y ∧ (lnY Y i).2 ≠ x) := fun z => z.2 (by
          have := (keyL i hi).2.1
          rw [z.1] at this
          have := nd_get nd this ey
          omega)
        rw [if_pos e.symm, if_neg n2, List.append_nil] at lj
        have li : laneN N (lnY Y i) = v :: rest := by rw [← e]; exact el
        unfold dueA
        by_cases j0 : i' = 0
        · have ii : i = c1 - 1 := by omega
          rw [if_pos j0, if_pos j0, ← ii, lj, li]
          have vw : v ≠ w := fun z => e2 y (by omega) (by rw [show c1 = i + 1 by omega]; exact ey) ⟨rfl, z⟩
          show ixS w rest + 1 + 1 = (if v = w then 0 else ixS w rest + 1) + 1
          rw [if_neg vw]
        · rw [if_neg j0, if_neg j0, ← i0, lj, li, List.length_cons]
      · have lj := lane1 (i + 1) (by omega)
        have n1 : lnY Y (i + 1) ≠ (x, y) := fun z => by have := inj (by omega) hi (z.trans e); omega
        have k2 := (keyL (i + 1) (by omega)).2
        have n2 : (lnY Y (i + 1)).1 = y ∧ (lnY Y (i + 1)).2 ≠ x := by
          refine ⟨Option.some.inj (k2.1.symm.trans ey), fun z => ?_⟩
          have k3 := k2.2
          rw [z] at k3
          have := nd_get nd k3 ex
          omega
        rw [if_neg n1, if_pos n2] at lj
        unfold dueA
        rw [if_neg (by omega), if_neg (by omega), show c1 - 1 + (i' + 1) = i + 1 by omega, lj, List.length_append]
        rfl
    · -- the word itself is heard
      subst e1
      have ic : i + 1 = c := nd_get nd ey hcy
      have ci' : c - 1 = i := by omega
      have li : laneN N (lnY Y i) = v :: rest := by rw [← e]; exact el
      have a0 : dueA N w Y c 0 = 1 := by
        unfold dueA
        rw [if_pos rfl, ci', li]
        show (if v = w then 0 else ixS w rest + 1) + 1 = 1
        rw [if_pos vw]
      have step : ∀ j, j + 1 < n - c → sumT (dueA N1 w Y (c + 1)) (j + 1) = sumT (dueA N w Y c) (j + 1 + 1) := fun j hj => by
        have lj := lane1 c (by omega)
        have n1 : lnY Y c ≠ (x, y) := fun z => by have := inj (by omega) hi (z.trans e); omega
        have k2 := (keyL c (by omega)).2
        have n2 : (lnY Y c).1 = y ∧ (lnY Y c).2 ≠ x := by
          refine ⟨Option.some.inj (k2.1.symm.trans hcy), fun z => ?_⟩
          have k3 := k2.2
          rw [z] at k3
          have := nd_get nd k3 ex
          omega
        rw [if_neg n1, if_pos n2, vw] at lj
        have nw : w ∉ laneN N (lnY Y c) := fun z => by
          have := (W.lin _ (keyL c (by omega)).1 w z).1
          have := (A1 _ _ k2.1).mp this
          omega
        have a1 : dueA N1 w Y (c + 1) 0 = dueA N w Y c 0 + dueA N w Y c 1 := by
          rw [a0]
          unfold dueA
          rw [if_pos rfl, if_neg (by omega), show c + 1 - 1 = c by omega, lj, ixS_new _ nw, show c - 1 + 1 = c by omega]
          show (laneN N (lnY Y c)).length + (if w = w then 0 else _) + 1 = _
          rw [if_pos rfl]
          omega
        rw [sumT_shift, sumT_shift, sumT_shift, a1]
        have : sumT (fun i => dueA N1 w Y (c + 1) (i + 1)) j = sumT (fun i => dueA N w Y c (i + 1 + 1)) j := sumT_eq fun t ht => by
          have lt := lane1 (c + (t + 1)) (by omega)
          have n1 : lnY Y (c + (t + 1)) ≠ (x, y) := fun z => by have := inj (by omega) hi (z.trans e); omega
          have n2 : ¬ ((lnY Y (c + (t + 1))).1 = y ∧ (lnY Y (c + (t + 1))).2 ≠ x) := fun z => by
            have := (keyL (c + (t + 1)) (by omega)).2.1
            rw [z.1] at this
            have := nd_get nd this hcy
            omega
          rw [if_neg n1, if_neg n2, List.append_nil] at lt
          unfold dueA
          rw [if_neg (by omega), if_neg (by omega), show c + 1 - 1 + (t + 1) = c + (t + 1) by omega, show c - 1 + (t + 1 + 1) = c + (t + 1) by omega, lt]
        rw [this]
        show dueA N w Y c 0 + dueA N w Y c 1 + _ = dueA N w Y c 0 + (dueA N w Y c 1 + _)
        omega
      unfold dueT
      rw [hn, show n - c = n - (c + 1) + 1 by omega, sumT_shift]
      have : sumT (dueM N1 w Y (c + 1)) (n - (c + 1)) = sumT (fun i => dueM N w Y c (i + 1)) (n - (c + 1)) := sumT_eq fun j hj => by
        unfold dueM
        exact step j (by omega)
      rw [this]
      have m0 : dueM N w Y c 0 = 1 := by
        unfold dueM
        show 0 + dueA N w Y c 0 = 1
        rw [a0]
      omega
  · rcases cc with ⟨e1, e2⟩ | ⟨e1, cn, hcy, vw⟩
    · subst e1
      unfold dueT
      refine sumT_le fun i hi => ?_
      unfold dueM
      refine sumT_le fun j hj => ?_
      rw [hn] at hi
      have lj := lane1 (c1 - 1 + j) (by omega)
      have n1 : lnY Y (c1 - 1 + j) ≠ (x, y) := fun z => nc (c1 - 1 + j) (by omega) (by omega) z.symm
      rw [if_neg n1] at lj
      unfold dueA
      by_cases j0 : j = 0
      · subst j0
        rw [Nat.add_zero] at lj
        rw [if_pos rfl, if_pos rfl, lj, ixS_app _ (wIn (by omega))]
        exact Nat.le_refl _
      · rw [if_neg j0, if_neg j0, lj, List.length_append]
        omega
    · exfalso
      obtain ⟨k1, k2, k3⟩ := keyL (c - 1) (by omega)
      rw [show c - 1 + 1 = c by omega] at k3
      have ey2 := Option.some.inj (k3.symm.trans hcy)
      have hx : hasN N (lnY Y (c - 1)).1 w := (A1 _ _ k2).mpr (by omega)
      rw [vw] at xS nv
      have k1' : ((lnY Y (c - 1)).1, y) ∈ N.keys := by rw [← ey2]; exact k1
      have ex := one_near ok W hk k1' nv xS hx
      exact nc (c - 1) (Nat.le_refl _) (by omega) (Prod.ext ex.symm ey2.symm)

end Lw

namespace Lw
open PySem PySem.Spec PyProof.Rows L2 GxR Gx
section
variable {K : PySem.W.Frag} {C : Addr}
/-! ### texts as data -/
theorem nm_ok {x : Str} (h : isNm x = true) : PyData.strOk x = true := by
  unfold isNm at h
  rw [Bool.and_eq_true, Bool.and_eq_true] at h
  unfold PyData.strOk
  rw [← Array.all_toList, List.all_eq_true]
  intro c hc
  have h1 := List.all_eq_true.mp h.2 c hc
  unfold nameC at h1
  rw [Bool.and_eq_true, decide_eq_true_iff, decide_eq_true_iff] at h1
  exact decide_eq_true (by omega)
theorem lay_strs {zs : List Str} (h : ∀ z ∈ zs, isNm z = true) : (PyData.list (zs.map PyData.str)).canLay0 = true := by
  rw [PyData.canLay0]
  induction zs with
  | nil => rfl
  | cons z zs ih =>
    rw [List.map_cons, PyData.canLayAll0, ih fun y hy => h y (List.mem_cons_of_mem _ hy)]
    have := nm_ok (h z List.mem_cons_self)
    show (PyData.canLay0 (.str z) && true) = true
    rw [PyData.canLay0, this]
    rfl
theorem deep_strs (zs : List Str) : (PyData.list (zs.map PyData.str)).depth ≤ 1 := by
  rw [PyData.depth]
  have : PyData.depthAll (zs.map PyData.str) = 0 := by
    induction zs with
    | nil => rfl
    | cons z zs ih => rw [List.map_cons, PyData.depthAll, ih]; rfl
  omega
theorem shaped_strs {zs : List Str} (h : ∀ z ∈ zs, isNm z = true) : SeqAt.shaped (PyData.list (zs.map PyData.str)) = true := by
  unfold SeqAt.shaped
  rw [lay_strs h, decide_eq_true (by have := deep_strs zs; omega)]
  rfl
theorem dp_strs {K : PySem.W.Frag} {H : Hp} {p : Addr} {zs : List Str} (e : H p = some (.lst (zs.map V.str))) : Dp K H (.ref p) (.list (zs.map PyData.str)) := by
  have : ∀ l : List Str, DpTs K H (l.map V.str) (l.map PyData.str) := fun l => by
    induction l with
    | nil => exact .nil
    | cons a l ih => exact .cons (.str a) ih
  exact .lst (.inl (.inl e)) (DpTs.dp (this zs))
theorem lay_all {ds : List PyData} (h : ∀ d ∈ ds, d.canLay0 = true) : PyData.canLayAll0 ds = true := by
  induction ds with
  | nil => rfl
  | cons d ds ih =>
    rw [PyData.canLayAll0, h d List.mem_cons_self, ih fun e he => h e (List.mem_cons_of_mem _ he)]
    rfl
theorem deep_all {ds : List PyData} {n : Nat} (h : ∀ d ∈ ds, d.depth ≤ n) : PyData.depthAll ds ≤ n := by
  induction ds with
  | nil => exact Nat.zero_le _
  | cons d ds ih =>
    rw [PyData.depthAll]
    exact Nat.max_le.mpr ⟨h d List.mem_cons_self, ih fun e he => h e (List.mem_cons_of_mem _ he)⟩
theorem lay_pair {k : Str × Str} (h1 : isNm k.1 = true) (h2 : isNm k.2 = true) : (encP k).canLay0 = true := by
  unfold encP
  rw [PyData.canLay0]
  refine lay_all fun d hd => ?_
  rcases List.mem_cons.mp hd with e | hd
  · rw [e, PyData.canLay0]; exact nm_ok h1
  · rw [List.mem_singleton.mp hd, PyData.canLay0]; exact nm_ok h2
end

end Lw

namespace Lw
open PySem PySem.Spec PyProof.Rows L2 GxR Gx
/-! ### what the ways need -/
theorem cut_but (xs : List V) (v : V) : cutV (xs ++ [v]) none (some (-1)) = xs := by
  have e : HT.sIx (xs ++ [v]).length (xs ++ [v]).length (some (-1)) = xs.length := by
    rw [List.length_append]
    show (if (-1 : Int) < 0 then ((-1 : Int) + ((xs.length + [v].length : Nat) : Int)).toNat else min (-1 : Int).toNat (xs.length + [v].length)) = xs.length
    rw [if_pos (by decide)]
    show ((-1 : Int) + ((xs.length + 1 : Nat) : Int)).toNat = xs.length
    omega
  unfold cutV
  rw [e, HT.sIx_none, List.drop_zero, Nat.sub_zero, List.take_append_of_le_length (Nat.le_refl _), List.take_length]
theorem cut_second (xs : List V) (v : V) : cutV (xs ++ [v]) (some (-2)) (some (-1)) = xs.drop (xs.length - 1) := by
  have e : ∀ d : Nat, HT.sIx (xs ++ [v]).length d (some (-1)) = xs.length := fun d => by
    rw [List.length_append]
    show (if (-1 : Int) < 0 then ((-1 : Int) + ((xs.length + [v].length : Nat) : Int)).toNat else min (-1 : Int).toNat (xs.length + [v].length)) = xs.length
    rw [if_pos (by decide)]
    show ((-1 : Int) + ((xs.length + 1 : Nat) : Int)).toNat = xs.length
    omega
  have e2 : ∀ d : Nat, HT.sIx (xs ++ [v]).length d (some (-2)) = xs.length - 1 := fun d => by
    rw [List.length_append]
    show (if (-2 : Int) < 0 then ((-2 : Int) + ((xs.length + [v].length : Nat) : Int)).toNat else min (-2 : Int).toNat (xs.length + [v].length)) = xs.length - 1
    rw [if_pos (by decide)]
    show ((-2 : Int) + ((xs.length + 1 : Nat) : Int)).toNat = xs.length - 1
    omega
  unfold cutV
  rw [e, e2, List.drop_append_of_le_length (by omega), List.take_append_of_le_length (by rw [List.length_drop]; omega), List.take_of_length_le (by rw [List.length_drop]; omega)]
theorem drop_second (A : List Str) : (A.map V.str).drop ((A.map V.str).length - 1) = (A.getLast?.toList).map V.str := by
  rcases List.eq_nil_or_concat A with e | ⟨B, x, e⟩
  · rw [e]; rfl
  · have e : A = B ++ [x] := by simpa using e
    rw [e, List.map_append, List.length_append, List.getLast?_append]
    show (B.map V.str ++ [V.str x]).drop ((B.map V.str).length + 1 - 1) = [V.str x]
    rw [Nat.add_sub_cancel, List.drop_append_of_le_length (Nat.le_refl _), List.drop_length, List.nil_append]
theorem eqvAll_map {α : Type} [DecidableEq α] {e : α → PyData} (h : ∀ a b, PyData.eqv (e a) (e b) = decide (a = b)) : ∀ xs ys : List α, PyData.eqvAll (xs.map e) (ys.map e) = decide (xs = ys)
  | [], [] => rfl
  | [], _ :: _ => rfl
  | _ :: _, [] => rfl
  | x :: xs, y :: ys => by
    show (PyData.eqv (e x) (e y) && PyData.eqvAll (xs.map e) (ys.map e)) = _
    rw [h, eqvAll_map h xs ys, ← Bool.decide_and]
    exact decide_eq_decide.mpr ⟨fun z => by rw [z.1, z.2], fun z => by cases z; exact ⟨rfl, rfl⟩⟩
theorem eqv_str (a b : Str) : PyData.eqv (.str a) (.str b) = decide (a = b) := by
  show (a == b) = decide (a = b)
  by_cases h : a = b
  · rw [h, decide_eq_true rfl]
    exact beq_self_eq_true b
  · rw [decide_eq_false h]
    exact beq_eq_false_iff_ne.mpr h
theorem eqv_strl (a b : List Str) : PyData.eqv (.list (a.map PyData.str)) (.list (b.map PyData.str)) = decide (a = b) := by
  rw [PyData.eqv, eqvAll_map eqv_str]
section
variable {P : Program} {w : World} {K : PySem.W.Frag} {mg : Str → Option Value} {base : Heap} {C : Addr}
theorem kvO_at {N : Nst} {T : Nat} (ok : Nok N T) {p : Str → Option Str} {r : Str → Nat} (W : Wok N p r) {h : Str} (hh : h ∈ N.hands) : valV (kvO N.beside) (.inr h) = some (optV (p h)) := by
  rw [← ok.bes] at hh
  obtain ⟨m, hm, rfl⟩ := List.mem_map.mp hh
  obtain ⟨j, hj⟩ := List.mem_iff_getElem?.mp hm
  rw [W.bes m hm]
  refine valV_some (j := j) ?_ (by unfold kvO; rw [List.getElem?_map, hj]; rfl)
  unfold kvO
  rw [List.map_map]
  have := ok.nd
  rw [← ok.bes] at this
  have := inr_nd this
  rw [List.map_map] at this
  exact this
/-! ### _way_to_first -/
def spUp (C : Addr) : Sp := fun vs H Q _ => ∃ (a : Addr) (A : Ads) (N : Nst) (T : Nat) (p : Str → Option Str) (r : Str → Nat) (h : Str), vs = [.ref a, .str h] ∧ NetAt C a A N H ∧ Nok N T ∧ Wok N p r ∧ Tok N p ∧ h ∈ N.hands ∧
  ∀ L H' ys, Fresh H L → Grow [] H H' → H' L = some (.lst (ys.map V.str)) → UpP p ys → ys.head? = some h → (∀ z ∈ ys, z ∈ N.hands) → Q (.ref L) H'
theorem ok_Net_way_to_first {f c : Addr} {fd : FuncData} (B : Nb mg) (D : DefIs K "_way_to_first" "Net._way_to_first" st_Net_way_to_first f fd (.ref c)) (NC : NetC K C) : FnG P w K mg base CX0 3 f fd ["self", "hand"] (spUp C) := by
  refine D.ok0 (k := 2) sc_Net_way_to_first (fun vs H Q E h => ?_) (fun A0 outer s H vs Q E g hr h => ?_)
  · obtain ⟨a, A, N, T, p, r, h, rfl, _⟩ := h
    rfl
  obtain ⟨a, A, N, T, p, r, h, rfl, n, ok, W, TK, hh, q⟩ := h
  refine ⟨_,
      (pss_cons (ps_set (i := 2) sc_Net_way_to_first.nd rfl (.inl rfl) (pe_lst (pa_cons (pv 1) pa_nil)))
      (pss_cons (ps_while PassesOwn.never (pt_cmpR (op_notN) (pe_dget (hu_of hr) (pe_fN NC.cls NC.n_beside (pv 0)) (pe_ix ix_list (pv 2) (pe_un un_neg pe_int) (fun _ _ => rfl)) (fun _ _ => rfl)) pe_non (nomark _)) (
        (pss_one (ps_expr (pe_bm PySem.F.plainAttrs_list PySem.F.slot_list_append PySem.F.type_list_append mt_append (pv 2) (pa_cons (pe_dget (hu_of hr) (pe_fN NC.cls NC.n_beside (pv 0)) (pe_ix ix_list (pv 2) (pe_un un_neg pe_int) (fun _ _ => rfl)) (fun _ _ => rfl)) pa_nil))))))
      (pss_one (ps_ret (pv 2))))), ?_⟩
  refine ⟨.str h, rfl, by show 1 ≤ sizeLine; decide, fun L nL => ?_⟩
  have fL : Fresh H L := fresh_none nL
  refine ⟨fun m σ H' => ∃ (ys : List Str) (last : Str), m = r last ∧ σ = [some (.ref a), some (.str h), some (.ref L)] ∧ Grow [] H H' ∧ H' L = some (.lst ((ys ++ [last]).map V.str)) ∧ (ys ++ [last]).head? = some h ∧ (∀ zs, UpP p (last :: zs) → UpP p (ys ++ last :: zs)) ∧ (∀ z ∈ ys ++ [last], z ∈ N.hands) ∧ (ys ++ [last]).Nodup ∧ ∀ z ∈ ys, r last < r z,
    ⟨_, [], h, rfl, rfl, grow_new nL, upd_same, rfl, fun zs z => z, fun z hz => by rw [List.mem_singleton.mp hz]; exact hh, by simp, fun z hz => by cases hz⟩, fun m σ H4 hw => ?_⟩
  obtain ⟨ys, last, rfl, rfl, g4, eL, hd, up, mem, nd, low⟩ := hw
  have n4 := n.grow0 g4
  have lm : last ∈ N.hands := mem last (by simp)
  have el : atI ((ys ++ [last]).map V.str) (-1) = some (.str last) := by rw [List.map_append]; exact atI_last _ _
  have dg : DGet H4 A.ab (.str last) (some (optV (p last))) := by
    rw [← kvO_at ok W lm]
    exact DGet.k (k := .inr last) n4.eab
  have len : (ys ++ [last]).length ≤ 60 := Nat.le_trans (List.Nodup.length_le_of_subset nd mem) ok.len
  refine ⟨.ref a, rfl, a, _, _, _, rfl, n4.obj, A.l_beside, .ref L, rfl, 1, rfl, L, _, -1, .str last, rfl, rfl, .inl (.inl eL), el, A.ab, _, rfl, dg, rfl, _, rfl, ?_⟩
  cases e : p last with
  | none =>
    refine iteF ⟨.ref L, rfl, q L H4 (ys ++ [last]) fL g4 eL (up [] e) hd mem⟩
  | some g2 =>
    have gm : g2 ∈ N.hands := (ok.kin _ (TK.back _ _ e)).2
    have lt := W.par _ _ e
    rw [e] at dg
    refine iteT ⟨_, fun _ _ h => h, ?_⟩
    refine ⟨.ref L, rfl, tyl eL, .ref a, rfl, a, _, _, _, rfl, n4.obj, A.l_beside, .ref L, rfl, 1, rfl, L, _, -1, .str last, rfl, rfl, .inl (.inl eL), el, A.ab, _, rfl, dg, L, _, _, rfl, rfl, eL, by rw [List.length_map, sizeLine_eq]; omega, ?_⟩
    refine ⟨r g2, lt, ys ++ [last], g2, rfl, rfl, g4.put fL eL (fun ps z => by cases z), ?_, ?_, fun zs hz => ?_, fun z hz => ?_, ?_, fun z hz => ?_⟩
    · rw [upd_same, List.map_append (l₁ := ys ++ [last])]
      rfl
    · rw [List.head?_append, hd]
      rfl
    · have := up (g2 :: zs) ⟨e, hz⟩
      rw [List.append_assoc]
      exact this
    · rcases List.mem_append.mp hz with z1 | z1
      · exact mem z z1
      · rw [List.mem_singleton.mp z1]; exact gm
    · rw [List.nodup_append]
      refine ⟨nd, by simp, fun x hx y hy e2 => ?_⟩
      rw [List.mem_singleton.mp hy] at e2
      rcases List.mem_append.mp hx with z1 | z1
      · have := low x z1
        rw [e2] at this
        omega
      · rw [List.mem_singleton.mp z1] at e2
        rw [e2] at lt
        omega
    · rcases List.mem_append.mp hz with z1 | z1
      · exact Nat.lt_trans lt (low z z1)
      · rw [List.mem_singleton.mp z1]; exact lt
/-! ### _way -/
def spWay (C : Addr) : Sp := fun vs H Q _ => ∃ (a : Addr) (A : Ads) (N : Nst) (T : Nat) (p : Str → Option Str) (r : Str → Nat) (x y : Str), vs = [.ref a, .str x, .str y] ∧ NetAt C a A N H ∧ Nok N T ∧ Wok N p r ∧ Tok N p ∧ x ∈ N.hands ∧ y ∈ N.hands ∧
  ∀ L H' Y, Fresh H L → Grow [] H H' → H' L = some (.lst (Y.map V.str)) → PthP p x y Y → (∀ z ∈ Y, z ∈ N.hands) → Q (.ref L) H'
theorem ok_Net_way {f c : Addr} {fd : FuncData} (B : Nb mg) (D : DefIs K "_way" "Net._way" st_Net_way f fd (.ref c)) (NC : NetC K C) (c_Net_way_to_first : CalleeM P w K mg base CX0 3 C "_way_to_first" ["self", "hand"] (spUp C)) : FnG P w K mg base CX0 4 f fd ["self", "one", "other"] (spWay C) := by
  refine D.ok0 (k := 3) sc_Net_way (fun vs H Q E h => ?_) (fun A0 outer s H vs Q E g hr h => ?_)
  · obtain ⟨a, A, N, T, p, r, x, y, rfl, _⟩ := h
    rfl
  obtain ⟨a, A, N, T, p, r, x, y, rfl, n, ok, W, TK, hx, hy, q⟩ := h
  refine ⟨_,
      (pss_cons (ps_set (i := 3) sc_Net_way.nd rfl (.inl rfl) (pe_gm c_Net_way_to_first g (hr.mono (by decide)) pass0 (pv 0) (pa_cons (pv 1) pa_nil)))
      (pss_cons (ps_set (i := 4) sc_Net_way.nd rfl (.inl rfl) (pe_gm c_Net_way_to_first g (hr.mono (by decide)) pass0 (pv 0) (pa_cons (pv 2) pa_nil)))
      (pss_cons (ps_while PassesOwn.never (PW.pt (pw_and (pt_cmpR (op_eqD hr.units) (pe_slice sl_list (pv 3) (po_some (pe_un un_neg pe_int)) (po_some (pe_un un_neg pe_int))) (pe_slice sl_list (pv 4) (po_some (pe_un un_neg pe_int)) (po_some (pe_un un_neg pe_int))) (nomark _)) (pw_and1 (pt_cmpR (op_gt) (pe_callB call_len_seq rfl B.n_len PySem.boot_len (pa_cons (pv 3) pa_nil)) pe_int (nomark _))))) (
        (pss_cons (ps_expr (pe_bm0 PySem.F.plainAttrs_list PySem.F.slot_list_pop PySem.F.type_list_pop mt_pop (pv 3)))
        (pss_one (ps_expr (pe_bm0 PySem.F.plainAttrs_list PySem.F.slot_list_pop PySem.F.type_list_pop mt_pop (pv 4)))))))
      (pss_one (ps_ret (pe_op op_cat (pv 3) (pe_revL (pe_slice sl_list (pv 4) po_none (po_some (pe_un un_neg pe_int)))))))))), ?_⟩
  refine ⟨.ref a, rfl, a, _, _, rfl, n.obj, rfl, .str x, rfl, a, A, N, T, p, r, x, rfl, n, ok, W, TK, hx, fun L1 H1 ys f1 g1 e1 u1 d1 m1 => ?_⟩
  have n1 := n.grow0 g1
  refine ⟨.ref a, rfl, a, _, _, rfl, n1.obj, rfl, .str y, rfl, a, A, N, T, p, r, y, rfl, n1, ok, W, TK, hy, fun L2 H2 zs f2 g2 e2 u2 d2 m2 => ?_⟩
  have ne : L1 ≠ L2 := Fresh.ne f2 e1 (fun ps z => by cases z)
  have e1 := g2.lst (by simp) e1
  have fr2 : Fresh H L2 := g1.fresh (by simp) f2
  obtain ⟨ms, t, et, ht⟩ := up_last u1
  obtain ⟨ns, t', et', ht'⟩ := up_last u2
  obtain ⟨rt, hrt⟩ := TK.root
  have tt : t' = t := by rw [hrt t' (m2 t' (by rw [et']; simp)) ht', hrt t (m1 t (by rw [et]; simp)) ht]
  rw [tt] at et'
  have nd1 := UpP.nd W.par u1
  have nd2 := UpP.nd W.par u2
  have l1 : ys.length ≤ 60 := Nat.le_trans (List.Nodup.length_le_of_subset nd1 m1) ok.len
  have l2 : zs.length ≤ 60 := Nat.le_trans (List.Nodup.length_le_of_subset nd2 m2) ok.len
  refine ⟨fun m σ H' => ∃ (A B rest : List Str) (u : Str), m = A.length ∧ σ = [some (.ref a), some (.str x), some (.str y), some (.ref L1), some (.ref L2)] ∧ Grow [] H H' ∧ H' L1 = some (.lst ((A ++ [u]).map V.str)) ∧ H' L2 = some (.lst ((B ++ [u]).map V.str)) ∧ ys = A ++ u :: rest ∧ zs = B ++ u :: rest,
    ⟨_, ms, ns, [], t, rfl, rfl, g1.trans g2, by rw [← et]; exact e1, by rw [← et']; exact e2, et, et'⟩, fun m σ H4 hw => ?_⟩
  obtain ⟨A1, B1, rest, u, rfl, rfl, g4, eL1, eL2, ey, ez⟩ := hw
  have la : A1.length ≤ 60 := by rw [ey, List.length_append] at l1; omega
  have lb : B1.length ≤ 60 := by rw [ez, List.length_append] at l2; omega
  have nmA : ∀ z ∈ A1.getLast?.toList, isNm z = true := fun z hz => List.all_eq_true.mp ok.nm z (m1 z (by rw [ey]; exact List.mem_append_left _ (List.mem_of_getLast? (by simpa using hz))))
  have nmB : ∀ z ∈ B1.getLast?.toList, isNm z = true := fun z hz => List.all_eq_true.mp ok.nm z (m2 z (by rw [ez]; exact List.mem_append_left _ (List.mem_of_getLast? (by simpa using hz))))
  have ea1 : (A1 ++ [u]).map V.str = A1.map V.str ++ [V.str u] := List.map_append
  have eb1 : (B1 ++ [u]).map V.str = B1.map V.str ++ [V.str u] := List.map_append
  have f14 : Fresh H L1 := f1
  refine ⟨.ref L1, rfl, 2, rfl, _, rfl, 1, rfl, _, rfl, L1, _, rfl, .inl (.inl eL1), fun S1 nS1 => ?_⟩
  rw [ea1, cut_second, drop_second]
  have g5 : Grow [] H4 (upd H4 S1 (.lst (A1.getLast?.toList.map V.str))) := grow_new nS1
  have s1 : upd H4 S1 (.lst (A1.getLast?.toList.map V.str)) S1 = some (.lst (A1.getLast?.toList.map V.str)) := upd_same
  have eL1 := g5.lst (by simp) eL1
  have eL2 := g5.lst (by simp) eL2
  generalize upd H4 S1 (.lst (A1.getLast?.toList.map V.str)) = H5 at g5 s1 eL1 eL2 ⊢
  refine ⟨.ref L2, rfl, 2, rfl, _, rfl, 1, rfl, _, rfl, L2, _, rfl, .inl (.inl eL2), fun S2 nS2 => ?_⟩
  rw [eb1, cut_second, drop_second]
  have g6 : Grow [] H5 (upd H5 S2 (.lst (B1.getLast?.toList.map V.str))) := grow_new nS2
  have s2 : upd H5 S2 (.lst (B1.getLast?.toList.map V.str)) S2 = some (.lst (B1.getLast?.toList.map V.str)) := upd_same
  have s1 := g6.lst (by simp) s1
  have eL1 := g6.lst (by simp) eL1
  have eL2 := g6.lst (by simp) eL2
  generalize upd H5 S2 (.lst (B1.getLast?.toList.map V.str)) = H6 at g6 s2 s1 eL1 eL2 ⊢
  have g46 := (g4.trans g5).trans g6
  refine ⟨_, _, dp_strs s1, dp_strs s2, shaped_strs nmA, shaped_strs nmB, ?_⟩
  rw [eqv_strl]
  have fst : ∀ {C rest : List Str} {u x : Str} {l : List Str}, l = C ++ u :: rest → l.head? = some x → (C ++ [u]).head? = some x := fun {C rest u x l} e hd => by
    rw [e] at hd
    cases C with
    | nil => exact hd
    | cons y C => exact hd
  by_cases sec : A1.getLast?.toList = B1.getLast?.toList
  · rw [decide_eq_true sec]
    refine ⟨true, rfl, ?_⟩
    show if true = true then _ else _
    rw [if_pos rfl]
    refine ⟨.ref L1, rfl, L1, _, rfl, .inl (.inl (.inl eL1)), _, _, rfl, rfl, _, rfl, ?_⟩
    rw [List.length_map, List.length_append]
    by_cases e0 : A1 = []
    · have df : A1 = [] ∨ A1.getLast? ≠ B1.getLast? := .inl e0
      rw [show decide (((A1.length + [u].length : Nat) : Int) > 1) = false from decide_eq_false (by rw [e0]; show ¬ ((0 + 1 : Nat) : Int) > 1; decide)]
      refine iteF ⟨.ref L1, rfl, .ref L2, rfl, 1, rfl, _, rfl, L2, _, rfl, .inl (.inl eL2), fun S3 nS3 => ?_⟩
      rw [eb1, cut_but]
      have g7 : Grow [] H6 (upd H6 S3 (.lst (B1.map V.str))) := grow_new nS3
      have s3 : upd H6 S3 (.lst (B1.map V.str)) S3 = some (.lst (B1.map V.str)) := upd_same
      have eL1 := g7.lst (by simp) eL1
      generalize upd H6 S3 (.lst (B1.map V.str)) = H7 at g7 s3 eL1 ⊢
      refine ⟨S3, _, rfl, .inl (.inl s3), fun S4 nS4 => ?_⟩
      rw [← List.map_reverse]
      have g8 : Grow [] H7 (upd H7 S4 (.lst (B1.reverse.map V.str))) := grow_new nS4
      have s4 : upd H7 S4 (.lst (B1.reverse.map V.str)) S4 = some (.lst (B1.reverse.map V.str)) := upd_same
      have eL1 := g8.lst (by simp) eL1
      generalize upd H7 S4 (.lst (B1.reverse.map V.str)) = H8 at g8 s4 eL1 ⊢
      refine ⟨L1, S4, _, _, rfl, rfl, eL1, s4, by rw [List.length_map, List.length_map, List.length_append, List.length_reverse, sizeLine_eq]; show A1.length + 1 + _ ≤ _; omega, fun D nD => ?_⟩
      have g48 := (g46.trans g7).trans g8
      refine q D _ (A1 ++ [u] ++ B1.reverse) (g48.fresh0 nD) (g48.trans (grow_new nD)) (by rw [upd_same, List.map_append (l₁ := A1 ++ [u])]) (up_pth W.par (by rw [← ey]; exact u1) (by rw [← ez]; exact u2) (fst ey d1) (fst ez d2) df) fun z hz => ?_
      rcases List.mem_append.mp hz with z1 | z1
      · exact m1 z (by
          rw [ey]
          rcases List.mem_append.mp z1 with w1 | w1
          · exact List.mem_append_left _ w1
          · rw [List.mem_singleton.mp w1]; simp)
      · exact m2 z (by rw [ez]; exact List.mem_append_left _ (List.mem_reverse.mp z1))
    · rw [show decide (((A1.length + [u].length : Nat) : Int) > 1) = true from decide_eq_true (by
        have := List.length_pos_iff.mpr e0
        show ((A1.length + 1 : Nat) : Int) > 1
        omega)]
      refine iteT ⟨_, fun _ _ h => h, ?_⟩
      have eA := List.dropLast_concat_getLast e0
      have l0 := List.getLast?_eq_some_getLast e0
      have hb : B1 ≠ [] := fun z => by
        rw [z, l0] at sec
        cases sec
      have eB := List.dropLast_concat_getLast hb
      have l00 := List.getLast?_eq_some_getLast hb
      rw [l0, l00] at sec
      have sec2 : A1.getLast e0 = B1.getLast hb := (List.cons.inj sec).1
      have p1 : ((A1 ++ [u]).map V.str)[((A1 ++ [u]).map V.str).length - 1]? = some (.str u) := by
        rw [ea1, List.length_append]
        show (A1.map V.str ++ [V.str u])[(A1.map V.str).length + 1 - 1]? = _
        rw [Nat.add_sub_cancel, List.getElem?_append_right (Nat.le_refl _), Nat.sub_self]
        rfl
      have p2 : ((B1 ++ [u]).map V.str)[((B1 ++ [u]).map V.str).length - 1]? = some (.str u) := by
        rw [eb1, List.length_append]
        show (B1.map V.str ++ [V.str u])[(B1.map V.str).length + 1 - 1]? = _
        rw [Nat.add_sub_cancel, List.getElem?_append_right (Nat.le_refl _), Nat.sub_self]
        rfl
      have q1 : ((A1 ++ [u]).map V.str).dropLast = A1.map V.str := by rw [ea1, List.dropLast_concat]
      have q2 : ((B1 ++ [u]).map V.str).dropLast = B1.map V.str := by rw [eb1, List.dropLast_concat]
      refine ⟨.ref L1, rfl, tyl eL1, L1, _, _, rfl, rfl, eL1, p1, ?_⟩
      rw [q1]
      have eL2' : upd H6 L1 (.lst (A1.map V.str)) L2 = some (.lst ((B1 ++ [u]).map V.str)) := by rw [upd_ne ne.symm]; exact eL2
      refine ⟨.ref L2, rfl, tyl eL2', L2, _, _, rfl, rfl, eL2', p2, ?_⟩
      rw [q2]
      refine ⟨A1.dropLast.length, by rw [List.length_dropLast]; have := List.length_pos_iff.mpr e0; omega, A1.dropLast, B1.dropLast, u :: rest, A1.getLast e0, rfl, rfl, ?_, ?_, ?_, ?_, ?_⟩
      · exact (g46.put f14 eL1 (fun ps z => by cases z)).put fr2 eL2' (fun ps z => by cases z)
      · rw [upd_ne ne, upd_same, eA]
      · rw [upd_same, sec2, eB]
      · rw [ey]
        conv => lhs; rw [← eA]
        rw [List.append_assoc]
        rfl
      · rw [ez, sec2]
        conv => lhs; rw [← eB]
        rw [List.append_assoc]
        rfl
  · have df : A1 = [] ∨ A1.getLast? ≠ B1.getLast? := .inr fun z => sec (by rw [z])
    rw [decide_eq_false sec]
    refine ⟨false, rfl, ?_⟩
    show if false = true then _ else _
    rw [if_neg Bool.false_ne_true]
    refine iteF ⟨.ref L1, rfl, .ref L2, rfl, 1, rfl, _, rfl, L2, _, rfl, .inl (.inl eL2), fun S3 nS3 => ?_⟩
    rw [eb1, cut_but]
    have g7 : Grow [] H6 (upd H6 S3 (.lst (B1.map V.str))) := grow_new nS3
    have s3 : upd H6 S3 (.lst (B1.map V.str)) S3 = some (.lst (B1.map V.str)) := upd_same
    have eL1 := g7.lst (by simp) eL1
    generalize upd H6 S3 (.lst (B1.map V.str)) = H7 at g7 s3 eL1 ⊢
    refine ⟨S3, _, rfl, .inl (.inl s3), fun S4 nS4 => ?_⟩
    rw [← List.map_reverse]
    have g8 : Grow [] H7 (upd H7 S4 (.lst (B1.reverse.map V.str))) := grow_new nS4
    have s4 : upd H7 S4 (.lst (B1.reverse.map V.str)) S4 = some (.lst (B1.reverse.map V.str)) := upd_same
    have eL1 := g8.lst (by simp) eL1
    generalize upd H7 S4 (.lst (B1.reverse.map V.str)) = H8 at g8 s4 eL1 ⊢
    refine ⟨L1, S4, _, _, rfl, rfl, eL1, s4, by rw [List.length_map, List.length_map, List.length_append, List.length_reverse, sizeLine_eq]; show A1.length + 1 + _ ≤ _; omega, fun D nD => ?_⟩
    have g48 := (g46.trans g7).trans g8
    refine q D _ (A1 ++ [u] ++ B1.reverse) (g48.fresh0 nD) (g48.trans (grow_new nD)) (by rw [upd_same, List.map_append (l₁ := A1 ++ [u])]) (up_pth W.par (by rw [← ey]; exact u1) (by rw [← ez]; exact u2) (fst ey d1) (fst ez d2) df) fun z hz => ?_
    rcases List.mem_append.mp hz with z1 | z1
    · exact m1 z (by
        rw [ey]
        rcases List.mem_append.mp z1 with w1 | w1
        · exact List.mem_append_left _ w1
        · rw [List.mem_singleton.mp w1]; simp)
    · exact m2 z (by rw [ez]; exact List.mem_append_left _ (List.mem_reverse.mp z1))
end

end Lw

namespace Lw
open PySem PySem.Spec PyProof.Rows L2 GxR Gx
section
variable {P : Program} {w : World} {K : PySem.W.Frag} {mg : Str → Option Value} {base : Heap} {C : Addr}
/-! ### hearings_to -/
theorem mouth_in {N : Nst} {T : Nat} (ok : Nok N T) {x : Str} (h : x ∈ N.mouths.map Prod.fst) : (x, mouthN N x) ∈ N.mouths ∧ mouthN N x ∈ N.hands := by
  obtain ⟨⟨x, y⟩, hx, rfl⟩ := List.mem_map.mp h
  have e : mouthN N x = y := by unfold mouthN; rw [lookup_nd ok.mnd hx]; rfl
  show (x, mouthN N x) ∈ N.mouths ∧ _
  rw [e]
  exact ⟨hx, (ok.mnm _ hx).2⟩
theorem kvB_is {b : List (Str × Nat)} (nd : (b.map Prod.fst).Nodup) (w : Str) : (valV (kvB b) (.inr w)).isSome = decide (w ∈ b.map Prod.fst) := by
  have hk : (kvB b).map Prod.fst = (b.map Prod.fst).map Sum.inr := by unfold kvB; rw [List.map_map, List.map_map]; rfl
  by_cases h : w ∈ b.map Prod.fst
  · obtain ⟨⟨x, y⟩, hx, rfl⟩ := List.mem_map.mp h
    obtain ⟨j, hj⟩ := List.mem_iff_getElem?.mp hx
    rw [valV_some (j := j) (v := .int (y : Nat)) (by rw [hk]; exact inr_nd nd) (by unfold kvB; rw [List.getElem?_map, hj]; rfl), decide_eq_true h]
    rfl
  · rw [valV_none (by
      rw [hk]
      intro z
      obtain ⟨y, hy, e⟩ := List.mem_map.mp z
      cases e
      exact h hy), decide_eq_false h]
    rfl
theorem many_len (N : Nst) (k : Str × Str) : manyN N k = (laneN N k).length := by
  unfold manyN laneN
  by_cases c : k ∈ N.keys
  · rw [if_pos c, if_pos c, List.length_drop]
  · rw [if_neg c, if_neg c]; rfl
def fewN (N : Nst) (w : Str) (Y : List Str) : Nat := dueT N w Y (hvN N w Y)
def spFew (C : Addr) : Sp := fun vs H Q _ => ∃ (a : Addr) (A : Ads) (N : Nst) (T : Nat) (p : Str → Option Str) (r : Str → Nat) (h x : Str), vs = [.ref a, .str h, .str x] ∧ NetAt C a A N H ∧ Nok N T ∧ Wok N p r ∧ Tok N p ∧ T ≤ 10000 ∧ h ∈ N.hands ∧ x ∈ N.mouths.map Prod.fst ∧
  ∀ H' Y, Grow [] H H' → PthP p (mouthN N x) h Y → (∀ z ∈ Y, z ∈ N.hands) → Q (.int (fewN N x Y : Nat)) H'
theorem ok_Net_hearings_to {f c : Addr} {fd : FuncData} (B : Nb mg) (D : DefIs K "hearings_to" "Net.hearings_to" st_Net_hearings_to f fd (.ref c)) (NC : NetC K C) (c_Net_check_hand : CalleeM P w K mg base CX0 2 C "_check_hand" ["self", "thing"] (spChk C)) (c_Net_check_word : CalleeM P w K mg base CX0 2 C "_check_word" ["self", "thing"] (spChkW C))
    (c_Net_way : CalleeM P w K mg base CX0 4 C "_way" ["self", "one", "other"] (spWay C)) (c_Net_many_on : CalleeM P w K mg base CX0 2 C "_many_on" ["self", "lane"] (spMany C)) : FnG P w K mg base CX0 5 f fd ["self", "hand", "word"] (spFew C) := by
  refine D.ok0 (k := 4) sc_Net_hearings_to (fun vs H Q E h => ?_) (fun A0 outer s H vs Q E g hr h => ?_)
  · obtain ⟨a, A, N, T, p, r, h, x, rfl, _⟩ := h
    rfl
  obtain ⟨a, A, N, T, p, r, h, x, rfl, n, ok, W, TK, hT, hh, hx, q⟩ := h
  obtain ⟨mx, mh⟩ := mouth_in ok hx
  refine ⟨_,
      (pss_cons (ps_expr (pe_gm c_Net_check_hand g (hr.mono (by decide)) pass0 (pv 0) (pa_cons (pv 1) pa_nil)))
      (pss_cons (ps_expr (pe_gm c_Net_check_word g (hr.mono (by decide)) pass0 (pv 0) (pa_cons (pv 2) pa_nil)))
      (pss_cons (ps_set (i := 3) sc_Net_hearings_to.nd rfl (.inl rfl) (pe_gm c_Net_way g (hr.mono (by decide)) pass0 (pv 0) (pa_cons (pe_dget (hu_of hr) (pe_fN NC.cls NC.n_mouths (pv 0)) (pv 2) (fun _ _ => rfl)) (pa_cons (pv 1) pa_nil))))
      (pss_cons (ps_set (i := 4) sc_Net_hearings_to.nd rfl (.inl rfl) (pe_callB call_len_seq rfl B.n_len PySem.boot_len (pa_cons (pe_lc (own := [("one", 5)]) (g := (gName 5)) rfl sc_Net_hearings_to.nd (pi_list (pv 3)) (blkOk_by (N := N_Net_hearings_to) (sc := defScope st_Net_hearings_to) (by decide +kernel)) (fun _ _ _ _ _ => (pg_name (i := 5) sc_Net_hearings_to.nd rfl (.inl rfl))) (fun _ _ _ _ _ => pts_to (pts_one (pt_cmp (pc_din (hu_of hr) (pv 2) (pe_dget (hu_of hr) (pe_fN NC.cls NC.n_books (pv 0)) (pv 5) (fun _ _ => rfl)))))) (fun _ _ _ _ _ => pe_to (pv 5))) pa_nil)))
      (pss_cons (ps_if (pt_cmpR (op_eq) (pv 4) (pe_callB call_len_seq rfl B.n_len PySem.boot_len (pa_cons (pv 3) pa_nil)) (nomark _)) (
        (pss_one (ps_ret pe_int))) pss_nil)
      (pss_cons (ps_set (i := 6) sc_Net_hearings_to.nd rfl (.inl rfl) (pe_tup (pa_cons (pe_ix ix_list (pv 3) (pe_op op_sub (pv 4) pe_int) (fun _ _ => rfl)) (pa_cons (pe_ix ix_list (pv 3) (pv 4) (fun _ _ => rfl)) pa_nil))))
      (pss_cons (ps_set (i := 7) sc_Net_hearings_to.nd rfl (.inl rfl) (pe_op op_sub (pe_op op_add (pe_bm PySem.F.plainAttrs_list PySem.F.slot_list_index PySem.F.type_list_index mt_index (pe_dget (hu_of hr) (pe_fN NC.cls NC.n_sent (pv 0)) (pv 6) (fun _ _ => rfl)) (pa_cons (pv 2) pa_nil)) pe_int) (pe_dget (hu_of hr) (pe_fN NC.cls NC.n_heard (pv 0)) (pv 6) (fun _ _ => rfl))))
      (pss_cons (ps_set (i := 8) sc_Net_hearings_to.nd rfl (.inl rfl) (pv 7))
      (pss_cons (ps_for PassesOwn.never rfl (pi_zipN rfl B.n_zip (pa_cons (pe_slice sl_list (pv 3) (po_some (pv 4)) po_none) (pa_cons (pe_slice sl_list (pv 3) (po_some (pe_op op_add (pv 4) pe_int)) po_none) pa_nil))) (pg_name (i := 9) sc_Net_hearings_to.nd rfl (.inl rfl)) (
        (pss_cons (ps_aug (i := 7) sc_Net_hearings_to.nd rfl (.inl rfl) (pe_gm c_Net_many_on g (hr.mono (by decide)) pass0 (pv 0) (pa_cons (pv 9) pa_nil)) ip_add)
        (pss_one (ps_aug (i := 8) sc_Net_hearings_to.nd rfl (.inl rfl) (pv 7) ip_add)))))
      (pss_one (ps_ret (pv 8)))))))))))), ?_⟩
  refine ⟨.ref a, rfl, a, _, _, rfl, n.obj, rfl, .str h, rfl, a, A, N, T, h, rfl, n, ok, hh, ?_⟩
  refine ⟨.ref a, rfl, a, _, _, rfl, n.obj, rfl, .str x, rfl, a, A, N, T, x, rfl, n, ok, hx, ?_⟩
  have dg : DGet H A.am (.str x) (some (.str (mouthN N x))) := by
    rw [← kvM_val ok.mnd hx]
    exact DGet.k (k := .inr x) n.eam
  refine ⟨.ref a, rfl, a, _, _, rfl, n.obj, rfl, .ref a, rfl, a, _, _, _, rfl, n.obj, A.l_mouths, .str x, rfl, A.am, _, rfl, dg, .str h, rfl, a, A, N, T, p, r, mouthN N x, h, rfl, n, ok, W, TK, mh, hh, fun L H1 Y fL g1 eL pt yh => ?_⟩
  have n1 := n.grow0 g1
  have wy : WayN N p x h Y := ⟨⟨_, mx, pt⟩, yh⟩
  obtain ⟨A1, A2, A3⟩ := wy.has ok W TK
  have yl : Y.length ≤ 60 := Nat.le_trans (List.Nodup.length_le_of_subset pt.nd yh) ok.len
  refine ⟨.ref L, rfl, L, rfl, ⟨_, .inl (.inl eL)⟩, fun D1 nD1 => ?_⟩
  refine lc_filt (walk_list (xs := Y.map V.str)) Y (hasB N x) V.str nD1 (List.length_map _) (by omega) (fun Hx gx => .inl (.inl (gx.lst (by simp) eL))) (fun i z v Ha Hb Pu Pn ei ga hy kt kf => ?_) fun H2 g2 eD1 => ?_
  · obtain ⟨rfl, ez⟩ := hy
    have zo : v = V.str z := by
      rw [List.getElem?_map, ei] at ez
      exact (Option.some.inj ez).symm
    subst zo
    have n2 := n1.grow0 ga
    have zh := yh z (List.mem_of_getElem? ei)
    refine ⟨rfl, .str x, rfl, .ref a, rfl, a, _, _, _, rfl, n2.obj, A.l_books, .str z, rfl, A.ak, _, rfl, dgF n2.eak ok.nd zh, A.ba z, _, rfl, DGet.k (k := .inr x) (n2.eba z zh), ?_⟩
    rw [kvB_is (ok.bnd z zh).1]
    refine ⟨_, rfl, ?_⟩
    by_cases hb : hasB N x z = true
    · rw [show decide (x ∈ (N.book z).map Prod.fst) = true from hb]
      exact iteT ⟨.str z, rfl, kt Hb (Grow.refl _ _) hb⟩
    · have hf : hasB N x z = false := by simpa using hb
      rw [show decide (x ∈ (N.book z).map Prod.fst) = false from hf]
      exact iteF (kf Hb (Grow.refl _ _) hf)
  have n2 := n1.grow0 g2
  have g12 := g1.trans g2
  have eL2 := g2.lst (by simp) eL
  refine ⟨D1, _, rfl, .inl (.inl (.inl eD1)), ?_⟩
  rw [List.length_map]
  obtain ⟨c0, hc0⟩ : ∃ c0, hvN N x Y = c0 := ⟨_, rfl⟩
  rw [hc0] at A1 A2 A3
  rw [show (Y.filter (hasB N x)).length = c0 from hc0]
  refine ⟨_, rfl, .ref L, rfl, L, _, rfl, .inl (.inl (.inl eL2)), rfl, _, rfl, ?_⟩
  rw [List.length_map]
  by_cases ce : c0 = Y.length
  · rw [show decide (V.int (c0 : Nat) = V.int (Y.length : Nat)) = true from decide_eq_true (by rw [ce])]
    refine iteT ?_
    have := q H2 Y g12 pt yh
    rw [show fewN N x Y = 0 by unfold fewN dueT; rw [hc0, ce, Nat.sub_self]; rfl] at this
    exact this
  · rw [show decide (V.int (c0 : Nat) = V.int (Y.length : Nat)) = false from decide_eq_false fun z => by
      have := V.int.inj z
      omega]
    have clt : c0 < Y.length := by omega
    refine iteF ?_
    obtain ⟨k1, k2, k3⟩ := lnY_key ok W TK pt.ch (i := c0 - 1) (by omega)
    rw [show c0 - 1 + 1 = c0 by omega] at k3
    obtain ⟨k, hk⟩ : ∃ k, lnY Y (c0 - 1) = k := ⟨_, rfl⟩
    rw [hk] at k1 k2 k3
    have v2 : atI (Y.map V.str) ((c0 : Nat) - 1) = some (.str k.1) := by
      rw [show ((c0 : Nat) : Int) - 1 = ((c0 - 1 : Nat) : Int) by omega]
      exact atI_nat (by rw [List.getElem?_map, k2]; rfl)
    have v3 : atI (Y.map V.str) ((c0 : Nat)) = some (.str k.2) := atI_nat (by rw [List.getElem?_map, k3]; rfl)
    refine ⟨.ref L, rfl, .int (c0 : Nat), rfl, (c0 : Nat), 1, rfl, rfl, L, _, (c0 : Nat) - 1, .str k.1, rfl, rfl, .inl (.inl eL2), v2, .ref L, rfl, .int (c0 : Nat), rfl, L, _, (c0 : Nat), .str k.2, rfl, rfl, .inl (.inl eL2), v3, by show 2 ≤ sizeLine; decide, fun b nb => ?_⟩
    have g3 : Grow [] H2 (upd H2 b (.tup [.str k.1, .str k.2])) := grow_new nb
    have eb : upd H2 b (.tup [.str k.1, .str k.2]) b = some (.tup [.str k.1, .str k.2]) := upd_same
    generalize upd H2 b (.tup [.str k.1, .str k.2]) = H3 at g3 eb ⊢
    have n3 := n2.grow0 g3
    have eL3 := g3.lst (by simp) eL2
    have sk := ok.sen k k1
    -- the word lies on the lane
    have nk : ¬ hasN N k.2 x := fun z => by
      have := (A1 c0 _ k3).mp z
      omega
    have hk1 : hasN N k.1 x := (A1 (c0 - 1) _ k2).mpr (by omega)
    have xl : x ∈ laneN N k := (W.all k k1 x hk1).resolve_left nk
    have el : laneN N k = (N.sent k).drop (N.heard k) := by unfold laneN; rw [if_pos k1]
    have xt : x ∉ (N.sent k).take (N.heard k) := fun z => nk (TK.hrd k k1 x z)
    have ix : ixS x (N.sent k) = N.heard k + ixS x (laneN N k) := by
      have := ixS_new ((N.sent k).drop (N.heard k)) xt
      rw [List.take_append_drop, List.length_take, Nat.min_eq_left sk.2.1, ← el] at this
      exact this
    have xs : x ∈ N.sent k := by rw [el] at xl; exact List.mem_of_mem_drop xl
    obtain ⟨i1, i2⟩ := ixS_at xs
    refine ⟨.ref a, rfl, a, _, _, _, rfl, n3.obj, A.l_sent, .ref b, rfl, A.as_, _, rfl, dgK (k := k) n3.eas ok.knd k1 eb, ?_⟩
    have fl : ((N.sent k).map V.str).all flatV = true := List.all_eq_true.mpr fun v hv => by
      obtain ⟨z, _, rfl⟩ := List.mem_map.mp hv
      rfl
    refine ⟨tyl (n3.esa k k1), .str x, rfl, A.sa k, _, .str x, ixS x (N.sent k), .str x, rfl, rfl, .inl (.inl (n3.esa k k1)), rfl, fl, by rw [List.getElem?_map, i1]; rfl, ?_, fun m z' hm hz => ?_, ?_⟩
    · exact beq_self_eq_true x
    · rw [List.getElem?_map] at hz
      obtain ⟨z, hz2, rfl⟩ := Option.map_eq_some_iff.mp hz
      exact beq_eq_false_iff_ne.mpr (i2 m z hm hz2)
    refine ⟨_, _, rfl, rfl, .ref a, rfl, a, _, _, _, rfl, n3.obj, A.l_heard, .ref b, rfl, A.ah, _, rfl, dgK (k := k) n3.eah ok.knd k1 eb, _, _, rfl, rfl, ?_⟩
    have em : ((ixS x (N.sent k) : Nat) : Int) + 1 - (N.heard k : Nat) = (dueM N x Y c0 0 : Nat) := by
      unfold dueM
      show _ = ((0 + dueA N x Y c0 0 : Nat) : Int)
      unfold dueA
      rw [if_pos rfl, hk, ix]
      omega
    refine ⟨_, rfl, ?_⟩
    refine ⟨.ref L, rfl, .int (c0 : Nat), rfl, (c0 : Nat), rfl, L, _, rfl, .inl (.inl eL3), fun S1 nS1 => ?_⟩
    have ec1 : cutV (Y.map V.str) (some ((c0 : Nat) : Int)) none = (Y.drop c0).map V.str := by rw [List.map_drop]; exact cut_lo _ c0
    have ec2 : cutV (Y.map V.str) (some (((c0 : Nat) : Int) + 1)) none = (Y.drop (c0 + 1)).map V.str := by rw [List.map_drop]; exact cut_lo _ (c0 + 1)
    rw [ec1]
    have g4 : Grow [] H3 (upd H3 S1 (.lst ((Y.drop c0).map V.str))) := grow_new nS1
    have s1 : upd H3 S1 (.lst ((Y.drop c0).map V.str)) S1 = some (.lst ((Y.drop c0).map V.str)) := upd_same
    generalize upd H3 S1 (.lst ((Y.drop c0).map V.str)) = H4 at g4 s1 ⊢
    have eL4 := g4.lst (by simp) eL3
    refine ⟨.ref L, rfl, .int (c0 : Nat), rfl, (c0 : Nat), 1, rfl, rfl, _, rfl, L, _, rfl, .inl (.inl eL4), fun S2 nS2 => ?_⟩
    rw [ec2]
    have g5 : Grow [] H4 (upd H4 S2 (.lst ((Y.drop (c0 + 1)).map V.str))) := grow_new nS2
    have s2 : upd H4 S2 (.lst ((Y.drop (c0 + 1)).map V.str)) S2 = some (.lst ((Y.drop (c0 + 1)).map V.str)) := upd_same
    have s1 := g5.lst (by simp) s1
    generalize upd H4 S2 (.lst ((Y.drop (c0 + 1)).map V.str)) = H5 at g5 s2 s1 ⊢
    have n5 := (n3.grow0 g4).grow0 g5
    refine ⟨S1, S2, _, _, rfl, .inl (.inl s1), .inl (.inl s2), ?_⟩
    refine for_it (walk_zip (xs := (Y.drop c0).map V.str) (ys := (Y.drop (c0 + 1)).map V.str) (n := Y.length - c0 - 1) (by rw [List.length_map, List.length_map, List.length_drop, List.length_drop]; omega)) (fun j σ H' => ∃ (v9 : Option V), σ = [some (.ref a), some (.str h), some (.str x), some (.ref L), some (.int (c0 : Nat)), none, some (.ref b), some (.int (dueM N x Y c0 j : Nat)), some (.int (sumT (dueM N x Y c0) (j + 1) : Nat)), v9] ∧ Grow [] H5 H' ∧ H' S1 = some (.lst ((Y.drop c0).map V.str)) ∧ H' S2 = some (.lst ((Y.drop (c0 + 1)).map V.str)))
      ⟨none, ?_, Grow.refl _ _, s1, s2⟩ (fun i σ H' _ hp => ⟨.inl (.inl hp.choose_spec.2.2.1), .inl (.inl hp.choose_spec.2.2.2)⟩) (fun i vx σ Ha Hb hi hp hy => ?_) (fun σ H6 hp => ?_)
    · show [some (V.ref a), some (V.str h), some (V.str x), some (V.ref L), some (V.int (c0 : Nat)), none, some (V.ref b), some (V.int (((ixS x (N.sent k) : Nat) : Int) + 1 - (N.heard k : Nat))), some (V.int (((ixS x (N.sent k) : Nat) : Int) + 1 - (N.heard k : Nat))), none] = _
      rw [em, show sumT (dueM N x Y c0) (0 + 1) = dueM N x Y c0 0 from Nat.zero_add _]
    · obtain ⟨v9, rfl, ga, sa1, sa2⟩ := hp
      obtain ⟨Tp, u, v, rfl, nT, rfl, hu, hv⟩ := hy
      have eb2 : upd Ha Tp (.tup [u, v]) Tp = some (.tup [u, v]) := upd_same
      have gb : Grow [] Ha (upd Ha Tp (.tup [u, v])) := grow_new nT
      generalize upd Ha Tp (.tup [u, v]) = Hb at eb2 gb ⊢
      have n6 := (n5.grow0 ga).grow0 gb
      obtain ⟨_, l2, l3⟩ := lnY_key ok W TK pt.ch (i := c0 + i) (by omega)
      have hu2 : u = .str (lnY Y (c0 + i)).1 := by
        replace hu : ((Y.drop c0).map V.str)[i]? = some u := hu
        rw [List.getElem?_map, List.getElem?_drop, l2] at hu
        exact (Option.some.inj hu).symm
      have hv2 : v = .str (lnY Y (c0 + i)).2 := by
        replace hv : ((Y.drop (c0 + 1)).map V.str)[i]? = some v := hv
        rw [List.getElem?_map, List.getElem?_drop, show c0 + 1 + i = c0 + i + 1 by omega, l3] at hv
        exact (Option.some.inj hv).symm
      rw [hu2, hv2] at eb2
      refine ⟨.int (dueM N x Y c0 i : Nat), rfl, .ref a, rfl, a, _, _, rfl, n6.obj, rfl, .ref Tp, rfl, a, Tp, A, N, T, lnY Y (c0 + i), rfl, n6.many, ok, eb2, ?_⟩
      have d1 : dueM N x Y c0 (i + 1) = dueM N x Y c0 i + manyN N (lnY Y (c0 + i)) := by
        unfold dueM
        show sumT (dueA N x Y c0) (i + 1) + dueA N x Y c0 (i + 1) = _
        congr 1
        unfold dueA
        rw [if_neg (by omega), many_len, show c0 - 1 + (i + 1) = c0 + i by omega]
      have d2 : sumT (dueM N x Y c0) (i + 1 + 1) = sumT (dueM N x Y c0) (i + 1) + dueM N x Y c0 (i + 1) := rfl
      refine ⟨_, _, rfl, rfl, ?_⟩
      refine ⟨.int (sumT (dueM N x Y c0) (i + 1) : Nat), rfl, _, rfl, _, _, rfl, rfl, ?_⟩
      refine ⟨some (.ref Tp), ?_, ga.trans gb, gb.lst (by simp) sa1, gb.lst (by simp) sa2⟩
      show [some (V.ref a), some (V.str h), some (V.str x), some (V.ref L), some (V.int (c0 : Nat)), none, some (V.ref b), some (V.int ((dueM N x Y c0 i : Nat) + (manyN N (lnY Y (c0 + i)) : Nat))), some (V.int ((sumT (dueM N x Y c0) (i + 1) : Nat) + ((dueM N x Y c0 i : Nat) + (manyN N (lnY Y (c0 + i)) : Nat)))), some (V.ref Tp)] = _
      rw [d2, d1]
      rfl
    · obtain ⟨v9, rfl, ga, sa1, sa2⟩ := hp
      refine ⟨_, rfl, ?_⟩
      have := q H6 Y ((((g12.trans g3).trans g4).trans g5).trans ga) pt yh
      rw [show fewN N x Y = sumT (dueM N x Y c0) (Y.length - c0 - 1 + 1) by
        unfold fewN dueT
        rw [hc0, show Y.length - c0 - 1 + 1 = Y.length - c0 by omega]] at this
      exact this
end

end Lw

namespace Lw
open PySem PySem.Spec PyProof.Rows L2 GxR Gx
/-! ### rows that grow to a way, without a heap -/
def mea (B M : Nat) : List (List Str) → Nat
  | [] => 0
  | r :: l => B ^ (M - r.length) + mea B M l
theorem mea_app (B M : Nat) : ∀ l m, mea B M (l ++ m) = mea B M l + mea B M m
  | [], m => (Nat.zero_add _).symm
  | r :: l, m => by
    show _ + mea B M (l ++ m) = _ + mea B M l + mea B M m
    rw [mea_app B M l m]
    omega
theorem mea_long (B M n : Nat) : ∀ l : List (List Str), (∀ r ∈ l, r.length = n) → mea B M l = l.length * B ^ (M - n)
  | [], _ => (Nat.zero_mul _).symm
  | r :: l, h => by
    show B ^ (M - r.length) + mea B M l = (l.length + 1) * B ^ (M - n)
    rw [h r List.mem_cons_self, mea_long B M n l fun r hr => h r (List.mem_cons_of_mem _ hr), Nat.add_mul, Nat.one_mul, Nat.add_comm]
theorem mea_less {B M : Nat} {base new : List (List Str)} {row : List Str} (hn : ∀ r ∈ new, r.length = row.length + 1) (hl : new.length < B) (hm : row.length < M) : mea B M (base ++ new) < mea B M (base ++ [row]) := by
  rw [mea_app, mea_app, mea_long B M _ new hn]
  refine Nat.add_lt_add_left ?_ _
  show _ < B ^ (M - row.length) + 0
  rw [Nat.add_zero, show M - row.length = M - (row.length + 1) + 1 by omega, Nat.pow_succ, Nat.mul_comm (B ^ _)]
  exact Nat.mul_lt_mul_of_pos_right hl (Nat.pow_pos (by omega))
/-- the other end of a road -/
def farS (k : Str × Str) (x : Str) : Str := if k.2 = x then k.1 else k.2
structure RowW (p : Str → Option Str) (hands : List Str) (one : Str) (row : List Str) : Prop where
  ch : ChP p row
  nd : row.Nodup
  fst : row.head? = some one
  mem : ∀ z ∈ row, z ∈ hands
theorem RowW.snoc {p : Str → Option Str} {hands : List Str} {one : Str} {ys : List Str} {x z : Str} (h : RowW p hands one (ys ++ [x])) (a : AdjP p x z) (zh : z ∈ hands) (n : z ∉ ys ++ [x]) : RowW p hands one (ys ++ [x] ++ [z]) := by
  refine ⟨h.ch.snoc a, ?_, ?_, fun y hy => ?_⟩
  · rw [List.nodup_append]
    refine ⟨h.nd, by simp, fun u hu v hv e => ?_⟩
    rw [List.mem_singleton.mp hv] at e
    exact n (by rw [← e]; exact hu)
  · rw [List.head?_append, h.fst]; rfl
  · rcases List.mem_append.mp hy with q | q
    · exact h.mem y q
    · rw [List.mem_singleton.mp q]; exact zh
theorem RowW.pth {p : Str → Option Str} {hands : List Str} {one : Str} {ys : List Str} {x : Str} (h : RowW p hands one (ys ++ [x])) : PthP p one x (ys ++ [x]) := ⟨h.ch, h.nd, h.fst, by simp⟩
theorem far_adj {N : Nst} {p : Str → Option Str} {r : Str → Nat} (W : Wok N p r) {k : Str × Str} (hk : k ∈ N.keys) {x : Str} (hx : x = k.1 ∨ x = k.2) : AdjP p x (farS k x) ∧ (farS k x = k.1 ∨ farS k x = k.2) := by
  unfold farS
  have a := W.key k hk
  by_cases c : k.2 = x
  · rw [if_pos c, ← c]
    exact ⟨a.elim (fun h => .inr h) (fun h => .inl h), .inl rfl⟩
  · rw [if_neg c]
    have e : x = k.1 := hx.resolve_right (Ne.symm c)
    rw [e]
    exact ⟨a.elim (fun h => .inl h) (fun h => .inr h), .inr rfl⟩
/-- a way goes one further: over a road -/
theorem way_on {N : Nst} {p : Str → Option Str} (TK : Tok N p) (back : ∀ k ∈ N.keys, (k.2, k.1) ∈ N.keys) {rs : List (Str × Str)} (all : ∀ k ∈ N.keys, k ∈ rs ∨ (k.2, k.1) ∈ rs) {one other : Str} {Z : List Str} (h : PthP p one other Z) {i : Nat} {ys : List Str} {x : Str} (e : ys ++ [x] = Z.take (i + 1)) (ne : x ≠ other) :
    ∃ z k, Z[i + 1]? = some z ∧ k ∈ rs ∧ (x = k.1 ∨ x = k.2) ∧ farS k x = z ∧ z ∉ ys ++ [x] ∧ ys ++ [x] ++ [z] = Z.take (i + 2) ∧ i + 1 < Z.length := by
  have l1 : i + 1 < Z.length := by
    rcases Nat.lt_or_ge (i + 1) Z.length with q | q
    · exact q
    · rw [List.take_of_length_le q] at e
      have := h.lst
      rw [← e] at this
      exact absurd (by simpa using this) ne
  have le : ys.length = i := by
    have := congrArg List.length e
    rw [List.length_append, List.length_take, Nat.min_eq_left (by omega)] at this
    have : ys.length + 1 = i + 1 := this
    omega
  have ex : Z[i]? = some x := by
    have := congrArg (fun l : List Str => l[i]?) e
    rw [List.getElem?_take, if_pos (by omega)] at this
    rw [← this]
    show (ys ++ [x])[i]? = some x
    rw [← le]
    simp
  obtain ⟨z, hz⟩ : ∃ z, Z[i + 1]? = some z := ⟨_, List.getElem?_eq_getElem l1⟩
  have xz : x ≠ z := fun q => by
    rw [← q] at hz
    have := nd_get h.nd ex hz
    omega
  have adj : AdjP p x z := by
    have adj : ∀ (l : List Str) (i : Nat) x y, ChP p l → l[i]? = some x → l[i + 1]? = some y → AdjP p x y := fun l => by
      induction l with
      | nil => intro i x y _ h _; cases h
      | cons a l ih =>
        intro i x y hc hx hy
        cases i with
        | zero =>
          cases l with
          | nil => cases hy
          | cons b l => cases hx; cases hy; exact hc.1
        | succ i => exact ih i x y hc.tail hx hy
    exact adj Z i x z h.ch ex hz
  have kk : (x, z) ∈ N.keys := by
    rcases adj with a | a
    · exact TK.back _ _ a
    · exact back _ (TK.back _ _ a)
  have nz : z ∉ ys ++ [x] := fun q => by
    rw [e] at q
    obtain ⟨j, hj⟩ := List.mem_iff_getElem?.mp q
    rw [List.getElem?_take] at hj
    by_cases c : j < i + 1
    · rw [if_pos c] at hj
      have := nd_get h.nd hj hz
      omega
    · rw [if_neg c] at hj; cases hj
  have last : ys ++ [x] ++ [z] = Z.take (i + 2) := by
    rw [e, List.take_add_one (i := i + 1), hz]
    rfl
  rcases all _ kk with q | q
  · exact ⟨z, (x, z), hz, q, .inl rfl, by unfold farS; rw [if_neg (Ne.symm xz)], nz, last, l1⟩
  · exact ⟨z, (z, x), hz, q, .inr rfl, by unfold farS; rw [if_pos rfl], nz, last, l1⟩

end Lw

namespace Lw
open PySem PySem.Spec PyProof.Rows L2 GxR Gx
section
variable {P : Program} {w : World} {K : PySem.W.Frag} {mg : Str → Option Value} {base : Heap}
/-! ### _law_way -/
theorem inV_strs (x : Str) (xs : List Str) : inV (.str x) (xs.map V.str) = decide (x ∈ xs) := by
  unfold inV
  rw [List.any_map, Bool.eq_iff_iff, List.any_eq_true, decide_eq_true_iff]
  constructor
  · rintro ⟨y, hy, e⟩
    have : y = x := by
      have e : (y == x) = true := e
      exact eq_of_beq e
    rw [← this]; exact hy
  · intro h
    exact ⟨x, h, beq_self_eq_true x⟩
theorem tIf_to {t : TT} {ta tb : TE} {σ : L2.St} {H : Hp} {Q : VK} {v : V} (h1 : ∀ Q' : VK, Q' v H → tIf t ta tb σ H Q') (h2 : Q v H) : tIf t ta tb σ H Q := h1 Q h2
def spLWay : Sp := fun vs H Q _ => ∃ (R : Addr) (ps : List (Addr × (Str × Str))) (N : Nst) (T : Nat) (p : Str → Option Str) (r : Str → Nat) (x y : Str), vs = [.ref R, .str x, .str y] ∧ Nok N T ∧ Wok N p r ∧ Tok N p ∧ H R = some (.lst (ps.map fun b => V.ref b.1)) ∧ ps.length ≤ 3600 ∧
  (∀ b ∈ ps, H b.1 = some (.tup [.str b.2.1, .str b.2.2]) ∧ b.2 ∈ N.keys) ∧ (∀ k ∈ N.keys, k ∈ ps.map Prod.snd ∨ (k.2, k.1) ∈ ps.map Prod.snd) ∧ x ∈ N.hands ∧ y ∈ N.hands ∧
  ∀ L H' Y, Grow [] H H' → H' L = some (.lst (Y.map V.str)) → PthP p x y Y → (∀ z ∈ Y, z ∈ N.hands) → Q (.ref L) H'
theorem ok_law_way {f c : Addr} {fd : FuncData} (B : Nb mg) (D : DefIs K "_law_way" "_law_way" st_law_way f fd (.ref c)) : FnG P w K mg base CX0 1 f fd ["roads", "one", "other"] spLWay := by
  refine D.ok0 (k := 0) sc_law_way (fun vs H Q E h => ?_) (fun A0 outer s H vs Q E g hr h => ?_)
  · obtain ⟨R, ps, N, T, p, r, x, y, rfl, _⟩ := h
    rfl
  obtain ⟨R, ps, N, T, p, r, x, y, rfl, ok, W, TK, eR, pl, hps, all, hx, hy, q⟩ := h
  obtain ⟨t, ht⟩ := TK.root
  obtain ⟨Z, hZ, sZ⟩ := path_in W.par (fun z => z ∈ N.hands) (fun z hz g e => (ok.kin _ (TK.back z g e)).2) (t := t) (fun z hz e => ht z hz e) hx hy
  refine ⟨_,
      (pss_cons (ps_set (i := 3) sc_law_way.nd rfl (.inl rfl) (pe_lst (pa_cons (pe_lst (pa_cons (pv 1) pa_nil)) pa_nil)))
      (pss_cons (ps_while PassesOwn.never (pt_cmpR (op_neE hr.units) (pv 3) (pe_lst pa_nil) (nomark _)) (
        (pss_cons (ps_set (i := 4) sc_law_way.nd rfl (.inl rfl) (pe_bm0 PySem.F.plainAttrs_list PySem.F.slot_list_pop PySem.F.type_list_pop mt_pop (pv 3)))
        (pss_cons (ps_if (pt_cmpR (op_eq) (pe_ix ix_list (pv 4) (pe_un un_neg pe_int) (fun _ _ => rfl)) (pv 2) (nomark _)) (
          (pss_one (ps_ret (pv 4)))) pss_nil)
        (pss_one (ps_for PassesOwn.never rfl (pi_list (pv 0)) (pg_name (i := 5) sc_law_way.nd rfl (.inl rfl)) (
          (pss_one (ps_if (pt_cmpR (op_in_seq) (pe_ix ix_list (pv 4) (pe_un un_neg pe_int) (fun _ _ => rfl)) (pv 5) rfl) (
            (pss_cons (ps_set (i := 6) sc_law_way.nd rfl (.inl rfl) (pe_ifExp (pt_cmpR (op_eq) (pe_ix ix_tup (pv 5) pe_int (fun _ _ => rfl)) (pe_ix ix_list (pv 4) (pe_un un_neg pe_int) (fun _ _ => rfl)) (nomark _)) (pe_ix ix_tup (pv 5) pe_int (fun _ _ => rfl)) (pe_ix ix_tup (pv 5) pe_int (fun _ _ => rfl))))
            (pss_one (ps_if (pt_cmpR (op_notIn_seq) (pv 6) (pv 4) rfl) (
              (pss_one (ps_expr (pe_bm PySem.F.plainAttrs_list PySem.F.slot_list_append PySem.F.type_list_append mt_append (pv 3) (pa_cons (pe_op op_cat (pv 4) (pe_lst (pa_cons (pv 6) pa_nil))) pa_nil))))) pss_nil)))) pss_nil)))))))))
      (pss_one (ps_ret (pe_lst pa_nil))))), ?_⟩
  refine ⟨.str x, rfl, by show 1 ≤ sizeLine; decide, fun L1 nL1 => ?_⟩
  have g1 : Grow [] H (upd H L1 (.lst [.str x])) := grow_new nL1
  have e1 : upd H L1 (.lst [.str x]) L1 = some (.lst ([x].map V.str)) := upd_same
  generalize upd H L1 (.lst [.str x]) = H1 at g1 e1 ⊢
  refine ⟨by show 1 ≤ sizeLine; decide, fun L nL => ?_⟩
  have fL : Fresh H L := g1.fresh (by simp) (fresh_none nL)
  have g2 : Grow [] H1 (upd H1 L (.lst [.ref L1])) := grow_new nL
  have eL : upd H1 L (.lst [.ref L1]) L = some (.lst [.ref L1]) := upd_same
  have ne1 : L1 ≠ L := fun z => by rw [z, nL] at e1; cases e1
  have e1 := g2.lst (by simp) e1
  generalize upd H1 L (.lst [.ref L1]) = H2 at g2 eL e1 ⊢
  obtain ⟨B, hB⟩ : ∃ B, B = 3601 := ⟨_, rfl⟩
  obtain ⟨M, hM⟩ : ∃ M, M = 61 := ⟨_, rfl⟩
  have rw0 : RowW p N.hands x [x] := ⟨trivial, by simp, rfl, fun z hz => by rw [List.mem_singleton.mp hz]; exact hx⟩
  have Z0 : [x] = Z.take (0 + 1) := by
    have := hZ.fst
    cases Z with
    | nil => cases this
    | cons a l => cases this; rfl
  refine ⟨fun m σ H' => ∃ (rs : List (Addr × List Str)) (v4 v5 v6 : Option V), m = mea B M (rs.map Prod.snd) ∧ σ = [some (.ref R), some (.str x), some (.str y), some (.ref L), v4, v5, v6] ∧ Grow [] H H' ∧ H' L = some (.lst (rs.map fun b => V.ref b.1)) ∧
      (∀ b ∈ rs, H' b.1 = some (.lst (b.2.map V.str)) ∧ RowW p N.hands x b.2 ∧ b.1 ≠ L) ∧ (∃ b ∈ rs, ∃ i, b.2 = Z.take (i + 1)) ∧ ∀ (i : Nat) b, rs[i]? = some b → i < B * b.2.length,
    ⟨_, [(L1, [x])], none, none, none, rfl, rfl, g1.trans g2, eL, fun b hb => by rw [List.mem_singleton.mp hb]; exact ⟨e1, rw0, ne1⟩, ⟨_, List.mem_singleton_self _, 0, Z0⟩, fun i b hb => by
      cases i with
      | zero => cases hb; show 0 < B * 1; omega
      | succ i => cases hb⟩, fun m σ H4 hw => ?_⟩
  obtain ⟨rs, v4, v5, v6, rfl, rfl, g4, eL4, hrs, pre, few⟩ := hw
  refine ⟨.ref L, rfl, by show 0 ≤ sizeLine; decide, fun Le nLe => ?_⟩
  have g5 : Grow [] H4 (upd H4 Le (.lst [])) := grow_new nLe
  have eLe : upd H4 Le (.lst []) Le = some (.lst []) := upd_same
  have eL5 := g5.lst (by simp) eL4
  have hrs : ∀ b ∈ rs, upd H4 Le (.lst []) b.1 = some (.lst (b.2.map V.str)) ∧ RowW p N.hands x b.2 ∧ b.1 ≠ L := fun b hb => ⟨g5.lst (by simp) (hrs b hb).1, (hrs b hb).2⟩
  generalize upd H4 Le (.lst []) = H5 at g5 eLe eL5 hrs ⊢
  refine ⟨L, Le, _, rfl, rfl, eL5, eLe, _, rfl, ?_⟩
  have nn : rs ≠ [] := fun z => by
    obtain ⟨b, hb, _⟩ := pre
    rw [z] at hb
    cases hb
  rw [show decide ((rs.map fun b => V.ref b.1) = []) = false from decide_eq_false fun z => nn (List.map_eq_nil_iff.mp z)]
  obtain ⟨bs, b, eb⟩ : ∃ bs b, rs = bs ++ [b] := ⟨rs.dropLast, rs.getLast nn, (List.dropLast_concat_getLast nn).symm⟩
  subst eb
  refine iteT ⟨_, fun _ _ h => h, ?_⟩
  refine ⟨.ref L, rfl, tyl eL5, L, _, .ref b.1, rfl, rfl, eL5, by simp, ?_⟩
  have ed : ((bs ++ [b]).map fun b => V.ref b.1).dropLast = bs.map fun b => V.ref b.1 := by
    rw [List.map_append]
    exact List.dropLast_concat
  rw [ed]
  obtain ⟨eb5, rb, nb⟩ := hrs b (by simp)
  have gL : Grow [] H (upd H5 L (.lst (bs.map fun b => V.ref b.1))) := (g4.trans g5).put fL eL5 (fun ps z => by cases z)
  have eL6 : upd H5 L (.lst (bs.map fun b => V.ref b.1)) L = some (.lst (bs.map fun b => V.ref b.1)) := upd_same
  have hbs : ∀ d ∈ bs, upd H5 L (.lst (bs.map fun b => V.ref b.1)) d.1 = some (.lst (d.2.map V.str)) ∧ RowW p N.hands x d.2 ∧ d.1 ≠ L := fun d hd => by
    obtain ⟨h1, h2, h3⟩ := hrs d (by simp [hd])
    exact ⟨by rw [upd_ne h3]; exact h1, h2, h3⟩
  have eb6 : upd H5 L (.lst (bs.map fun b => V.ref b.1)) b.1 = some (.lst (b.2.map V.str)) := by rw [upd_ne nb]; exact eb5
  generalize upd H5 L (.lst (bs.map fun b => V.ref b.1)) = H6 at gL eL6 hbs eb6 ⊢
  obtain ⟨ys, u, eu⟩ : ∃ ys u, b.2 = ys ++ [u] := by
    have : b.2 ≠ [] := fun z => by
      have := rb.fst
      rw [z] at this
      cases this
    exact ⟨_, _, (List.dropLast_concat_getLast this).symm⟩
  rw [eu] at eb6 rb
  have el : atI ((ys ++ [u]).map V.str) (-1) = some (.str u) := by rw [List.map_append]; exact atI_last _ _
  have bl : (ys ++ [u]).length ≤ 60 := Nat.le_trans (List.Nodup.length_le_of_subset rb.nd rb.mem) ok.len
  refine ⟨.ref b.1, rfl, 1, rfl, b.1, _, -1, .str u, rfl, rfl, .inl (.inl eb6), el, _, rfl, rfl, _, rfl, ?_⟩
  by_cases uy : u = y
  · rw [show decide (V.str u = V.str y) = true from decide_eq_true (by rw [uy])]
    refine iteT ⟨.ref b.1, rfl, ?_⟩
    subst uy
    exact q _ _ _ gL eb6 rb.pth rb.mem
  · rw [show decide (V.str u = V.str y) = false from decide_eq_false fun z => uy (V.str.inj z)]
    refine iteF ?_
    have eR6 := gL.lst (by simp) eR
    refine ⟨.ref R, rfl, R, rfl, ⟨_, .inl (.inl eR6)⟩, ?_⟩
    refine for_it (walk_list (xs := ps.map fun b => V.ref b.1)) (fun j σ H' => ∃ (ns : List (Addr × List Str)) (v5 v6 : Option V), σ = [some (.ref R), some (.str x), some (.str y), some (.ref L), some (.ref b.1), v5, v6] ∧ Grow [] H H' ∧ H' L = some (.lst ((bs ++ ns).map fun b => V.ref b.1)) ∧
        (∀ d ∈ bs ++ ns, H' d.1 = some (.lst (d.2.map V.str)) ∧ RowW p N.hands x d.2 ∧ d.1 ≠ L) ∧ H' b.1 = some (.lst ((ys ++ [u]).map V.str)) ∧ ns.length ≤ j ∧ (∀ d ∈ ns, d.2.length = (ys ++ [u]).length + 1) ∧
        ∀ k ∈ (ps.take j).map Prod.snd, (u = k.1 ∨ u = k.2) → farS k u ∉ ys ++ [u] → ∃ d ∈ ns, d.2 = ys ++ [u] ++ [farS k u])
      ⟨[], v5, v6, rfl, gL, by rw [List.append_nil]; exact eL6, by rw [List.append_nil]; exact hbs, eb6, Nat.le_refl _, (fun d hd => by cases hd), fun k hk => by cases hk⟩ (fun j σ H' _ hp => by
        obtain ⟨_, _, _, _, gg, _⟩ := hp
        exact .inl (.inl (gg.lst (by simp) eR))) (fun j z σ Ha Hb hj hp hy => ?_) (fun σ H7 hp => ?_)
    · obtain ⟨ns, v5, v6, rfl, ga, ea, hns, eba, nl, nlen, comp⟩ := hp
      obtain ⟨rfl, ez⟩ := hy
      obtain ⟨w, ew⟩ : ∃ w, ps[j]? = some w := by
        rw [List.length_map] at hj
        exact ⟨_, List.getElem?_eq_getElem hj⟩
      have zo : z = V.ref w.1 := by
        have : (ps.map fun b => V.ref b.1)[j]? = some z := ez
        rw [List.getElem?_map, ew] at this
        exact (Option.some.inj this).symm
      subst zo
      have wm := List.mem_of_getElem? ew
      have wk := (hps w wm).2
      have et := ga.tup (by simp) (hps w wm).1
      obtain ⟨k, hk⟩ : ∃ k, w.2 = k := ⟨_, rfl⟩
      rw [hk] at wk et
      have tk : (ps.take (j + 1)).map Prod.snd = (ps.take j).map Prod.snd ++ [k] := by
        rw [List.take_add_one, ew, List.map_append, ← hk]
        rfl
      refine ⟨.ref b.1, rfl, 1, rfl, b.1, _, -1, .str u, rfl, rfl, .inl (.inl eba), el, .ref w.1, rfl, w.1, _, rfl, .inr (.inl (.inl et)), rfl, flat_strs [k.1, k.2], _, rfl, ?_⟩
      rw [show (if false = true then !inV (V.str u) [V.str k.1, V.str k.2] else inV (V.str u) [V.str k.1, V.str k.2]) = decide (u ∈ [k.1, k.2]) from inV_strs u [k.1, k.2]]
      by_cases hu : u ∈ [k.1, k.2]
      · have hu2 : u = k.1 ∨ u = k.2 := by simpa using hu
        rw [decide_eq_true hu]
        refine iteT ?_
        refine tIf_to (v := .str (farS k u)) (fun Q' q' => ?_) ?_
        · refine ⟨.ref w.1, rfl, w.1, _, 1, .str k.2, rfl, rfl, .inl (.inl et), rfl, .ref b.1, rfl, 1, rfl, b.1, _, -1, .str u, rfl, rfl, .inl (.inl eba), el, rfl, _, rfl, ?_⟩
          unfold farS at q'
          by_cases c : k.2 = u
          · rw [if_pos c] at q'
            rw [show decide (V.str k.2 = V.str u) = true from decide_eq_true (by rw [c])]
            exact ⟨.ref w.1, rfl, w.1, _, 0, .str k.1, rfl, rfl, .inl (.inl et), rfl, q'⟩
          · rw [if_neg c] at q'
            rw [show decide (V.str k.2 = V.str u) = false from decide_eq_false fun z => c (V.str.inj z)]
            exact ⟨.ref w.1, rfl, w.1, _, 1, .str k.2, rfl, rfl, .inl (.inl et), rfl, q'⟩
        obtain ⟨f, ef⟩ : ∃ f, farS k u = f := ⟨_, rfl⟩
        rw [ef]
        refine ⟨.str f, rfl, .ref b.1, rfl, b.1, _, rfl, .inl (.inl (.inl eba)), rfl, flat_strs _, _, rfl, ?_⟩
        rw [show (if true = true then !inV (V.str f) ((ys ++ [u]).map V.str) else inV (V.str f) ((ys ++ [u]).map V.str)) = !decide (f ∈ ys ++ [u]) by rw [inV_strs]; rfl]
        by_cases hf : f ∈ ys ++ [u]
        · rw [decide_eq_true hf]
          refine iteF ⟨ns, _, _, rfl, ga, ea, hns, eba, by omega, nlen, fun k' hk' hu' hf' => ?_⟩
          rw [tk] at hk'
          rcases List.mem_append.mp hk' with m | m
          · exact comp k' m hu' hf'
          · rw [List.mem_singleton.mp m, ef] at hf'
            exact absurd hf hf'
        · rw [decide_eq_false hf]
          refine iteT ?_
          obtain ⟨adj, fk⟩ := far_adj W wk hu2
          rw [ef] at adj fk
          have fh : f ∈ N.hands := by
            rcases fk with e | e
            · rw [e]; exact (ok.kin _ wk).1
            · rw [e]; exact (ok.kin _ wk).2
          refine ⟨.ref L, rfl, tyl ea, .ref b.1, rfl, .str f, rfl, by show 1 ≤ sizeLine; decide, fun Lf nLf => ?_⟩
          have gf : Grow [] Hb (upd Hb Lf (.lst [.str f])) := grow_new nLf
          have eLf : upd Hb Lf (.lst [.str f]) Lf = some (.lst ([f].map V.str)) := upd_same
          have ea := gf.lst (by simp) ea
          have eba := gf.lst (by simp) eba
          have hns : ∀ d ∈ bs ++ ns, upd Hb Lf (.lst [.str f]) d.1 = some (.lst (d.2.map V.str)) ∧ RowW p N.hands x d.2 ∧ d.1 ≠ L := fun d hd => ⟨gf.lst (by simp) (hns d hd).1, (hns d hd).2⟩
          generalize upd Hb Lf (.lst [.str f]) = Hc at gf eLf ea eba hns ⊢
          refine ⟨b.1, Lf, _, _, rfl, rfl, eba, eLf, by rw [List.length_map, List.length_map, sizeLine_eq]; show _ + 1 ≤ _; omega, fun D nD => ?_⟩
          rw [← List.map_append]
          have gd : Grow [] Hc (upd Hc D (.lst ((ys ++ [u] ++ [f]).map V.str))) := grow_new nD
          have eD : upd Hc D (.lst ((ys ++ [u] ++ [f]).map V.str)) D = some (.lst ((ys ++ [u] ++ [f]).map V.str)) := upd_same
          have dL : D ≠ L := fun z => by rw [z, ea] at nD; cases nD
          have ea := gd.lst (by simp) ea
          have eba := gd.lst (by simp) eba
          have hns : ∀ d ∈ bs ++ ns, upd Hc D (.lst ((ys ++ [u] ++ [f]).map V.str)) d.1 = some (.lst (d.2.map V.str)) ∧ RowW p N.hands x d.2 ∧ d.1 ≠ L := fun d hd => ⟨gd.lst (by simp) (hns d hd).1, (hns d hd).2⟩
          generalize upd Hc D (.lst ((ys ++ [u] ++ [f]).map V.str)) = Hd at gd eD ea eba hns ⊢
          have jl : j < 3600 := by rw [List.length_map] at hj; omega
          have bsl : bs.length < 3601 * 60 := by
            have := few bs.length b (by simp)
            rw [hB, eu] at this
            exact Nat.lt_of_lt_of_le this (Nat.mul_le_mul_left _ bl)
          refine ⟨L, _, .ref D, rfl, rfl, ea, by rw [List.length_map, List.length_append, sizeLine_eq]; omega, ?_⟩
          have gab := (ga.trans gf).trans gd
          refine ⟨ns ++ [(D, ys ++ [u] ++ [f])], _, _, rfl, gab.put fL ea (fun ps z => by cases z), ?_, fun d hd => ?_, ?_, ?_, fun d hd => ?_, fun k' hk' hu' hf' => ?_⟩
          · rw [upd_same, ← List.append_assoc, List.map_append (l₁ := bs ++ ns)]
            rfl
          · rw [← List.append_assoc] at hd
            rcases List.mem_append.mp hd with m | m
            · obtain ⟨h1, h2, h3⟩ := hns d m
              exact ⟨by rw [upd_ne h3]; exact h1, h2, h3⟩
            · rw [List.mem_singleton.mp m]
              exact ⟨by rw [upd_ne dL]; exact eD, rb.snoc adj fh hf, dL⟩
          · rw [upd_ne nb]; exact eba
          · rw [List.length_append]
            show ns.length + 1 ≤ _
            omega
          · rcases List.mem_append.mp hd with m | m
            · exact nlen d m
            · rw [List.mem_singleton.mp m, List.length_append (as := ys ++ [u])]
              rfl
          · rw [tk] at hk'
            rcases List.mem_append.mp hk' with m | m
            · obtain ⟨d, hd, e⟩ := comp k' m hu' hf'
              exact ⟨d, List.mem_append_left _ hd, e⟩
            · rw [List.mem_singleton.mp m, ef]
              exact ⟨_, List.mem_append_right _ (List.mem_singleton_self _), rfl⟩
      · rw [decide_eq_false hu]
        refine iteF ⟨ns, _, v6, rfl, ga, ea, hns, eba, by omega, nlen, fun k' hk' hu' hf => ?_⟩
        rw [tk] at hk'
        rcases List.mem_append.mp hk' with m | m
        · exact comp k' m hu' hf
        · rw [List.mem_singleton.mp m] at hu'
          exact absurd (by simpa using hu') hu
    · obtain ⟨ns, v5, v6, rfl, ga, ea, hns, eba, nl, nlen, comp⟩ := hp
      rw [List.length_map] at nl
      rw [List.length_map, List.take_length] at comp
      have ml : ∀ d ∈ ns.map Prod.snd, d.length = b.2.length + 1 := fun d hd => by
        obtain ⟨e, he, rfl⟩ := List.mem_map.mp hd
        rw [nlen e he, eu]
      refine ⟨mea B M ((bs ++ ns).map Prod.snd), ?_, bs ++ ns, _, _, _, rfl, rfl, ga, ea, hns, ?_, fun i d hd => ?_⟩
      · rw [List.map_append, List.map_append]
        exact mea_less ml (by rw [List.length_map]; omega) (by rw [eu]; omega)
      · obtain ⟨d, hd, i, e⟩ := pre
        rcases List.mem_append.mp hd with m | m
        · exact ⟨d, List.mem_append_left _ m, i, e⟩
        · rw [List.mem_singleton.mp m, eu] at e
          obtain ⟨z, k, hz, hk, hu, hf, nz, last, _⟩ := way_on TK W.sym all hZ e uy
          obtain ⟨d2, hd2, e2⟩ := comp k hk hu (by rw [hf]; exact nz)
          exact ⟨d2, List.mem_append_right _ hd2, i + 1, by rw [e2, hf]; exact last⟩
      · by_cases c : i < bs.length
        · rw [List.getElem?_append_left c] at hd
          exact few i d (by rw [List.getElem?_append_left c]; exact hd)
        · rw [List.getElem?_append_right (by omega)] at hd
          have il := (List.getElem?_eq_some_iff.mp hd).1
          have f1 := few bs.length b (by simp)
          rw [nlen d (List.mem_of_getElem? hd), Nat.mul_add, ← eu]
          omega
end

end Lw

namespace Lw
open PySem PySem.Spec PyProof.Rows L2 GxR Gx
section
variable {P : Program} {w : World} {K : PySem.W.Frag} {mg : Str → Option Value} {base : Heap} {C : Addr}
/-! ### _law_due -/
theorem web_both {N : Nst} {T : Nat} (ok : Nok N T) {p : Str → Option Str} {r : Str → Nat} (W : Wok N p r) {k : Str × Str} (hk : k ∈ N.keys) : k ∈ webR N ∨ (k.2, k.1) ∈ webR N := by
  have mem : ∀ {l : Str × Str}, l ∈ N.keys → fwdN l = true → l ∈ webR N := fun hl f => (List.mergeSort_perm _ _).mem_iff.mpr (List.mem_filter.mpr ⟨hl, f⟩)
  by_cases c : fwdN k = true
  · exact .inl (mem hk c)
  · by_cases d : fwdN (k.2, k.1) = true
    · exact .inr (mem (W.sym k hk) d)
    · have c0 : fwdN k = false := by simpa using c
      have c' : sLt k.1 k.2 = false := c0
      have d0 : fwdN (k.2, k.1) = false := by simpa using d
      have d' : sLt k.2 k.1 = false := d0
      exact absurd (sLt_eq c' d') fun z => by
        rcases W.key k hk with q | q
        · have := W.par _ _ q
          rw [z] at this
          omega
        · have := W.par _ _ q
          rw [z] at this
          omega
def enumS (Y : List Str) : List (Nat × Str) := (List.range Y.length).map fun i => (i, Y.getD i "")
theorem enumS_at {Y : List Str} {i : Nat} {z : Nat × Str} (h : (enumS Y)[i]? = some z) : z.1 = i ∧ Y[i]? = some z.2 := by
  unfold enumS at h
  rw [List.getElem?_map] at h
  obtain ⟨j, hj, rfl⟩ := Option.map_eq_some_iff.mp h
  have lt := (List.getElem?_eq_some_iff.mp hj).1
  rw [List.length_range] at lt
  rw [List.getElem?_range lt] at hj
  cases hj
  exact ⟨rfl, by rw [List.getD, List.getElem?_eq_getElem lt]; rfl⟩
theorem enumS_mem {Y : List Str} {i : Nat} {x : Str} (h : Y[i]? = some x) : (i, x) ∈ enumS Y := by
  have lt := (List.getElem?_eq_some_iff.mp h).1
  refine List.mem_map.mpr ⟨i, List.mem_range.mpr lt, ?_⟩
  rw [List.getD, h]
  rfl
def spDue (C : Addr) : Sp := fun vs H Q _ => ∃ (a : Addr) (A : Ads) (N : Nst) (T : Nat) (p : Str → Option Str) (r : Str → Nat) (h x : Str), vs = [.ref a, .str h, .str x] ∧ NetAt C a A N H ∧ Nok N T ∧ Wok N p r ∧ Tok N p ∧ T ≤ 10000 ∧ h ∈ N.hands ∧ x ∈ N.mouths.map Prod.fst ∧
  ∀ H' Y, Grow [] H H' → PthP p (mouthN N x) h Y → (∀ z ∈ Y, z ∈ N.hands) → Q (.int (fewN N x Y : Nat)) H'
theorem ok_law_due {f c : Addr} {fd : FuncData} (B : Nb mg) (D : DefIs K "_law_due" "_law_due" st_law_due f fd (.ref c)) (c_law_way : Callee P w K mg base CX0 1 "_law_way" ["roads", "one", "other"] spLWay) (c_Net_web : CalleeM P w K mg base CX0 2 C "web" ["self"] (spWeb C))
    (c_Net_mouth : CalleeM P w K mg base CX0 3 C "mouth" ["self", "word"] (spMouth C)) (c_Net_book : CalleeM P w K mg base CX0 3 C "book" ["self", "hand"] (spBook C)) (c_Net_lane : CalleeM P w K mg base CX0 3 C "lane" ["self", "hand", "other"] (spLane C)) : FnG P w K mg base CX0 5 f fd ["net", "hand", "word"] (spDue C) := by
  refine D.ok0 (k := 4) sc_law_due (fun vs H Q E h => ?_) (fun A0 outer s H vs Q E g hr h => ?_)
  · obtain ⟨a, A, N, T, p, r, h, x, rfl, _⟩ := h
    rfl
  obtain ⟨a, A, N, T, p, r, h, x, rfl, n, ok, W, TK, hT, hh, hx, q⟩ := h
  obtain ⟨mx, mh⟩ := mouth_in ok hx
  refine ⟨_,
      (pss_cons (ps_set (i := 3) sc_law_due.nd rfl (.inl rfl) (pe_g c_law_way g (hr.mono (by decide)) pass0 (pa_cons (pe_ix ix_tup (pe_gm0 c_Net_web g (hr.mono (by decide)) pass0 (pv 0)) pe_int (fun _ _ => rfl)) (pa_cons (pe_gm c_Net_mouth g (hr.mono (by decide)) pass0 (pv 0) (pa_cons (pv 2) pa_nil)) (pa_cons (pv 1) pa_nil)))))
      (pss_cons (ps_set (i := 4) sc_law_due.nd rfl (.inl rfl) (pe_callB (cr_max rfl) rfl B.n_max (by decide +kernel) (pa_cons (pe_lc (own := [("at", 5), ("one", 6)]) (g := (gTup _ 2 (gCons (gName 5) (gCons (gName 6) gNil)))) rfl sc_law_due.nd (pi_enum rfl B.n_enumerate (pa_cons (pv 3) pa_nil)) (blkOk_by (N := N_law_due) (sc := defScope st_law_due) (by decide +kernel)) (fun _ _ _ _ _ => (pg_tup rfl (pgs_cons (pg_name (i := 5) sc_law_due.nd rfl (.inl rfl)) (pgs_cons (pg_name (i := 6) sc_law_due.nd rfl (.inl rfl)) pgs_nil)))) (fun _ _ _ _ _ => pts_to (pts_one (pt_cmpR (op_in_seq) (pv 2) (pe_gm c_Net_book g (hr.mono (by decide)) pass0 (pv 0) (pa_cons (pv 6) pa_nil)) rfl))) (fun _ _ _ _ _ => pe_to (pv 5))) pa_nil)))
      (pss_cons (ps_asg (pe_tup (pa_cons pe_int (pa_cons pe_int pa_nil))) (pg_tup rfl (pgs_cons (pg_name (i := 7) sc_law_due.nd rfl (.inl rfl)) (pgs_cons (pg_name (i := 8) sc_law_due.nd rfl (.inl rfl)) pgs_nil))))
      (pss_cons (ps_for PassesOwn.never rfl (pi_range2 rfl B.n_range (pa_cons (pv 4) (pa_cons (pe_op op_sub (pe_callB call_len_seq rfl B.n_len PySem.boot_len (pa_cons (pv 3) pa_nil)) pe_int) pa_nil))) (pg_name (i := 5) sc_law_due.nd rfl (.inl rfl)) (
        (pss_cons (ps_set (i := 9) sc_law_due.nd rfl (.inl rfl) (pe_gm c_Net_lane g (hr.mono (by decide)) pass0 (pv 0) (pa_cons (pe_ix ix_list (pv 3) (pv 5) (fun _ _ => rfl)) (pa_cons (pe_ix ix_list (pv 3) (pe_op op_add (pv 5) pe_int) (fun _ _ => rfl)) pa_nil))))
        (pss_cons (ps_set (i := 8) sc_law_due.nd rfl (.inl rfl) (pe_ifExp (pt_cmpR (op_eq) (pv 5) (pv 4) (nomark _)) (pe_op op_add (pe_bm PySem.F.plainAttrs_list PySem.F.slot_list_index PySem.F.type_list_index mt_index (pv 9) (pa_cons (pv 2) pa_nil)) pe_int) (pe_op op_add (pv 8) (pe_callB call_len_seq rfl B.n_len PySem.boot_len (pa_cons (pv 9) pa_nil)))))
        (pss_one (ps_set (i := 7) sc_law_due.nd rfl (.inl rfl) (pe_op op_add (pv 7) (pv 8))))))))
      (pss_one (ps_ret (pv 7))))))), ?_⟩
  refine ⟨.ref a, rfl, a, _, _, rfl, n.obj, rfl, a, A, N, T, rfl, n, ok, fun Wd LH LR H1 g1 wr => ?_⟩
  obtain ⟨rs, eR, mR, hR⟩ := wr.rds
  have n1 := n.grow0 g1
  have rl : rs.length ≤ 3600 := by
    have := congrArg List.length mR
    rw [List.length_map] at this
    rw [this]
    exact webR_len ok
  refine ⟨Wd, _, 1, .ref LR, rfl, rfl, .inl (.inl wr.top), rfl, .ref a, rfl, a, _, _, rfl, n1.obj, rfl, .str x, rfl, a, A, N, T, x, rfl, n1, ok, hx, .str h, rfl, ?_⟩
  refine ⟨LR, rs, N, T, p, r, mouthN N x, h, rfl, ok, W, TK, eR, rl, fun b hb => ⟨(hR b hb).1, webR_keys (by rw [← mR]; exact List.mem_map_of_mem hb)⟩, fun k hk => by rw [mR]; exact web_both ok W hk, mh, hh, fun L H2 Y g2 eL pt yh => ?_⟩
  have n2 := n1.grow0 g2
  have g12 := g1.trans g2
  have wy : WayN N p x h Y := ⟨⟨_, mx, pt⟩, yh⟩
  obtain ⟨A1, A2, A3⟩ := wy.has ok W TK
  obtain ⟨c0, hc0⟩ : ∃ c0, hvN N x Y = c0 := ⟨_, rfl⟩
  rw [hc0] at A1 A2 A3
  have yl : Y.length ≤ 60 := Nat.le_trans (List.Nodup.length_le_of_subset pt.nd yh) ok.len
  refine ⟨.ref L, rfl, L, _, rfl, .inl (.inl eL), fun D1 nD1 => ?_⟩
  refine lc_filt (walk_enum (xs := Y.map V.str)) (enumS Y) (fun z => hasB N x z.2) (fun z => V.int (z.1 : Nat)) nD1 (by unfold enumS; rw [List.length_map, List.length_map, List.length_range]) (by unfold enumS; rw [List.length_map, List.length_range]; omega) (fun Hx gx => .inl (.inl (gx.lst (by simp) eL))) (fun i z v Ha Hb Pu Pn ei ga hy kt kf => ?_) fun H3 g3 eD1 => ?_
  · obtain ⟨Tp, v1, v2, rfl, nT, rfl, h1, h2⟩ := hy
    obtain ⟨ez, ez2⟩ := enumS_at ei
    have gb : Grow [] Ha (upd Ha Tp (.tup [v1, v2])) := grow_new nT
    have eT : upd Ha Tp (.tup [v1, v2]) Tp = some (.tup [v1, v2]) := upd_same
    generalize upd Ha Tp (.tup [v1, v2]) = Hb at gb eT ⊢
    have e1 : v1 = .int (z.1 : Nat) := by rw [ez]; exact (Option.some.inj h1).symm
    have e2 : v2 = .str z.2 := by
      replace h2 : (Y.map V.str)[i]? = some v2 := h2
      rw [List.getElem?_map, ez2] at h2
      exact (Option.some.inj h2).symm
    subst e1 e2
    have n3 := (n2.grow0 ga).grow0 gb
    have zh := yh z.2 (List.mem_of_getElem? ez2)
    refine ⟨Tp, _, rfl, .inl (.inl eT), rfl, .int (z.1 : Nat), _, rfl, .str z.2, _, rfl, rfl, ?_⟩
    refine ⟨rfl, .str x, rfl, .ref a, rfl, a, _, _, rfl, n3.obj, rfl, .str z.2, rfl, a, A, N, T, z.2, rfl, n3, ok, hT, zh, fun Lb Hc fb gc ec => ?_⟩
    refine ⟨Lb, _, rfl, .inl (.inl (.inl ec)), rfl, flat_strs _, _, rfl, ?_⟩
    rw [show (if false = true then !inV (V.str x) (((N.book z.2).map Prod.fst).map V.str) else inV (V.str x) (((N.book z.2).map Prod.fst).map V.str)) = hasB N x z.2 from inV_strs _ _]
    by_cases hb : hasB N x z.2 = true
    · rw [hb]
      exact iteT ⟨_, rfl, kt _ (gb.trans gc) hb⟩
    · have hf : hasB N x z.2 = false := by simpa using hb
      rw [hf]
      exact iteF (kf _ (gb.trans gc) hf)
  have eL3 := g3.lst (by simp) eL
  have n3 := n2.grow0 g3
  have ens : (((enumS Y).filter fun z => hasB N x z.2).map fun z => V.int (z.1 : Nat)) = (((enumS Y).filter fun z => hasB N x z.2).map fun z => ((z.1 : Nat) : Int)).map V.int := by rw [List.map_map]; rfl
  rw [ens] at eD1
  obtain ⟨ym, hym⟩ : ∃ y, Y[c0 - 1]? = some y := ⟨_, List.getElem?_eq_getElem (by omega)⟩
  have cm : ((c0 - 1 : Nat) : Int) ∈ ((enumS Y).filter fun z => hasB N x z.2).map fun z => ((z.1 : Nat) : Int) :=
    List.mem_map.mpr ⟨(c0 - 1, ym), List.mem_filter.mpr ⟨enumS_mem hym, hasB_iff.mpr ((A1 _ _ hym).mpr (by omega))⟩, rfl⟩
  refine ⟨D1, _, rfl, .inl (.inl eD1), List.length_pos_of_mem cm, fun m hm hmax => ?_⟩
  have em : m = ((c0 - 1 : Nat) : Int) := by
    have h1 := hmax _ cm
    obtain ⟨z, hz, rfl⟩ := List.mem_map.mp hm
    obtain ⟨hz1, hz2⟩ := List.mem_filter.mp hz
    obtain ⟨i, hi⟩ := List.mem_iff_getElem?.mp hz1
    obtain ⟨ez, ez2⟩ := enumS_at hi
    have := (A1 i _ ez2).mp (hasB_iff.mp hz2)
    omega
  subst em
  refine ⟨by show 2 ≤ sizeLine; decide, fun b nb => ?_⟩
  have g4 : Grow [] H3 (upd H3 b (.tup [.int 0, .int 0])) := grow_new nb
  have eb : upd H3 b (.tup [.int 0, .int 0]) b = some (.tup [.int 0, .int 0]) := upd_same
  generalize upd H3 b (.tup [.int 0, .int 0]) = H4 at g4 eb ⊢
  have eL4 := g4.lst (by simp) eL3
  have n4 := n3.grow0 g4
  have g04 := (g12.trans g3).trans g4
  refine ⟨b, _, rfl, .inl (.inl eb), rfl, .int 0, _, rfl, .int 0, _, rfl, rfl, ?_⟩
  refine ⟨_, rfl, .ref L, rfl, L, _, rfl, .inl (.inl (.inl eL4)), _, _, rfl, rfl, _, _, rfl, ?_, ?_⟩
  · rw [List.length_map]
    omega
  rw [List.length_map, show (((Y.length : Nat) : Int) - 1 - ((c0 - 1 : Nat) : Int)).toNat = Y.length - c0 by omega]
  refine for_it walk_range (fun j σ H' => ∃ (v5 v9 : Option V) (mn : Nat), σ = [some (.ref a), some (.str h), some (.str x), some (.ref L), some (.int (c0 - 1 : Nat)), v5, none, some (.int (sumT (dueM N x Y c0) j : Nat)), some (.int (mn : Nat)), v9] ∧ Grow [] H4 H' ∧ (0 < j → mn = dueM N x Y c0 (j - 1)))
    ⟨none, none, 0, rfl, Grow.refl _ _, fun z => absurd z (by omega)⟩ (fun _ _ _ _ _ => trivial) (fun j z σ Ha Hb hj hp hy => ?_) (fun σ H6 hp => ?_)
  · obtain ⟨v5, v9, mn, rfl, ga, hmn⟩ := hp
    obtain ⟨rfl, rfl⟩ := hy
    have n5 := n4.grow0 ga
    have eLa := ga.lst (by simp) eL4
    obtain ⟨k1, k2, k3⟩ := lnY_key ok W TK pt.ch (i := c0 - 1 + j) (by omega)
    obtain ⟨k, hk⟩ : ∃ k, lnY Y (c0 - 1 + j) = k := ⟨_, rfl⟩
    rw [hk] at k1 k2 k3
    have w2 : atI (Y.map V.str) (((c0 - 1 : Nat) : Int) + (j : Nat)) = some (.str k.1) := by
      rw [show ((c0 - 1 : Nat) : Int) + (j : Nat) = ((c0 - 1 + j : Nat) : Int) by omega]
      exact atI_nat (by rw [List.getElem?_map, k2]; rfl)
    have w3 : atI (Y.map V.str) (((c0 - 1 : Nat) : Int) + (j : Nat) + 1) = some (.str k.2) := by
      rw [show ((c0 - 1 : Nat) : Int) + (j : Nat) + 1 = ((c0 - 1 + j + 1 : Nat) : Int) by omega]
      exact atI_nat (by rw [List.getElem?_map, k3]; rfl)
    have kh := ok.kin k k1
    refine ⟨.ref a, rfl, a, _, _, rfl, n5.obj, rfl, .ref L, rfl, _, rfl, L, _, _, .str k.1, rfl, rfl, .inl (.inl eLa), w2, .ref L, rfl, _, rfl, _, _, rfl, rfl, L, _, _, .str k.2, rfl, rfl, .inl (.inl eLa), w3, ?_⟩
    refine ⟨a, A, N, T, k.1, k.2, rfl, n5, ok, hT, kh.1, kh.2, fun Ll H5 fl gl el => ?_⟩
    have gll : H5 Ll = some (.lst ((laneN N k).map V.str)) := el
    refine ⟨_, rfl, _, rfl, rfl, _, rfl, ?_⟩
    have s1 : sumT (dueM N x Y c0) (j + 1) = sumT (dueM N x Y c0) j + dueM N x Y c0 j := rfl
    by_cases j0 : j = 0
    · subst j0
      rw [show decide (V.int (((c0 - 1 : Nat) : Int) + ((0 : Nat) : Int)) = V.int ((c0 - 1 : Nat) : Int)) = true from decide_eq_true (by rw [show ((c0 - 1 : Nat) : Int) + ((0 : Nat) : Int) = ((c0 - 1 : Nat) : Int) by omega])]
      have nk : ¬ hasN N k.2 x := fun z => by
        have := (A1 _ _ k3).mp z
        omega
      have hk1 : hasN N k.1 x := (A1 _ _ k2).mpr (by omega)
      have xl : x ∈ laneN N k := (W.all k k1 x hk1).resolve_left nk
      obtain ⟨i1, i2⟩ := ixS_at xl
      refine ⟨_, rfl, tyl gll, .str x, rfl, Ll, _, .str x, ixS x (laneN N k), .str x, rfl, rfl, .inl (.inl gll), rfl, flat_strs _, by rw [List.getElem?_map, i1]; rfl, beq_self_eq_true x, fun m z' hm hz => ?_, ?_⟩
      · rw [List.getElem?_map] at hz
        obtain ⟨z, hz2, rfl⟩ := Option.map_eq_some_iff.mp hz
        exact beq_eq_false_iff_ne.mpr (i2 m z hm hz2)
      refine ⟨_, _, rfl, rfl, ?_⟩
      have d0 : dueM N x Y c0 0 = ixS x (laneN N k) + 1 := by
        unfold dueM
        show 0 + dueA N x Y c0 0 = _
        unfold dueA
        rw [if_pos rfl, ← hk, Nat.zero_add]
        rfl
      refine ⟨_, rfl, _, rfl, _, _, rfl, rfl, ?_⟩
      refine ⟨some (.int (((c0 - 1 : Nat) : Int) + ((0 : Nat) : Int))), some (.ref Ll), dueM N x Y c0 0, ?_, ga.trans gl, fun _ => rfl⟩
      rw [s1, d0]
      show [some (V.ref a), some (V.str h), some (V.str x), some (V.ref L), some (V.int (c0 - 1 : Nat)), some (V.int (((c0 - 1 : Nat) : Int) + ((0 : Nat) : Int))), none, some (V.int ((sumT (dueM N x Y c0) 0 : Nat) + ((ixS x (laneN N k) : Nat) + 1))), some (V.int ((ixS x (laneN N k) : Nat) + 1)), some (V.ref Ll)] = _
      rfl
    · rw [show decide (V.int (((c0 - 1 : Nat) : Int) + (j : Int)) = V.int ((c0 - 1 : Nat) : Int)) = false from decide_eq_false fun z => by have := V.int.inj z; omega]
      refine ⟨_, rfl, .ref Ll, rfl, Ll, _, rfl, .inl (.inl (.inl gll)), _, _, rfl, rfl, ?_⟩
      have d0 : dueM N x Y c0 j = dueM N x Y c0 (j - 1) + (laneN N k).length := by
        unfold dueM
        rw [show j + 1 = (j - 1 + 1) + 1 by omega]
        show sumT (dueA N x Y c0) (j - 1 + 1) + dueA N x Y c0 (j - 1 + 1) = _
        congr 1
        unfold dueA
        rw [if_neg (by omega), show c0 - 1 + (j - 1 + 1) = c0 - 1 + j by omega, hk]
      have hm := hmn (by omega)
      subst hm
      refine ⟨_, rfl, _, rfl, _, _, rfl, rfl, ?_⟩
      refine ⟨some (.int (((c0 - 1 : Nat) : Int) + (j : Int))), some (.ref Ll), dueM N x Y c0 j, ?_, ga.trans gl, fun _ => rfl⟩
      rw [s1, d0]
      show [some (V.ref a), some (V.str h), some (V.str x), some (V.ref L), some (V.int (c0 - 1 : Nat)), some (V.int (((c0 - 1 : Nat) : Int) + (j : Int))), none, some (V.int ((sumT (dueM N x Y c0) j : Nat) + ((dueM N x Y c0 (j - 1) : Nat) + (((laneN N k).map V.str).length : Nat)))), some (V.int ((dueM N x Y c0 (j - 1) : Nat) + (((laneN N k).map V.str).length : Nat))), some (V.ref Ll)] = _
      rw [List.length_map]
      rfl
  · obtain ⟨v5, v9, mn, rfl, ga, hmn⟩ := hp
    refine ⟨_, rfl, ?_⟩
    have := q H6 Y (g04.trans ga) pt yh
    rw [show fewN N x Y = sumT (dueM N x Y c0) (Y.length - c0) by unfold fewN dueT; rw [hc0]] at this
    exact this
end

end Lw

namespace Lw
open PySem PySem.Spec PyProof.Rows L2 GxR Gx
section
variable {P : Program} {w : World} {K : PySem.W.Frag} {mg : Str → Option Value} {base : Heap} {C : Addr}
/-! ### _law_counted -/
/-- the lanes that count -/
def cntY (N : Nst) (x : Str) (Y : List Str) : List (Str × Str) := (List.range (Y.length - hvN N x Y)).map fun j => lnY Y (hvN N x Y - 1 + j)
def spCnt (C : Addr) : Sp := fun vs H Q _ => ∃ (a : Addr) (A : Ads) (N : Nst) (T : Nat) (p : Str → Option Str) (r : Str → Nat) (h x : Str), vs = [.ref a, .str h, .str x] ∧ NetAt C a A N H ∧ Nok N T ∧ Wok N p r ∧ Tok N p ∧ T ≤ 10000 ∧ h ∈ N.hands ∧ x ∈ N.mouths.map Prod.fst ∧
  ∀ L (ps : List (Addr × (Str × Str))) H' Y, Grow [] H H' → H' L = some (.lst (ps.map fun b => V.ref b.1)) → (∀ b ∈ ps, H' b.1 = some (.tup [.str b.2.1, .str b.2.2])) → ps.map Prod.snd = cntY N x Y → PthP p (mouthN N x) h Y → (∀ z ∈ Y, z ∈ N.hands) → Q (.ref L) H'
theorem ok_law_counted {f c : Addr} {fd : FuncData} (B : Nb mg) (D : DefIs K "_law_counted" "_law_counted" st_law_counted f fd (.ref c)) (c_law_way : Callee P w K mg base CX0 1 "_law_way" ["roads", "one", "other"] spLWay) (c_Net_web : CalleeM P w K mg base CX0 2 C "web" ["self"] (spWeb C))
    (c_Net_mouth : CalleeM P w K mg base CX0 3 C "mouth" ["self", "word"] (spMouth C)) (c_Net_book : CalleeM P w K mg base CX0 3 C "book" ["self", "hand"] (spBook C)) : FnG P w K mg base CX0 5 f fd ["net", "hand", "word"] (spCnt C) := by
  refine D.ok0 (k := 4) sc_law_counted (fun vs H Q E h => ?_) (fun A0 outer s H vs Q E g hr h => ?_)
  · obtain ⟨a, A, N, T, p, r, h, x, rfl, _⟩ := h
    rfl
  obtain ⟨a, A, N, T, p, r, h, x, rfl, n, ok, W, TK, hT, hh, hx, q⟩ := h
  obtain ⟨mx, mh⟩ := mouth_in ok hx
  refine ⟨_,
      (pss_cons (ps_set (i := 3) sc_law_counted.nd rfl (.inr rfl) (pe_g c_law_way g (hr.mono (by decide)) pass0 (pa_cons (pe_ix ix_tup (pe_gm0 c_Net_web g (hr.mono (by decide)) pass0 (pv 0)) pe_int (fun _ _ => rfl)) (pa_cons (pe_gm c_Net_mouth g (hr.mono (by decide)) pass0 (pv 0) (pa_cons (pv 2) pa_nil)) (pa_cons (pv 1) pa_nil)))))
      (pss_cons (ps_set (i := 4) sc_law_counted.nd rfl (.inl rfl) (pe_callB (cr_max rfl) rfl B.n_max (by decide +kernel) (pa_cons (pe_lc (own := [("at", 5), ("one", 6)]) (g := (gTup _ 2 (gCons (gName 5) (gCons (gName 6) gNil)))) rfl sc_law_counted.nd (pi_enum rfl B.n_enumerate (pa_cons (pv 3) pa_nil)) (blkOk_by (N := N_law_counted) (sc := defScope st_law_counted) (by decide +kernel)) (fun _ _ _ _ _ => (pg_tup rfl (pgs_cons (pg_name (i := 5) sc_law_counted.nd rfl (.inl rfl)) (pgs_cons (pg_name (i := 6) sc_law_counted.nd rfl (.inl rfl)) pgs_nil)))) (fun _ _ _ _ _ => pts_to (pts_one (pt_cmpR (op_in_seq) (pv 2) (pe_gm c_Net_book g (hr.mono (by decide)) pass0 (pv 0) (pa_cons (pv 6) pa_nil)) rfl))) (fun _ _ _ _ _ => pe_to (pv 5))) pa_nil)))
      (pss_one (ps_ret (pe_lc (own := [("at", 5)]) (tt := tYes) (g := (gName 5)) rfl sc_law_counted.nd (pi_range2 rfl B.n_range (pa_cons (pv 4) (pa_cons (pe_op op_sub (pe_callB call_len_seq rfl B.n_len PySem.boot_len (pa_cons (pv 3) pa_nil)) pe_int) pa_nil))) (blkOk_by (N := N_law_counted) (sc := defScope st_law_counted) (by decide +kernel)) (fun _ _ _ _ _ => (pg_name (i := 5) sc_law_counted.nd rfl (.inl rfl))) (fun _ _ _ _ _ => pts_nil) (fun _ _ _ _ _ => pe_to (pe_tup (pa_cons (pe_ix ix_list (pv 3) (pv 5) (fun _ _ => rfl)) (pa_cons (pe_ix ix_list (pv 3) (pe_op op_add (pv 5) pe_int) (fun _ _ => rfl)) pa_nil))))))))), ?_⟩
  refine ⟨.ref a, rfl, a, _, _, rfl, n.obj, rfl, a, A, N, T, rfl, n, ok, fun Wd LH LR H1 g1 wr => ?_⟩
  obtain ⟨rs, eR, mR, hR⟩ := wr.rds
  have n1 := n.grow0 g1
  have rl : rs.length ≤ 3600 := by
    have := congrArg List.length mR
    rw [List.length_map] at this
    rw [this]
    exact webR_len ok
  refine ⟨Wd, _, 1, .ref LR, rfl, rfl, .inl (.inl wr.top), rfl, .ref a, rfl, a, _, _, rfl, n1.obj, rfl, .str x, rfl, a, A, N, T, x, rfl, n1, ok, hx, .str h, rfl, ?_⟩
  refine ⟨LR, rs, N, T, p, r, mouthN N x, h, rfl, ok, W, TK, eR, rl, fun b hb => ⟨(hR b hb).1, webR_keys (by rw [← mR]; exact List.mem_map_of_mem hb)⟩, fun k hk => by rw [mR]; exact web_both ok W hk, mh, hh, fun L H2 Y g2 eL pt yh => ?_⟩
  have n2 := n1.grow0 g2
  have g12 := g1.trans g2
  have wy : WayN N p x h Y := ⟨⟨_, mx, pt⟩, yh⟩
  obtain ⟨A1, A2, A3⟩ := wy.has ok W TK
  obtain ⟨c0, hc0⟩ : ∃ c0, hvN N x Y = c0 := ⟨_, rfl⟩
  rw [hc0] at A1 A2 A3
  have yl : Y.length ≤ 60 := Nat.le_trans (List.Nodup.length_le_of_subset pt.nd yh) ok.len
  refine ⟨.ref L, rfl, L, _, rfl, .inl (.inl eL), fun D1 nD1 => ?_⟩
  refine lc_filt (walk_enum (xs := Y.map V.str)) (enumS Y) (fun z => hasB N x z.2) (fun z => V.int (z.1 : Nat)) nD1 (by unfold enumS; rw [List.length_map, List.length_map, List.length_range]) (by unfold enumS; rw [List.length_map, List.length_range]; omega) (fun Hx gx => .inl (.inl (gx.lst (by simp) eL))) (fun i z v Ha Hb Pu Pn ei ga hy kt kf => ?_) fun H3 g3 eD1 => ?_
  · obtain ⟨Tp, v1, v2, rfl, nT, rfl, h1, h2⟩ := hy
    obtain ⟨ez, ez2⟩ := enumS_at ei
    have gb : Grow [] Ha (upd Ha Tp (.tup [v1, v2])) := grow_new nT
    have eT : upd Ha Tp (.tup [v1, v2]) Tp = some (.tup [v1, v2]) := upd_same
    generalize upd Ha Tp (.tup [v1, v2]) = Hb at gb eT ⊢
    have e1 : v1 = .int (z.1 : Nat) := by rw [ez]; exact (Option.some.inj h1).symm
    have e2 : v2 = .str z.2 := by
      replace h2 : (Y.map V.str)[i]? = some v2 := h2
      rw [List.getElem?_map, ez2] at h2
      exact (Option.some.inj h2).symm
    subst e1 e2
    have n3 := (n2.grow0 ga).grow0 gb
    have zh := yh z.2 (List.mem_of_getElem? ez2)
    refine ⟨Tp, _, rfl, .inl (.inl eT), rfl, .int (z.1 : Nat), _, rfl, .str z.2, _, rfl, rfl, ?_⟩
    refine ⟨rfl, .str x, rfl, .ref a, rfl, a, _, _, rfl, n3.obj, rfl, .str z.2, rfl, a, A, N, T, z.2, rfl, n3, ok, hT, zh, fun Lb Hc fb gc ec => ?_⟩
    refine ⟨Lb, _, rfl, .inl (.inl (.inl ec)), rfl, flat_strs _, _, rfl, ?_⟩
    rw [show (if false = true then !inV (V.str x) (((N.book z.2).map Prod.fst).map V.str) else inV (V.str x) (((N.book z.2).map Prod.fst).map V.str)) = hasB N x z.2 from inV_strs _ _]
    by_cases hb : hasB N x z.2 = true
    · rw [hb]
      exact iteT ⟨_, rfl, kt _ (gb.trans gc) hb⟩
    · have hf : hasB N x z.2 = false := by simpa using hb
      rw [hf]
      exact iteF (kf _ (gb.trans gc) hf)
  have eL3 := g3.lst (by simp) eL
  have n3 := n2.grow0 g3
  have ens : (((enumS Y).filter fun z => hasB N x z.2).map fun z => V.int (z.1 : Nat)) = (((enumS Y).filter fun z => hasB N x z.2).map fun z => ((z.1 : Nat) : Int)).map V.int := by rw [List.map_map]; rfl
  rw [ens] at eD1
  obtain ⟨ym, hym⟩ : ∃ y, Y[c0 - 1]? = some y := ⟨_, List.getElem?_eq_getElem (by omega)⟩
  have cm : ((c0 - 1 : Nat) : Int) ∈ ((enumS Y).filter fun z => hasB N x z.2).map fun z => ((z.1 : Nat) : Int) :=
    List.mem_map.mpr ⟨(c0 - 1, ym), List.mem_filter.mpr ⟨enumS_mem hym, hasB_iff.mpr ((A1 _ _ hym).mpr (by omega))⟩, rfl⟩
  refine ⟨D1, _, rfl, .inl (.inl eD1), List.length_pos_of_mem cm, fun m hm hmax => ?_⟩
  have em : m = ((c0 - 1 : Nat) : Int) := by
    have h1 := hmax _ cm
    obtain ⟨z, hz, rfl⟩ := List.mem_map.mp hm
    obtain ⟨hz1, hz2⟩ := List.mem_filter.mp hz
    obtain ⟨i, hi⟩ := List.mem_iff_getElem?.mp hz1
    obtain ⟨ez, ez2⟩ := enumS_at hi
    have := (A1 i _ ez2).mp (hasB_iff.mp hz2)
    omega
  subst em
  refine ⟨_, rfl, .ref L, rfl, L, _, rfl, .inl (.inl (.inl eL3)), _, _, rfl, rfl, _, _, rfl, ?_, fun D2 nD2 => ?_⟩
  · rw [List.length_map]
    omega
  rw [List.length_map, show (((Y.length : Nat) : Int) - 1 - ((c0 - 1 : Nat) : Int)).toNat = Y.length - c0 by omega]
  refine lc_it walk_range (fun j H' => Grow [] H3 H' ∧ ∃ ps : List (Addr × (Str × Str)), H' D2 = some (.lst (ps.map fun b => V.ref b.1)) ∧ (∀ b ∈ ps, H' b.1 = some (.tup [.str b.2.1, .str b.2.2])) ∧ ps.map Prod.snd = (List.range j).map fun j => lnY Y (c0 - 1 + j))
    ⟨grow_new nD2, [], upd_same, (fun b hb => by cases hb), rfl⟩ (fun _ _ _ _ => trivial) (fun j v Ha Hb hj hp hy => ?_) (fun H6 hp => ?_)
  · obtain ⟨ga, ps, e2, hps, mp⟩ := hp
    obtain ⟨rfl, rfl⟩ := hy
    have eLa := ga.lst (by simp) eL3
    obtain ⟨k1, k2, k3⟩ := lnY_key ok W TK pt.ch (i := c0 - 1 + j) (by omega)
    obtain ⟨k, hk⟩ : ∃ k, lnY Y (c0 - 1 + j) = k := ⟨_, rfl⟩
    rw [hk] at k1 k2 k3
    have w2 : atI (Y.map V.str) (((c0 - 1 : Nat) : Int) + (j : Nat)) = some (.str k.1) := by
      rw [show ((c0 - 1 : Nat) : Int) + (j : Nat) = ((c0 - 1 + j : Nat) : Int) by omega]
      exact atI_nat (by rw [List.getElem?_map, k2]; rfl)
    have w3 : atI (Y.map V.str) (((c0 - 1 : Nat) : Int) + (j : Nat) + 1) = some (.str k.2) := by
      rw [show ((c0 - 1 : Nat) : Int) + (j : Nat) + 1 = ((c0 - 1 + j + 1 : Nat) : Int) by omega]
      exact atI_nat (by rw [List.getElem?_map, k3]; rfl)
    have pl : ps.length = j := by
      have := congrArg List.length mp
      rw [List.length_map, List.length_map, List.length_range] at this
      exact this
    refine ⟨rfl, .ref L, rfl, _, rfl, L, _, _, .str k.1, rfl, rfl, .inl (.inl eLa), w2, .ref L, rfl, _, rfl, _, _, rfl, rfl, L, _, _, .str k.2, rfl, rfl, .inl (.inl eLa), w3, by show 2 ≤ sizeLine; decide, fun b nb => ?_⟩
    have gb : Grow [] Hb (upd Hb b (.tup [.str k.1, .str k.2])) := grow_new nb
    have eb : upd Hb b (.tup [.str k.1, .str k.2]) b = some (.tup [.str k.1, .str k.2]) := upd_same
    have e2 := gb.lst (by simp) e2
    have hps : ∀ d ∈ ps, upd Hb b (.tup [.str k.1, .str k.2]) d.1 = some (.tup [.str d.2.1, .str d.2.2]) := fun d hd => gb.tup (by simp) (hps d hd)
    generalize upd Hb b (.tup [.str k.1, .str k.2]) = Hc at gb eb e2 hps ⊢
    have g3b := ga.trans gb
    refine ⟨_, e2, by rw [List.length_map, sizeLine_eq]; omega, g3b.put (fresh_none nD2) e2 (fun ps z => by cases z), ps ++ [(b, k)], ?_, fun d hd => ?_, ?_⟩
    · rw [upd_same, List.map_append]
      rfl
    · have dn : d.1 ≠ D2 := fun z => by
        rcases List.mem_append.mp hd with m | m
        · have := hps d m
          rw [z, e2] at this
          cases this
        · rw [List.mem_singleton.mp m] at z
          replace z : b = D2 := z
          rw [z, e2] at eb
          cases eb
      rw [upd_ne dn]
      rcases List.mem_append.mp hd with m | m
      · exact hps d m
      · rw [List.mem_singleton.mp m]; exact eb
    · rw [List.map_append, mp, List.range_succ, List.map_append, ← hk]
      rfl
  · obtain ⟨ga, ps, e2, hps, mp⟩ := hp
    refine q D2 ps H6 Y ((g12.trans g3).trans ga) e2 hps ?_ pt yh
    unfold cntY
    rw [hc0]
    exact mp
end

end Lw

namespace Lw
open PySem PySem.Spec PyProof.Rows L2 GxR Gx
/-! ### rest, without a heap -/
theorem many_lane {N : Nst} {T : Nat} (ok : Nok N T) (k : Str × Str) : manyN N k = (laneN N k).length := by
  unfold manyN laneN
  by_cases m : k ∈ N.keys
  · rw [if_pos m, if_pos m, List.length_drop]
  · rw [if_neg m, if_neg m]
    rfl
theorem many_hear {N : Nst} {T : Nat} (ok : Nok N T) {p : Str → Option Str} {r : Str → Nat} (W : Wok N p r) {h o : Str} (hk : (h, o) ∈ N.keys) (lt : N.heard (h, o) < (N.sent (h, o)).length) {k : Str × Str} (hk2 : k ∈ N.keys) :
    manyN (hearN N h o) k = (if k = (h, o) then manyN N k - 1 else manyN N k) + (if k.1 = o ∧ k.2 ≠ h then 1 else 0) := by
  have ok2 : Nok { N with heard := at_ N.heard (h, o) (N.heard (h, o) + 1) } T := { ok with
    sen := fun l hl => by
      obtain ⟨q1, q2, q3⟩ := ok.sen l hl
      refine ⟨q1, ?_, q3⟩
      show at_ N.heard (h, o) (N.heard (h, o) + 1) l ≤ _
      by_cases c : l = (h, o)
      · rw [c, at_same]; exact lt
      · rw [at_ne _ _ c]; exact q2 }
  obtain ⟨w, el, nh, en, _⟩ := wok_hear ok W hk lt ok2
  have ko := (ok.kin _ hk).2
  rw [en]
  have len : ∀ {M : Nst} {T : Nat} {l : Str × Str}, Nok M T → l ∈ M.keys → manyN M l = (laneN M l).length := fun {M T l} okM hl => by
    unfold manyN laneN
    rw [if_pos hl, if_pos hl, List.length_drop]
  have okw : Nok (writeN { N with heard := at_ N.heard (h, o) (N.heard (h, o) + 1) } o w (some h)) (T + 1) := nok_write ok2 (some h) ko (by
    have := List.all_eq_true.mp (ok.sen _ hk).2.2 w (List.mem_of_mem_drop (by
      have : w ∈ laneN N (h, o) := by rw [el]; exact List.mem_cons_self
      unfold laneN at this
      rw [if_pos hk] at this
      exact this))
    exact this)
  rw [len okw hk2, lane_write ok2 ko (W.nnd o ko) W.nall hk2, List.length_append]
  have e1 : (laneN { N with heard := at_ N.heard (h, o) (N.heard (h, o) + 1) } k).length = if k = (h, o) then manyN N k - 1 else manyN N k := by
    unfold laneN manyN
    show (if k ∈ N.keys then (N.sent k).drop (at_ N.heard (h, o) (N.heard (h, o) + 1) k) else []).length = _
    rw [if_pos hk2, List.length_drop]
    by_cases c : k = (h, o)
    · rw [c, at_same, if_pos rfl, if_pos hk]
      omega
    · rw [at_ne _ _ c, if_neg c, if_pos hk2]
  rw [e1]
  congr 1
  by_cases c : k.1 = o ∧ k.2 ≠ h
  · rw [if_pos c, if_pos ⟨c.1, fun z => c.2 (Option.some.inj z)⟩]
    rfl
  · rw [if_neg c, if_neg fun z => c ⟨z.1, fun y => z.2 (by rw [y])⟩]
    rfl
def LeastN (N : Nst) (k : Str × Str) : Prop := 0 < manyN N k ∧ ∀ k', 0 < manyN N k' → ltP k' k = false
theorem least_one {N : Nst} {k l : Str × Str} (h : LeastN N k) (g : LeastN N l) : k = l := ltP_eq (g.2 k h.1) (h.2 l g.1)
inductive RestN : Nst → Nat → Nst → Prop
  | done {N : Nst} : (∀ k, manyN N k = 0) → RestN N 0 N
  | step {N N' : Nst} {k : Str × Str} {m : Nat} : LeastN N k → RestN (hearN N k.1 k.2) m N' → RestN N (m + 1) N'
theorem RestN.one {N N' : Nst} {m : Nat} (h : RestN N m N') : ∀ {N2 : Nst} {m2 : Nat}, RestN N m2 N2 → m = m2 ∧ N' = N2 := by
  induction h with
  | done z =>
    intro N2 m2 g
    cases g with
    | done _ => exact ⟨rfl, rfl⟩
    | step l _ => have := l.1; rw [z] at this; omega
  | step l _ ih =>
    intro N2 m2 g
    cases g with
    | done z => have := l.1; rw [z] at this; omega
    | step l2 g2 =>
      have e := least_one l l2
      subst e
      obtain ⟨h1, h2⟩ := ih g2
      exact ⟨by rw [h1], h2⟩
theorem RestN.none {N N' : Nst} {m : Nat} (h : RestN N m N') : ∀ k, manyN N' k = 0 := by
  induction h with
  | done z => exact z
  | step _ _ ih => exact ih
/-- one hearing more behind a row of them -/
inductive RowN : Nst → Nat → Nst → Prop
  | here {N : Nst} : RowN N 0 N
  | more {N M : Nst} {k : Str × Str} {m : Nat} : RowN N m M → LeastN M k → RowN N (m + 1) (hearN M k.1 k.2)
theorem RowN.rest {N M N' : Nst} {m j : Nat} (h : RowN N m M) : RestN M j N' → RestN N (m + j) N' := by
  induction h generalizing j with
  | here => intro g; rw [Nat.zero_add]; exact g
  | more _ l ih =>
    intro g
    have := ih (.step l g)
    rw [show ∀ a b : Nat, a + 1 + b = a + (b + 1) from fun a b => by omega]
    exact this
/-- what a row of hearings leaves as it is -/
theorem RowN.same {N M : Nst} {m : Nat} (h : RowN N m M) : M.hands = N.hands ∧ M.keys = N.keys ∧ M.mouths = N.mouths ∧ M.near = N.near := by
  induction h with
  | here => exact ⟨rfl, rfl, rfl, rfl⟩
  | more _ _ ih => exact ih
/-- how many words stand in all books -/
def totN (N : Nst) : Nat := (N.hands.map fun h => (N.book h).length).sum
theorem sum_at {xs : List Str} (nd : xs.Nodup) {o : Str} (ho : o ∈ xs) (f : Str → Nat) (v : Nat) : (xs.map (at_ f o v)).sum + f o = (xs.map f).sum + v := by
  induction xs with
  | nil => cases ho
  | cons x xs ih =>
    obtain ⟨n1, n2⟩ := List.nodup_cons.mp nd
    rw [List.map_cons, List.map_cons, List.sum_cons, List.sum_cons]
    by_cases c : o = x
    · subst c
      rw [at_same]
      have : xs.map (at_ f o v) = xs.map f := List.map_congr_left fun y hy => at_ne _ _ (fun z => n1 (by rw [← z]; exact hy))
      rw [this]
      omega
    · rw [at_ne _ _ (Ne.symm c)]
      have := ih n2 ((List.mem_cons.mp ho).resolve_left c)
      omega
theorem tot_hear {N : Nst} {T : Nat} (ok : Nok N T) {p : Str → Option Str} {r : Str → Nat} (W : Wok N p r) {h o : Str} (hk : (h, o) ∈ N.keys) (lt : N.heard (h, o) < (N.sent (h, o)).length) : totN (hearN N h o) = totN N + 1 := by
  have ok2 : Nok { N with heard := at_ N.heard (h, o) (N.heard (h, o) + 1) } T := { ok with
    sen := fun l hl => by
      obtain ⟨q1, q2, q3⟩ := ok.sen l hl
      refine ⟨q1, ?_, q3⟩
      show at_ N.heard (h, o) (N.heard (h, o) + 1) l ≤ _
      by_cases c : l = (h, o)
      · rw [c, at_same]; exact lt
      · rw [at_ne _ _ c]; exact q2 }
  obtain ⟨w, el, nh, en, _⟩ := wok_hear ok W hk lt ok2
  have ko := (ok.kin _ hk).2
  rw [en]
  unfold totN
  show (N.hands.map fun x => (at_ N.book o (putN (N.book o) w (N.book o).length) x).length).sum = _
  have e : (fun x => (at_ N.book o (putN (N.book o) w (N.book o).length) x).length) = at_ (fun x => (N.book x).length) o ((N.book o).length + 1) := by
    funext x
    by_cases c : x = o
    · rw [c, at_same, at_same, putN_new nh, List.length_append]
      rfl
    · rw [at_ne _ _ c, at_ne _ _ c]
  rw [e]
  have : (N.hands.map (at_ (fun x => (N.book x).length) o ((N.book o).length + 1))).sum + (N.book o).length = (N.hands.map fun x => (N.book x).length).sum + ((N.book o).length + 1) := sum_at ok.nd ko (fun x => (N.book x).length) ((N.book o).length + 1)
  omega
theorem tot_le {N : Nst} {T : Nat} (ok : Nok N T) {p : Str → Option Str} {r : Str → Nat} (W : Wok N p r) : totN N ≤ N.hands.length * N.mouths.length := by
  have one : ∀ h ∈ N.hands, (N.book h).length ≤ N.mouths.length := fun h hh => by
    have := List.Nodup.length_le_of_subset (ok.bnd h hh).1 fun w hw => W.bm h hh w hw
    rw [List.length_map, List.length_map] at this
    exact this
  unfold totN
  have : ∀ xs : List Str, (∀ h ∈ xs, (N.book h).length ≤ N.mouths.length) → (xs.map fun h => (N.book h).length).sum ≤ xs.length * N.mouths.length := fun xs => by
    induction xs with
    | nil => exact fun _ => Nat.zero_le _
    | cons x xs ih =>
      intro h
      rw [List.map_cons, List.sum_cons, List.length_cons, Nat.succ_mul]
      have := h x List.mem_cons_self
      have := ih fun y hy => h y (List.mem_cons_of_mem _ hy)
      omega
  exact this _ one
/-- one comes from each hand to each -/
def ConN (N : Nst) : Prop := ∀ h ∈ N.hands, ∀ g ∈ N.hands, ∀ S : Str → Prop, S h → (∀ k ∈ N.keys, S k.1 → S k.2) → S g
theorem con_new (x : Str) : ConN (newN x) := fun h hh g hg S s _ => by
  rw [List.mem_singleton.mp hg]
  rw [List.mem_singleton.mp hh] at s
  exact s
theorem con_join {N : Nst} (c : ConN N) {x h : Str} (hh : h ∈ N.hands) : ConN (joinN N x h) := fun y hy g hg S s cl => by
  have k1 : (h, x) ∈ (joinN N x h).keys := List.mem_append_right _ (by simp)
  have k2 : (x, h) ∈ (joinN N x h).keys := List.mem_append_right _ (by simp)
  have cl' : ∀ k ∈ N.keys, S k.1 → S k.2 := fun k hk => cl k (List.mem_append_left _ hk)
  have sh : S h := by
    rcases List.mem_append.mp (show y ∈ N.hands ++ [x] from hy) with q | q
    · exact c y q h hh S s cl'
    · rw [List.mem_singleton.mp q] at s
      exact cl _ k2 s
  rcases List.mem_append.mp (show g ∈ N.hands ++ [x] from hg) with q | q
  · exact c h hh g q S sh cl'
  · rw [List.mem_singleton.mp q]
    exact cl _ k1 sh
/-- where nothing lies each hand has all words -/
theorem all_words {N : Nst} {T : Nat} (ok : Nok N T) {p : Str → Option Str} {r : Str → Nat} (W : Wok N p r) (z : ∀ k, manyN N k = 0) (con : ConN N) :
    ∀ h ∈ N.hands, ((N.book h).map Prod.fst).Perm (N.mouths.map Prod.fst) := fun h hh => by
  refine (List.perm_ext_iff_of_nodup (ok.bnd h hh).1 ok.mnd).mpr fun w => ⟨fun m => W.bm h hh w m, fun m => ?_⟩
  obtain ⟨t, tm, th, _⟩ := W.top w m
  refine con t tm h hh (fun g => hasN N g w) th fun k hk s => ?_
  rcases W.all k hk w s with q | q
  · exact q
  · have := z k
    unfold manyN at this
    rw [if_pos hk] at this
    unfold laneN at q
    rw [if_pos hk, List.drop_eq_nil_of_le (by omega)] at q
    cases q

end Lw

namespace Lw
open PySem PySem.Spec PyProof.Rows L2 GxR Gx
section
variable {P : Program} {w : World} {K : PySem.W.Frag} {mg : Str → Option Value} {base : Heap} {C : Addr}
/-! ### _law_hears -/
/-- only words were heard; T: no more were written than stand in the books -/
structure GoN (p : Str → Option Str) (r : Str → Nat) (N N' : Nst) (T' : Nat) : Prop where
  h1 : N'.hands = N.hands
  h2 : N'.keys = N.keys
  h3 : N'.mouths = N.mouths
  ok : Nok N' T'
  W : Wok N' p r
  K : Tok N' p
  tt : T' ≤ totN N'
theorem GoN.here {p : Str → Option Str} {r : Str → Nat} {N : Nst} {T : Nat} (ok : Nok N T) (W : Wok N p r) (K : Tok N p) (t : T ≤ totN N) : GoN p r N N T := ⟨rfl, rfl, rfl, ok, W, K, t⟩
theorem GoN.step {p : Str → Option Str} {r : Str → Nat} {N N1 : Nst} {T : Nat} (G : GoN p r N N1 T) {k : Str × Str} (mn : 0 < manyN N1 k) (ok2 : Nok (hearN N1 k.1 k.2) (T + 1)) : GoN p r N (hearN N1 k.1 k.2) (T + 1) := by
  obtain ⟨hk, lt⟩ := many_pos mn
  obtain ⟨_, _, _, _, _, W2, _⟩ := lane_hear G.ok G.W (h := k.1) (o := k.2) hk lt
  exact ⟨G.h1, G.h2, G.h3, ok2, W2, tok_hear G.ok G.W G.K hk lt, by rw [tot_hear G.ok G.W hk lt]; exact Nat.succ_le_succ G.tt⟩
theorem GoN.trans {p : Str → Option Str} {r : Str → Nat} {N N1 N2 : Nst} {T T2 : Nat} (G : GoN p r N N1 T) (G2 : GoN p r N1 N2 T2) : GoN p r N N2 T2 := ⟨G2.h1.trans G.h1, G2.h2.trans G.h2, G2.h3.trans G.h3, G2.ok, G2.W, G2.K, G2.tt⟩
theorem GoN.ft {p : Str → Option Str} {r : Str → Nat} {N N1 : Nst} {T : Nat} (G : GoN p r N N1 T) (A : Ads) (a : Addr) : A.ft a N1 = A.ft a N := by unfold Ads.ft; rw [G.h1, G.h2]
theorem GoN.low {p : Str → Option Str} {r : Str → Nat} {N N1 : Nst} {T : Nat} (G : GoN p r N N1 T) : T ≤ 6000 := by
  have h1 := tot_le G.ok G.W
  have h2 := G.ok.len
  have h3 := G.ok.mlen
  have : N1.hands.length * N1.mouths.length ≤ 60 * 100 := Nat.mul_le_mul h2 h3
  have := G.tt
  omega
def spHears (C : Addr) : Sp := fun vs H Q _ => ∃ (b a : Addr) (A : Ads) (N : Nst) (T : Nat) (p : Str → Option Str) (r : Str → Nat) (m : Nat) (c : Int), vs = [.ref b, .ref a, .int (m : Nat)] ∧ m ≤ 8 ∧ Bag H b c ∧ c ≤ 2 ^ 28 ∧ NetAt C a A N H ∧ Nok N T ∧ Wok N p r ∧ Tok N p ∧ T ≤ totN N ∧ b ∉ A.ft a N ∧
  ∀ N' T' H', GoN p r N N' T' → Grow (b :: A.ft a N) H H' → NetAt C a A N' H' → Bag H' b (c + 8) → Q .non H'
theorem ok_law_hears {f c : Addr} {fd : FuncData} (B : Nb mg) (D : DefIs K "_law_hears" "_law_hears" st_law_hears f fd (.ref c)) (c_law_pairs : Callee P w K mg base CX0 4 "_law_pairs" ["net"] (spPairs C)) (c_law_pick : Callee P w K mg base CX0 4 "_law_pick" ["bag", "things"] (spPick K))
    (c_Net_step : CalleeM P w K mg base CX0 4 C "step" ["self", "hand", "other"] (spStep C)) : FnG P w K mg base CX0 5 f fd ["bag", "net", "many"] (spHears C) := by
  refine D.ok0 (k := 4) sc_law_hears (fun vs H Q E h => ?_) (fun A0 outer s H vs Q E g hr h => ?_)
  · obtain ⟨b, a, A, N, T, p, r, m, c, rfl, _⟩ := h
    rfl
  obtain ⟨b, a, A, N, T, p, r, m, c, rfl, hm, bag, hc, n, ok, W, TK, tt, nb, q⟩ := h
  refine ⟨_,
      (pss_one (ps_for PassesOwn.never rfl (pi_range1 rfl B.n_range (pa_cons (pv 2) pa_nil)) (pg_name (i := 3) sc_law_hears.nd rfl (.inl rfl)) (
        (pss_cons (ps_set (i := 4) sc_law_hears.nd rfl (.inl rfl) (pe_g c_law_pairs g (hr.mono (by decide)) pass0 (pa_cons (pv 1) pa_nil)))
        (pss_one (ps_if (pt_cmpR (op_neE hr.units) (pv 4) (pe_lst pa_nil) (nomark _)) (
          (pss_cons (ps_asg (pe_g c_law_pick g (hr.mono (by decide)) pass0 (pa_cons (pv 0) (pa_cons (pv 4) pa_nil))) (pg_tup rfl (pgs_cons (pg_name (i := 5) sc_law_hears.nd rfl (.inl rfl)) (pgs_cons (pg_name (i := 6) sc_law_hears.nd rfl (.inl rfl)) pgs_nil))))
          (pss_one (ps_expr (pe_gm c_Net_step g (hr.mono (by decide)) pass0 (pv 1) (pa_cons (pv 5) (pa_cons (pv 6) pa_nil))))))) pss_nil)))))), ?_⟩
  refine ⟨_, rfl, (m : Nat), rfl, by omega, by omega, ?_⟩
  refine for_it walk_range (fun j σ H' => ∃ (v3 v4 v5 v6 : Option V) (N' : Nst) (T' : Nat), σ = [some (.ref b), some (.ref a), some (.int (m : Nat)), v3, v4, v5, v6] ∧ GoN p r N N' T' ∧ Grow (b :: A.ft a N) H H' ∧ NetAt C a A N' H' ∧ Bag H' b (c + j))
    ⟨none, none, none, none, N, T, rfl, .here ok W TK tt, Grow.refl _ _, n, bag.mono (by omega)⟩ (fun _ _ _ _ _ => trivial) (fun j z σ Ha Hb hj hp hy => ?_) (fun σ H6 hp => ?_)
  · obtain ⟨v3, v4, v5, v6, N1, T1, rfl, G, g1, n1, bag1⟩ := hp
    obtain ⟨rfl, rfl⟩ := hy
    have nb1 : b ∉ A.ft a N1 := by rw [G.ft]; exact nb
    have low := G.low
    refine ⟨.ref a, rfl, a, A, N1, T1, rfl, n1, G.ok, by omega, fun L ps H2 fL g2 eL pl hps _ => ?_⟩
    refine ⟨.ref L, rfl, by show 0 ≤ sizeLine; decide, fun Le nLe => ?_⟩
    have g3 : Grow [] H2 (upd H2 Le (.lst [])) := grow_new nLe
    have eLe : upd H2 Le (.lst []) Le = some (.lst []) := upd_same
    have eL := g3.lst (by simp) eL
    have hps : ∀ d ∈ ps, upd H2 Le (.lst []) d.1 = some (.tup [.str d.2.1, .str d.2.2]) ∧ d.2 ∈ N1.keys ∧ 0 < manyN N1 d.2 := fun d hd => ⟨g3.tup (by simp) (hps d hd).1, (hps d hd).2⟩
    generalize upd H2 Le (.lst []) = H3 at g3 eLe eL hps ⊢
    have g13 := g2.trans g3
    have n3 := n1.grow0 g13
    have bag3 := bag1.keep g13 (by simp)
    refine ⟨L, Le, _, rfl, rfl, eL, eLe, _, rfl, ?_⟩
    by_cases pe : ps = []
    · rw [show decide ((ps.map fun b => V.ref b.1) = []) = true from decide_eq_true (by rw [pe]; rfl)]
      exact iteF ⟨_, _, _, _, N1, T1, rfl, G, g1.trans g13.any, n3, bag3.mono (by omega)⟩
    · rw [show decide ((ps.map fun b => V.ref b.1) = []) = false from decide_eq_false fun z => pe (List.map_eq_nil_iff.mp z)]
      refine iteT ?_
      refine ⟨.ref b, rfl, .ref L, rfl, b, L, _, c + j, rfl, .inl (.inl eL), bag1.ne fL, by simpa using pe, by rw [List.length_map]; omega, by omega, bag3, fun i v H4 hv g4 bag4 => ?_⟩
      obtain ⟨d, hd, rfl⟩ := Option.map_eq_some_iff.mp (by rw [List.getElem?_map] at hv; exact hv)
      obtain ⟨et, dk, mn⟩ := hps d (List.mem_of_getElem? hd)
      have db : d.1 ∉ [b] := fun z => by
        obtain ⟨_, _, _, eb, _⟩ := bag3
        rw [List.mem_singleton.mp z, eb] at et
        cases et
      have et := g4.tup db et
      have n4 := n3.grow g4 (fun x hx z => nb1 (by rw [← List.mem_singleton.mp z]; exact hx))
      have kh := G.ok.kin _ dk
      refine ⟨d.1, _, rfl, .inl (.inl et), rfl, .str d.2.1, _, rfl, .str d.2.2, _, rfl, rfl, ?_⟩
      refine ⟨.ref a, rfl, a, _, _, rfl, n4.obj, rfl, .str d.2.1, rfl, .str d.2.2, rfl, a, A, N1, T1, d.2.1, d.2.2, rfl, n4, G.ok, by omega, kh.1, kh.2, mn, fun H5 g5 n5 ok5 => ?_⟩
      have G5 := G.step mn ok5
      rw [G.ft] at g5
      refine ⟨_, _, _, _, _, T1 + 1, rfl, G5, ((g1.trans g13.any).trans (g4.mono fun x hx => by rw [List.mem_singleton.mp hx]; exact List.mem_cons_self)).trans (g5.mono fun x hx => List.mem_cons_of_mem _ hx), n5, (bag4.keep g5 nb).mono (by omega)⟩
  · obtain ⟨v3, v4, v5, v6, N1, T1, rfl, G, g1, n1, bag1⟩ := hp
    exact q N1 T1 H6 G g1 n1 (bag1.mono (by omega))
end

end Lw

namespace Lw
open PySem PySem.Spec PyProof.Rows L2 GxR Gx
section
variable {P : Program} {w : World} {K : PySem.W.Frag} {mg : Str → Option Value} {base : Heap} {C : Addr}
/-! ### _law_one_more -/
theorem eqv_prs (a b : Str × Str) : PyData.eqv (encP a) (encP b) = decide (a = b) := by
  unfold encP
  have := eqvAll_map eqv_str [a.1, a.2] [b.1, b.2]
  rw [PyData.eqv]
  refine this.trans (decide_eq_decide.mpr ⟨fun z => ?_, fun z => by rw [z]⟩)
  injection z with z1 z2
  injection z2 with z2 _
  exact Prod.ext z1 z2
theorem any_prs (ps : List (Str × Str)) (p : Str × Str) : ((ps.map encP).any fun z => PyData.eqv z (encP p)) = decide (p ∈ ps) := by
  rw [List.any_map, Bool.eq_iff_iff, List.any_eq_true, decide_eq_true_iff]
  constructor
  · rintro ⟨y, hy, e⟩
    have e : PyData.eqv (encP y) (encP p) = true := e
    rw [eqv_prs] at e
    rw [← of_decide_eq_true e]; exact hy
  · intro h
    exact ⟨p, h, (eqv_prs p p).trans (decide_eq_true rfl)⟩
theorem cnt_mem {N : Nst} {x : Str} {Y : List Str} (h1 : 1 ≤ hvN N x Y) {k : Str × Str} : k ∈ cntY N x Y ↔ ∃ i, hvN N x Y - 1 ≤ i ∧ i + 1 < Y.length ∧ k = lnY Y i := by
  unfold cntY
  rw [List.mem_map]
  constructor
  · rintro ⟨j, hj, rfl⟩
    have := List.mem_range.mp hj
    exact ⟨_, Nat.le_add_right _ _, by omega, rfl⟩
  · rintro ⟨i, a, b, rfl⟩
    exact ⟨i - (hvN N x Y - 1), List.mem_range.mpr (by omega), by rw [Nat.add_sub_cancel' a]⟩
/-- a hearing changes the number as it should -/
theorem few_hear {N : Nst} {T : Nat} (ok : Nok N T) {p : Str → Option Str} {r : Str → Nat} (W : Wok N p r) (K : Tok N p) {x h : Str} {Y : List Str} (wy : WayN N p x h Y) {k : Str × Str} (mn : 0 < manyN N k) :
    (k ∈ cntY N x Y → fewN (hearN N k.1 k.2) x Y + 1 = fewN N x Y) ∧ (k ∉ cntY N x Y → fewN N x Y ≤ fewN (hearN N k.1 k.2) x Y) := by
  obtain ⟨hk, lt⟩ := many_pos mn
  obtain ⟨_, A2, _⟩ := wy.has ok W K
  obtain ⟨d1, d2⟩ := hear_due ok W K wy hk lt
  constructor
  · intro m
    obtain ⟨i, a, b, e⟩ := (cnt_mem A2).mp m
    exact d1 i a b e
  · intro m
    exact d2 fun i a b e => m ((cnt_mem A2).mpr ⟨i, a, b, e⟩)
theorem dp_pair {K : PySem.W.Frag} {H : Hp} {b : Addr} {k : Str × Str} (e : H b = some (.tup [.str k.1, .str k.2])) : Dp K H (.ref b) (encP k) := (DpT.tup e (.cons (.str _) (.cons (.str _) .nil))).dp
theorem dp_pairs {K : PySem.W.Frag} {H : Hp} {L : Addr} {ps : List (Addr × (Str × Str))} (e : H L = some (.lst (ps.map fun b => V.ref b.1))) (h : ∀ b ∈ ps, H b.1 = some (.tup [.str b.2.1, .str b.2.2])) : Dp K H (.ref L) (.list ((ps.map Prod.snd).map encP)) := by
  have : ∀ qs : List (Addr × (Str × Str)), (∀ b ∈ qs, H b.1 = some (.tup [.str b.2.1, .str b.2.2])) → DpAll K H (qs.map fun b => V.ref b.1) ((qs.map Prod.snd).map encP) := fun qs => by
    induction qs with
    | nil => exact fun _ => .nil
    | cons b qs ih => exact fun q => .cons (dp_pair (q b List.mem_cons_self)) (ih fun d hd => q d (List.mem_cons_of_mem _ hd))
  exact .lst (.inl (.inl e)) (this ps h)
theorem shaped_pair {k : Str × Str} (h : isNm k.1 = true ∧ isNm k.2 = true) : SeqAt.shaped (encP k) = true := by
  unfold SeqAt.shaped
  rw [lay_pair h.1 h.2, decide_eq_true (by simp [encP, PyData.depth, PyData.depthAll])]
  rfl
theorem shaped_pairs {ks : List (Str × Str)} (h : ∀ k ∈ ks, isNm k.1 = true ∧ isNm k.2 = true) : SeqAt.shaped (.list (ks.map encP)) = true := by
  unfold SeqAt.shaped
  have l : (PyData.list (ks.map encP)).canLay0 = true := by
    rw [PyData.canLay0]
    refine lay_all fun d hd => ?_
    obtain ⟨k, hk, rfl⟩ := List.mem_map.mp hd
    exact lay_pair (h k hk).1 (h k hk).2
  have dd : (PyData.list (ks.map encP)).depth ≤ 2 := by
    rw [PyData.depth]
    have : PyData.depthAll (ks.map encP) ≤ 1 := deep_all fun d hd => by
      obtain ⟨k, _, rfl⟩ := List.mem_map.mp hd
      simp [encP, PyData.depth, PyData.depthAll]
    omega
  rw [l, decide_eq_true (by omega)]
  rfl
def spOne (C : Addr) : Sp := fun vs H Q _ => ∃ (b a : Addr) (A : Ads) (N : Nst) (T : Nat) (p : Str → Option Str) (r : Str → Nat) (h x : Str) (c : Int), vs = [.ref b, .ref a, .str h, .str x] ∧ Bag H b c ∧ c ≤ 2 ^ 28 ∧ NetAt C a A N H ∧ Nok N T ∧ Wok N p r ∧ Tok N p ∧ T ≤ totN N ∧ b ∉ A.ft a N ∧ h ∈ N.hands ∧ x ∈ N.mouths.map Prod.fst ∧
  ∀ N' T' H', GoN p r N N' T' → Grow (b :: A.ft a N) H H' → NetAt C a A N' H' → Bag H' b (c + 1) → Q (.bl true) H'
theorem ok_law_one_more {f c : Addr} {fd : FuncData} (B : Nb mg) (D : DefIs K "_law_one_more" "_law_one_more" st_law_one_more f fd (.ref c)) (c_law_pairs : Callee P w K mg base CX0 4 "_law_pairs" ["net"] (spPairs C)) (c_law_pick : Callee P w K mg base CX0 4 "_law_pick" ["bag", "things"] (spPick K))
    (c_law_counted : Callee P w K mg base CX0 5 "_law_counted" ["net", "hand", "word"] (spCnt C)) (c_Net_hearings_to : CalleeM P w K mg base CX0 5 C "hearings_to" ["self", "hand", "word"] (spFew C)) (c_Net_step : CalleeM P w K mg base CX0 4 C "step" ["self", "hand", "other"] (spStep C)) : FnG P w K mg base CX0 6 f fd ["bag", "net", "hand", "word"] (spOne C) := by
  refine D.ok0 (k := 5) sc_law_one_more (fun vs H Q E h => ?_) (fun A0 outer s H vs Q E g hr h => ?_)
  · obtain ⟨b, a, A, N, T, p, r, h, x, c, rfl, _⟩ := h
    rfl
  obtain ⟨b, a, A, N, T, p, r, h, x, c, rfl, bag, hc, n, ok, W, TK, tt, nb, hh, hx, q⟩ := h
  obtain ⟨mx, mh⟩ := mouth_in ok hx
  have G := GoN.here ok W TK tt
  have low := G.low
  refine ⟨_,
      (pss_cons (ps_set (i := 4) sc_law_one_more.nd rfl (.inl rfl) (pe_g c_law_pairs g (hr.mono (by decide)) pass0 (pa_cons (pv 1) pa_nil)))
      (pss_cons (ps_if (pt_cmpR (op_eqE hr.units) (pv 4) (pe_lst pa_nil) (nomark _)) (
        (pss_one (ps_ret pe_bl))) pss_nil)
      (pss_cons (ps_set (i := 5) sc_law_one_more.nd rfl (.inl rfl) (pe_g c_law_pick g (hr.mono (by decide)) pass0 (pa_cons (pv 0) (pa_cons (pv 4) pa_nil))))
      (pss_cons (ps_set (i := 6) sc_law_one_more.nd rfl (.inl rfl) (pe_gm c_Net_hearings_to g (hr.mono (by decide)) pass0 (pv 1) (pa_cons (pv 2) (pa_cons (pv 3) pa_nil))))
      (pss_cons (ps_set (i := 7) sc_law_one_more.nd rfl (.inl rfl) (pe_callTy call_int1 rfl B.n_int (by decide +kernel) (pa_cons (pe_cmpR (op_inD (room65 hr)) (pv 5) (pe_g c_law_counted g (hr.mono (by decide)) pass0 (pa_cons (pv 1) (pa_cons (pv 2) (pa_cons (pv 3) pa_nil)))) rfl) pa_nil)))
      (pss_cons (ps_expr (pe_gm c_Net_step g (hr.mono (by decide)) pass0 (pv 1) (pa_cons (pe_ix ix_tup (pv 5) pe_int (fun _ _ => rfl)) (pa_cons (pe_ix ix_tup (pv 5) pe_int (fun _ _ => rfl)) pa_nil))))
      (pss_cons (ps_set (i := 8) sc_law_one_more.nd rfl (.inl rfl) (pe_gm c_Net_hearings_to g (hr.mono (by decide)) pass0 (pv 1) (pa_cons (pv 2) (pa_cons (pv 3) pa_nil))))
      (pss_one (ps_ret (pe_ifExp (pt_cmpR (op_eq) (pv 7) pe_int (nomark _)) (pe_cmpR (op_eq) (pv 8) (pe_op op_sub (pv 6) pe_int) (nomark _)) (pe_cmpR (op_ge) (pv 8) (pv 6) (nomark _)))))))))))), ?_⟩
  refine ⟨.ref a, rfl, a, A, N, T, rfl, n, ok, by omega, fun L ps H2 fL g2 eL pl hps _ => ?_⟩
  refine ⟨.ref L, rfl, by show 0 ≤ sizeLine; decide, fun Le nLe => ?_⟩
  have g3 : Grow [] H2 (upd H2 Le (.lst [])) := grow_new nLe
  have eLe : upd H2 Le (.lst []) Le = some (.lst []) := upd_same
  have eL := g3.lst (by simp) eL
  have hps : ∀ d ∈ ps, upd H2 Le (.lst []) d.1 = some (.tup [.str d.2.1, .str d.2.2]) ∧ d.2 ∈ N.keys ∧ 0 < manyN N d.2 := fun d hd => ⟨g3.tup (by simp) (hps d hd).1, (hps d hd).2⟩
  generalize upd H2 Le (.lst []) = H3 at g3 eLe eL hps ⊢
  have g13 := g2.trans g3
  have n3 := n.grow0 g13
  have bag3 := bag.keep g13 (by simp)
  refine ⟨L, Le, _, rfl, rfl, eL, eLe, _, rfl, ?_⟩
  by_cases pe : ps = []
  · rw [show decide ((ps.map fun b => V.ref b.1) = []) = true from decide_eq_true (by rw [pe]; rfl)]
    exact iteT (q N T H3 G g13.any n3 (bag3.mono (by omega)))
  · rw [show decide ((ps.map fun b => V.ref b.1) = []) = false from decide_eq_false fun z => pe (List.map_eq_nil_iff.mp z)]
    refine iteF ?_
    refine ⟨.ref b, rfl, .ref L, rfl, b, L, _, c, rfl, .inl (.inl eL), bag.ne fL, by simpa using pe, by rw [List.length_map]; omega, by omega, bag3, fun i v H4 hv g4 bag4 => ?_⟩
    obtain ⟨d, hd, rfl⟩ := Option.map_eq_some_iff.mp (by rw [List.getElem?_map] at hv; exact hv)
    obtain ⟨et, dk, mn⟩ := hps d (List.mem_of_getElem? hd)
    have db : d.1 ∉ [b] := fun z => by
      obtain ⟨_, _, _, eb, _⟩ := bag3
      rw [List.mem_singleton.mp z, eb] at et
      cases et
    have et := g4.tup db et
    have n4 := n3.grow g4 (fun x hx z => nb (by rw [← List.mem_singleton.mp z]; exact hx))
    have kh := ok.kin _ dk
    obtain ⟨k, hk⟩ : ∃ k, d.2 = k := ⟨_, rfl⟩
    rw [hk] at et dk mn kh
    have dk2 := dk
    refine ⟨.ref a, rfl, a, _, _, rfl, n4.obj, rfl, .str h, rfl, .str x, rfl, a, A, N, T, p, r, h, x, rfl, n4, ok, W, TK, by omega, hh, hx, fun H5 Y g5 pt yh => ?_⟩
    have n5 := n4.grow0 g5
    have et := g5.tup (by simp) et
    have wy : WayN N p x h Y := ⟨⟨_, mx, pt⟩, yh⟩
    refine ⟨.ref d.1, rfl, .ref a, rfl, .str h, rfl, .str x, rfl, a, A, N, T, p, r, h, x, rfl, n5, ok, W, TK, by omega, hh, hx, fun Lc cs H6 Y2 g6 eLc hcs mcs pt2 _ => ?_⟩
    have eY := pth_one W.par _ (Nat.le_refl _) pt2 pt
    subst eY
    have n6 := n5.grow0 g6
    have et := g6.tup (by simp) et
    have nm : ∀ {l : Str × Str}, l ∈ N.keys → isNm l.1 = true ∧ isNm l.2 = true := fun hl => ⟨List.all_eq_true.mp ok.nm _ (ok.kin _ hl).1, List.all_eq_true.mp ok.nm _ (ok.kin _ hl).2⟩
    obtain ⟨A1, A2, A3⟩ := wy.has ok W TK
    have cin : ∀ l ∈ cntY N x Y2, l ∈ N.keys := fun l hl => by
      obtain ⟨i, _, hi, rfl⟩ := (cnt_mem A2).mp hl
      exact (lnY_key ok W TK pt.ch hi).1
    refine ⟨_, _, dp_pair et, dp_pairs eLc hcs, shaped_pair (nm dk2), shaped_pairs (fun l hl => nm (cin l (by rw [← mcs]; exact hl))), ?_⟩
    rw [any_prs, mcs]
    refine .inr ⟨_, rfl, ?_⟩
    obtain ⟨f1, f2⟩ := few_hear ok W TK wy mn
    refine ⟨.ref a, rfl, a, _, _, rfl, n6.obj, rfl, .ref d.1, rfl, d.1, _, 0, .str k.1, rfl, rfl, .inl (.inl et), rfl, .ref d.1, rfl, d.1, _, 1, .str k.2, rfl, rfl, .inl (.inl et), rfl, a, A, N, T, k.1, k.2, rfl, n6, ok, by omega, kh.1, kh.2, mn, fun H7 g7 n7 ok7 => ?_⟩
    have G7 := G.step mn ok7
    refine ⟨.ref a, rfl, a, _, _, rfl, n7.obj, rfl, .str h, rfl, .str x, rfl, a, A, _, T + 1, p, r, h, x, rfl, n7, G7.ok, G7.W, G7.K, by omega, hh, hx, fun H8 Y3 g8 pt3 _ => ?_⟩
    have eY := pth_one W.par _ (Nat.le_refl _) pt3 pt
    subst eY
    have fin : Q (.bl true) H8 := q _ _ H8 G7 (((((g13.any.trans (g4.mono fun x hx => by rw [List.mem_singleton.mp hx]; exact List.mem_cons_self)).trans g5.any).trans g6.any).trans (g7.mono fun x hx => List.mem_cons_of_mem _ hx)).trans g8.any) (n7.grow0 g8) ((((bag4.keep g5 (by simp)).keep g6 (by simp)).keep g7 nb).keep g8 (by simp))
    refine ⟨_, rfl, rfl, _, rfl, ?_⟩
    by_cases kc : k ∈ cntY N x Y3
    · have e := f1 kc
      rw [show decide (V.int (if decide (k ∈ cntY N x Y3) = true then 1 else 0) = V.int 1) = true from decide_eq_true (by rw [decide_eq_true kc]; rfl)]
      refine iteT ⟨_, rfl, _, rfl, _, _, rfl, rfl, rfl, ?_⟩
      rw [show decide (V.int (fewN (hearN N k.1 k.2) x Y3 : Nat) = V.int ((fewN N x Y3 : Nat) - 1)) = true from decide_eq_true (congrArg V.int (by omega))]
      exact fin
    · have e := f2 kc
      rw [show decide (V.int (if decide (k ∈ cntY N x Y3) = true then 1 else 0) = V.int 1) = false from decide_eq_false fun z => by
        rw [decide_eq_false kc] at z
        cases z]
      refine iteF ⟨_, rfl, _, rfl, _, _, rfl, rfl, ?_⟩
      show Q (.bl (decide (((fewN N x Y3 : Nat) : Int) ≤ ((fewN (hearN N k.1 k.2) x Y3 : Nat) : Int)))) H8
      rw [show decide (((fewN N x Y3 : Nat) : Int) ≤ ((fewN (hearN N k.1 k.2) x Y3 : Nat) : Int)) = true from decide_eq_true (by omega)]
      exact fin
end

end Lw

namespace Lw
open PySem PySem.Spec PyProof.Rows L2 GxR Gx
section
variable {P : Program} {w : World} {K : PySem.W.Frag} {mg : Str → Option Value} {base : Heap} {C : Addr}
/-! ### _law_led -/
theorem sumT_pos {f : Nat → Nat} (h : ∀ i, 1 ≤ f i) : ∀ n, n ≤ sumT f n
  | 0 => Nat.zero_le _
  | n + 1 => Nat.add_le_add (sumT_pos h n) (h n)
theorem due_pos {N : Nst} {x : Str} {Y : List Str} {c : Nat} (i : Nat) : 1 ≤ dueM N x Y c i := by
  unfold dueM
  rw [sumT_shift]
  have : 1 ≤ dueA N x Y c 0 := by
    unfold dueA
    rw [if_pos rfl]
    omega
  omega
/-- none is wanted where the hand has the word -/
theorem few_zero {N : Nst} {T : Nat} (ok : Nok N T) {p : Str → Option Str} {r : Str → Nat} (W : Wok N p r) (K : Tok N p) {x h : Str} {Y : List Str} (wy : WayN N p x h Y) : fewN N x Y = 0 ↔ hasN N h x := by
  obtain ⟨A1, A2, A3⟩ := wy.has ok W K
  obtain ⟨m, mm, pt⟩ := wy.pth
  have hl : Y[Y.length - 1]? = some h := by rw [← List.getLast?_eq_getElem?]; exact pt.lst
  have le : Y.length - hvN N x Y ≤ fewN N x Y := sumT_pos due_pos _
  constructor
  · intro z
    exact (A1 _ _ hl).mpr (by omega)
  · intro z
    have := (A1 _ _ hl).mp z
    unfold fewN dueT
    rw [show Y.length - hvN N x Y = 0 by omega]
    rfl
/-- else the word lies on the first lane that counts -/
theorem few_first {N : Nst} {T : Nat} (ok : Nok N T) {p : Str → Option Str} {r : Str → Nat} (W : Wok N p r) (K : Tok N p) {x h : Str} {Y : List Str} (wy : WayN N p x h Y) (nz : ¬ hasN N h x) : ∃ k, k ∈ cntY N x Y ∧ laneN N k ≠ [] := by
  obtain ⟨A1, A2, A3⟩ := wy.has ok W K
  obtain ⟨m, mm, pt⟩ := wy.pth
  have hl : Y[Y.length - 1]? = some h := by rw [← List.getLast?_eq_getElem?]; exact pt.lst
  have lt : hvN N x Y < Y.length := Nat.lt_of_le_of_ne A3 fun z => nz ((A1 _ _ hl).mpr (by omega))
  obtain ⟨k1, k2, k3⟩ := lnY_key ok W K pt.ch (i := hvN N x Y - 1) (by omega)
  refine ⟨_, (cnt_mem A2).mpr ⟨_, Nat.le_refl _, by omega, rfl⟩, fun z => ?_⟩
  rcases W.all _ k1 x ((A1 _ _ k2).mpr (by omega)) with q | q
  · have := (A1 _ _ k3).mp q
    omega
  · rw [z] at q
    cases q
def spLed (C : Addr) : Sp := fun vs H Q _ => ∃ (a : Addr) (A : Ads) (N : Nst) (T : Nat) (p : Str → Option Str) (r : Str → Nat) (h x : Str), vs = [.ref a, .str h, .str x] ∧ NetAt C a A N H ∧ Nok N T ∧ Wok N p r ∧ Tok N p ∧ T ≤ totN N ∧ h ∈ N.hands ∧ x ∈ N.mouths.map Prod.fst ∧
  ∀ N' T' H', GoN p r N N' T' → Grow (A.ft a N) H H' → NetAt C a A N' H' → Q (.bl true) H'
theorem few_le {N : Nst} {T : Nat} (ok : Nok N T) {p : Str → Option Str} {r : Str → Nat} (W : Wok N p r) (K : Tok N p) {x h : Str} {Y : List Str} (wy : WayN N p x h Y) (low : T ≤ 6000) : fewN N x Y < 2 ^ 62 := by
  obtain ⟨m, mm, pt⟩ := wy.pth
  have yl : Y.length ≤ 60 := Nat.le_trans (List.Nodup.length_le_of_subset pt.nd wy.yh) ok.len
  have ll : ∀ k, (laneN N k).length ≤ 366000 := fun k => by
    unfold laneN
    by_cases c : k ∈ N.keys
    · rw [if_pos c, List.length_drop]
      have := (ok.sen k c).1
      omega
    · rw [if_neg c]
      exact Nat.zero_le _
  have ixl : ∀ l : List Str, ixS x l ≤ l.length := fun l => by
    induction l with
    | nil => exact Nat.le_refl _
    | cons y l ih =>
      show (if y = x then 0 else ixS x l + 1) ≤ l.length + 1
      by_cases c : y = x
      · rw [if_pos c]; omega
      · rw [if_neg c]; omega
  have cons : ∀ (f : Nat → Nat) (b : Nat), (∀ i, f i ≤ b) → ∀ n, sumT f n ≤ n * b := fun f b hf n => by
    induction n with
    | zero => exact Nat.zero_le _
    | succ n ih =>
      rw [Nat.succ_mul]
      exact Nat.add_le_add ih (hf n)
  have a1 : ∀ j, dueA N x Y (hvN N x Y) j ≤ 366001 := fun j => by
    unfold dueA
    have h1 := ll (lnY Y (hvN N x Y - 1))
    have h2 := ixl (laneN N (lnY Y (hvN N x Y - 1)))
    have h3 := ll (lnY Y (hvN N x Y - 1 + j))
    by_cases c : j = 0
    · rw [if_pos c]; omega
    · rw [if_neg c]; omega
  have a2 : ∀ i, i < 60 → dueM N x Y (hvN N x Y) i ≤ 60 * 366001 := fun i hi => Nat.le_trans (cons _ _ a1 (i + 1)) (Nat.mul_le_mul_right _ hi)
  have a3 : fewN N x Y ≤ sumT (fun _ => 60 * 366001) (Y.length - hvN N x Y) := sumT_le fun i hi => a2 i (by omega)
  have a4 := cons (fun _ => 60 * 366001) (60 * 366001) (fun _ => Nat.le_refl _) (Y.length - hvN N x Y)
  have a5 : (Y.length - hvN N x Y) * (60 * 366001) ≤ 60 * (60 * 366001) := Nat.mul_le_mul_right _ (by omega)
  omega
theorem ok_law_led {f c : Addr} {fd : FuncData} (B : Nb mg) (D : DefIs K "_law_led" "_law_led" st_law_led f fd (.ref c)) (c_law_counted : Callee P w K mg base CX0 5 "_law_counted" ["net", "hand", "word"] (spCnt C)) (c_Net_book : CalleeM P w K mg base CX0 3 C "book" ["self", "hand"] (spBook C))
    (c_Net_lane : CalleeM P w K mg base CX0 3 C "lane" ["self", "hand", "other"] (spLane C)) (c_Net_hearings_to : CalleeM P w K mg base CX0 5 C "hearings_to" ["self", "hand", "word"] (spFew C)) (c_Net_step : CalleeM P w K mg base CX0 4 C "step" ["self", "hand", "other"] (spStep C)) : FnG P w K mg base CX0 6 f fd ["net", "hand", "word"] (spLed C) := by
  refine D.ok0 (k := 5) sc_law_led (fun vs H Q E h => ?_) (fun A0 outer s H vs Q E g hr h => ?_)
  · obtain ⟨a, A, N, T, p, r, h, x, rfl, _⟩ := h
    rfl
  obtain ⟨a, A, N, T, p, r, h, x, rfl, n, ok, W, TK, tt, hh, hx, q⟩ := h
  obtain ⟨mx, mh⟩ := mouth_in ok hx
  have G := GoN.here ok W TK tt
  have low := G.low
  refine ⟨_,
      (pss_cons (ps_set (i := 3) sc_law_led.nd rfl (.inl rfl) (pe_gm c_Net_hearings_to g (hr.mono (by decide)) pass0 (pv 0) (pa_cons (pv 1) (pa_cons (pv 2) pa_nil))))
      (pss_cons (ps_for PassesOwn.never rfl (pi_range1 rfl B.n_range (pa_cons (pv 3) pa_nil)) (pg_name (i := 4) sc_law_led.nd rfl (.inl rfl)) (
        (pss_cons (ps_if (pt_cmpR (op_in_seq) (pv 2) (pe_gm c_Net_book g (hr.mono (by decide)) pass0 (pv 0) (pa_cons (pv 1) pa_nil)) rfl) (
          (pss_one (ps_ret pe_bl))) pss_nil)
        (pss_cons (ps_setLc (i := 5) (own := [("pair", 6)]) (g := (gName 6)) rfl sc_law_led.nd rfl rfl (sw_true rfl rfl rfl (by decide +kernel)) (pi_list (pe_g c_law_counted g (hr.mono (by decide)) pass0 (pa_cons (pv 0) (pa_cons (pv 1) (pa_cons (pv 2) pa_nil))))) (blkOk_by (N := N_law_led) (sc := defScope st_law_led) (by decide +kernel)) (fun _ _ _ _ _ => (pg_name (i := 6) sc_law_led.nd rfl (.inl rfl))) (fun _ _ _ _ _ => pts_to (pts_one (pt_cmpR (op_neE hr.units) (pe_gm c_Net_lane g (hr.mono (by decide)) pass0 (pv 0) (pa_cons (pe_ix ix_tup (pv 6) pe_int (fun _ _ => rfl)) (pa_cons (pe_ix ix_tup (pv 6) pe_int (fun _ _ => rfl)) pa_nil))) (pe_lst pa_nil) (nomark _)))) (fun _ _ _ _ _ => pe_to (pv 6)))
        (pss_one (ps_expr (pe_gm c_Net_step g (hr.mono (by decide)) pass0 (pv 0) (pa_cons (pe_ix ix_tup (pe_ix ix_list (pv 5) pe_int (fun _ _ => rfl)) pe_int (fun _ _ => rfl)) (pa_cons (pe_ix ix_tup (pe_ix ix_list (pv 5) pe_int (fun _ _ => rfl)) pe_int (fun _ _ => rfl)) pa_nil)))))))))
      (pss_one (ps_ret (pe_and (pe_cmpR (op_in_seq) (pv 2) (pe_gm c_Net_book g (hr.mono (by decide)) pass0 (pv 0) (pa_cons (pv 1) pa_nil)) rfl) (pe_one (pe_cmpR (op_eq) (pe_gm c_Net_hearings_to g (hr.mono (by decide)) pass0 (pv 0) (pa_cons (pv 1) (pa_cons (pv 2) pa_nil))) pe_int (nomark _)))))))), ?_⟩
  refine ⟨.ref a, rfl, a, _, _, rfl, n.obj, rfl, .str h, rfl, .str x, rfl, a, A, N, T, p, r, h, x, rfl, n, ok, W, TK, by omega, hh, hx, fun H1 Y g1 pt yh => ?_⟩
  have n1 := n.grow0 g1
  have wy : WayN N p x h Y := ⟨⟨_, mx, pt⟩, yh⟩
  have fl := few_le ok W TK wy low
  refine ⟨_, rfl, (fewN N x Y : Nat), rfl, by omega, by omega, ?_⟩
  refine for_it walk_range (fun j σ H' => ∃ (v4 v5 v6 : Option V) (N' : Nst) (T' : Nat), σ = [some (.ref a), some (.str h), some (.str x), some (.int (fewN N x Y : Nat)), v4, v5, v6] ∧ GoN p r N N' T' ∧ Grow (A.ft a N) H H' ∧ NetAt C a A N' H' ∧ fewN N' x Y + j = fewN N x Y)
    ⟨none, none, none, N, T, rfl, G, g1.any, n1, rfl⟩ (fun _ _ _ _ _ => trivial) (fun j z σ Ha Hb hj hp hy => ?_) (fun σ H6 hp => ?_)
  · obtain ⟨v4, v5, v6, N1, T1, rfl, G1, ga, na, fe⟩ := hp
    obtain ⟨rfl, rfl⟩ := hy
    have hjn : j < fewN N x Y := by omega
    have low1 := G1.low
    have hh1 : h ∈ N1.hands := by rw [G1.h1]; exact hh
    have hx1 : x ∈ N1.mouths.map Prod.fst := by rw [G1.h3]; exact hx
    have wy1 : WayN N1 p x h Y := ⟨⟨_, by rw [G1.h3]; exact mx, pt⟩, by rw [G1.h1]; exact yh⟩
    have nz : ¬ hasN N1 h x := fun z => by
      have := (few_zero G1.ok G1.W G1.K wy1).mpr z
      omega
    refine ⟨.str x, rfl, .ref a, rfl, a, _, _, rfl, na.obj, rfl, .str h, rfl, a, A, N1, T1, h, rfl, na, G1.ok, by omega, hh1, fun Lb H2 fb gb eb => ?_⟩
    refine ⟨Lb, _, rfl, .inl (.inl (.inl eb)), rfl, flat_strs _, _, rfl, ?_⟩
    rw [show (if false = true then !inV (V.str x) (((N1.book h).map Prod.fst).map V.str) else inV (V.str x) (((N1.book h).map Prod.fst).map V.str)) = false from (inV_strs _ _).trans (decide_eq_false nz)]
    refine iteF ?_
    have n2 := na.grow0 gb
    refine ⟨.ref a, rfl, .str h, rfl, .str x, rfl, a, A, N1, T1, p, r, h, x, rfl, n2, G1.ok, G1.W, G1.K, by omega, hh1, hx1, fun Lc cs H3 Y2 g3 eLc hcs mcs pt2 _ => ?_⟩
    have eY := pth_one W.par _ (Nat.le_refl _) pt2 (by unfold mouthN; rw [G1.h3]; exact pt)
    subst eY
    have n3 := n2.grow0 g3
    refine ⟨Lc, rfl, ⟨_, .inl (.inl eLc)⟩, fun D1 nD1 => ?_⟩
    have yl : Y2.length ≤ 60 := Nat.le_trans (List.Nodup.length_le_of_subset pt.nd yh) ok.len
    have cl : cs.length ≤ 60 := by
      have := congrArg List.length mcs
      unfold cntY at this
      rw [List.length_map, List.length_map, List.length_range] at this
      omega
    obtain ⟨A1, A2, A3⟩ := wy1.has G1.ok G1.W G1.K
    have cin : ∀ d ∈ cs, d.2 ∈ N1.keys := fun d hd => by
      have : d.2 ∈ cntY N1 x Y2 := by rw [← mcs]; exact List.mem_map_of_mem hd
      obtain ⟨i, _, hi, e⟩ := (cnt_mem A2).mp this
      rw [e]
      exact (lnY_key G1.ok G1.W G1.K pt.ch hi).1
    refine lc_filt (walk_list (xs := cs.map fun b => V.ref b.1)) cs (fun b => !decide (laneN N1 b.2 = [])) (fun b => V.ref b.1) nD1 (List.length_map _) (by omega) (fun Hx gx => .inl (.inl (gx.lst (by simp) eLc))) (fun i w v Ha Hb' Pu Pn ei ga2 hy kt kf => ?_) fun H4 g4 eD1 => ?_
    · obtain ⟨rfl, ez2⟩ := hy
      have vo : v = V.ref w.1 := by
        have : (cs.map fun b => V.ref b.1)[i]? = some v := ez2
        rw [List.getElem?_map, ei] at this
        exact (Option.some.inj this).symm
      subst vo
      have wm := List.mem_of_getElem? ei
      have ew := ga2.tup (by simp) (hcs w wm)
      have wk := G1.ok.kin _ (cin w wm)
      have n7 := n3.grow0 ga2
      refine ⟨rfl, .ref a, rfl, a, _, _, rfl, n7.obj, rfl, .ref w.1, rfl, w.1, _, 0, .str w.2.1, rfl, rfl, .inl (.inl ew), rfl, .ref w.1, rfl, w.1, _, 1, .str w.2.2, rfl, rfl, .inl (.inl ew), rfl, ?_⟩
      refine ⟨a, A, N1, T1, w.2.1, w.2.2, rfl, n7, G1.ok, by omega, wk.1, wk.2, fun Ll H7 fl gl el => ?_⟩
      refine ⟨by show 0 ≤ sizeLine; decide, fun Le nLe => ?_⟩
      refine ⟨Ll, Le, _, rfl, rfl, (grow_new (ex := []) nLe).lst (by simp) el, upd_same, ?_⟩
      have em : decide ((laneN N1 (w.2.1, w.2.2)).map V.str = []) = decide (laneN N1 w.2 = []) := decide_eq_decide.mpr List.map_eq_nil_iff
      rw [em]
      refine ⟨_, rfl, ?_⟩
      have gk := gl.trans (grow_new (o := .lst []) nLe)
      by_cases hb : (!decide (laneN N1 w.2 = [])) = true
      · rw [hb]
        exact iteT ⟨_, rfl, kt _ gk hb⟩
      · have hf : (!decide (laneN N1 w.2 = [])) = false := by simpa using hb
        rw [hf]
        exact iteF (kf _ gk hf)
    · have n4 := n3.grow0 g4
      obtain ⟨k, kc, kl⟩ := few_first G1.ok G1.W G1.K wy1 nz
      obtain ⟨ds, hds⟩ : ∃ ds, (cs.filter fun b => !decide (laneN N1 b.2 = [])) = ds := ⟨_, rfl⟩
      rw [hds] at eD1
      cases ds with
      | nil =>
        exfalso
        rw [← mcs] at kc
        obtain ⟨d, hd, rfl⟩ := List.mem_map.mp kc
        have : d ∈ cs.filter fun b => !decide (laneN N1 b.2 = []) := List.mem_filter.mpr ⟨hd, by simp [kl]⟩
        rw [hds] at this
        cases this
      | cons d ds =>
        have dm : d ∈ cs.filter fun b => !decide (laneN N1 b.2 = []) := by rw [hds]; exact List.mem_cons_self
        obtain ⟨dc, dl⟩ := List.mem_filter.mp dm
        have dl : laneN N1 d.2 ≠ [] := by simpa using dl
        obtain ⟨dk, mn⟩ := lane_many G1.ok dl
        have et := g4.tup (by simp) (hcs d dc)
        have kh := G1.ok.kin _ dk
        have a0 : atI ((d :: ds).map fun b => V.ref b.1) 0 = some (.ref d.1) := by
          show atI _ ((0 : Nat) : Int) = _
          exact atI_nat rfl
        refine ⟨.ref a, rfl, a, _, _, rfl, n4.obj, rfl, .ref D1, rfl, D1, _, 0, .ref d.1, rfl, rfl, .inl (.inl eD1), a0, d.1, _, 0, .str d.2.1, rfl, rfl, .inl (.inl et), rfl, .ref D1, rfl, D1, _, 0, .ref d.1, rfl, rfl, .inl (.inl eD1), a0, d.1, _, 1, .str d.2.2, rfl, rfl, .inl (.inl et), rfl, ?_⟩
        refine ⟨a, A, N1, T1, d.2.1, d.2.2, rfl, n4, G1.ok, by omega, kh.1, kh.2, mn, fun H5 g5 n5 ok5 => ?_⟩
        have fh := (few_hear G1.ok G1.W G1.K wy1 mn).1 (by rw [← mcs]; exact List.mem_map_of_mem dc)
        rw [G1.ft] at g5
        exact ⟨_, _, _, _, T1 + 1, rfl, G1.step mn ok5, (((ga.trans gb.any).trans g3.any).trans g4.any).trans g5, n5, by omega⟩
  · obtain ⟨v4, v5, v6, N1, T1, rfl, G1, ga, na, fe⟩ := hp
    have low1 := G1.low
    have hh1 : h ∈ N1.hands := by rw [G1.h1]; exact hh
    have hx1 : x ∈ N1.mouths.map Prod.fst := by rw [G1.h3]; exact hx
    have wy1 : WayN N1 p x h Y := ⟨⟨_, by rw [G1.h3]; exact mx, pt⟩, by rw [G1.h1]; exact yh⟩
    have f0 : fewN N1 x Y = 0 := by omega
    have hz := (few_zero G1.ok G1.W G1.K wy1).mp f0
    refine ⟨.str x, rfl, .ref a, rfl, a, _, _, rfl, na.obj, rfl, .str h, rfl, a, A, N1, T1, h, rfl, na, G1.ok, by omega, hh1, fun Lb H2 fb gb eb => ?_⟩
    refine ⟨Lb, _, rfl, .inl (.inl (.inl eb)), rfl, flat_strs _, true, ?_, ?_⟩
    · exact congrArg V.bl ((inV_strs _ _).trans (decide_eq_true hz))
    refine iteT ?_
    have n2 := na.grow0 gb
    refine ⟨.ref a, rfl, a, _, _, rfl, n2.obj, rfl, .str h, rfl, .str x, rfl, a, A, N1, T1, p, r, h, x, rfl, n2, G1.ok, G1.W, G1.K, by omega, hh1, hx1, fun H3 Y2 g3 pt2 _ => ?_⟩
    have eY := pth_one W.par _ (Nat.le_refl _) pt2 (by unfold mouthN; rw [G1.h3]; exact pt)
    subst eY
    refine ⟨rfl, ?_⟩
    rw [show decide (V.int (fewN N1 x Y2 : Nat) = V.int 0) = true from decide_eq_true (by rw [f0]; rfl)]
    exact q N1 T1 H3 G1 ((ga.trans gb.any).trans g3.any) (n2.grow0 g3)
end

end Lw

namespace Lw
open PySem PySem.Spec PyProof.Rows L2 GxR Gx
section
variable {C : Addr}
/-! ### two nets beside each other -/
theorem Grow.dropL {ex : List Addr} {H H' : Hp} (g : Grow ex H H') (f : ∀ b ∈ ex, Fresh H b) : Grow [] H H' :=
  ⟨fun b o _ e t => g.keep b o (fun m => Fresh.ne (f b m) e t rfl) e t, g.tabs⟩
structure Two (C a a' : Addr) (A A' : Ads) (N M : Nst) (H0 H : Hp) : Prop where
  net : NetAt C a A N H
  oth : NetAt C a' A' M H
  dis : ∀ b ∈ A.ft a N, b ∉ A'.ft a' M
  fr : ∀ b ∈ A.ft a N, Fresh H0 b
  fr' : ∀ b ∈ A'.ft a' M, Fresh H0 b
theorem Two.grow0 {a a' : Addr} {A A' : Ads} {N M : Nst} {H0 H H' : Hp} (t : Two C a a' A A' N M H0 H) (g : Grow [] H H') : Two C a a' A A' N M H0 H' := { t with net := t.net.grow0 g, oth := t.oth.grow0 g }
/-- what neither holds is changed -/
theorem Two.grow {a a' p : Addr} {A A' : Ads} {N M : Nst} {H0 H H' : Hp} (t : Two C a a' A A' N M H0 H) (g : Grow [p] H H') (n1 : p ∉ A.ft a N) (n2 : p ∉ A'.ft a' M) : Two C a a' A A' N M H0 H' :=
  { t with net := t.net.grow g (fun b hb m => n1 (by rw [← List.mem_singleton.mp m]; exact hb)), oth := t.oth.grow g (fun b hb m => n2 (by rw [← List.mem_singleton.mp m]; exact hb)) }
/-- what stands is not new -/
theorem NetAt.old {a : Addr} {A : Ads} {N : Nst} {H : Hp} (n : NetAt C a A N H) {b : Addr} (f : Fresh H b) : b ∉ A.ft a N := fun m => by
  obtain ⟨o, e, t⟩ := n.there b m
  exact Fresh.ne f e t rfl
/-- the first one changes -/
theorem Two.one {a a' p : Addr} {A A' A2 : Ads} {N M N2 : Nst} {H0 H H' : Hp} (t : Two C a a' A A' N M H0 H) (g0 : ∀ {b}, Fresh H b → b ≠ p → Fresh H0 b) (g : Grow (p :: A.ft a N) H H') (n2 : p ∉ A'.ft a' M) (n : NetAt C a A2 N2 H') (f : ∀ b ∈ A2.ft a N2, b ∈ A.ft a N ∨ (Fresh H b ∧ b ≠ p)) : Two C a a' A2 A' N2 M H0 H' where
  net := n
  oth := t.oth.grow g fun b hb m => by
    rcases List.mem_cons.mp m with e | m
    · rw [e] at hb; exact n2 hb
    · exact t.dis b m hb
  dis := fun b hb m => by
    rcases f b hb with h | h
    · exact t.dis b h m
    · exact t.oth.old h.1 m
  fr := fun b hb => by
    rcases f b hb with h | h
    · exact t.fr b h
    · exact g0 h.1 h.2
  fr' := t.fr'
theorem Two.swap {a a' : Addr} {A A' : Ads} {N M : Nst} {H0 H : Hp} (t : Two C a a' A A' N M H0 H) : Two C a' a A' A M N H0 H := ⟨t.oth, t.net, fun b hb m => t.dis b m hb, t.fr', t.fr⟩
end

/-! ### a net behind a deed -/
theorem tot_join {N : Nst} {x h : Str} (new : x ∉ N.hands) : totN (joinN N x h) = totN N := by
  unfold totN
  show ((N.hands ++ [x]).map fun y => (at_ N.book x [] y).length).sum = _
  rw [List.map_append, List.sum_append]
  have : N.hands.map (fun y => (at_ N.book x [] y).length) = N.hands.map fun y => (N.book y).length := List.map_congr_left fun y hy => by rw [at_ne _ _ fun z => new (by rw [← z]; exact hy)]
  rw [this]
  show _ + ((at_ N.book x [] x).length + 0) = _
  rw [at_same]
  rfl
theorem tot_shout {N : Nst} {T : Nat} (ok : Nok N T) {h x : Str} (hh : h ∈ N.hands) (nh : ¬ hasN N h x) : totN (shoutN N h x) = totN N + 1 := by
  unfold totN
  show (N.hands.map fun y => (at_ N.book h (putN (N.book h) x (N.book h).length) y).length).sum = _
  have e : (fun y => (at_ N.book h (putN (N.book h) x (N.book h).length) y).length) = at_ (fun y => (N.book y).length) h ((N.book h).length + 1) := by
    funext y
    by_cases c : y = h
    · rw [c, at_same, at_same, putN_new nh, List.length_append]
      rfl
    · rw [at_ne _ _ c, at_ne _ _ c]
  rw [e]
  have : (N.hands.map (at_ (fun y => (N.book y).length) h ((N.book h).length + 1))).sum + (N.book h).length = (N.hands.map fun y => (N.book y).length).sum + ((N.book h).length + 1) := sum_at ok.nd hh (fun y => (N.book y).length) ((N.book h).length + 1)
  omega
/-- what holds of a net at each turn -/
structure NetOk (N : Nst) (T : Nat) (p : Str → Option Str) (r : Str → Nat) : Prop where
  ok : Nok N T
  W : Wok N p r
  K : Tok N p
  pin : ∀ y g, p y = some g → y ∈ N.hands ∧ g ∈ N.hands
  tt : T ≤ totN N
theorem NetOk.deed {N : Nst} {T : Nat} {p : Str → Option Str} {r : Str → Nat} (h : NetOk N T p r) {o : Deed} (oo : o.ok N) (ok1 : Nok (doN N o) (T + 1)) (hl : N.hands.length ≤ 12) : ∃ T' p' r', NetOk (doN N o) T' p' r' := by
  cases o with
  | none => exact ⟨T, p, r, h⟩
  | join x y =>
    obtain ⟨nx, new, hh, _⟩ := oo
    obtain ⟨W2, pin2⟩ := wok_join h.ok h.W hh new h.pin
    exact ⟨T, _, _, nok_join h.ok hh nx new (by omega), W2, tok_join h.ok h.K hh new h.pin, pin2, by
      show T ≤ totN (joinN N x y)
      rw [tot_join new]; exact h.tt⟩
  | shout y x =>
    obtain ⟨nx, hh, new, ml⟩ := oo
    have ok2 : Nok { N with mouths := N.mouths ++ [(x, y)] } T := { h.ok with
      mnd := by
        show ((N.mouths ++ [(x, y)]).map Prod.fst).Nodup
        rw [List.map_append, List.nodup_append]
        refine ⟨h.ok.mnd, by simp, fun u hu z hz e => ?_⟩
        have ez : z = x := by simpa using hz
        rw [ez] at e
        exact new (e ▸ hu)
      mnm := fun m hm => by
        rcases List.mem_append.mp hm with hm | hm
        · exact h.ok.mnm m hm
        · rw [List.mem_singleton.mp hm]; exact ⟨nx, hh⟩
      mlen := by show (N.mouths ++ [(x, y)]).length ≤ 100; rw [List.length_append]; show _ + 1 ≤ 100; omega }
    obtain ⟨nh, W2⟩ := wok_shout h.ok h.W hh new ok2
    exact ⟨T + 1, p, r, ok1, W2, tok_shout h.W h.K hh new ok2, h.pin, by
      show T + 1 ≤ totN (shoutN N y x)
      rw [tot_shout h.ok hh nh]; exact Nat.succ_le_succ h.tt⟩
theorem NetOk.go {N N' : Nst} {T T' : Nat} {p : Str → Option Str} {r : Str → Nat} (h : NetOk N T p r) (G : GoN p r N N' T') : NetOk N' T' p r := ⟨G.ok, G.W, G.K, by rw [G.h1]; exact h.pin, G.tt⟩
theorem NetOk.low {N : Nst} {T : Nat} {p : Str → Option Str} {r : Str → Nat} (h : NetOk N T p r) : T ≤ 6000 := (GoN.here h.ok h.W h.K h.tt).low

end Lw

namespace Lw
open PySem PySem.Spec PyProof.Rows L2 GxR Gx
section
variable {P : Program} {w : World} {K : PySem.W.Frag} {mg : Str → Option Value} {base : Heap} {C : Addr}
/-! ### law -/
def spLaw (K : PySem.W.Frag) (C T1 : Addr) : Sp := fun vs H Q _ => ∃ (s : Addr) (ns : List Int), vs = [.ref s] ∧ TabG H T1 ∧ SqL K H s (ns.map V.int) ∧ ∀ (H' : Hp), Grow [] H H' → Q (.bl true) H'
/-- the net at a turn of the law -/
structure Run (C a : Addr) (A : Ads) (N : Nst) (T : Nat) (H0 H : Hp) : Prop where
  net : NetAt C a A N H
  fr : ∀ b ∈ A.ft a N, Fresh H0 b
  wok : ∃ p r, NetOk N T p r
  ne : N.hands ≠ []
  h12 : N.hands.length ≤ 12
  m14 : N.mouths.length ≤ 14
  gr : Grow [] H0 H
theorem Run.grow0 {C a : Addr} {A : Ads} {N : Nst} {T : Nat} {H0 H H' : Hp} (r : Run C a A N T H0 H) (g : Grow [] H H') : Run C a A N T H0 H' := { r with net := r.net.grow0 g, gr := r.gr.trans g }
theorem Run.grow {C a p : Addr} {A : Ads} {N : Nst} {T : Nat} {H0 H H' : Hp} (r : Run C a A N T H0 H) (g : Grow [p] H H') (n1 : p ∉ A.ft a N) (fp : Fresh H0 p) : Run C a A N T H0 H' :=
  { r with net := r.net.grow g (fun b hb m => n1 (by rw [← List.mem_singleton.mp m]; exact hb)), gr := (r.gr.any.trans g).drop fp }
/-- behind hearings -/
theorem Run.go {C a p : Addr} {A : Ads} {N N' : Nst} {T T' : Nat} {pp : Str → Option Str} {rr : Str → Nat} {H0 H H' : Hp} (r : Run C a A N T H0 H) (ok : NetOk N T pp rr) (G : GoN pp rr N N' T') (g : Grow (p :: A.ft a N) H H') (n : NetAt C a A N' H') (fp : Fresh H0 p) : Run C a A N' T' H0 H' := by
  refine ⟨n, by rw [G.ft]; exact r.fr, ⟨pp, rr, ok.go G⟩, by rw [G.h1]; exact r.ne, by rw [G.h1]; exact r.h12, by rw [G.h3]; exact r.m14, Grow.dropL (r.gr.any.trans g) fun b hb => ?_⟩
  rcases List.mem_cons.mp hb with z | z
  · rw [z]; exact fp
  · exact r.fr b z
theorem ok_law {f c T1 : Addr} {fd : FuncData} (B : Nb mg) (D : DefIs K "law" "law" st_law f fd (.ref c))
    (c_law_bag : Callee P w K mg base CX0 3 "_law_bag" ["script", "k"] (spBag K)) (c_law_take : Callee P w K mg base CX0 3 "_law_take" ["bag", "many"] (spTake K)) (c_law_pick : Callee P w K mg base CX0 4 "_law_pick" ["bag", "things"] (spPick K))
    (c_law_name : Callee P w K mg base CX0 4 "_law_name" ["bag", "some"] (spName K)) (c_law_deed : Callee P w K mg base CX0 6 "_law_deed" ["bag", "net", "most"] (spDeed K C T1)) (c_law_hears : Callee P w K mg base CX0 5 "_law_hears" ["bag", "net", "many"] (spHears C))
    (c_law_due : Callee P w K mg base CX0 5 "_law_due" ["net", "hand", "word"] (spDue C)) (c_law_one_more : Callee P w K mg base CX0 6 "_law_one_more" ["bag", "net", "hand", "word"] (spOne C)) (c_law_led : Callee P w K mg base CX0 6 "_law_led" ["net", "hand", "word"] (spLed C))
    (c_Net_web : CalleeM P w K mg base CX0 2 C "web" ["self"] (spWeb C)) (c_Net_words : CalleeM P w K mg base CX0 2 C "words" ["self"] (spWords C)) (c_Net_hearings_to : CalleeM P w K mg base CX0 5 C "hearings_to" ["self", "hand", "word"] (spFew C)) (mk_Net : Maker P w K mg base CX0 5 "Net" C ["self", "name"] (spInit C T1)) :
    FnG P w K mg base CX0 7 f fd ["script"] (spLaw K C T1) := by
  refine D.ok0 (k := 6) sc_law (fun vs H Q E h => ?_) (fun A0 outer s H vs Q E g hr h => ?_)
  · obtain ⟨s, ns, rfl, _⟩ := h
    rfl
  obtain ⟨sc, ns, rfl, t1, hsc, q⟩ := h
  refine ⟨_,
      (pss_cons (ps_set (i := 1) sc_law.nd rfl (.inl rfl) (pe_gmk mk_Net g (hr.mono (by decide)) pass0 (pa_cons (pe_g c_law_name g (hr.mono (by decide)) pass0 (pa_cons (pe_g c_law_bag g (hr.mono (by decide)) pass0 (pa_cons (pv 0) (pa_cons pe_int pa_nil))) (pa_cons (pe_lst pa_nil) pa_nil))) pa_nil)))
      (pss_cons (ps_for PassesOwn.never rfl (pi_range2 rfl B.n_range (pa_cons pe_int (pa_cons (pe_callB (call_max2 rfl) rfl B.n_max (by decide +kernel) (pa_cons pe_int (pa_cons (pe_callB (call_min2 rfl) rfl B.n_min (by decide +kernel) (pa_cons pe_int (pa_cons (pe_callB call_len_seq rfl B.n_len PySem.boot_len (pa_cons (pv 0) pa_nil)) pa_nil))) pa_nil))) pa_nil))) (pg_name (i := 2) sc_law.nd rfl (.inl rfl)) (
        (pss_cons (ps_set (i := 3) sc_law.nd rfl (.inl rfl) (pe_g c_law_bag g (hr.mono (by decide)) pass0 (pa_cons (pv 0) (pa_cons (pv 2) pa_nil))))
        (pss_cons (ps_set (i := 4) sc_law.nd rfl (.inl rfl) (pe_g c_law_take g (hr.mono (by decide)) pass0 (pa_cons (pv 3) (pa_cons pe_int pa_nil))))
        (pss_one (ps_for PassesOwn.never rfl (pi_range1 rfl B.n_range (pa_cons pe_int pa_nil)) (pg_name (i := 5) sc_law.nd rfl (.inl rfl)) (
          (pss_cons (ps_expr (pe_g c_law_deed g (hr.mono (by decide)) pass0 (pa_cons (pv 3) (pa_cons (pv 1) (pa_cons pe_int pa_nil)))))
          (pss_cons (ps_expr (pe_g c_law_hears g (hr.mono (by decide)) pass0 (pa_cons (pv 3) (pa_cons (pv 1) (pa_cons (pe_ix ix_list (pe_lst (pa_cons pe_int (pa_cons pe_int (pa_cons pe_int (pa_cons pe_int pa_nil))))) (pv 4) (fun _ _ => rfl)) pa_nil)))))
          (pss_cons (ps_set (i := 6) sc_law.nd rfl (.inl rfl) (pe_gm0 c_Net_words g (hr.mono (by decide)) pass0 (pv 1)))
          (pss_one (ps_if (pt_cmpR (op_neE hr.units) (pv 6) (pe_lst pa_nil) (nomark _)) (
            (pss_cons (ps_par (i := 7) (j := 8) rfl sc_law.nd rfl rfl (by decide) rfl rfl (pa_cons (pe_g c_law_pick g (hr.mono (by decide)) pass0 (pa_cons (pv 3) (pa_cons (pe_ix ix_tup (pe_gm0 c_Net_web g (hr.mono (by decide)) pass0 (pv 1)) pe_int (fun _ _ => rfl)) pa_nil))) (pa_cons (pe_g c_law_pick g (hr.mono (by decide)) pass0 (pa_cons (pv 3) (pa_cons (pv 6) pa_nil))) pa_nil)) rfl)
            (pss_cons (ps_if (pt_cmpR (op_ne) (pe_gm c_Net_hearings_to g (hr.mono (by decide)) pass0 (pv 1) (pa_cons (pv 7) (pa_cons (pv 8) pa_nil))) (pe_g c_law_due g (hr.mono (by decide)) pass0 (pa_cons (pv 1) (pa_cons (pv 7) (pa_cons (pv 8) pa_nil)))) (nomark _)) (
              (pss_one (ps_ret pe_bl))) pss_nil)
            (pss_cons (ps_for PassesOwn.never rfl (pi_range1 rfl B.n_range (pa_cons (pe_g c_law_take g (hr.mono (by decide)) pass0 (pa_cons (pv 3) (pa_cons pe_int pa_nil))) pa_nil)) (pg_name (i := 9) sc_law.nd rfl (.inl rfl)) (
              (pss_one (ps_if (pt_not (pt_val (pe_g c_law_one_more g (hr.mono (by decide)) pass0 (pa_cons (pv 3) (pa_cons (pv 1) (pa_cons (pv 7) (pa_cons (pv 8) pa_nil))))))) (
                (pss_one (ps_ret pe_bl))) pss_nil))))
            (pss_one (ps_if (PW.pt (pw_and (pt_cmpR (op_eq) (pe_g c_law_take g (hr.mono (by decide)) pass0 (pa_cons (pv 3) (pa_cons pe_int pa_nil))) pe_int (nomark _)) (pw_and1 (pt_not (pt_val (pe_g c_law_led g (hr.mono (by decide)) pass0 (pa_cons (pv 1) (pa_cons (pv 7) (pa_cons (pv 8) pa_nil))))))))) (
              (pss_one (ps_ret pe_bl))) pss_nil)))))) pss_nil))))))))))))
      (pss_one (ps_ret pe_bl)))), ?_⟩
  refine ⟨.ref sc, rfl, sc, ns, 0, rfl, hsc, by omega, fun p H1 fp g1 b1 => ?_⟩
  refine ⟨by show 0 ≤ sizeLine; decide, fun Le nLe => ?_⟩
  have g2 := g1.trans (grow_new (o := .lst []) nLe)
  have el : upd H1 Le (.lst []) Le = some (.lst ([].map V.str)) := upd_same
  have lp : Le ≠ p := b1.ne (fresh_none nLe)
  have b2 := b1.keep (grow_new (ex := []) (o := .lst []) nLe) (by simp)
  generalize upd H1 Le (.lst []) = H2 at g2 el b2 ⊢
  refine ⟨p, Le, [], 1464, rfl, .inl (.inl el), lp, by decide, b2, fun x H3 nx g3 b3 => ?_⟩
  have g03 : Grow [] H H3 := (g2.any.trans g3).drop fp
  refine fun a dx na ndx dxa => ?_
  have e1 : upd (upd H3 dx (.own a)) a (.ins C dx []) a = some (.ins C dx []) := upd_same
  have e2 : upd (upd H3 dx (.own a)) a (.ins C dx []) dx = some (.own a) := by rw [upd_ne dxa, upd_same]
  have g4 : Grow [] H3 (upd (upd H3 dx (.own a)) a (.ins C dx [])) := (grow_new ndx).trans (grow_new (by rw [upd_ne (Ne.symm dxa)]; exact na))
  have fa : Fresh H a := g03.fresh0 na
  have fdx : Fresh H dx := g03.fresh0 ndx
  generalize upd (upd H3 dx (.own a)) a (.ins C dx []) = H4 at g4 e1 e2 ⊢
  have g04 := g03.trans g4
  refine ⟨a, dx, x, rfl, g04.tabs _ t1, nx, e1, e2, fun H5 A g5 n5 f5 => ⟨rfl, ?_⟩⟩
  have f5' : ∀ b ∈ A.ft a (newN x), Fresh H b := fun b hb => by
    rcases f5 b hb with e | e | e
    · rw [e]; exact fa
    · rw [e]; exact fdx
    · exact g04.fresh (by simp) e
  have g05 : Grow [] H H5 := (g04.any.trans g5).drop fa
  have ok0 : Nok (newN x) 0 := nok_new nx
  have run0 : Run C a A (newN x) 0 H H5 := ⟨n5, f5', ⟨_, _, ok0, wok_new x, tok_new x, (fun y g e => by cases e), Nat.zero_le _⟩, by show [x] ≠ []; simp, by show 1 ≤ 12; omega, Nat.zero_le _, g05⟩
  refine ⟨.ref sc, rfl, sc, _, rfl, .inl (g05.seq0 hsc), _, _, rfl, _, _, rfl, ?_⟩
  obtain ⟨m, hm, m24⟩ : ∃ m : Int, (if (if ((ns.map V.int).length : Int) < 24 then ((ns.map V.int).length : Int) else 24) > 11 then (if ((ns.map V.int).length : Int) < 24 then ((ns.map V.int).length : Int) else 24) else 11) = m ∧ 11 ≤ m ∧ m ≤ 24 := ⟨_, rfl, by omega⟩
  rw [hm]
  refine ⟨1, m, rfl, by omega, ?_⟩
  refine for_it walk_range (fun j σ H' => ∃ (o2 o3 o4 o5 o6 o7 o8 o9 : Option V) (A : Ads) (N : Nst) (T : Nat), σ = [some (.ref sc), some (.ref a), o2, o3, o4, o5, o6, o7, o8, o9] ∧ Run C a A N T H H')
    ⟨none, none, none, none, none, none, none, none, A, newN x, 0, rfl, run0⟩ (fun _ _ _ _ _ => trivial) (fun j z σ H8 H9 hj hp hy => ?_) (fun σ H8 hp => ?_)
  · obtain ⟨o2, o3, o4, o5, o6, o7, o8, o9, A, N, T, rfl, run⟩ := hp
    obtain ⟨rfl, rfl⟩ := hy
    have hj24 : j ≤ 22 := by omega
    refine ⟨.ref sc, rfl, .int (1 + j), rfl, sc, ns, 1 + j, by show [V.ref sc, V.int (1 + (j : Int))] = [V.ref sc, V.int ((1 + j : Nat) : Int)]; rw [Int.natCast_add]; rfl, run.gr.seq0 hsc, by omega, fun p H10 fp g10 b10 => ?_⟩
    have fpH : Fresh H p := run.gr.fresh (by simp) fp
    have run1 := run.grow0 g10
    have pn1 := run.net.old fp
    refine ⟨.ref p, rfl, p, 4, _, rfl, by decide, by decide, by decide, b10, fun u H11 u0 u4 g11 b11 => ?_⟩
    have run2 := run1.grow g11 pn1 fpH
    refine ⟨3, rfl, by decide, by decide, ?_⟩
    refine for_it walk_range (fun i σ H' => ∃ (o5 o6 o7 o8 o9 : Option V) (A : Ads) (N : Nst) (T : Nat), σ = [some (.ref sc), some (.ref a), some (.int (1 + j)), some (.ref p), some (.int u), o5, o6, o7, o8, o9] ∧ Run C a A N T H H' ∧ Bag H' p (1465 + 60 * i) ∧ p ∉ A.ft a N)
      ⟨o5, o6, o7, o8, o9, A, N, T, rfl, run2, b11.mono (by omega), pn1⟩ (fun _ _ _ _ _ => trivial) (fun i z σ H12 H13 hi hp hy => ?_) (fun σ H12 hp => ?_)
    · obtain ⟨o5, o6, o7, o8, o9, A, N, T, rfl, run, bag, pn1⟩ := hp
      obtain ⟨rfl, rfl⟩ := hy
      obtain ⟨e, he⟩ : ∃ e : Int, 1465 + 60 * (i : Int) = e := ⟨_, rfl⟩
      have ee : 1465 + 60 * ((i + 1 : Nat) : Int) = e + 60 := by omega
      rw [ee]
      rw [he] at bag
      have e8 : e ≤ 2000 := by omega
      obtain ⟨pp, rr, nok⟩ := run.wok
      have low := nok.low
      refine ⟨.ref p, rfl, .ref a, rfl, p, a, A, N, T, e, rfl, run.gr.tabs _ t1, bag, by omega, run.net, nok.ok, by omega, pn1, run.ne, run.h12, run.m14, fun o v H14 A2 oo g14 n14 ok14 fr14 b14 _ => ?_⟩
      obtain ⟨s1, s2, s3⟩ := do_small oo run.h12 run.m14 run.ne
      obtain ⟨T2, p2, r2, nok2⟩ := nok.deed oo ok14 run.h12
      have pn2 : p ∉ A2.ft a (doN N o) := fun m => by
        rcases fr14 p m with h | h
        · exact pn1 h
        · exact bag.ne h rfl
      have gr14 : Grow [] H H14 := Grow.dropL (run.gr.any.trans g14) fun b hb => by
        rcases List.mem_cons.mp hb with z | z
        · rw [z]; exact fpH
        · exact run.fr b z
      have run2 : Run C a A2 (doN N o) T2 H H14 := ⟨n14, fun b hb => (fr14 b hb).elim (fun h => run.fr b h) fun h => run.gr.fresh (by simp) h, ⟨p2, r2, nok2⟩, s3, s1, s2, gr14⟩
      generalize doN N o = N2 at pn2 nok2 run2 s1 s2 s3
      clear gr14 ok14 n14
      have low2 := nok2.low
      -- the hearings
      refine ⟨.ref p, rfl, .ref a, rfl, by show 4 ≤ sizeLine; decide, fun Lq nLq => ?_⟩
      have gq : Grow [] H14 (upd H14 Lq (.lst [.int 0, .int 1, .int 3, .int 8])) := grow_new nLq
      have eq : upd H14 Lq (.lst [.int 0, .int 1, .int 3, .int 8]) Lq = some (.lst [.int 0, .int 1, .int 3, .int 8]) := upd_same
      generalize upd H14 Lq (.lst [.int 0, .int 1, .int 3, .int 8]) = H15 at gq eq ⊢
      obtain ⟨m8, em8, hm8⟩ : ∃ m8 : Nat, atI [V.int 0, .int 1, .int 3, .int 8] u = some (.int (m8 : Nat)) ∧ m8 ≤ 8 := by
        have : u = 0 ∨ u = 1 ∨ u = 2 ∨ u = 3 := by omega
        rcases this with z | z | z | z
        · rw [z]; exact ⟨0, rfl, by omega⟩
        · rw [z]; exact ⟨1, rfl, by omega⟩
        · rw [z]; exact ⟨3, rfl, by omega⟩
        · rw [z]; exact ⟨8, rfl, by omega⟩
      have run3 := run2.grow0 gq
      have b15 := b14.keep gq (by simp)
      refine ⟨.int u, rfl, Lq, _, u, .int (m8 : Nat), rfl, rfl, .inl (.inl eq), em8, ?_⟩
      refine ⟨p, a, A2, N2, T2, p2, r2, m8, e + 40, rfl, hm8, b15, by omega, run3.net, nok2.ok, nok2.W, nok2.K, nok2.tt, pn2, fun N3 T3 H16 G3 g16 n16 b16 => ?_⟩
      have nok3 := nok2.go G3
      have low3 := nok3.low
      have run4 := run3.go nok2 G3 g16 n16 fpH
      have pn3 : p ∉ A2.ft a N3 := by rw [G3.ft]; exact pn2
      refine ⟨.ref a, rfl, a, _, _, rfl, n16.obj, rfl, a, A2, N3, T3, rfl, n16, nok3.ok, fun Lw H17 fw g17 ew => ?_⟩
      have run5 := run4.grow0 g17
      have b17 := b16.keep g17 (by simp)
      have wp := b16.ne fw
      refine ⟨.ref Lw, rfl, by show 0 ≤ sizeLine; decide, fun Le nLe => ?_⟩
      have g18 : Grow [] H17 (upd H17 Le (.lst [])) := grow_new nLe
      have eLe : upd H17 Le (.lst []) Le = some (.lst []) := upd_same
      have ew := g18.lst (by simp) ew
      generalize upd H17 Le (.lst []) = H18 at g18 eLe ew ⊢
      have run6 := run5.grow0 g18
      have b18 := b17.keep g18 (by simp)
      refine ⟨Lw, Le, _, rfl, rfl, ew, eLe, _, rfl, ?_⟩
      by_cases we : wordsN N3 = []
      · rw [show decide ((wordsN N3).map V.str = []) = true from decide_eq_true (by rw [we]; rfl)]
        exact iteF ⟨_, _, _, _, _, A2, N3, T3, rfl, run6, b18.mono (by omega), pn3⟩
      · rw [show decide ((wordsN N3).map V.str = []) = false from decide_eq_false fun z => we (List.map_eq_nil_iff.mp z)]
        refine iteT ?_
        have wl : (wordsN N3).length ≤ 14 := by
          unfold wordsN
          rw [(List.mergeSort_perm _ _).length_eq, List.length_map]
          exact run6.m14
        refine ⟨.ref p, rfl, .ref a, rfl, a, _, _, rfl, run6.net.obj, rfl, a, A2, N3, T3, rfl, run6.net, nok3.ok, fun W LH LR H19 g19 wr => ?_⟩
        have run7 := run6.grow0 g19
        have b19 := b18.keep g19 (by simp)
        have ew := g19.lst (by simp) ew
        have hp : LH ≠ p := b18.ne wr.fr.2.1
        refine ⟨W, _, 0, .ref LH, rfl, rfl, .inl (.inl wr.top), rfl, p, LH, _, e + 40 + 8, rfl, .inl (.inl wr.hds), hp, fun z => run7.ne ?_, ?_, by omega, b19, fun i1 v1 H20 hv1 g20 b20 => ?_⟩
        · have := List.map_eq_nil_iff.mp z
          have l := congrArg List.length this
          rw [webH_len] at l
          exact List.eq_nil_of_length_eq_zero l
        · rw [List.length_map, webH_len]
          have := run7.h12
          omega
        obtain ⟨h, hv, rfl⟩ := Option.map_eq_some_iff.mp (by rw [List.getElem?_map] at hv1; exact hv1)
        have hh : h ∈ N3.hands := mem_webH.mp (List.mem_of_getElem? hv)
        have run8 := run7.grow g20 pn3 fpH
        have ew := g20.lst (by simpa using wp) ew
        refine ⟨.ref p, rfl, .ref Lw, rfl, p, Lw, _, e + 40 + 8 + 1, rfl, .inl (.inl ew), wp, fun z => we (List.map_eq_nil_iff.mp z), by rw [List.length_map]; omega, by omega, b20, fun i2 v2 H21 hv2 g21 b21 => ?_⟩
        obtain ⟨x2, hv3, rfl⟩ := Option.map_eq_some_iff.mp (by rw [List.getElem?_map] at hv2; exact hv2)
        have hx : x2 ∈ N3.mouths.map Prod.fst := (List.mergeSort_perm _ _).mem_iff.mp (List.mem_of_getElem? hv3)
        have run9 := run8.grow g21 pn3 fpH
        refine ⟨_, _, rfl, ?_⟩
        refine ⟨.ref a, rfl, a, _, _, rfl, run9.net.obj, rfl, .str h, rfl, .str x2, rfl, a, A2, N3, T3, p2, r2, h, x2, rfl, run9.net, nok3.ok, nok3.W, nok3.K, by omega, hh, hx, fun H22 Y g22 pt _ => ?_⟩
        have run10 := run9.grow0 g22
        have b22 := b21.keep g22 (by simp)
        refine ⟨.ref a, rfl, .str h, rfl, .str x2, rfl, a, A2, N3, T3, p2, r2, h, x2, rfl, run10.net, nok3.ok, nok3.W, nok3.K, by omega, hh, hx, fun H23 Y2 g23 pt2 _ => ?_⟩
        have eY := pth_one nok3.W.par _ (Nat.le_refl _) pt2 pt
        subst eY
        have run11 := run10.grow0 g23
        have b23 := b22.keep g23 (by simp)
        refine ⟨rfl, _, rfl, ?_⟩
        rw [show (!decide (V.int (fewN N3 x2 Y2 : Nat) = V.int (fewN N3 x2 Y2 : Nat))) = false by rw [decide_eq_true rfl]; rfl]
        refine iteF ?_
        refine ⟨.ref p, rfl, p, 4, _, rfl, by decide, by decide, by omega, b23, fun w1 H24 w0 w4 g24 b24 => ?_⟩
        have run12 := run11.grow g24 pn3 fpH
        refine ⟨w1, rfl, by omega, by omega, ?_⟩
        refine for_it walk_range (fun l σ H' => ∃ (o9 : Option V) (N : Nst) (T : Nat), σ = [some (.ref sc), some (.ref a), some (.int (1 + j)), some (.ref p), some (.int u), some (.int (0 + i)), some (.ref Lw), some (.str h), some (.str x2), o9] ∧ Run C a A2 N T H H' ∧ h ∈ N.hands ∧ x2 ∈ N.mouths.map Prod.fst ∧ Bag H' p (e + 51 + l) ∧ p ∉ A2.ft a N)
          ⟨_, N3, T3, rfl, run12, hh, hx, b24.mono (by omega), pn3⟩ (fun _ _ _ _ _ => trivial) (fun l z σ H25 H26 hl hp hy => ?_) (fun σ H25 hp => ?_)
        · obtain ⟨o9, N4, T4, rfl, run, hh, hx, bag, pn4⟩ := hp
          obtain ⟨rfl, rfl⟩ := hy
          obtain ⟨p4, r4, nok4⟩ := run.wok
          refine ⟨.ref p, rfl, .ref a, rfl, .str h, rfl, .str x2, rfl, p, a, A2, N4, T4, p4, r4, h, x2, e + 51 + l, rfl, bag, by omega, run.net, nok4.ok, nok4.W, nok4.K, nok4.tt, pn4, hh, hx, fun N5 T5 H27 G5 g27 n27 b27 => ?_⟩
          have run5 := run.go nok4 G5 g27 n27 fpH
          exact ⟨true, rfl, iteF ⟨_, N5, T5, rfl, run5, by rw [G5.h1]; exact hh, by rw [G5.h3]; exact hx, b27.mono (by omega), by rw [G5.ft]; exact pn4⟩⟩
        · obtain ⟨o9, N4, T4, rfl, run, hh, hx, bag, pn4⟩ := hp
          obtain ⟨p4, r4, nok4⟩ := run.wok
          refine ⟨.ref p, rfl, p, 4, _, rfl, by decide, by decide, by omega, bag, fun w2 H26 w0 w4 g26 b26 => ?_⟩
          have run5 := run.grow g26 pn4 fpH
          refine ⟨rfl, _, rfl, ite2 (fun _ => ?_) fun _ => ?_⟩
          · refine ⟨.ref a, rfl, .str h, rfl, .str x2, rfl, a, A2, N4, T4, p4, r4, h, x2, rfl, run5.net, nok4.ok, nok4.W, nok4.K, nok4.tt, hh, hx, fun N5 T5 H27 G5 g27 n27 => ?_⟩
            have run6 := run5.go (p := p) nok4 G5 (g27.mono fun b hb => List.mem_cons_of_mem _ hb) n27 fpH
            exact ⟨true, rfl, iteF ⟨_, _, _, _, _, A2, N5, T5, rfl, run6, (b26.keep g27 pn4).mono (by omega), by rw [G5.ft]; exact pn4⟩⟩
          · exact ⟨_, _, _, _, _, A2, N4, T4, rfl, run5, b26.mono (by omega), pn4⟩
    · obtain ⟨o5, o6, o7, o8, o9, A, N, T, rfl, run, _, _⟩ := hp
      exact ⟨_, _, _, _, _, _, _, _, A, N, T, rfl, run⟩
  · obtain ⟨o2, o3, o4, o5, o6, o7, o8, o9, A, N, T, rfl, run⟩ := hp
    exact q _ run.gr
end
theorem law_start {K : PySem.W.Frag} {H : Hp} {C a : Addr} {ns : List Int} {c1 : Addr × Addr} (t : ∀ p ∈ [c1], TabG H p.2) (_ : ns.length ≤ 63) (_ : ∀ z ∈ ns, Builtin.Int.intBits z ≤ 1048576) (h : SqL K H a (ns.map V.int)) :
    spLaw K C c1.2 [.ref a] H (fun v _ => v = .bl true) E0 := ⟨a, ns, rfl, t _ (by simp), h, fun _ _ => rfl⟩

end Lw

namespace Lw
open PySem PySem.Spec PyProof.Rows L2 GxR Gx
end Lw
namespace Lw
open PySem PySem.Spec PyProof.Rows L2 GxR Gx
/-! ### the head -/
def d_wall : He.DefD := ⟨("_wall", none), "_wall", "_wall", defArgs st_wall, defBody st_wall, defScope st_wall, [], []⟩
def d_is_name : He.DefD := ⟨("is_name", none), "is_name", "is_name", defArgs st_is_name, defBody st_is_name, defScope st_is_name, [], []⟩
def d_Net_init : He.DefD := ⟨("Net", some "__init__"), "__init__", "Net.__init__", defArgs st_Net_init, defBody st_Net_init, defScope st_Net_init, [], []⟩
def d_Net_join : He.DefD := ⟨("Net", some "join"), "join", "Net.join", defArgs st_Net_join, defBody st_Net_join, defScope st_Net_join, [], []⟩
def d_Net_shout : He.DefD := ⟨("Net", some "shout"), "shout", "Net.shout", defArgs st_Net_shout, defBody st_Net_shout, defScope st_Net_shout, [], []⟩
def d_Net_step : He.DefD := ⟨("Net", some "step"), "step", "Net.step", defArgs st_Net_step, defBody st_Net_step, defScope st_Net_step, [], []⟩
def d_Net_web : He.DefD := ⟨("Net", some "web"), "web", "Net.web", defArgs st_Net_web, defBody st_Net_web, defScope st_Net_web, [], []⟩
def d_Net_words : He.DefD := ⟨("Net", some "words"), "words", "Net.words", defArgs st_Net_words, defBody st_Net_words, defScope st_Net_words, [], []⟩
def d_Net_mouth : He.DefD := ⟨("Net", some "mouth"), "mouth", "Net.mouth", defArgs st_Net_mouth, defBody st_Net_mouth, defScope st_Net_mouth, [], []⟩
def d_Net_book : He.DefD := ⟨("Net", some "book"), "book", "Net.book", defArgs st_Net_book, defBody st_Net_book, defScope st_Net_book, [], []⟩
def d_Net_lane : He.DefD := ⟨("Net", some "lane"), "lane", "Net.lane", defArgs st_Net_lane, defBody st_Net_lane, defScope st_Net_lane, [], []⟩
def d_Net_hearings_to : He.DefD := ⟨("Net", some "hearings_to"), "hearings_to", "Net.hearings_to", defArgs st_Net_hearings_to, defBody st_Net_hearings_to, defScope st_Net_hearings_to, [], []⟩
def d_Net_check_hand : He.DefD := ⟨("Net", some "_check_hand"), "_check_hand", "Net._check_hand", defArgs st_Net_check_hand, defBody st_Net_check_hand, defScope st_Net_check_hand, [], []⟩
def d_Net_check_word : He.DefD := ⟨("Net", some "_check_word"), "_check_word", "Net._check_word", defArgs st_Net_check_word, defBody st_Net_check_word, defScope st_Net_check_word, [], []⟩
def d_Net_many_on : He.DefD := ⟨("Net", some "_many_on"), "_many_on", "Net._many_on", defArgs st_Net_many_on, defBody st_Net_many_on, defScope st_Net_many_on, [], []⟩
def d_Net_hear : He.DefD := ⟨("Net", some "_hear"), "_hear", "Net._hear", defArgs st_Net_hear, defBody st_Net_hear, defScope st_Net_hear, [], []⟩
def d_Net_write : He.DefD := ⟨("Net", some "_write"), "_write", "Net._write", defArgs st_Net_write, defBody st_Net_write, defScope st_Net_write, [], []⟩
def d_Net_way_to_first : He.DefD := ⟨("Net", some "_way_to_first"), "_way_to_first", "Net._way_to_first", defArgs st_Net_way_to_first, defBody st_Net_way_to_first, defScope st_Net_way_to_first, [], []⟩
def d_Net_way : He.DefD := ⟨("Net", some "_way"), "_way", "Net._way", defArgs st_Net_way, defBody st_Net_way, defScope st_Net_way, [], []⟩
def d_law_bag : He.DefD := ⟨("_law_bag", none), "_law_bag", "_law_bag", defArgs st_law_bag, defBody st_law_bag, defScope st_law_bag, [], []⟩
def d_law_take : He.DefD := ⟨("_law_take", none), "_law_take", "_law_take", defArgs st_law_take, defBody st_law_take, defScope st_law_take, [], []⟩
def d_law_pick : He.DefD := ⟨("_law_pick", none), "_law_pick", "_law_pick", defArgs st_law_pick, defBody st_law_pick, defScope st_law_pick, [], []⟩
def d_law_name : He.DefD := ⟨("_law_name", none), "_law_name", "_law_name", defArgs st_law_name, defBody st_law_name, defScope st_law_name, [], []⟩
def d_law_pairs : He.DefD := ⟨("_law_pairs", none), "_law_pairs", "_law_pairs", defArgs st_law_pairs, defBody st_law_pairs, defScope st_law_pairs, [], []⟩
def d_law_hears : He.DefD := ⟨("_law_hears", none), "_law_hears", "_law_hears", defArgs st_law_hears, defBody st_law_hears, defScope st_law_hears, [], []⟩
def d_law_deed : He.DefD := ⟨("_law_deed", none), "_law_deed", "_law_deed", defArgs st_law_deed, defBody st_law_deed, defScope st_law_deed, [], []⟩
def d_law_way : He.DefD := ⟨("_law_way", none), "_law_way", "_law_way", defArgs st_law_way, defBody st_law_way, defScope st_law_way, [], []⟩
def d_law_meeting : He.DefD := ⟨("_law_meeting", none), "_law_meeting", "_law_meeting", defArgs st_law_meeting, defBody st_law_meeting, defScope st_law_meeting, [], []⟩
def d_law_done : He.DefD := ⟨("_law_done", none), "_law_done", "_law_done", defArgs st_law_done, defBody st_law_done, defScope st_law_done, [], []⟩
def d_law_due : He.DefD := ⟨("_law_due", none), "_law_due", "_law_due", defArgs st_law_due, defBody st_law_due, defScope st_law_due, [], []⟩
def d_law_counted : He.DefD := ⟨("_law_counted", none), "_law_counted", "_law_counted", defArgs st_law_counted, defBody st_law_counted, defScope st_law_counted, [], []⟩
def d_law_one_more : He.DefD := ⟨("_law_one_more", none), "_law_one_more", "_law_one_more", defArgs st_law_one_more, defBody st_law_one_more, defScope st_law_one_more, [], []⟩
def d_law_led : He.DefD := ⟨("_law_led", none), "_law_led", "_law_led", defArgs st_law_led, defBody st_law_led, defScope st_law_led, [], []⟩
def d_law : He.DefD := ⟨("law", none), "law", "law", defArgs st_law, defBody st_law, defScope st_law, [], []⟩
def hdDefs : List He.DefD := [d_wall, d_is_name, d_Net_init, d_Net_join, d_Net_shout, d_Net_step, d_Net_web, d_Net_words, d_Net_mouth, d_Net_book, d_Net_lane, d_Net_hearings_to, d_Net_check_hand, d_Net_check_word, d_Net_many_on, d_Net_hear, d_Net_write, d_Net_way_to_first, d_Net_way, d_law_bag, d_law_take, d_law_pick, d_law_name, d_law_pairs, d_law_hears, d_law_deed, d_law_way, d_law_meeting, d_law_done, d_law_due, d_law_counted, d_law_one_more, d_law_led, d_law]
def hdFacts : List He.Fa := [.glo "_wall", .glo "is_name", .glo "_law_bag", .glo "_law_take", .glo "_law_pick", .glo "_law_name", .glo "_law_pairs", .glo "_law_hears", .glo "_law_deed", .glo "_law_way", .glo "_law_meeting", .glo "_law_done", .glo "_law_due", .glo "_law_counted", .glo "_law_one_more", .glo "_law_led", .glo "law", .glo "Net", .cls "Net", .mkr "Net", .noat "Net" "_beside", .noat "Net" "_near", .noat "Net" "_books", .noat "Net" "_mouths", .noat "Net" "_sent", .noat "Net" "_heard", .meth "Net" "join", .meth "Net" "shout", .meth "Net" "step", .meth "Net" "web", .meth "Net" "words", .meth "Net" "mouth", .meth "Net" "book", .meth "Net" "lane", .meth "Net" "hearings_to", .meth "Net" "_check_hand", .meth "Net" "_check_word", .meth "Net" "_many_on", .meth "Net" "_hear", .meth "Net" "_write", .meth "Net" "_way_to_first", .meth "Net" "_way", .free "all", .free "enumerate", .free "int", .free "len", .free "list", .free "max", .free "min", .free "range", .free "sorted", .free "str", .free "type", .free "zip", .int "MOST_LETTERS" 8]
def hdTabs : List He.Defn := [("is_name", none)]
def hdLoose : List Str := (["ApartError", "NoName", "NoHand", "Twice", "Empty", "NoWord", "Net", "MOST_LETTERS", "_wall", "is_name", "_law_bag", "_law_take", "_law_pick", "_law_name", "_law_pairs", "_law_hears", "_law_deed", "_law_way", "_law_meeting", "_law_done"] : List Str) ++ (["_law_due", "_law_counted", "_law_one_more", "_law_led"] : List Str)
abbrev hdRow : PySem.W.OpenRow := PySem.W.OpenLaw.row PySem.Challenge.rw_heardapart_k22_fewest_hearings
abbrev hdView : Program := PySem.W.view hdRow.prog [28]
abbrev hdTop : DefRec := HandSHeadRun.topDef hdRow.prog 28
def hdTs : List He.Tab := []
abbrev hdHook : PySem.W.Hook := He.hookX 5 hdFacts hdDefs hdTs hdTabs (fun _ => true)
def hdOb (s : PySem.W.SharedT) : He.AlX := He.obsX 5 hdFacts hdDefs hdTs hdTabs (fun _ => true) (HandSHeadRun.getT s)
theorem hdOb_eq (s : PySem.W.SharedT) : hdOb s = hdHook.obs s.abs := He.obsX_eq (HandSHeadRun.getT_eq s)
theorem hdRun (w : World) : HandSHeadRun.RunEq hdRow hdView hdHook hdOb 12000 hdLoose w := by
  intro os
  kernel_rfl
theorem triples_none : TriplesOk (#[] : Array Value).toList := trivial
/-- the law's promise, from the head's word -/
theorem hd_all {w : World} {K : PySem.W.Frag} {h : Heap} {mg : Str → Option Value} {f : Addr} (X : K.In h) (G : h.Ns mainGlobals mg) (hfa : mg ("law" : Str) = some (.ref f)) (c : He.SaysX hdFacts hdDefs hdTs hdTabs (fun _ => true) w h K) :
    LawG PySem.Challenge.rw_heardapart_k22_fewest_hearings w K 7 63 "script" mg f h := by
  have glo : ∀ x : Str, He.Fa.glo x ∈ hdFacts → mg x = some (.ref (He.ga K x)) := fun x hx => He.glo_ok X G (c.t.d.facts hx)
  have free : ∀ x : Str, He.Fa.free x ∈ hdFacts → mg x = none := fun x hx => He.free_ok X G (c.t.d.facts hx)
  have e := hfa.symm.trans (glo "law" (by simp [hdFacts]))
  cases e
  obtain ⟨fd_wall, F_wall⟩ := c.t.d.def_ 0 (d := d_wall) rfl
  have D_wall : DefIs K "_wall" "_wall" st_wall _ fd_wall _ := DefIs.of (p := ("_wall", none)) F_wall
  have b_wall : Binds K fd_wall ["k"] [] := D_wall.binds fun _ _ _ _ _ us hl => match us, hl with | [_], _ => rfl
  have g_wall := glo "_wall" (by simp [hdFacts])
  obtain ⟨fd_is_name, F_is_name⟩ := c.t.d.def_ 1 (d := d_is_name) rfl
  have D_is_name : DefIs K "is_name" "is_name" st_is_name _ fd_is_name _ := DefIs.of (p := ("is_name", none)) F_is_name
  have b_is_name : Binds K fd_is_name ["thing"] [] := D_is_name.binds fun _ _ _ _ _ us hl => match us, hl with | [_], _ => rfl
  have g_is_name := glo "is_name" (by simp [hdFacts])
  obtain ⟨fd_Net_init, F_Net_init⟩ := c.t.d.def_ 2 (d := d_Net_init) rfl
  have D_Net_init : DefIs K "__init__" "Net.__init__" st_Net_init _ fd_Net_init _ := DefIs.of (p := ("Net", some "__init__")) F_Net_init
  have b_Net_init : Binds K fd_Net_init ["self", "name"] [] := D_Net_init.binds fun _ _ _ _ _ us hl => match us, hl with | [_, _], _ => rfl
  obtain ⟨fd_Net_join, F_Net_join⟩ := c.t.d.def_ 3 (d := d_Net_join) rfl
  have D_Net_join : DefIs K "join" "Net.join" st_Net_join _ fd_Net_join _ := DefIs.of (p := ("Net", some "join")) F_Net_join
  have b_Net_join : Binds K fd_Net_join ["self", "name", "hand"] [] := D_Net_join.binds fun _ _ _ _ _ us hl => match us, hl with | [_, _, _], _ => rfl
  have g_Net_join := He.meth_ok (c.t.d.facts (f := .meth "Net" "join") (by simp [hdFacts]))
  obtain ⟨fd_Net_shout, F_Net_shout⟩ := c.t.d.def_ 4 (d := d_Net_shout) rfl
  have D_Net_shout : DefIs K "shout" "Net.shout" st_Net_shout _ fd_Net_shout _ := DefIs.of (p := ("Net", some "shout")) F_Net_shout
  have b_Net_shout : Binds K fd_Net_shout ["self", "hand", "word"] [] := D_Net_shout.binds fun _ _ _ _ _ us hl => match us, hl with | [_, _, _], _ => rfl
  have g_Net_shout := He.meth_ok (c.t.d.facts (f := .meth "Net" "shout") (by simp [hdFacts]))
  obtain ⟨fd_Net_step, F_Net_step⟩ := c.t.d.def_ 5 (d := d_Net_step) rfl
  have D_Net_step : DefIs K "step" "Net.step" st_Net_step _ fd_Net_step _ := DefIs.of (p := ("Net", some "step")) F_Net_step
  have b_Net_step : Binds K fd_Net_step ["self", "hand", "other"] [] := D_Net_step.binds fun _ _ _ _ _ us hl => match us, hl with | [_, _, _], _ => rfl
  have g_Net_step := He.meth_ok (c.t.d.facts (f := .meth "Net" "step") (by simp [hdFacts]))
  obtain ⟨fd_Net_web, F_Net_web⟩ := c.t.d.def_ 6 (d := d_Net_web) rfl
  have D_Net_web : DefIs K "web" "Net.web" st_Net_web _ fd_Net_web _ := DefIs.of (p := ("Net", some "web")) F_Net_web
  have b_Net_web : Binds K fd_Net_web ["self"] [] := D_Net_web.binds fun _ _ _ _ _ us hl => match us, hl with | [_], _ => rfl
  have g_Net_web := He.meth_ok (c.t.d.facts (f := .meth "Net" "web") (by simp [hdFacts]))
  obtain ⟨fd_Net_words, F_Net_words⟩ := c.t.d.def_ 7 (d := d_Net_words) rfl
  have D_Net_words : DefIs K "words" "Net.words" st_Net_words _ fd_Net_words _ := DefIs.of (p := ("Net", some "words")) F_Net_words
  have b_Net_words : Binds K fd_Net_words ["self"] [] := D_Net_words.binds fun _ _ _ _ _ us hl => match us, hl with | [_], _ => rfl
  have g_Net_words := He.meth_ok (c.t.d.facts (f := .meth "Net" "words") (by simp [hdFacts]))
  obtain ⟨fd_Net_mouth, F_Net_mouth⟩ := c.t.d.def_ 8 (d := d_Net_mouth) rfl
  have D_Net_mouth : DefIs K "mouth" "Net.mouth" st_Net_mouth _ fd_Net_mouth _ := DefIs.of (p := ("Net", some "mouth")) F_Net_mouth
  have b_Net_mouth : Binds K fd_Net_mouth ["self", "word"] [] := D_Net_mouth.binds fun _ _ _ _ _ us hl => match us, hl with | [_, _], _ => rfl
  have g_Net_mouth := He.meth_ok (c.t.d.facts (f := .meth "Net" "mouth") (by simp [hdFacts]))
  obtain ⟨fd_Net_book, F_Net_book⟩ := c.t.d.def_ 9 (d := d_Net_book) rfl
  have D_Net_book : DefIs K "book" "Net.book" st_Net_book _ fd_Net_book _ := DefIs.of (p := ("Net", some "book")) F_Net_book
  have b_Net_book : Binds K fd_Net_book ["self", "hand"] [] := D_Net_book.binds fun _ _ _ _ _ us hl => match us, hl with | [_, _], _ => rfl
  have g_Net_book := He.meth_ok (c.t.d.facts (f := .meth "Net" "book") (by simp [hdFacts]))
  obtain ⟨fd_Net_lane, F_Net_lane⟩ := c.t.d.def_ 10 (d := d_Net_lane) rfl
  have D_Net_lane : DefIs K "lane" "Net.lane" st_Net_lane _ fd_Net_lane _ := DefIs.of (p := ("Net", some "lane")) F_Net_lane
  have b_Net_lane : Binds K fd_Net_lane ["self", "hand", "other"] [] := D_Net_lane.binds fun _ _ _ _ _ us hl => match us, hl with | [_, _, _], _ => rfl
  have g_Net_lane := He.meth_ok (c.t.d.facts (f := .meth "Net" "lane") (by simp [hdFacts]))
  obtain ⟨fd_Net_hearings_to, F_Net_hearings_to⟩ := c.t.d.def_ 11 (d := d_Net_hearings_to) rfl
  have D_Net_hearings_to : DefIs K "hearings_to" "Net.hearings_to" st_Net_hearings_to _ fd_Net_hearings_to _ := DefIs.of (p := ("Net", some "hearings_to")) F_Net_hearings_to
  have b_Net_hearings_to : Binds K fd_Net_hearings_to ["self", "hand", "word"] [] := D_Net_hearings_to.binds fun _ _ _ _ _ us hl => match us, hl with | [_, _, _], _ => rfl
  have g_Net_hearings_to := He.meth_ok (c.t.d.facts (f := .meth "Net" "hearings_to") (by simp [hdFacts]))
  obtain ⟨fd_Net_check_hand, F_Net_check_hand⟩ := c.t.d.def_ 12 (d := d_Net_check_hand) rfl
  have D_Net_check_hand : DefIs K "_check_hand" "Net._check_hand" st_Net_check_hand _ fd_Net_check_hand _ := DefIs.of (p := ("Net", some "_check_hand")) F_Net_check_hand
  have b_Net_check_hand : Binds K fd_Net_check_hand ["self", "thing"] [] := D_Net_check_hand.binds fun _ _ _ _ _ us hl => match us, hl with | [_, _], _ => rfl
  have g_Net_check_hand := He.meth_ok (c.t.d.facts (f := .meth "Net" "_check_hand") (by simp [hdFacts]))
  obtain ⟨fd_Net_check_word, F_Net_check_word⟩ := c.t.d.def_ 13 (d := d_Net_check_word) rfl
  have D_Net_check_word : DefIs K "_check_word" "Net._check_word" st_Net_check_word _ fd_Net_check_word _ := DefIs.of (p := ("Net", some "_check_word")) F_Net_check_word
  have b_Net_check_word : Binds K fd_Net_check_word ["self", "thing"] [] := D_Net_check_word.binds fun _ _ _ _ _ us hl => match us, hl with | [_, _], _ => rfl
  have g_Net_check_word := He.meth_ok (c.t.d.facts (f := .meth "Net" "_check_word") (by simp [hdFacts]))
  obtain ⟨fd_Net_many_on, F_Net_many_on⟩ := c.t.d.def_ 14 (d := d_Net_many_on) rfl
  have D_Net_many_on : DefIs K "_many_on" "Net._many_on" st_Net_many_on _ fd_Net_many_on _ := DefIs.of (p := ("Net", some "_many_on")) F_Net_many_on
  have b_Net_many_on : Binds K fd_Net_many_on ["self", "lane"] [] := D_Net_many_on.binds fun _ _ _ _ _ us hl => match us, hl with | [_, _], _ => rfl
  have g_Net_many_on := He.meth_ok (c.t.d.facts (f := .meth "Net" "_many_on") (by simp [hdFacts]))
  obtain ⟨fd_Net_hear, F_Net_hear⟩ := c.t.d.def_ 15 (d := d_Net_hear) rfl
  have D_Net_hear : DefIs K "_hear" "Net._hear" st_Net_hear _ fd_Net_hear _ := DefIs.of (p := ("Net", some "_hear")) F_Net_hear
  have b_Net_hear : Binds K fd_Net_hear ["self", "hand", "other"] [] := D_Net_hear.binds fun _ _ _ _ _ us hl => match us, hl with | [_, _, _], _ => rfl
  have g_Net_hear := He.meth_ok (c.t.d.facts (f := .meth "Net" "_hear") (by simp [hdFacts]))
  obtain ⟨fd_Net_write, F_Net_write⟩ := c.t.d.def_ 16 (d := d_Net_write) rfl
  have D_Net_write : DefIs K "_write" "Net._write" st_Net_write _ fd_Net_write _ := DefIs.of (p := ("Net", some "_write")) F_Net_write
  have b_Net_write : Binds K fd_Net_write ["self", "hand", "word", "source"] [] := D_Net_write.binds fun _ _ _ _ _ us hl => match us, hl with | [_, _, _, _], _ => rfl
  have g_Net_write := He.meth_ok (c.t.d.facts (f := .meth "Net" "_write") (by simp [hdFacts]))
  obtain ⟨fd_Net_way_to_first, F_Net_way_to_first⟩ := c.t.d.def_ 17 (d := d_Net_way_to_first) rfl
  have D_Net_way_to_first : DefIs K "_way_to_first" "Net._way_to_first" st_Net_way_to_first _ fd_Net_way_to_first _ := DefIs.of (p := ("Net", some "_way_to_first")) F_Net_way_to_first
  have b_Net_way_to_first : Binds K fd_Net_way_to_first ["self", "hand"] [] := D_Net_way_to_first.binds fun _ _ _ _ _ us hl => match us, hl with | [_, _], _ => rfl
  have g_Net_way_to_first := He.meth_ok (c.t.d.facts (f := .meth "Net" "_way_to_first") (by simp [hdFacts]))
  obtain ⟨fd_Net_way, F_Net_way⟩ := c.t.d.def_ 18 (d := d_Net_way) rfl
  have D_Net_way : DefIs K "_way" "Net._way" st_Net_way _ fd_Net_way _ := DefIs.of (p := ("Net", some "_way")) F_Net_way
  have b_Net_way : Binds K fd_Net_way ["self", "one", "other"] [] := D_Net_way.binds fun _ _ _ _ _ us hl => match us, hl with | [_, _, _], _ => rfl
  have g_Net_way := He.meth_ok (c.t.d.facts (f := .meth "Net" "_way") (by simp [hdFacts]))
  obtain ⟨fd_law_bag, F_law_bag⟩ := c.t.d.def_ 19 (d := d_law_bag) rfl
  have D_law_bag : DefIs K "_law_bag" "_law_bag" st_law_bag _ fd_law_bag _ := DefIs.of (p := ("_law_bag", none)) F_law_bag
  have b_law_bag : Binds K fd_law_bag ["script", "k"] [] := D_law_bag.binds fun _ _ _ _ _ us hl => match us, hl with | [_, _], _ => rfl
  have g_law_bag := glo "_law_bag" (by simp [hdFacts])
  obtain ⟨fd_law_take, F_law_take⟩ := c.t.d.def_ 20 (d := d_law_take) rfl
  have D_law_take : DefIs K "_law_take" "_law_take" st_law_take _ fd_law_take _ := DefIs.of (p := ("_law_take", none)) F_law_take
  have b_law_take : Binds K fd_law_take ["bag", "many"] [] := D_law_take.binds fun _ _ _ _ _ us hl => match us, hl with | [_, _], _ => rfl
  have g_law_take := glo "_law_take" (by simp [hdFacts])
  obtain ⟨fd_law_pick, F_law_pick⟩ := c.t.d.def_ 21 (d := d_law_pick) rfl
  have D_law_pick : DefIs K "_law_pick" "_law_pick" st_law_pick _ fd_law_pick _ := DefIs.of (p := ("_law_pick", none)) F_law_pick
  have b_law_pick : Binds K fd_law_pick ["bag", "things"] [] := D_law_pick.binds fun _ _ _ _ _ us hl => match us, hl with | [_, _], _ => rfl
  have g_law_pick := glo "_law_pick" (by simp [hdFacts])
  obtain ⟨fd_law_name, F_law_name⟩ := c.t.d.def_ 22 (d := d_law_name) rfl
  have D_law_name : DefIs K "_law_name" "_law_name" st_law_name _ fd_law_name _ := DefIs.of (p := ("_law_name", none)) F_law_name
  have b_law_name : Binds K fd_law_name ["bag", "some"] [] := D_law_name.binds fun _ _ _ _ _ us hl => match us, hl with | [_, _], _ => rfl
  have g_law_name := glo "_law_name" (by simp [hdFacts])
  obtain ⟨fd_law_pairs, F_law_pairs⟩ := c.t.d.def_ 23 (d := d_law_pairs) rfl
  have D_law_pairs : DefIs K "_law_pairs" "_law_pairs" st_law_pairs _ fd_law_pairs _ := DefIs.of (p := ("_law_pairs", none)) F_law_pairs
  have b_law_pairs : Binds K fd_law_pairs ["net"] [] := D_law_pairs.binds fun _ _ _ _ _ us hl => match us, hl with | [_], _ => rfl
  have g_law_pairs := glo "_law_pairs" (by simp [hdFacts])
  obtain ⟨fd_law_hears, F_law_hears⟩ := c.t.d.def_ 24 (d := d_law_hears) rfl
  have D_law_hears : DefIs K "_law_hears" "_law_hears" st_law_hears _ fd_law_hears _ := DefIs.of (p := ("_law_hears", none)) F_law_hears
  have b_law_hears : Binds K fd_law_hears ["bag", "net", "many"] [] := D_law_hears.binds fun _ _ _ _ _ us hl => match us, hl with | [_, _, _], _ => rfl
  have g_law_hears := glo "_law_hears" (by simp [hdFacts])
  obtain ⟨fd_law_deed, F_law_deed⟩ := c.t.d.def_ 25 (d := d_law_deed) rfl
  have D_law_deed : DefIs K "_law_deed" "_law_deed" st_law_deed _ fd_law_deed _ := DefIs.of (p := ("_law_deed", none)) F_law_deed
  have b_law_deed : Binds K fd_law_deed ["bag", "net", "most"] [] := D_law_deed.binds fun _ _ _ _ _ us hl => match us, hl with | [_, _, _], _ => rfl
  have g_law_deed := glo "_law_deed" (by simp [hdFacts])
  obtain ⟨fd_law_way, F_law_way⟩ := c.t.d.def_ 26 (d := d_law_way) rfl
  have D_law_way : DefIs K "_law_way" "_law_way" st_law_way _ fd_law_way _ := DefIs.of (p := ("_law_way", none)) F_law_way
  have b_law_way : Binds K fd_law_way ["roads", "one", "other"] [] := D_law_way.binds fun _ _ _ _ _ us hl => match us, hl with | [_, _, _], _ => rfl
  have g_law_way := glo "_law_way" (by simp [hdFacts])
  obtain ⟨fd_law_meeting, F_law_meeting⟩ := c.t.d.def_ 27 (d := d_law_meeting) rfl
  have D_law_meeting : DefIs K "_law_meeting" "_law_meeting" st_law_meeting _ fd_law_meeting _ := DefIs.of (p := ("_law_meeting", none)) F_law_meeting
  have b_law_meeting : Binds K fd_law_meeting ["roads", "one", "two", "three"] [] := D_law_meeting.binds fun _ _ _ _ _ us hl => match us, hl with | [_, _, _, _], _ => rfl
  have g_law_meeting := glo "_law_meeting" (by simp [hdFacts])
  obtain ⟨fd_law_done, F_law_done⟩ := c.t.d.def_ 28 (d := d_law_done) rfl
  have D_law_done : DefIs K "_law_done" "_law_done" st_law_done _ fd_law_done _ := DefIs.of (p := ("_law_done", none)) F_law_done
  have b_law_done : Binds K fd_law_done ["net", "done"] [] := D_law_done.binds fun _ _ _ _ _ us hl => match us, hl with | [_, _], _ => rfl
  have g_law_done := glo "_law_done" (by simp [hdFacts])
  obtain ⟨fd_law_due, F_law_due⟩ := c.t.d.def_ 29 (d := d_law_due) rfl
  have D_law_due : DefIs K "_law_due" "_law_due" st_law_due _ fd_law_due _ := DefIs.of (p := ("_law_due", none)) F_law_due
  have b_law_due : Binds K fd_law_due ["net", "hand", "word"] [] := D_law_due.binds fun _ _ _ _ _ us hl => match us, hl with | [_, _, _], _ => rfl
  have g_law_due := glo "_law_due" (by simp [hdFacts])
  obtain ⟨fd_law_counted, F_law_counted⟩ := c.t.d.def_ 30 (d := d_law_counted) rfl
  have D_law_counted : DefIs K "_law_counted" "_law_counted" st_law_counted _ fd_law_counted _ := DefIs.of (p := ("_law_counted", none)) F_law_counted
  have b_law_counted : Binds K fd_law_counted ["net", "hand", "word"] [] := D_law_counted.binds fun _ _ _ _ _ us hl => match us, hl with | [_, _, _], _ => rfl
  have g_law_counted := glo "_law_counted" (by simp [hdFacts])
  obtain ⟨fd_law_one_more, F_law_one_more⟩ := c.t.d.def_ 31 (d := d_law_one_more) rfl
  have D_law_one_more : DefIs K "_law_one_more" "_law_one_more" st_law_one_more _ fd_law_one_more _ := DefIs.of (p := ("_law_one_more", none)) F_law_one_more
  have b_law_one_more : Binds K fd_law_one_more ["bag", "net", "hand", "word"] [] := D_law_one_more.binds fun _ _ _ _ _ us hl => match us, hl with | [_, _, _, _], _ => rfl
  have g_law_one_more := glo "_law_one_more" (by simp [hdFacts])
  obtain ⟨fd_law_led, F_law_led⟩ := c.t.d.def_ 32 (d := d_law_led) rfl
  have D_law_led : DefIs K "_law_led" "_law_led" st_law_led _ fd_law_led _ := DefIs.of (p := ("_law_led", none)) F_law_led
  have b_law_led : Binds K fd_law_led ["net", "hand", "word"] [] := D_law_led.binds fun _ _ _ _ _ us hl => match us, hl with | [_, _, _], _ => rfl
  have g_law_led := glo "_law_led" (by simp [hdFacts])
  obtain ⟨fd_law, F_law⟩ := c.t.d.def_ 33 (d := d_law) rfl
  have D_law : DefIs K "law" "law" st_law _ fd_law _ := DefIs.of (p := ("law", none)) F_law
  have b_law : Binds K fd_law ["script"] [] := D_law.binds fun _ _ _ _ _ us hl => match us, hl with | [_], _ => rfl
  have g_law := glo "law" (by simp [hdFacts])
  have g_Net := glo "Net" (by simp [hdFacts])
  have r_Net := He.mkr_ok (c.t.d.facts (f := .mkr "Net") (by simp [hdFacts]))
  have cl_Net := He.cls_ok (c.t.d.facts (f := .cls "Net") (by simp [hdFacts]))
  have NC : NetC K (He.ga K "Net") := ⟨cl_Net, He.noat_ok (c.t.d.facts (f := .noat "Net" "_beside") (by simp [hdFacts])), He.noat_ok (c.t.d.facts (f := .noat "Net" "_near") (by simp [hdFacts])), He.noat_ok (c.t.d.facts (f := .noat "Net" "_books") (by simp [hdFacts])), He.noat_ok (c.t.d.facts (f := .noat "Net" "_mouths") (by simp [hdFacts])), He.noat_ok (c.t.d.facts (f := .noat "Net" "_sent") (by simp [hdFacts])), He.noat_ok (c.t.d.facts (f := .noat "Net" "_heard") (by simp [hdFacts]))⟩
  have B : Nb mg := ⟨free "all" (by simp [hdFacts]), free "enumerate" (by simp [hdFacts]), free "int" (by simp [hdFacts]), free "len" (by simp [hdFacts]), free "list" (by simp [hdFacts]), free "max" (by simp [hdFacts]), free "min" (by simp [hdFacts]), free "range" (by simp [hdFacts]), free "sorted" (by simp [hdFacts]), free "str" (by simp [hdFacts]), free "type" (by simp [hdFacts]), free "zip" (by simp [hdFacts])⟩
  obtain ⟨tk_MOST_LETTERS, k_MOST_LETTERS⟩ := He.int_ok X G (c.t.d.facts (f := .int "MOST_LETTERS" 8) (by simp [hdFacts]))
  refine ⟨fd_law, [He.cT K ("is_name", none)], (spLaw K (He.ga K "Net") (He.cT K ("is_name", none)).2), fun p hp => ?_, fun s u => ?_, fun H a ns hl hbits hT hS => law_start (fun p hp => ⟨#[], hT p hp, triples_none⟩) hl hbits hS, fun base KX GX TB => ?_⟩
  · obtain ⟨q, hq, rfl⟩ := List.mem_map.mp (show p ∈ hdTabs.map (He.cT K) from hp)
    exact ⟨c.empty q hq, c.out q hq, PySem.W.codeHd_of_K X (c.hd q hq)⟩
  · exact FunD.bindsA (ps := ["script"]) F_law (fun _ _ _ _ _ _ us hl => match us, hl with | [_], _ => rfl) s [u] rfl
  · have X_is_name := TB _ List.mem_cons_self
    have c_is_name : Callee PySem.Challenge.rw_heardapart_k22_fewest_hearings.prog w K mg base CX0 4 "is_name" ["thing"] (spIsName K (He.cT K ("is_name", none)).2) := ⟨_, fd_is_name, ok_is_name B D_is_name X_is_name k_MOST_LETTERS, g_is_name, F_is_name.kp, b_is_name⟩
    have c_Net_check_hand : CalleeM PySem.Challenge.rw_heardapart_k22_fewest_hearings.prog w K mg base CX0 2 (He.ga K "Net") "_check_hand" ["self", "thing"] (spChk (He.ga K "Net")) := ⟨⟨_, fd_Net_check_hand, ok_Net_check_hand B D_Net_check_hand NC, g_Net_check_hand, b_Net_check_hand⟩, cl_Net⟩
    have c_Net_book : CalleeM PySem.Challenge.rw_heardapart_k22_fewest_hearings.prog w K mg base CX0 3 (He.ga K "Net") "book" ["self", "hand"] (spBook (He.ga K "Net")) := ⟨⟨_, fd_Net_book, ok_Net_book B D_Net_book NC c_Net_check_hand, g_Net_book, b_Net_book⟩, cl_Net⟩
    have c_Net_words : CalleeM PySem.Challenge.rw_heardapart_k22_fewest_hearings.prog w K mg base CX0 2 (He.ga K "Net") "words" ["self"] (spWords (He.ga K "Net")) := ⟨⟨_, fd_Net_words, ok_Net_words B D_Net_words NC, g_Net_words, b_Net_words⟩, cl_Net⟩
    have c_Net_many_on : CalleeM PySem.Challenge.rw_heardapart_k22_fewest_hearings.prog w K mg base CX0 2 (He.ga K "Net") "_many_on" ["self", "lane"] (spMany (He.ga K "Net")) := ⟨⟨_, fd_Net_many_on, ok_Net_many_on B D_Net_many_on NC, g_Net_many_on, b_Net_many_on⟩, cl_Net⟩
    have c_Net_lane : CalleeM PySem.Challenge.rw_heardapart_k22_fewest_hearings.prog w K mg base CX0 3 (He.ga K "Net") "lane" ["self", "hand", "other"] (spLane (He.ga K "Net")) := ⟨⟨_, fd_Net_lane, ok_Net_lane B D_Net_lane NC c_Net_check_hand, g_Net_lane, b_Net_lane⟩, cl_Net⟩
    have c_Net_write : CalleeM PySem.Challenge.rw_heardapart_k22_fewest_hearings.prog w K mg base CX0 2 (He.ga K "Net") "_write" ["self", "hand", "word", "source"] (spWrite (He.ga K "Net")) := ⟨⟨_, fd_Net_write, ok_Net_write B D_Net_write NC, g_Net_write, b_Net_write⟩, cl_Net⟩
    have c_Net_hear : CalleeM PySem.Challenge.rw_heardapart_k22_fewest_hearings.prog w K mg base CX0 3 (He.ga K "Net") "_hear" ["self", "hand", "other"] (spHear (He.ga K "Net")) := ⟨⟨_, fd_Net_hear, ok_Net_hear B D_Net_hear NC c_Net_write, g_Net_hear, b_Net_hear⟩, cl_Net⟩
    have c_Net_shout : CalleeM PySem.Challenge.rw_heardapart_k22_fewest_hearings.prog w K mg base CX0 5 (He.ga K "Net") "shout" ["self", "hand", "word"] (spShout (He.ga K "Net") (He.cT K ("is_name", none)).2) := ⟨⟨_, fd_Net_shout, ok_Net_shout B D_Net_shout NC c_is_name c_Net_check_hand c_Net_write, g_Net_shout, b_Net_shout⟩, cl_Net⟩
    have c_Net_step : CalleeM PySem.Challenge.rw_heardapart_k22_fewest_hearings.prog w K mg base CX0 4 (He.ga K "Net") "step" ["self", "hand", "other"] (spStep (He.ga K "Net")) := ⟨⟨_, fd_Net_step, ok_Net_step B D_Net_step NC c_Net_check_hand c_Net_many_on c_Net_hear, g_Net_step, b_Net_step⟩, cl_Net⟩
    have c_Net_join : CalleeM PySem.Challenge.rw_heardapart_k22_fewest_hearings.prog w K mg base CX0 5 (He.ga K "Net") "join" ["self", "name", "hand"] (spJoin (He.ga K "Net") (He.cT K ("is_name", none)).2) := ⟨⟨_, fd_Net_join, ok_Net_join B D_Net_join NC c_is_name c_Net_check_hand c_Net_book, g_Net_join, b_Net_join⟩, cl_Net⟩
    have mk_Net : Maker PySem.Challenge.rw_heardapart_k22_fewest_hearings.prog w K mg base CX0 5 "Net" (He.ga K "Net") ["self", "name"] (spInit (He.ga K "Net") (He.cT K ("is_name", none)).2) := ⟨_, fd_Net_init, ok_Net_init B D_Net_init NC c_is_name, r_Net, b_Net_init, g_Net⟩
    have c_Net_web : CalleeM PySem.Challenge.rw_heardapart_k22_fewest_hearings.prog w K mg base CX0 2 (He.ga K "Net") "web" ["self"] (spWeb (He.ga K "Net")) := ⟨⟨_, fd_Net_web, ok_Net_web B D_Net_web NC, g_Net_web, b_Net_web⟩, cl_Net⟩
    have c_law_bag : Callee PySem.Challenge.rw_heardapart_k22_fewest_hearings.prog w K mg base CX0 3 "_law_bag" ["script", "k"] (spBag K) := ⟨_, fd_law_bag, ok_law_bag B D_law_bag, g_law_bag, F_law_bag.kp, b_law_bag⟩
    have c_law_take : Callee PySem.Challenge.rw_heardapart_k22_fewest_hearings.prog w K mg base CX0 3 "_law_take" ["bag", "many"] (spTake K) := ⟨_, fd_law_take, ok_law_take B D_law_take, g_law_take, F_law_take.kp, b_law_take⟩
    have c_law_pick : Callee PySem.Challenge.rw_heardapart_k22_fewest_hearings.prog w K mg base CX0 4 "_law_pick" ["bag", "things"] (spPick K) := ⟨_, fd_law_pick, ok_law_pick B D_law_pick c_law_take, g_law_pick, F_law_pick.kp, b_law_pick⟩
    have c_law_name : Callee PySem.Challenge.rw_heardapart_k22_fewest_hearings.prog w K mg base CX0 4 "_law_name" ["bag", "some"] (spName K) := ⟨_, fd_law_name, ok_law_name B D_law_name c_law_take, g_law_name, F_law_name.kp, b_law_name⟩
    have c_law_pairs : Callee PySem.Challenge.rw_heardapart_k22_fewest_hearings.prog w K mg base CX0 4 "_law_pairs" ["net"] (spPairs (He.ga K "Net")) := ⟨_, fd_law_pairs, ok_law_pairs B D_law_pairs c_Net_web c_Net_lane, g_law_pairs, F_law_pairs.kp, b_law_pairs⟩
    have c_law_deed : Callee PySem.Challenge.rw_heardapart_k22_fewest_hearings.prog w K mg base CX0 6 "_law_deed" ["bag", "net", "most"] (spDeed K (He.ga K "Net") (He.cT K ("is_name", none)).2) := ⟨_, fd_law_deed, ok_law_deed B D_law_deed c_Net_web c_Net_words c_Net_join c_Net_shout c_law_take c_law_name c_law_pick, g_law_deed, F_law_deed.kp, b_law_deed⟩
    have c_Net_check_word : CalleeM PySem.Challenge.rw_heardapart_k22_fewest_hearings.prog w K mg base CX0 2 (He.ga K "Net") "_check_word" ["self", "thing"] (spChkW (He.ga K "Net")) := ⟨⟨_, fd_Net_check_word, ok_Net_check_word B D_Net_check_word NC, g_Net_check_word, b_Net_check_word⟩, cl_Net⟩
    have c_Net_mouth : CalleeM PySem.Challenge.rw_heardapart_k22_fewest_hearings.prog w K mg base CX0 3 (He.ga K "Net") "mouth" ["self", "word"] (spMouth (He.ga K "Net")) := ⟨⟨_, fd_Net_mouth, ok_Net_mouth B D_Net_mouth NC c_Net_check_word, g_Net_mouth, b_Net_mouth⟩, cl_Net⟩
    have c_Net_way_to_first : CalleeM PySem.Challenge.rw_heardapart_k22_fewest_hearings.prog w K mg base CX0 3 (He.ga K "Net") "_way_to_first" ["self", "hand"] (spUp (He.ga K "Net")) := ⟨⟨_, fd_Net_way_to_first, ok_Net_way_to_first B D_Net_way_to_first NC, g_Net_way_to_first, b_Net_way_to_first⟩, cl_Net⟩
    have c_Net_way : CalleeM PySem.Challenge.rw_heardapart_k22_fewest_hearings.prog w K mg base CX0 4 (He.ga K "Net") "_way" ["self", "one", "other"] (spWay (He.ga K "Net")) := ⟨⟨_, fd_Net_way, ok_Net_way B D_Net_way NC c_Net_way_to_first, g_Net_way, b_Net_way⟩, cl_Net⟩
    have c_Net_hearings_to : CalleeM PySem.Challenge.rw_heardapart_k22_fewest_hearings.prog w K mg base CX0 5 (He.ga K "Net") "hearings_to" ["self", "hand", "word"] (spFew (He.ga K "Net")) := ⟨⟨_, fd_Net_hearings_to, ok_Net_hearings_to B D_Net_hearings_to NC c_Net_check_hand c_Net_check_word c_Net_way c_Net_many_on, g_Net_hearings_to, b_Net_hearings_to⟩, cl_Net⟩
    have c_law_way : Callee PySem.Challenge.rw_heardapart_k22_fewest_hearings.prog w K mg base CX0 1 "_law_way" ["roads", "one", "other"] spLWay := ⟨_, fd_law_way, ok_law_way B D_law_way, g_law_way, F_law_way.kp, b_law_way⟩
    have c_law_due : Callee PySem.Challenge.rw_heardapart_k22_fewest_hearings.prog w K mg base CX0 5 "_law_due" ["net", "hand", "word"] (spDue (He.ga K "Net")) := ⟨_, fd_law_due, ok_law_due B D_law_due c_law_way c_Net_web c_Net_mouth c_Net_book c_Net_lane, g_law_due, F_law_due.kp, b_law_due⟩
    have c_law_counted : Callee PySem.Challenge.rw_heardapart_k22_fewest_hearings.prog w K mg base CX0 5 "_law_counted" ["net", "hand", "word"] (spCnt (He.ga K "Net")) := ⟨_, fd_law_counted, ok_law_counted B D_law_counted c_law_way c_Net_web c_Net_mouth c_Net_book, g_law_counted, F_law_counted.kp, b_law_counted⟩
    have c_law_hears : Callee PySem.Challenge.rw_heardapart_k22_fewest_hearings.prog w K mg base CX0 5 "_law_hears" ["bag", "net", "many"] (spHears (He.ga K "Net")) := ⟨_, fd_law_hears, ok_law_hears B D_law_hears c_law_pairs c_law_pick c_Net_step, g_law_hears, F_law_hears.kp, b_law_hears⟩
    have c_law_one_more : Callee PySem.Challenge.rw_heardapart_k22_fewest_hearings.prog w K mg base CX0 6 "_law_one_more" ["bag", "net", "hand", "word"] (spOne (He.ga K "Net")) := ⟨_, fd_law_one_more, ok_law_one_more B D_law_one_more c_law_pairs c_law_pick c_law_counted c_Net_hearings_to c_Net_step, g_law_one_more, F_law_one_more.kp, b_law_one_more⟩
    have c_law_led : Callee PySem.Challenge.rw_heardapart_k22_fewest_hearings.prog w K mg base CX0 6 "_law_led" ["net", "hand", "word"] (spLed (He.ga K "Net")) := ⟨_, fd_law_led, ok_law_led B D_law_led c_law_counted c_Net_book c_Net_lane c_Net_hearings_to c_Net_step, g_law_led, F_law_led.kp, b_law_led⟩
    exact ok_law B D_law c_law_bag c_law_take c_law_pick c_law_name c_law_deed c_law_hears c_law_due c_law_one_more c_law_led c_Net_web c_Net_words c_Net_hearings_to mk_Net
end Lw
open PyProof.Rows PySem PySem.W PySem.Calls
theorem PySem.Challenge.cw_heardapart_k22_fewest_hearings_holds : PySem.Challenge.rw_heardapart_k22_fewest_hearings.Holds := by
  w_on; o_law
  refine HandSHeadRun.head_any (r := Lw.hdRow) (q := Lw.hdView) (H := Lw.hdHook) (ob := Lw.hdOb) (M := 12000) (loose := Lw.hdLoose) (d := Lw.hdTop) (kwd := []) Lw.hdOb_eq
    (by kernel_rfl) (fun s => by kernel_rfl) Lw.hdRun (by kernel_rfl) (by kernel_rfl) (by kernel_rfl) (by rfl) (by first | assumption | decide +kernel) (by decide +kernel) ⟨rfl, rfl, rfl, rfl, rfl, by decide +kernel⟩ ?hw ?hc
  case hw => w_witness2
  case hc =>
    refine Gx.walk_GE (l := PySem.Challenge.rw_heardapart_k22_fewest_hearings) (n := 63) (k := 7) (x := "script") rfl (by decide) (by kernel_rfl) ⟨rfl, by decide, by decide⟩ ?F
    intro w mg fa h Y G hmg0
    obtain ⟨K, KX, c⟩ := Y
    have hmg : mg ("law" : PySem.Str) = some (.ref fa) := by
      have e : Lw.hdTop.name = ("law" : PySem.Str) := by kernel_rfl
      rw [← e]
      exact hmg0
    exact ⟨K, KX, Lw.hd_all KX G hmg c⟩

