import PyProof.Rows.All
import Wide.All
import OpenK.AllK
import Wide.FinOn
import HandS.ForMost
import HandS.AnyAll
import HandS.GenList
import HandS.EndTab
import KE.SortData
import HandS.WideBits
import HandS.DictComp
import HandS.More
import HandS.TupAny
import HandS.TupLe
import HandS.Walk
import HandS.HeadHook4
import HandS.Head4
import HandS.SortKw
import HandS.Iter
import PyProof.ZipIter
import PyProof.CallType
import PyProof.TupleOfSeq
import PyProof.Walk
import PyProof.WalkLemmas
import PyProof.RulesTry
import HandS.Zip
import HandS.SetFor
import HandS.SortInts
import HandS.Strs
import HandS.Dict
import PyProof.RowDictHeap
import KE.KEqNest
import HandS.Text
import PyProof.NeKinds
import HandS.NoneIn
import HandS.IsInst
import HandS.Style
import HandS.Small
import HandS.Deep
import HandS.Conv
import PySem.Challenge.RW_heardapart_k11_numberings_judged
set_option Elab.async false
set_option linter.all false
set_option maxRecDepth 100000
set_option maxHeartbeats 8000000
/-! A generator expression whose element may do anything, under all( ) and any( ). -/
namespace Gx
open PySem PySem.Spec PyProof.Rows L2 GxR GenW

abbrev genv (X : Cx) (sc : Scope) (C : Addr) (code : Value) : Env :=
  genEnv sc (cloFrom X.env.cells sc.names []) C code builtinsNs X.env
abbrev gcx (X : Cx) (s : Shared) (H : Hp) (sc : Scope) (C : Addr) (code : Value) (fp : List Addr) : Cx :=
  { X with
    A := X.A.in1.in1.deeper (genv X sc C code)
    s_0 := s
    H_0 := H
    env := genv X sc C code
    outer := X.stack
    stack := genv X sc C code :: X.stack
    ex := fp
    fn := fun _ => false
    calm := true
    pn := []
    xe := fun _ _ => False }

theorem over_loop_gx {A : Around} {elt : Expr} {gs : List Comprehension} {sc : Scope} {pos : Pos} {it acc : Value} {env : Env} :
    A.over (.compLoop (.GeneratorExp elt gs sc pos) 0 it acc env) [] = A.deeper env := by
  obtain ⟨a, b, c, d, e⟩ := A
  cases c <;> cases d <;>
  simp [Around.over, Around.deeper, marksOver, frameCount, unitsOf, envsOf, guardsOf, pushEnvs, pushGuards, Code.envs, Code.env?, Code.isFrame, Code.guards, Code.isGuard, Code.weight, Code.frames, Code.isCreation, Code.isCaller, Code.cUnits]
theorem over_start_gx {A : Around} {elt : Expr} {gs : List Comprehension} {sc : Scope} {pos : Pos} {it acc : Value} {env : Env} :
    A.over (.compStart (.GeneratorExp elt gs sc pos) 0 it acc env) [] = A.deeper env := by
  obtain ⟨a, b, c, d, e⟩ := A
  cases c <;> cases d <;>
  simp [Around.over, Around.deeper, marksOver, frameCount, unitsOf, envsOf, guardsOf, pushEnvs, pushGuards, Code.envs, Code.env?, Code.isFrame, Code.guards, Code.isGuard, Code.weight, Code.frames, Code.isCreation, Code.isCaller, Code.cUnits]

section
variable {X : Cx} {pins : List (Addr × Obj)} {σ : L2.St} {H : Hp} {s : Shared}

theorem clo_look {cells : List (Str × Addr)} {names : List (Str × NameKind)} {y : Str} {c : Addr} (hf : ∀ z ∈ names, z.2 = .free → ∃ c, cells.lookup z.1 = some c)
    (h : (cloFrom cells names []).lookup y = some c) : cells.lookup y = some c ∧ (y, NameKind.free) ∈ names := by
  rcases cloFrom_mem (PySem.mem_of_lookup h) with q | ⟨q1, q2⟩
  · cases q
  · obtain ⟨c', e⟩ := hf _ q1 rfl
    rw [e] at q2
    have q3 : c = c' := q2
    exact ⟨by rw [q3]; exact e, q1⟩
theorem clo_has {cells : List (Str × Addr)} {names : List (Str × NameKind)} {y : Str} (hf : ∀ z ∈ names, z.2 = .free → ∃ c, cells.lookup z.1 = some c)
    (h : (y, NameKind.free) ∈ names) : ∃ c, (cloFrom cells names []).lookup y = some c ∧ cells.lookup y = some c := by
  obtain ⟨c, e⟩ := mem_lookup (cloFrom_has (cells := cells) (acc := []) h)
  exact ⟨c, e, (clo_look hf e).1⟩

/-- the generator's frame has been made: the state as its body sees it -/
theorem gx_start {sc : Scope} {own : List (Str × Nat)} {fp : List Addr} {C : Addr} {code : Value} {h' : Heap} {g' : Array GenState} {d' : Drawn} {t' : Nat}
    (I : Inv X pins σ H s) (hh : X.A.handled = none) (ok : BlkOk X.N X.env.scope sc own) (hN : X.N.Nodup) (hcell : ∀ y ∈ sc.names, y.2 ≠ .cell)
    (hfp : ∀ b ∈ fp, FpOk X pins H b ∧ b < s.heap.objs.size) (hC : C = s.heap.objs.size) (hns : ∃ m, h'.Ns C m)
    (kp : ∀ b o, s.heap.get? b = some o → h'.get? b = some o) (hg : AllBare g') :
    Inv (gcx X s H sc C code fp) [] (wipe σ (own.map (·.2))) H { s with heap := h', gens := g', drawn := d', toks := t' } := by
  have hf : ∀ z ∈ sc.names, z.2 = .free → ∃ c, X.env.cells.lookup z.1 = some c := fun z hz e => by
    rcases ok.free z hz e with k | k
    · exact I.ok.has _ (.inl k)
    · exact I.ok.has _ (.inr k)
  have cl : ∀ {y c}, (genv X sc C code).cells.lookup y = some c → X.env.cells.lookup y = some c ∧ (y, NameKind.free) ∈ sc.names := fun {y c} e => clo_look hf e
  have clt : ∀ {y c}, X.env.cells.lookup y = some c → c < s.heap.objs.size := fun {y c} e => by
    obtain ⟨w, z⟩ := I.cell y c e
    exact z.lt
  have free_of : ∀ {y}, (genv X sc C code).kindOf y = some .cell ∨ (genv X sc C code).kindOf y = some .free → (y, NameKind.free) ∈ sc.names := fun {y} hy => by
    rcases hy with hy | hy
    · exact absurd rfl (hcell _ (PySem.mem_of_lookup (show sc.names.lookup y = some .cell from hy)))
    · exact PySem.mem_of_lookup (show sc.names.lookup y = some .free from hy)
  have okY : (gcx X s H sc C code fp).Ok :=
    { mod := I.ok.mod
      kind := ok.kind
      glob := I.ok.glob
      blt := rfl
      above := Nat.le_of_eq hC.symm
      inj := fun y z c e1 e2 => I.ok.inj y z c (cl e1).1 (cl e2).1
      has := fun y hy => by
        obtain ⟨c, e, _⟩ := clo_has (cells := X.env.cells) hf (free_of hy)
        exact ⟨c, e⟩
      cab := fun y c e => by cases e
      hd := fun _ => hh
      frames := by
        have q := I.ok.frames
        show X.A.frames.map (genv X sc C code :: ·) = _
        rw [q]
        rfl
      stk := .inr ⟨rfl, rfl⟩
      exf := fun b hb => ⟨by
          show b ≠ C
          rw [hC]
          exact Nat.ne_of_lt (hfp b hb).2, fun y c e => (hfp b hb).1.2.2.2.2.1 y c (cl e).1⟩
      bs := I.bs
      bsz := Nat.le_trans I.ok.bsz I.sz
      noex := fun b o e hb => by
        rcases (hfp b hb).1.2.2.2.1 with z | z
        · exact I.ok.noex b o e z
        · exact absurd (Nat.lt_of_lt_of_le (Heap.lt_size e) (Nat.le_trans I.ok.bsz z)) (Nat.lt_irrefl _)
      exfs := fun b hb z => by
        rcases List.mem_cons.mp (I.stkSub b z) with z | z
        · exact (hfp b hb).1.2.1 z
        · exact (hfp b hb).1.2.2.1 z
      funs := I.stack
      frf := I.stkFree }
  obtain ⟨m, hm⟩ := hns
  have hn : ∀ b, s.heap.objs.size ≤ b → H b = none := fun b hb => I.hok.fresh hb
  refine { ok := okY, os := rfl, bare := hg, base := Un.kept kp, loc := ⟨m, hm, fun i y v e1 e2 e3 => ?_⟩, cell := fun y c e => ?_, free := hn C (Nat.le_of_eq hC.symm), freeC := fun y c e => I.freeC y c (cl e).1,
           pin := fun p hp => absurd (show p ∈ ([] : List (Addr × Obj)) ++ [] from hp) (by simp), hok := I.hok.kept kp, len := by rw [wipe_length]; exact I.len }
  · obtain ⟨e2, hne⟩ := wipe_some e2
    have hfr : (y, NameKind.free) ∈ sc.names := by
      have e3' : sc.names.lookup y = some .local ∨ sc.names.lookup y = some .cell ∨ sc.names.lookup y = some .free := e3
      have own : ∀ k, (y, k) ∈ sc.names → k = .local ∨ k = .cell → False := fun k hk hk2 => by
        rcases ok.own _ hk hk2 with q | q
        · obtain ⟨p, hp, hpy⟩ := List.mem_map.mp q
          have q3 := ok.ix p hp
          rw [show p.1 = y from hpy] at q3
          exact hne (List.mem_map.mpr ⟨p, hp, nodup_ix hN q3 e1⟩)
        · exact q (List.mem_of_getElem? e1)
      rcases e3' with q | q | q
      · exact (own _ (PySem.mem_of_lookup q) (.inl rfl)).elim
      · exact (own _ (PySem.mem_of_lookup q) (.inr rfl)).elim
      · exact PySem.mem_of_lookup q
    obtain ⟨m0, _, hl⟩ := I.loc
    have vis : Vis X.env.scope y := (ok.free _ hfr rfl).elim (fun k => .inr (.inl k)) fun k => .inr (.inr k)
    obtain ⟨w, r, q⟩ := hl i y v e1 e2 vis
    obtain ⟨c, h1, h2⟩ := clo_has (cells := X.env.cells) hf hfr
    have kf : (genv X sc C code).kindOf y = some .free := ok.uniq _ hfr
    refine ⟨w, r, .inr ⟨.inr kf, c, h1, ?_⟩⟩
    rcases q with ⟨k, _⟩ | ⟨_, c', e', z⟩
    · have k' : X.env.scope.names.lookup y = some .local := k
      rcases ok.free _ hfr rfl with k2 | k2 <;> rw [show X.env.scope.names.lookup y = _ from k2] at k' <;> cases k'
    · rw [h2] at e'
      cases e'
      exact z.keeps kp
  · obtain ⟨w, z⟩ := I.cell y c (cl e).1
    exact ⟨w, z.keeps kp⟩

/-- generators, tokens and what was drawn are no matter -/
theorem inv_gens {g' : Array GenState} {d' : Drawn} {t' : Nat} (I : Inv X pins σ H s) (hg : AllBare g') : Inv X pins σ H { s with gens := g', drawn := d', toks := t' } :=
  I.step (h' := s.heap) (ch := []) (fun b hb => absurd hb (by simp)) (fun _ _ _ _ _ e _ => e) (fun _ o _ _ _ e _ => ⟨o.slots, e⟩) (fun _ _ _ _ n => n) (fun _ o _ e => ⟨o, e⟩)
    (fun _ _ e => e) (fun _ _ _ e => e) (fun _ ps e => ⟨#[], by rw [e]; simp⟩) (fun _ hm => hm) I.hok hg
theorem inv_like {s' : Shared} (I : Inv X pins σ H s) (hh : s'.heap = s.heap) (ho : s'.os = s.os) (hg : AllBare s'.gens) : Inv X pins σ H s' := by
  have J := inv_gens (g' := s'.gens) (d' := s'.drawn) (t' := s'.toks) I hg
  rw [← hh] at J
  rw [sh_eta s s' ho] at J
  exact J

/-- what is known once and for all of one run of the generator -/
structure Run (X : Cx) (s0 : Shared) (H0 : Hp) (sc : Scope) (C : Addr) (code : Value) (fp : List Addr) (tg elt : Expr) (g : TG) (te : TE) (J : It) (it : Addr) (tn : Nat → Heap → Prop) (vs : List Nat) (σ0 : L2.St)
    (sb : Bool) (W : Nat → Nat → Hp → Prop) (Q : VK) : Prop where
  turns : Turn X.prog X.w X.K tg J fp it tn
  target : PG (gcx X s0 H0 sc C code fp) tg g
  element : PE (gcx X s0 H0 sc C code fp) elt te
  nocor : sc.isCoroutine = false
  step : ∀ i m H, W i m H → (J.stop i H ∧ Q (.bl (!sb)) H) ∨ (J.go i H ∧ ∃ Nx : Hp → Prop, (∀ H', Nx H' → ∃ m', m' < m ∧ W (i + 1) m' H') ∧
    ∀ x H', J.yld i H x H' → g x σ0 H' fun σ2 H2 => wipe σ2 vs = σ0 ∧ te σ2 H2 fun y H4 => ∃ b, y = .bl b ∧ if b = sb then Q (.bl sb) H4 else Nx H4)

/-- the generator stands ahead of its i-th turn, with room for n more -/
def Ahead (X : Cx) (s0 : Shared) (H0 : Hp) (sc : Scope) (C : Addr) (code : Value) (fp : List Addr) (tn : Nat → Heap → Prop) (σ0 : L2.St) (W : Nat → Nat → Hp → Prop) (pin : Addr × Obj) (i n : Nat) (s : Shared) : Prop :=
  ∃ H m, Inv (gcx X s0 H0 sc C code fp) [pin] σ0 H s ∧ tn i s.heap ∧ (∀ b ∈ fp, H b = none) ∧ m ≤ n ∧ W i m H
/-- it hands out a truth -/
def Out (X : Cx) (s0 : Shared) (H0 : Hp) (sc : Scope) (C : Addr) (code : Value) (fp : List Addr) (pin : Addr × Obj) (sb : Bool) (Q : VK) : Protocol := fun n s₀ v s kap =>
  ∃ (b : Bool) (σ1 : L2.St) (H1 : Hp), v = .bool b ∧ Inv (gcx X s0 H0 sc C code fp) [pin] σ1 H1 s ∧ (b = sb → Q (.bl sb) H1) ∧
    (b ≠ sb → ∀ s'', s''.heap = s.heap → s''.os = s.os → AllBare s''.gens → kap (.send .none) s'')
/-- it has come to its end -/
def Over (X : Cx) (s0 : Shared) (H0 : Hp) (sc : Scope) (C : Addr) (code : Value) (fp : List Addr) (pin : Addr × Obj) (sb : Bool) (Q : VK) (n : Nat) (s₀ s : Shared) : Prop :=
  ∃ (σ1 : L2.St) (H1 : Hp), Inv (gcx X s0 H0 sc C code fp) [pin] σ1 H1 s ∧ Q (.bl (!sb)) H1

section
variable {s0 : Shared} {H0 : Hp} {sc : Scope} {C : Addr} {code : Value} {fp : List Addr} {tg elt iter : Expr} {g : TG} {te : TE} {J : It} {it : Addr} {tn : Nat → Heap → Prop} {vs : List Nat} {σ0 : L2.St} {sb : Bool} {W : Nat → Nat → Hp → Prop} {Q : VK}
  {pin : Addr × Obj} {pos : Pos}

theorem ahead_like {i n : Nat} {s s' : Shared} (h : Ahead X s0 H0 sc C code fp tn σ0 W pin i n s) (hh : s'.heap = s.heap) (ho : s'.os = s.os) (hg : AllBare s'.gens) : Ahead X s0 H0 sc C code fp tn σ0 W pin i n s' := by
  obtain ⟨H, m, I, st, n, le, w⟩ := h
  exact ⟨H, m, inv_like I hh ho hg, by rw [hh]; exact st, n, le, w⟩

abbrev LoopC (X : Cx) (elt tg iter : Expr) (sc : Scope) (pos : Pos) (it C : Addr) (code : Value) : Code := .compLoop (.GeneratorExp elt [⟨tg, iter, [], 0⟩] sc pos) 0 (.ref it) .none (genv X sc C code)
abbrev SegX (X : Cx) (s0 : Shared) (H0 : Hp) (sc : Scope) (C : Addr) (code : Value) (fp : List Addr) (pin : Addr × Obj) (sb : Bool) (Q : VK) (n : Nat) (s₀ : Shared) (c : Code) (t : Sem PySem.Fin) (s : Shared) : Prop :=
  Seg (model X.prog X.w) X.A.in1.in1 (fun n s₀ r s₁ => r = .ok .next ∧ Over X s0 H0 sc C code fp pin sb Q n s₀ s₁) (Out X s0 H0 sc C code fp pin sb Q) n s₀ c t [] s

theorem seg_turn (R : Run X s0 H0 sc C code fp tg elt g te J it tn vs σ0 sb W Q) (hp : pin.1 ∉ fp) (n i : Nat) (s₀ s : Shared) (h : Ahead X s0 H0 sc C code fp tn σ0 W pin i n s)
    (again : ∀ n' s'', n = n' + 1 → Ahead X s0 H0 sc C code fp tn σ0 W pin (i + 1) n' s'' → SegX X s0 H0 sc C code fp pin sb Q (n' + 1) s'' (LoopC X elt tg iter sc pos it C code) ((model X.prog X.w).den (LoopC X elt tg iter sc pos it C code)) s'') :
    SegX X s0 H0 sc C code fp pin sb Q (n + 1) s₀ (LoopC X elt tg iter sc pos it C code) ((model X.prog X.w).den (LoopC X elt tg iter sc pos it C code)) s := by
  have T := R.turns
  have eA : (X.A.in1.in1).over (LoopC X elt tg iter sc pos it C code) [] = (gcx X s0 H0 sc C code fp).A := over_loop_gx
  obtain ⟨H, m, I, st, nf, le, w⟩ := h
  have stat : ∀ {σ' : L2.St} {H' : Hp} {s' : Shared}, Inv (gcx X s0 H0 sc C code fp) [pin] σ' H' s' → (∀ b ∈ fp, H' b = none) → ∀ b ∈ fp, FpOk (gcx X s0 H0 sc C code fp) [pin] H' b := fun {σ' H' s'} I' hn b hb =>
    ⟨hn b hb, (I'.ok.exf b hb).1, I'.ok.exfs b hb, .inl hb, fun x c e => (I'.ok.exf b hb).2 x c e, fun p hp' => by
      have e : p = pin := by simpa using hp'
      rw [e]
      exact fun z => hp (z ▸ hb)⟩
  show Seg _ _ _ _ _ _ _ ((compTurn (.GeneratorExp elt [⟨tg, iter, [], 0⟩] sc pos) 0 (.ref it) .none (genv X sc C code)).onRaise (leaving (genv X sc C code))) _ _
  rw [compTurn_gen, Sem.onRaise_eq_wrap]
  refine seg_bind_wrap (wpAny_standAt ?_)
  rcases R.step i m H w with ⟨stop, q⟩ | ⟨go, Nx, hNx, turn⟩
  · refine seg_bind_wrap ?_
    rw [eA]
    refine wpAny_mono (T.done (gcx X s0 H0 sc C code fp) rfl rfl rfl rfl i [pin] s σ0 H (fun _ _ => False) I (stat I nf) st stop) (fun r s1 h1 => ?_) fun e s z => z.elim
    obtain ⟨hr, I1⟩ := h1
    subst hr
    exact seg_end (.ok .next) ⟨rfl, σ0, H, I1, q⟩
  · refine seg_bind_wrap ?_
    rw [eA]
    refine wpAny_mono (T.item (gcx X s0 H0 sc C code fp) rfl rfl rfl rfl i [pin] s σ0 H (fun _ _ => False) I (stat I nf) st go) (fun r s1 h1 => ?_) fun e s z => z.elim
    obtain ⟨u, hr, h1⟩ := h1
    subst hr
    refine seg_bind_wrap ?_
    rw [eA]
    refine wpAny_mono h1 (fun _ s2 h2 => ?_) fun e s z => z.elim
    obtain ⟨x, H2, I2, r2, y2, st2, nf2⟩ := h2
    have I2' := I2.pinned (stat I2 nf2) (T.obj _ _ st2)
    refine seg_bind_wrap ?_
    rw [eA]
    refine wpAny_mono (R.target.run _ s2 σ0 H2 x u _ I2' r2 (turn x H2 y2)) (fun _ s3 h3 => ?_) fun e s z => z.elim
    obtain ⟨σ3, H3, I3, hw3, q3⟩ := h3
    refine seg_bind_wrap ?_
    rw [List.forIn_nil]
    refine wpAny_pure ?_
    simp only [if_true]
    have hy : ∀ v, yieldOut (genv X sc C code) v = yieldValue v := fun v => by
      have e : (genv X sc C code).scope.isCoroutine = false := R.nocor
      simp only [yieldOut, e, Bool.false_eq_true, if_false]
    simp only [hy]
    rw [Sem.bind_eq_wrap', Sem.bind_eq_wrap', Sem.wrap_wrap, Sem.wrap_wrap]
    refine seg_wrap ?_
    rw [eA]
    refine wpAny_mono (R.element.run _ s3 σ3 H3 _ I3 q3) (fun y s4 h4 => ?_) fun e s z => z.elim
    obtain ⟨yv, H4, I4, r4, b, ey, q4⟩ := h4
    subst ey
    have er : y = Value.bool b := r4
    subst er
    have pinK : ∀ b ∈ fp, ∀ o, s2.heap.get? b = some o → s4.heap.get? b = some o ∧ H4 b = none := fun b hb o e =>
      let z := I4.pin (b, o) (List.mem_append_right _ (List.mem_append_right _ (mem_pinsAt hb e)))
      ⟨z.1, z.2.1⟩
    have hl : σ0.length = σ3.length := by rw [← hw3, wipe_length]
    have I4' : Inv (gcx X s0 H0 sc C code fp) [pin] σ0 H4 s4 := (I4.unpinned (pins := [pin])).weak hl fun j v e => by
      rw [← hw3] at e
      exact (wipe_some e).1
    refine seg_at (seg_yield rfl rfl rfl ⟨b, σ0, H4, rfl, I4', fun e => ?_, fun ne s'' hh ho hg => ?_⟩)
    · rw [if_pos e] at q4
      exact q4
    · rw [if_neg ne] at q4
      obtain ⟨m', hm, w'⟩ := hNx H4 q4
      obtain ⟨n', rfl⟩ : ∃ n', n = n' + 1 := ⟨n - 1, by omega⟩
      refine seg_again rfl (again n' s'' rfl (ahead_like (s := s4) ⟨H4, m', I4', T.keep _ _ _ st2 fun b hb o e => (pinK b hb o e).1, fun b hb => ?_, by omega, w'⟩ hh ho hg))
      obtain ⟨o, e, _⟩ := T.obj _ _ st2 b hb
      exact (pinK b hb o e).2
theorem seg_turns (R : Run X s0 H0 sc C code fp tg elt g te J it tn vs σ0 sb W Q) (hp : pin.1 ∉ fp) : ∀ (n i : Nat) (s₀ s : Shared), Ahead X s0 H0 sc C code fp tn σ0 W pin i n s →
    SegX X s0 H0 sc C code fp pin sb Q (n + 1) s₀ (LoopC X elt tg iter sc pos it C code) ((model X.prog X.w).den (LoopC X elt tg iter sc pos it C code)) s := by
  intro n
  induction n with
  | zero => exact fun i s₀ s h => seg_turn R hp 0 i s₀ s h fun n' s'' e _ => by omega
  | succ n ih =>
    refine fun i s₀ s h => seg_turn R hp (n + 1) i s₀ s h fun n' s'' e h' => ?_
    have e' : n' = n := by omega
    rw [e'] at h' ⊢
    exact ih (i + 1) s'' s'' h'
abbrev StartC (X : Cx) (elt tg iter : Expr) (sc : Scope) (pos : Pos) (it C : Addr) (code : Value) : Code := .compStart (.GeneratorExp elt [⟨tg, iter, [], 0⟩] sc pos) 0 (.ref it) .none (genv X sc C code)
theorem seg_begin (R : Run X s0 H0 sc C code fp tg elt g te J it tn vs σ0 sb W Q) (hp : pin.1 ∉ fp) (n : Nat) (s₀ s : Shared) (h : Ahead X s0 H0 sc C code fp tn σ0 W pin 0 n s) :
    SegX X s0 H0 sc C code fp pin sb Q (n + 1) s₀ (StartC X elt tg iter sc pos it C code) ((model X.prog X.w).den (StartC X elt tg iter sc pos it C code)) s := by
  have loop := seg_turns (iter := iter) (pos := pos) R hp n 0 s₀ s h
  obtain ⟨H, m, I, st, _⟩ := h
  show Seg _ _ _ _ _ _ _ ((compStart (.GeneratorExp elt [⟨tg, iter, [], 0⟩] sc pos) 0 (.ref it) .none (genv X sc C code)).onRaise (leaving (genv X sc C code))) _ _
  unfold compStart
  rw [Sem.onRaise_eq_wrap]
  show Seg _ _ _ _ _ _ _ ((ask >>= _).wrap _ _ _ _) _ _
  refine seg_bind_wrap (wpAny_askSetting ?_)
  split
  · exact seg_again rfl loop
  · refine seg_bind_wrap (wpAny_rule ?_)
    show Seg _ _ _ _ _ _ _ ((standAt iter.pos >>= _).wrap _ _ _ _) _ _
    refine seg_bind_wrap (wpAny_standAt (seg_bind_wrap ?_))
    exact R.turns.self _ 0 s _ _ st (seg_again rfl loop)
end
end
end Gx

namespace Gx
open PySem PySem.Spec PyProof.Rows L2 GxR GenW
section
variable {X : Cx} {s0 : Shared} {H0 : Hp} {sc : Scope} {C : Addr} {code : Value} {fp : List Addr} {sb : Bool} {Q : VK} {a : Addr} {go : Obj} {gi : Nat}

abbrev EndX (X : Cx) (s0 : Shared) (H0 : Hp) (sc : Scope) (C : Addr) (code : Value) (fp : List Addr) (pin : Addr × Obj) (sb : Bool) (Q : VK) : GenEnd := fun n s₀ r s₁ => r = .ok .next ∧ Over X s0 H0 sc C code fp pin sb Q n s₀ s₁
/-- the generator sleeps, n turns at most are ahead -/
def Awake (X : Cx) (s0 : Shared) (H0 : Hp) (sc : Scope) (C : Addr) (code : Value) (fp : List Addr) (sb : Bool) (Q : VK) (a : Addr) (go : Obj) (gi n : Nat) (s : Shared) : Prop :=
  (∃ σ1 H1, Inv (gcx X s0 H0 sc C code fp) [(a, go)] σ1 H1 s) ∧
  ∃ gs, s.gens[gi]? = some gs ∧ ∀ s'', s''.heap = s.heap → s''.os = s.os → AllBare s''.gens →
    gs.Goes (model X.prog X.w) X.A.in1.in1 (EndX X s0 H0 sc C code fp (a, go) sb Q) (Out X s0 H0 sc C code fp (a, go) sb Q) n (.send .none) s''
/-- what is wanted of the whole -/
def Fin' (X : Cx) (s0 : Shared) (H0 : Hp) (sc : Scope) (C : Addr) (code : Value) (fp : List Addr) (Q : VK) (a : Addr) (go : Obj) (R : Result → Shared → Prop) : Prop :=
  ∀ b σ1 H1 s1, Inv (gcx X s0 H0 sc C code fp) [(a, go)] σ1 H1 s1 → Q (.bl b) H1 → ∀ s', s'.os = s1.os → AllBare s'.gens → (∀ b o, s1.heap.get? b = some o → s'.heap.get? b = some o) → R (.ok (.ret (.bool b))) s'

theorem pin_at {σ1 : L2.St} {H1 : Hp} {s : Shared} (I : Inv (gcx X s0 H0 sc C code fp) [(a, go)] σ1 H1 s) : s.heap.get? a = some go := (I.pin (a, go) (by simp)).1

/-- one next( ) of it: a truth, or the end -/
theorem next_truth (hh : X.A.handled = none) (hd : X.A.depth < recursionLimit) (hgo : ∀ h : Heap, h.get? a = some go → h.IsGen a gi) {n : Nat} {s : Shared} (h : Awake X s0 H0 sc C code fp sb Q a go gi n s) {P : Option Value → Shared → Prop} {E : Value → Shared → Prop}
    (stop : ∀ σ1 H1 s1 s2, Inv (gcx X s0 H0 sc C code fp) [(a, go)] σ1 H1 s1 → Q (.bl sb) H1 → s2.os = s1.os → AllBare s2.gens → s2.heap = s1.heap → P (some (.bool sb)) s2)
    (more : ∀ n' s2, n = n' + 1 → Awake X s0 H0 sc C code fp sb Q a go gi n' s2 → P (some (.bool (!sb))) s2)
    (done : ∀ σ1 H1 s1 s2, Inv (gcx X s0 H0 sc C code fp) [(a, go)] σ1 H1 s1 → Q (.bl (!sb)) H1 → s2.os = s1.os → AllBare s2.gens → (∀ b o, s1.heap.get? b = some o → s2.heap.get? b = some o) → P none s2) :
    wpAny (model X.prog X.w) X.A.in1 (pyNext (.ref a)) P E s := by
  obtain ⟨⟨σ1, H1, I⟩, gs, hgs, goes⟩ := h
  have hlt : gi < s.gens.size := (Array.getElem?_eq_some_iff.mp hgs).1
  have hrun : AllBare (s.setGen gi .running).gens := allBare_setGen I.bare rfl
  refine wpAny_gsz (n := gi + 1) hlt (wpAny_pyNext_genexpQ (A := X.A.in1) (P := Over X s0 H0 sc C code fp (a, go) sb Q) hh I.nolimit hd (hgo _ (pin_at I)) hgs (goes _ rfl rfl hrun) (fun v s1 gs' hb hv => ?_) fun s1 hp h' hk => ?_)
  · intro hsz
    obtain ⟨b, σ2, H2, ev, I2, hst, hmore⟩ := hv
    subst ev
    have hb2 : AllBare (s1.setGen gi gs').gens := allBare_setGen I2.bare hb
    by_cases e : b = sb
    · rw [e]
      exact stop σ2 H2 s1 _ I2 (hst e) rfl hb2 rfl
    · have e2 : b = !sb := by cases b <;> cases sb <;> simp_all
      have q := hmore e
      cases n with
      | zero => exact (q s1 rfl rfl I2.bare).elim
      | succ n' =>
        rw [e2]
        have hlt2 : gi < s1.gens.size := by
          have z : (s1.setGen gi gs').gens.size = s1.gens.size := setGen_size _ _ _
          omega
        refine more n' _ rfl ⟨⟨σ2, H2, inv_like I2 rfl rfl hb2⟩, gs', setGen_at hlt2, fun s'' h1 h2 h3 => q s'' h1 h2 h3⟩
  · intro hsz
    obtain ⟨σ2, H2, I2, q⟩ := hp
    exact done σ2 H2 s1 _ I2 q rfl (allBare_setGen I2.bare rfl) hk

theorem all_turns (hh : X.A.handled = none) (hd : X.A.depth < recursionLimit) (hgo : ∀ h : Heap, h.get? a = some go → h.IsGen a gi) {R : Result → Shared → Prop} (fin : Fin' X s0 H0 sc C code fp Q a go R) :
    ∀ (n : Nat) (s : Shared), Awake X s0 H0 sc C code fp false Q a go gi n s → codeAny (model X.prog X.w) X.A (.builtin "all.loop" ⟨[.ref a], []⟩) R s := by
  intro n
  induction n with
  | zero =>
    intro s h
    refine codeAny_builtin F.entry_all_loop ?_
    rw [Around.under_plainId F.plain_all_loop _]
    show wpAny _ X.A.in1 (pyNext (.ref a) >>= _) _ _ s
    refine wpAny_bind (next_truth hh hd hgo h (fun σ1 H1 s1 s2 I q e1 e2 e3 => ?_) (fun n' s2 e _ => by omega) fun σ1 H1 s1 s2 I q e1 e2 e3 => ?_)
    · refine wpAny_bind (wpAny_holding (wpAny_truthy_bool ?_))
      refine wpAny_bind (wpAny_letGo ?_)
      simp only [Bool.false_eq_true, if_false]
      exact wpAny_bind (wpAny_rule (wpAny_pure (fin false σ1 H1 s1 I q s2 e1 e2 fun b o e => by rw [e3]; exact e)))
    · exact wpAny_bind (wpAny_rule (wpAny_pure (fin true σ1 H1 s1 I q s2 e1 e2 e3)))
  | succ n ih =>
    intro s h
    refine codeAny_builtin F.entry_all_loop ?_
    rw [Around.under_plainId F.plain_all_loop _]
    show wpAny _ X.A.in1 (pyNext (.ref a) >>= _) _ _ s
    refine wpAny_bind (next_truth hh hd hgo h (fun σ1 H1 s1 s2 I q e1 e2 e3 => ?_) (fun n' s2 e h2 => ?_) fun σ1 H1 s1 s2 I q e1 e2 e3 => ?_)
    · refine wpAny_bind (wpAny_holding (wpAny_truthy_bool ?_))
      refine wpAny_bind (wpAny_letGo ?_)
      simp only [Bool.false_eq_true, if_false]
      exact wpAny_bind (wpAny_rule (wpAny_pure (fin false σ1 H1 s1 I q s2 e1 e2 fun b o e => by rw [e3]; exact e)))
    · refine wpAny_bind (wpAny_holding (wpAny_truthy_bool ?_))
      refine wpAny_bind (wpAny_letGo ?_)
      simp only [Bool.not_false, if_true]
      have en : n' = n := by omega
      rw [en] at h2
      exact wpAny_pure ⟨plainId_quiet F.plain_all_loop _, ih s2 h2⟩
    · exact wpAny_bind (wpAny_rule (wpAny_pure (fin true σ1 H1 s1 I q s2 e1 e2 e3)))
theorem any_turns (hh : X.A.handled = none) (hd : X.A.depth < recursionLimit) (hgo : ∀ h : Heap, h.get? a = some go → h.IsGen a gi) {R : Result → Shared → Prop} (fin : Fin' X s0 H0 sc C code fp Q a go R) :
    ∀ (n : Nat) (s : Shared), Awake X s0 H0 sc C code fp true Q a go gi n s → codeAny (model X.prog X.w) X.A (.builtin "any.loop" ⟨[.ref a], []⟩) R s := by
  intro n
  induction n with
  | zero =>
    intro s h
    refine codeAny_builtin F.entry_any_loop ?_
    rw [Around.under_plainId F.plain_any_loop _]
    show wpAny _ X.A.in1 (pyNext (.ref a) >>= _) _ _ s
    refine wpAny_bind (next_truth hh hd hgo h (fun σ1 H1 s1 s2 I q e1 e2 e3 => ?_) (fun n' s2 e _ => by omega) fun σ1 H1 s1 s2 I q e1 e2 e3 => ?_)
    · refine wpAny_bind (wpAny_holding (wpAny_truthy_bool ?_))
      refine wpAny_bind (wpAny_letGo ?_)
      simp only [if_true]
      exact wpAny_bind (wpAny_rule (wpAny_pure (fin true σ1 H1 s1 I q s2 e1 e2 fun b o e => by rw [e3]; exact e)))
    · exact wpAny_bind (wpAny_rule (wpAny_pure (fin false σ1 H1 s1 I q s2 e1 e2 e3)))
  | succ n ih =>
    intro s h
    refine codeAny_builtin F.entry_any_loop ?_
    rw [Around.under_plainId F.plain_any_loop _]
    show wpAny _ X.A.in1 (pyNext (.ref a) >>= _) _ _ s
    refine wpAny_bind (next_truth hh hd hgo h (fun σ1 H1 s1 s2 I q e1 e2 e3 => ?_) (fun n' s2 e h2 => ?_) fun σ1 H1 s1 s2 I q e1 e2 e3 => ?_)
    · refine wpAny_bind (wpAny_holding (wpAny_truthy_bool ?_))
      refine wpAny_bind (wpAny_letGo ?_)
      simp only [if_true]
      exact wpAny_bind (wpAny_rule (wpAny_pure (fin true σ1 H1 s1 I q s2 e1 e2 fun b o e => by rw [e3]; exact e)))
    · refine wpAny_bind (wpAny_holding (wpAny_truthy_bool ?_))
      refine wpAny_bind (wpAny_letGo ?_)
      simp only [Bool.not_true, Bool.false_eq_true, if_false]
      have en : n' = n := by omega
      rw [en] at h2
      exact wpAny_pure ⟨plainId_quiet F.plain_any_loop _, ih s2 h2⟩
    · exact wpAny_bind (wpAny_rule (wpAny_pure (fin false σ1 H1 s1 I q s2 e1 e2 e3)))
end
end Gx

namespace Gx
open PySem PySem.Spec PyProof.Rows L2 GxR GenW
section
variable {X : Cx} {pins : List (Addr × Obj)} {σ : L2.St} {H : Hp} {s : Shared}

/-- what stands once the generator has been made, ahead of its first turn -/
structure Made (X : Cx) (pins : List (Addr × Obj)) (σ : L2.St) (P : Addr) (elt tg iter : Expr) (sc : Scope) (pos : Pos) (vs : List Nat) (J : It) (H1 H2 : Hp) (it : Addr) (fp : List Addr) (tn : Nat → Heap → Prop) (s0 : Shared) (C : Addr) (code : Value) (a : Addr) (go : Obj) (gi : Nat) (s5 : Shared) : Prop where
  tab : Tabbed P H1 H2
  turns : Turn X.prog X.w X.K tg J fp it tn
  st : tn 0 s5.heap
  i0 : Inv X pins σ H2 s0
  fpo : ∀ b ∈ fp, FpOk X pins H2 b ∧ b < s0.heap.objs.size
  i5 : Inv (gcx X s0 H2 sc C code fp) [(a, go)] (wipe σ vs) H2 s5
  apart : a ∉ fp
  gens : s5.gens[gi]? = some (.fresh (StartC X elt tg iter sc pos it C code))
  isgen : ∀ h : Heap, h.get? a = some go → h.IsGen a gi

theorem gen_made {c P : Addr} {elt tg iter : Expr} {gpos : Pos} {sc : Scope} {own : List (Str × Nat)} {wi : TI} {k : Nat} {Q' : Value → Shared → Prop} {R : It → Hp → Prop}
    (hr : Room k X.A) (TB : TabB X.base X.mg c P) (hcode : X.env.code = .ref c) (ok : BlkOk X.N X.env.scope sc own) (hN : X.N.Nodup) (hcell : ∀ y ∈ sc.names, y.2 ≠ .cell) (hdot : sc.names.lookup (".0" : Str) = some NameKind.local)
    (hco : sc.isCoroutine = false) (hi : PI X tg iter wi) (hs : ∀ v, genFold iter X.env v = pure v) (I : Inv X pins σ H s) (h : wi σ H fun J H1 => TabG H1 P ∧ R J H1)
    (hQ : ∀ J H1 H2 it fp tn s0 C code a go gi s5, R J H1 → Made X pins σ P elt tg iter sc gpos (own.map (·.2)) J H1 H2 it fp tn s0 C code a go gi s5 → Q' (.ref a) s5) :
    wpAny (model X.prog X.w) X.A (eval (.GeneratorExp elt [⟨tg, iter, [], 0⟩] sc gpos) X.env) Q' X.xe s := by
  have hf : ∀ z ∈ sc.names, z.2 = .free → ∃ c, X.env.cells.lookup z.1 = some c := fun z hz e => by
    rcases ok.free z hz e with k | k
    · exact I.ok.has _ (.inl k)
    · exact I.ok.has _ (.inr k)
  refine wpAny_GeneratorExp_make hco (closure_ok hf) hcell hdot ok.kind (by have := hr.dp; omega) ?_ hs
  refine thn (hi.run pins s σ H _ I h) fun xv s1 h1 => thn h1 fun itv s2 h2 => ?_
  obtain ⟨it, fp, tn, J, H1, e, I1, T, st, f1, ⟨ps, hP, htr⟩, q⟩ := h2
  subst e
  refine ⟨I1.nolimit, ?_⟩
  have hPs : s2.heap.get? P = some { cls := .none, data := .fields ps } := I1.hok P _ hP
  have cd : PySem.W.CodeHd s2.heap c P := TB.code.keeps I1.bk
  -- behind the making of the code object
  have cont : ∀ (cv : Value) (h3 : Heap) (tk : Nat) (more : Array Value), (∀ b o, b ≠ P → s2.heap.get? b = some o → h3.get? b = some o) → h3.get? P = some { cls := .none, data := .fields (ps ++ more) } → TriplesOk (ps ++ more).toList →
      wpAny (model X.prog X.w) X.A (builtinsFor X.env.globals X.env.builtins) (fun bi s4 => ∀ h', h'.Ns s4.heap.objs.size (fun y => if y = ".0" then some (.ref it) else none) → Heap.SameBut s4.heap.objs.size (s4.heap.push { cls := .type "frame", data := .dict #[] }) h' →
        Q' (.ref h'.objs.size) { s4 with
          gens := s4.gens.push (.fresh (.compStart (.GeneratorExp elt [⟨tg, iter, [], 0⟩] sc gpos) 0 (.ref it) .none (genEnv sc (cloFrom X.env.cells sc.names []) s4.heap.objs.size cv bi X.env))),
          toks := s4.toks + 1 + 1 + 1,
          heap := h'.push { cls := .type "generator", data := .fields #[.int s4.gens.size 0, .str "<genexpr>" (s4.toks + 1), .str (X.env.qual ++ "<genexpr>") (s4.toks + 1 + 1)] } }) X.xe { s2 with heap := h3, toks := tk } := by
    intro cv h3 tk more k3 hP3 ht3
    have I3 : Inv X pins σ (upd H1 P (.tbl (ps ++ more))) { s2 with heap := h3, toks := tk } := inv_tab (g' := s2.gens) (d' := s2.drawn) (t' := tk) I1 hP k3 hP3 I1.bare
    have tbd : Tabbed P H1 (upd H1 P (.tbl (ps ++ more))) := ⟨⟨ps ++ more, upd_same, ht3⟩, fun b hb => upd_ne hb⟩
    obtain ⟨bm, ob, e1, e2, e3, e4, e5, e6, e7, e8⟩ := TB.bm
    have gNs := I3.mod.glob.keeps I3.bk
    refine wpAny_builtinsFor (m := X.mg) (by rw [I3.ok.glob]; exact gNs) e1 e2 (I3.bk _ _ e5) e6 e7 e8 ?_
    intro h' hns' hsb
    generalize hH2 : upd H1 P (.tbl (ps ++ more)) = H2 at I3 tbd
    have n2 : ∀ b, H1 b = none → H2 b = none := fun b e => by
      have hne : b ≠ P := fun z => by rw [z, hP] at e; cases e
      rw [tbd.2 b hne]
      exact e
    have f3 : ∀ b ∈ fp, FpOk X pins H2 b ∧ b < h3.objs.size := fun b hb => by
      have hne : b ≠ P := fun z => by
        have := (f1 b hb).1
        rw [z, hP] at this
        cases this
      obtain ⟨o, e, _⟩ := T.obj _ _ st b hb
      exact ⟨⟨n2 b (f1 b hb).1, (f1 b hb).2⟩, Heap.lt_size (k3 b o hne e)⟩
    have hsz : h'.objs.size = h3.objs.size + 1 := by
      have z := hsb.1
      rw [Heap.size_push] at z
      exact z
    have kp : ∀ b o, h3.get? b = some o → h'.get? b = some o := fun b o e => hsb.extBut b o (Nat.ne_of_lt (Heap.lt_size e)) (Heap.get?_push_of_some _ e)
    generalize hgo : ({ cls := .type "generator", data := .fields #[.int s2.gens.size 0, .str "<genexpr>" (tk + 1), .str (X.env.qual ++ "<genexpr>") (tk + 1 + 1)] } : Obj) = go
    have ggo : (h'.push go).get? h'.objs.size = some go := Heap.get?_push_size _ (by rw [← hgo]; rfl)
    have kp5 : ∀ b o, h3.get? b = some o → (h'.push go).get? b = some o := fun b o e => Heap.get?_push_of_some _ (kp b o e)
    have bg : AllBare (s2.gens.push (.fresh (.compStart (.GeneratorExp elt [⟨tg, iter, [], 0⟩] sc gpos) 0 (.ref it) .none (genv X sc h3.objs.size cv)))) := I1.bare.push rfl
    have I5 := gx_start (C := h3.objs.size) (code := cv) (d' := s2.drawn) (t' := tk + 1 + 1 + 1) (h' := h'.push go) (s := { s2 with heap := h3, toks := tk }) I3 hr.hd ok hN hcell f3 rfl ⟨_, hns'.push _⟩ kp5 bg
    have na : h3.objs.size ≤ h'.objs.size := by rw [hsz]; exact Nat.le_succ _
    have I5' := I5.pins_of (pins' := [(h'.objs.size, go)]) fun p hp => by
      have ep : p = (h'.objs.size, go) := by simpa using hp
      subst ep
      refine ⟨ggo, I3.hok.fresh na, ?_, fun z => ?_, fun v z => ?_⟩
      · show h'.objs.size ≠ h3.objs.size
        rw [hsz]
        exact Nat.succ_ne_self _
      · rcases List.mem_cons.mp (I3.stkSub _ z) with y | y
        · have l : X.env.locals < h3.objs.size := I3.lt
          rw [← show h'.objs.size = X.env.locals from y] at l
          exact Nat.lt_irrefl _ (Nat.lt_of_lt_of_le l na)
        · exact I3.nofs (a := h'.objs.size) na y
      · rw [← hgo] at z
        cases z
    refine hQ J H1 H2 it fp tn { s2 with heap := h3, toks := tk } h3.objs.size cv h'.objs.size go s2.gens.size _ q ⟨tbd, T, ?_, I3, f3, I5', fun z => ?_, Array.getElem?_push_size .., fun h e => ⟨go, _, _, e, by rw [← hgo], by rw [← hgo], by rw [← hgo]⟩⟩
    · refine T.keep _ _ _ st fun b hb o e => kp5 b o (k3 b o (fun z => ?_) e)
      have := (f1 b hb).1
      rw [z, hP] at this
      cases this
    · exact Nat.lt_irrefl _ (Nat.lt_of_lt_of_le (f3 _ z).2 na)
  cases hf2 : codeAmong gpos ps.toList with
  | none =>
    refine wpAny_genexprCodeX hcode (cd.code hPs htr) (cd.tab hPs) hf2 fun c' h' tk hx hge hlt hco' _ htab' _ => ?_
    obtain ⟨o1, us, f1', tf, fl, tg', inF, tx, tt, op, _, _, _, _, _, _, _, _, _, htr', _⟩ := hco'
    exact cont _ h' tk _ (fun b o hb e => hx b o hb e) htab'.2 htr'
  | some cv =>
    refine wpAny_genexprCode_hit hcode (cd.code hPs htr) hf2 ?_
    exact cont cv s2.heap s2.toks #[] (fun b o _ e => e) (by rw [Array.append_empty]; exact hPs) (by rw [Array.append_empty]; exact htr)

/-- all( ), any( ) of a generator expression: sb is the truth at which it stops -/
def rTruth (P : Addr) (sb : Bool) (g : TG) (te : TE) (vs : List Nat) (σ : L2.St) (Q : VK) (J : It) (H1 : Hp) : Prop := ∀ H2, Tabbed P H1 H2 → ∃ W : Nat → Nat → Hp → Prop, (∃ m, W 0 m H2) ∧
  ∀ i m H, W i m H → (J.stop i H ∧ Q (.bl (!sb)) H) ∨ (J.go i H ∧ ∃ Nx : Hp → Prop, (∀ H', Nx H' → ∃ m', m' < m ∧ W (i + 1) m' H') ∧
    ∀ x H', J.yld i H x H' → g x (wipe σ vs) H' fun σ2 H2 => wipe σ2 vs = wipe σ vs ∧ te σ2 H2 fun y H4 => ∃ b, y = .bl b ∧ if b = sb then Q (.bl sb) H4 else Nx H4)
def tTruthG (P : Addr) (sb : Bool) (wi : TI) (g : TG) (te : TE) (vs : List Nat) : TE := fun σ H Q => wi σ H fun J H1 => TabG H1 P ∧ rTruth P sb g te vs σ Q J H1
/-- how a run of it is told -/
def Told (X : Cx) (pins : List (Addr × Obj)) (σ : L2.St) (sc : Scope) (sb : Bool) (Q : VK) (a : Addr) (s5 : Shared) : Prop :=
  ∀ R : Result → Shared → Prop, (∀ b s', EP X pins σ Q (.bool b) s' → R (.ok (.ret (.bool b))) s') → ∃ s0 H0 C code fp go gi n, Awake X s0 H0 sc C code fp sb Q a go gi n s5 ∧ (∀ h : Heap, h.get? a = some go → h.IsGen a gi) ∧ Fin' X s0 H0 sc C code fp Q a go R
/-- what the generator expression must have; the two names of it that are the program's -/
structure GxOk (X : Cx) (sc : Scope) (own : List (Str × Nat)) (c P : Addr) : Prop where
  tb : TabB X.base X.mg c P
  code : X.env.code = .ref c
  blk : BlkOk X.N X.env.scope sc own
  nd : X.N.Nodup
  nocell : ∀ y ∈ sc.names, y.2 ≠ .cell
  dot : sc.names.lookup (".0" : Str) = some NameKind.local
  nocor : sc.isCoroutine = false

section
variable {c P : Addr} {elt tg iter : Expr} {gpos p pos : Pos} {sc : Scope} {own : List (Str × Nat)} {wi : TI} {g : TG} {te : TE} {k : Nat}
theorem truth_core {sb : Bool} {Q : VK} (hr : Room k X.A) (G : GxOk X sc own c P) (hi : PI X tg iter wi) (hs : ∀ v, genFold iter X.env v = pure v)
    (hg : ∀ (s : Shared) (H : Hp) (C : Addr) (code : Value) (fp : List Addr), PG (gcx X s H sc C code fp) tg g) (he : ∀ (s : Shared) (H : Hp) (C : Addr) (code : Value) (fp : List Addr), PE (gcx X s H sc C code fp) elt te)
    (I : Inv X pins σ H s) (h : tTruthG P sb wi g te (own.map (·.2)) σ H Q) {Q' : Value → Shared → Prop}
    (hQ : ∀ a s5, s5.heap.NoLimit → (∃ gi, s5.heap.IsGen a gi) →
      Told X pins σ sc sb Q a s5 → Q' (.ref a) s5) :
    wpAny (model X.prog X.w) X.A (eval (.GeneratorExp elt [⟨tg, iter, [], 0⟩] sc gpos) X.env) Q' X.xe s := by
  have h' : wi σ H fun J H1 => TabG H1 P ∧ rTruth P sb g te (own.map (·.2)) σ Q J H1 := h
  refine gen_made (own := own)
    hr G.tb G.code G.blk G.nd G.nocell G.dot G.nocor hi hs I h' fun J H1 H2 it fp tn s0 C code a go gi s5 hR M => ?_
  obtain ⟨W, ⟨m, w0⟩, step⟩ := hR H2 M.tab
  have I5 := M.i5
  have n2 : ∀ b ∈ fp, H2 b = none := fun b hb => (M.fpo b hb).1.1
  have RR : Run X s0 H2 sc C code fp tg elt g te J it tn (own.map (·.2)) (wipe σ (own.map (·.2))) sb W Q := ⟨M.turns, hg _ _ _ _ _, he _ _ _ _ _, G.nocor, step⟩
  refine hQ a s5 I5.nolimit ⟨gi, M.isgen _ (pin_at I5)⟩ fun R hRR => ⟨s0, H2, C, code, fp, go, gi, m + 1, ⟨⟨_, _, I5⟩, _, M.gens, fun s'' e1 e2 e3 => ⟨rfl, seg_begin RR M.apart m s'' s'' (ahead_like ⟨H2, m, I5, M.st, n2, Nat.le_refl _, w0⟩ e1 e2 e3)⟩⟩, M.isgen, ?_⟩
  intro b σ1 H3 s1 I1 q s' ho hgs hk
  refine hRR b s' ⟨.bl b, H3, ?_, rfl, q⟩
  have un := I1.base.trans (Un.kept hk)
  exact M.i0.call' (ch := fp) (ho.trans I1.os) un (I1.hok.kept hk) hgs fun b hb => ⟨(M.fpo b hb).1.2.2.2.1, (M.fpo b hb).1.2.1, (M.fpo b hb).1.2.2.2.2.1, (M.fpo b hb).1.2.2.2.2.2⟩

theorem told_all {Q : VK} {a : Addr} {s5 : Shared} {R : Result → Shared → Prop} (hr : Room k X.A) (h : Told X pins σ sc false Q a s5) (hR : ∀ b s', EP X pins σ Q (.bool b) s' → R (.ok (.ret (.bool b))) s') :
    codeAny (model X.prog X.w) X.A (.builtin "all.loop" ⟨[.ref a], []⟩) R s5 := by
  obtain ⟨s0, H0, C, code, fp, go, gi, n, aw, hgo, fin⟩ := h R hR
  exact all_turns hr.hd (by have := hr.dp; omega) hgo fin n s5 aw
theorem told_any {Q : VK} {a : Addr} {s5 : Shared} {R : Result → Shared → Prop} (hr : Room k X.A) (h : Told X pins σ sc true Q a s5) (hR : ∀ b s', EP X pins σ Q (.bool b) s' → R (.ok (.ret (.bool b))) s') :
    codeAny (model X.prog X.w) X.A (.builtin "any.loop" ⟨[.ref a], []⟩) R s5 := by
  obtain ⟨s0, H0, C, code, fp, go, gi, n, aw, hgo, fin⟩ := h R hR
  exact any_turns hr.hd (by have := hr.dp; omega) hgo fin n s5 aw
theorem pe_allG (hr : Room k X.A) (G : GxOk X sc own c P) (hga : Gl X "all") (hma : X.mg "all" = none) (hb : bootBuiltins "all" = some (.builtin "all")) (hi : PI X tg iter wi)
    (hg : ∀ (s : Shared) (H : Hp) (C : Addr) (code : Value) (fp : List Addr), PG (gcx X s H sc C code fp) tg g) (he : ∀ (s : Shared) (H : Hp) (C : Addr) (code : Value) (fp : List Addr), PE (gcx X s H sc C code fp) elt te)
    (hs : ∀ v, genFold iter X.env v = pure v := by intro _; rfl)
    (hst : starEach [.GeneratorExp elt [⟨tg, iter, [], 0⟩] sc gpos] X.env = (false, eval (.GeneratorExp elt [⟨tg, iter, [], 0⟩] sc gpos) X.env) :: starEach [] X.env := by rfl) :
    PE X (.Call (.Name "all" p) [.GeneratorExp elt [⟨tg, iter, [], 0⟩] sc gpos] [] pos) (tTruthG P false wi g te (own.map (·.2))) := by
  refine ⟨fun pins s σ H Q I h => ?_⟩
  refine wpAny_Call_Name_kw (ld_blt I hga hma hb ?_)
  refine PyProof.Rows.callWith_builtin1 ?_ hst (by rfl)
  rw [hst]
  show wpAny _ _ (spliced ((false, eval (.GeneratorExp elt [⟨tg, iter, [], 0⟩] sc gpos) X.env) :: backTo pos (starEach [] X.env))) _ _ s
  refine Calls.spliced_cons (truth_core hr G hi hs hg he I h fun a s5 hl hgn hall => ?_)
  refine Calls.spliced_nil ?_
  refine call_function_tree F.kind_all F.plain_all F.entry_all (F.args_all1 _) ?_
  unfold Builtin.«all»
  refine wpAny_bind (m := oneArg "all" _) (wpAny_pure ?_)
  obtain ⟨gi, hgn⟩ := hgn
  refine wpAny_bind (wpAny_pyIter_gen hgn ?_)
  exact wpAny_pure ⟨plainId_quiet F.plain_all_loop _, told_all hr hall fun b s' h => h⟩
theorem pe_anyG (hr : Room k X.A) (G : GxOk X sc own c P) (hga : Gl X "any") (hma : X.mg "any" = none) (hb : bootBuiltins "any" = some (.builtin "any")) (hi : PI X tg iter wi)
    (hg : ∀ (s : Shared) (H : Hp) (C : Addr) (code : Value) (fp : List Addr), PG (gcx X s H sc C code fp) tg g) (he : ∀ (s : Shared) (H : Hp) (C : Addr) (code : Value) (fp : List Addr), PE (gcx X s H sc C code fp) elt te)
    (hs : ∀ v, genFold iter X.env v = pure v := by intro _; rfl)
    (hst : starEach [.GeneratorExp elt [⟨tg, iter, [], 0⟩] sc gpos] X.env = (false, eval (.GeneratorExp elt [⟨tg, iter, [], 0⟩] sc gpos) X.env) :: starEach [] X.env := by rfl) :
    PE X (.Call (.Name "any" p) [.GeneratorExp elt [⟨tg, iter, [], 0⟩] sc gpos] [] pos) (tTruthG P true wi g te (own.map (·.2))) := by
  refine ⟨fun pins s σ H Q I h => ?_⟩
  refine wpAny_Call_Name_kw (ld_blt I hga hma hb ?_)
  refine PyProof.Rows.callWith_builtin1 ?_ hst (by rfl)
  rw [hst]
  show wpAny _ _ (spliced ((false, eval (.GeneratorExp elt [⟨tg, iter, [], 0⟩] sc gpos) X.env) :: backTo pos (starEach [] X.env))) _ _ s
  refine Calls.spliced_cons (truth_core hr G hi hs hg he I h fun a s5 hl hgn hall => ?_)
  refine Calls.spliced_nil ?_
  refine call_function_tree F.kind_any F.plain_any F.entry_any (F.args_any1 _) ?_
  unfold Builtin.«any»
  refine wpAny_bind (m := oneArg "any" _) (wpAny_pure ?_)
  obtain ⟨gi, hgn⟩ := hgn
  refine wpAny_bind (wpAny_pyIter_gen hgn ?_)
  exact wpAny_pure ⟨plainId_quiet F.plain_any_loop _, told_any hr hall fun b s' h => h⟩
end
end
end Gx

/-! Defs whose callers run no repr; how they are called; repr and sorted of data; the end of a law. -/
namespace Gx
open PySem PySem.Spec PyProof.Rows L2 GxR GenW

/-- a def's promise where no repr is running around -/
structure FnG (P : Program) (w : World) (K : PySem.W.Frag) (mg : Str → Option Value) (base : Heap) (CX : CXT) (k : Nat) (f : Addr) (fd : FuncData) (ps : List Str) (sp : Sp) : Prop where
  many : ∀ vs H Q E, sp vs H Q E → vs.length = ps.length
  runs : ∀ (A : Around) (outer : List Env) (s : Shared) (H : Hp) (args : Args) (us : List Value) (vs : List V) (Q : VK) (E : XK), A.guards = some [] → Room k A →
    Env0 P w K mg base A outer s H → BindsTo s fd args (ps.zip us) → Vals vs us → sp vs H Q E → codeAny (model P w) A (.call (.ref f) args) (CR CX outer P w H s Q E) s
/-- a def of the text, with its code object's value -/
structure DefIs (K : PySem.W.Frag) (x qual : Str) (st : Stmt) (f : Addr) (fd : FuncData) (cdv : Value) : Prop where
  at_ : ∃ (oc : Value) (od : Option Addr) (kV doc pm : Value) (an : Option Addr) (ct : Value) (osl : Array (Option Value)),
    fd = PySem.W.fnOf x qual (defArgs st) (defBody st) (defScope st) .none kV doc pm an cdv ct ∧ K.lookup f = some ⟨oc, od, .func fd, osl⟩
  code : PySem.W.codeIn K cdv qual = true
  keep : PySem.W.keepIn K (.ref f) = true
theorem defIs_mk {K : PySem.W.Frag} {x qual : Str} {st : Stmt} {f : Addr} {oc : Value} {od an : Option Addr} {osl : Array (Option Value)} {kV doc pm cdv ct : Value}
    (l : K.lookup f = some ⟨oc, od, .func (PySem.W.fnOf x qual (defArgs st) (defBody st) (defScope st) .none kV doc pm an cdv ct), osl⟩) (c : PySem.W.codeIn K cdv qual = true) (kp : PySem.W.keepIn K (.ref f) = true) :
    DefIs K x qual st f (PySem.W.fnOf x qual (defArgs st) (defBody st) (defScope st) .none kV doc pm an cdv ct) cdv := ⟨⟨oc, od, kV, doc, pm, an, ct, osl, rfl, l⟩, c, kp⟩

section
variable {P : Program} {w : World} {K : PySem.W.Frag} {mg : Str → Option Value} {base : Heap} {CX : CXT}
theorem FnG.less {j k : Nat} {f : Addr} {fd : FuncData} {ps : List Str} {sp : Sp} (F : FnG P w K mg base CX j f fd ps sp) (h : j ≤ k) : FnG P w K mg base CX k f fd ps sp :=
  ⟨F.many, fun A outer s H args us vs Q E g r => F.runs A outer s H args us vs Q E g (r.mono h)⟩
/-- by its body -/
theorem DefIs.ok {x qual : Str} {st : Stmt} {f : Addr} {fd : FuncData} {cdv : Value} {N ps : List Str} {k : Nat} {sp : Sp} (D : DefIs K x qual st f fd cdv) (S : FnScope N ps (defScope st)) (len : ∀ vs H Q E, sp vs H Q E → vs.length = ps.length)
    (body : ∀ (A : Around) (outer : List Env) (s : Shared) (H : Hp) (vs : List V) (Q : VK) (E : XK), A.guards = some [] → Room k (A.deeper (envOfC qual (defScope st) s.heap.objs.size f cdv)) → sp vs H Q E →
      ∃ t, PSs (cxOf CX P w K mg base N qual (defScope st) f cdv A outer s H E) (defBody st) t ∧ t { nx := fun _ H' => Q .non H', rt := Q } (start N vs) H) : FnG P w K mg base CX (k + 1) f fd ps sp := by
  obtain ⟨oc, od, kV, doc, pm, an, ct, osl, rfl, lk⟩ := D.at_
  refine ⟨len, fun A outer s H args us vs Q E g hr e0 hb r hsp => ?_⟩
  have KX : K.In s.heap := e0.mod.kin.keeps fun b o e => (e0.bs b o e).1
  have inits : ∀ y ∈ ps.zip us, (defScope st).names.lookup y.1 = some .local ∨ ((defScope st).names.lookup y.1 = some .cell ∧ ((cellsFrom (s.heap.objs.size + 1) (defScope st).names []).lookup y.1).isSome = true) := by
    rintro ⟨n, v⟩ hy
    exact (S.par n (List.of_mem_zip hy).1).elim .inl fun q => .inr ⟨q, PySem.W.cellsFrom_some _ _ _ (.inl q)⟩
  refine codeAny_call_function hr.depth (KX _ _ lk) rfl S.co S.gen rfl (PySem.W.codeRec_of KX D.code) (hb _ _ _ _ (wpAny_newFunctionEnv_cells S.kind inits fun env he s1 x => ?_))
  subst he
  refine ⟨(e0.mod.nolimit.keeps fun b o e => (e0.bs b o e).1).keeps x.toInCall.keep, codeAny_func ?_⟩
  obtain ⟨t, ht, hq⟩ := body A outer s H vs Q E g (hr.deeper _) hsp
  refine wpAny_mono (ht.run [] s1 (start N vs) H _ (inv_start S hr.hd e0 (len _ _ _ _ hsp) r x) hq) (fun fl s' hs => ?_) fun e s' hs => hs
  cases fl with
  | ret u =>
    obtain ⟨v, σ', H', J, rv, q⟩ := hs
    exact ⟨v, H', J.os, J.bare, J.base, J.hok, rv, q⟩
  | next =>
    obtain ⟨σ', H', J, q⟩ := hs
    exact ⟨V.non, H', J.os, J.bare, J.base, J.hok, rfl, q⟩
  | brk => exact hs.elim fun _ z => z.elim fun _ y => False.elim y.2
  | cont => exact hs.elim fun _ z => z.elim fun _ y => False.elim y.2
/-- .. that nothing raised leaves -/
theorem DefIs.ok0 {x qual : Str} {st : Stmt} {f : Addr} {fd : FuncData} {cdv : Value} {N ps : List Str} {k : Nat} {sp : Sp} (D : DefIs K x qual st f fd cdv) (S : FnScope N ps (defScope st)) (len : ∀ vs H Q E, sp vs H Q E → vs.length = ps.length)
    (body : ∀ (A : Around) (outer : List Env) (s : Shared) (H : Hp) (vs : List V) (Q : VK) (E : XK), A.guards = some [] → Room k (A.deeper (envOfC qual (defScope st) s.heap.objs.size f cdv)) → sp vs H Q E →
      ∃ t, PSs (cxOf CX P w K mg base N qual (defScope st) f cdv A outer s H E).nox (defBody st) t ∧ t { nx := fun _ H' => Q .non H', rt := Q } (start N vs) H) : FnG P w K mg base CX (k + 1) f fd ps sp :=
  D.ok S len fun A outer s H vs Q E g hr hsp => let ⟨t, ht, q⟩ := body A outer s H vs Q E g hr hsp; ⟨t, ht.nox, q⟩
theorem DefIs.binds {x qual : Str} {st : Stmt} {f : Addr} {fd : FuncData} {cdv : Value} {ps : List Str} (D : DefIs K x qual st f fd cdv)
    (h : ∀ (kV doc pm : Value) (an : Option Addr) (ct : Value) (us : List Value), us.length = ps.length → bindArgs (PySem.W.fnOf x qual (defArgs st) (defBody st) (defScope st) .none kV doc pm an cdv ct) ⟨us, []⟩ = pure (ps.zip us)) : Binds K fd ps [] := by
  obtain ⟨oc, od, kV, doc, pm, an, ct, osl, rfl, lk⟩ := D.at_
  exact .all (h kV doc pm an ct)
end

/-- a def that can be called by its name: its promise, its place, how it binds -/
structure Callee (P : Program) (w : World) (K : PySem.W.Frag) (mg : Str → Option Value) (base : Heap) (CX : CXT) (k : Nat) (x : Str) (ps : List Str) (sp : Sp) : Prop where
  is : ∃ f fd, FnG P w K mg base CX k f fd ps sp ∧ mg x = some (.ref f) ∧ PySem.W.keepIn K (.ref f) = true ∧ Binds K fd ps []

section
variable {X : Cx} {CX : CXT} {k : Nat} {x : Str} {ps : List Str} {sp : Sp} {E : XK} {p pos : Pos} {e : Expr} {es : List Expr} {t : TA}
theorem run_g {pins : List (Addr × Obj)} {σ : L2.St} {H : Hp} {s : Shared} {Q : VK} {us : List Value} {vs : List V} {f : Addr} {fd : FuncData} (F : FnG X.prog X.w X.K X.mg X.base CX k f fd ps sp) (g : X.A.guards = some []) (hr : Room k X.A) (hb : Binds X.K fd ps []) (hx : Passes CX X E)
    (I : Inv X pins σ H s) (r : Vals vs us) (h : sp vs H Q E) : wpAny (model X.prog X.w) X.A (call (.ref f) us) (EP X pins σ Q) X.xe s := by
  have hl : (us ++ ([] : List Value)).length = ps.length := by rw [List.append_nil, ← r.length]; exact F.many _ _ _ _ h
  have hB := hb s us I.kIn hl
  rw [List.append_nil] at hB
  refine wpAny_call (codeAny_mono (F.runs X.A X.stack s H ⟨us, []⟩ us vs Q E g hr I.env0 hB r h) fun q s' hq => ?_)
  match q, hq with
  | .error e, hq => exact hx pins σ H s e s' I hq
  | .ok (.ret u), hq => exact I.after hq
/-- f(e, ..) -/
theorem pe_g (C : Callee X.prog X.w X.K X.mg X.base CX k x ps sp) (g : X.A.guards = some []) (hr : Room k X.A) (hx : Passes CX X E) (ha : PA X (e :: es) t) (hg : Gl X x := by rfl)
    (hdb : (x == ("__debug__" : Str)) = false := by decide) (he : starEach (e :: es) X.env = (false, eval e X.env) :: starEach es X.env := by rfl) (hpl : (backTo pos (starEach es X.env)).any (·.1) = false := by rfl) :
    PE X (.Call (.Name x p) (e :: es) [] pos) (tCall sp [] E t) := by
  obtain ⟨f, fd, F, hm, hk, hb⟩ := C.is
  refine ⟨fun pins s σ H Q I h => wpAny_Call_Name_kw (ld_glob I hg hm (PySem.W.callWith_K (h₀ := X.base) I.ok.mod.kin hk (thn (ha.run pos pins s σ H _ I h) fun us s1 h1 => ?_) he hpl) hdb)⟩
  obtain ⟨vs, H1, I1, r, q⟩ := h1
  rw [List.append_nil] at q
  exact ⟨I1.kIn, run_g F g hr hb hx I1 r q⟩
theorem pe_g0 (C : Callee X.prog X.w X.K X.mg X.base CX k x ps sp) (g : X.A.guards = some []) (hr : Room k X.A) (hx : Passes CX X E) (hg : Gl X x := by rfl) (hdb : (x == ("__debug__" : Str)) = false := by decide) :
    PE X (.Call (.Name x p) [] [] pos) (tCall sp [] E tNil) := by
  obtain ⟨f, fd, F, hm, hk, hb⟩ := C.is
  exact ⟨fun pins s σ H Q I h => wpAny_Call_Name_kw (ld_glob I hg hm (PySem.W.callWith_K0 I.kIn hk (run_g (us := []) F g hr hb hx I .nil h)) hdb)⟩
/-- a statement, a block that is never come to -/
theorem ps_dead {st : Stmt} : PS X st (fun _ _ _ => False) := ⟨fun _ _ _ _ _ _ h => h.elim⟩
theorem pss_dead {st : List Stmt} : PSs X st (fun _ _ _ => False) := ⟨fun _ _ _ _ _ _ h => h.elim⟩
theorem pe_dead {e : Expr} : PE X e (fun _ _ _ => False) := ⟨fun _ _ _ _ _ _ h => h.elim⟩
end
end Gx

namespace Gx
open PySem PySem.Spec PyProof.Rows L2 GxR GenW

/-! ### repr and sorted of data -/
section
variable {X : Cx}
def rRepr (K : PySem.W.Frag) : List V → Hp → VK → Prop := fun xs H Q => ∃ x d, xs = [x] ∧ Dp K H x d ∧ d.showable = true ∧ d.hasDict = false ∧ d.depth ≤ 60 ∧ d.shown.length ≤ sizeLine ∧ Q (.str d.shown) H
theorem cr_repr (g : X.A.guards = some []) (hu : X.A.units + 64 < cLine) : CallR X (.builtin "repr") (rRepr X.K) := by
  intro pins s σ H xs us Q I r h
  obtain ⟨x, d, rfl, hD, hs, hd, hp, hz, q⟩ := h
  obtain ⟨u, rfl, rx⟩ : ∃ u, us = [u] ∧ RelV x u := by
    cases r with
    | cons r1 r2 => cases r2; exact ⟨_, rfl, r1⟩
  obtain ⟨as, rd⟩ := Dp.reads I d x u hD rx
  have refs : ∀ a, x = .ref a → wpAny (model X.prog X.w) X.A (call (.builtin "repr") [u]) (EP X pins σ Q) X.xe s := fun a e => by
    subst e
    have e2 : u = .ref a := rx
    subst e2
    exact repr_of_reads' rd hs (PyData.noDict_hsm hd) g (by omega) (fun _ _ e => e) (fun h' v tk hk => ⟨.str _, H, I.kept hk, ⟨_, rfl⟩, q⟩) hz
  cases hD with
  | non =>
    have e2 : u = .none := rx
    subst e2
    exact PySem.P.repr_of_none ⟨.str _, H, I.tok _, ⟨_, rfl⟩, q⟩
  | bl b =>
    have e2 : u = .bool b := rx
    subst e2
    refine PySem.P.repr_of_bool ⟨.str _, H, I.tok _, ⟨_, rfl⟩, ?_⟩
    cases b <;> exact q
  | int i =>
    obtain ⟨t, rfl⟩ := rx
    exact PySem.P.repr_of_int (of_decide_eq_true hs) ⟨.str _, H, I.tok _, ⟨_, rfl⟩, q⟩
  | str z =>
    obtain ⟨t, rfl⟩ := rx
    exact PySem.P.repr_of_str ⟨.str _, H, I.tok _, ⟨_, rfl⟩, q⟩ hz
  | lst h1 h2 => exact refs _ rfl
  | tup h1 h2 => exact refs _ rfl

/-- sorted of a list of data, all of one shape -/
def rSortG (K : PySem.W.Frag) {β : Type} (val : β → V) (enc : β → PyData) : List V → Hp → VK → Prop := fun vs H Q => ∃ (a : Addr) (bs : List β), vs = [V.ref a] ∧ SqL K H a (bs.map val) ∧
  (∀ b ∈ bs, Dp K H (val b) (enc b) ∧ (enc b).depth ≤ 60) ∧ PySem.W.AllAlike (bs.map enc) ∧ PySem.W.Sortable (bs.map enc) ∧ bs.length ≤ sizeLine ∧
  ∀ p, H p = none → Q (.ref p) (upd H p (.lst ((bs.mergeSort (PySem.W.dataLe false enc)).map val)))
theorem each_vals {β : Type} {val : β → V} : ∀ {bs : List β} {us : List Value}, Vals (bs.map val) us → PySem.W.EachIs (fun u b => RelV (val b) u) us bs
  | [], _, .nil => .nil
  | _ :: _, _, .cons r t => .cons r (each_vals t)
theorem vals_each {β : Type} {val : β → V} : ∀ {bs : List β} {us : List Value}, PySem.W.EachIs (fun u b => RelV (val b) u) us bs → Vals (bs.map val) us
  | _, _, .nil => .nil
  | _, _, .cons r t => .cons r (vals_each t)
theorem each_mem {α β : Type} {R S : α → β → Prop} : ∀ {as : List α} {bs : List β}, PySem.W.EachIs R as bs → (∀ a b, b ∈ bs → R a b → S a b) → PySem.W.EachIs S as bs
  | _, _, .nil, _ => .nil
  | _, _, .cons r t, f => .cons (f _ _ List.mem_cons_self r) (each_mem t fun a b hb => f a b (List.mem_cons_of_mem _ hb))
theorem cr_sortG {β : Type} {val : β → V} {enc : β → PyData} (hu : X.A.units + 64 < cLine) : CallR X (.builtin "sorted") (rSortG X.K val enc) := by
  intro pins s σ H xs us Q I r h
  obtain ⟨a, bs, rfl, hL, hD, hal, hk, hz, q⟩ := h
  obtain ⟨u, rfl, rx⟩ : ∃ u, us = [u] ∧ RelV (.ref a) u := by
    cases r with
    | cons r1 r2 => cases r2; exact ⟨_, rfl, r1⟩
  have e2 : u = .ref a := rx
  subst e2
  obtain ⟨its, rv, pl, hz'⟩ := I.list hL
  have ev := each_vals rv
  have er : PySem.W.EachIs (fun v b => ∃ as, Reads s.heap v (enc b) as) its bs := each_mem ev fun v b hb rb => Dp.reads I (enc b) (val b) v (hD b hb).1 rb
  refine PySem.W.sorted_data pl.isList ev er hal hk hz (fun b hb => by have := (hD b hb).2; omega) fun out ho eo => ?_
  obtain ⟨n, hat⟩ := sortedAll_at s.heap its out.toArray
  have rout : Vals ((bs.mergeSort (PySem.W.dataLe false enc)).map val) out := vals_each eo
  have hlen : ((bs.mergeSort (PySem.W.dataLe false enc)).map val).length ≤ sizeLine := by rw [rout.length, ho]; exact hz
  have hf : H (s.heap.objs.size + 1) = none := I.hok.fresh (Nat.le_succ _)
  exact ⟨.ref (s.heap.objs.size + 1), upd H (s.heap.objs.size + 1) (.lst _), I.laid (t' := s.toks) (fun b o e => sortedAll_old e) (Nat.le_succ _) ⟨hlen, out, n, rout, hat⟩, rfl, q _ hf⟩
end

/-! ### the end of a law -/
section
variable {P : Program} {w : World} {K : PySem.W.Frag} {mg mb : Str → Option Value} {k : Nat} {fa a : Addr} {cs : List (Addr × Addr)} {fd : FuncData} {x : Str} {sp : Sp} {s₁ : Shared} {vs : List Value} {ns : List Int}
abbrev scriptObj (vs : List Value) : Obj := { cls := .type "list", data := .seq vs.toArray }
abbrev tabObj : Obj := { cls := .none, data := .fields #[] }
/-- the law's call from a heap in which the script and the tables alone are told -/
theorem law_from (H : Hp) (hT : ∀ p ∈ cs, H p.2 = some (.tbl #[])) (hall : ∀ b u, H b = some u → (b ∈ cs.map Prod.snd ∧ u = .tbl #[]) ∨ (b = a ∧ K.lookup a = none ∧ u = .frz (scriptObj vs) (.lst (ns.map V.int))))
    (KX : K.In s₁.heap) (hns : s₁.heap.Ns mainGlobals mg) (hb : s₁.heap.Ns builtinsNs mb) (hbb : ∀ x : Str, x ≠ "__name__" → mb x = bootBuiltins x) (hlim : s₁.heap.NoLimit) (hg : s₁.gens = #[])
    (tabs : ∀ p ∈ cs, s₁.heap.get? p.2 = some tabObj ∧ K.lookup p.2 = none ∧ PySem.W.CodeHd s₁.heap p.1 p.2)
    (hbm : ∃ (bm : Addr) (ob : Obj), mg "__builtins__" = some (.ref bm) ∧ bm ≠ builtinsNs ∧ s₁.heap.get? bm = some ob ∧ ob.cls = .type "module" ∧ ob.dict = some builtinsNs ∧ ob.data = .plain)
    (ha : s₁.heap.get? a = some (scriptObj vs)) (rv : Vals (ns.map V.int) vs) (hl : ns.length ≤ sizeLine) (hS : SqL K H a (ns.map V.int)) (hr : Room k callerA)
    (F : ∀ base : Heap, K.In base → base.Ns mainGlobals mg → (∀ p ∈ cs, TabB base mg p.1 p.2) → FnG P w K mg base CX0 k fa fd [x] sp) (hbind : ∀ (s : Shared) (u : Value), BindsTo s fd ⟨[u], []⟩ [(x, u)])
    (hsp : sp [.ref a] H (fun v _ => v = .bl true) E0) :
    codeAny (model P w) callerA (.call (.ref fa) ⟨[.ref a], []⟩) (fun r s' => r = .ok (.ret (.bool true)) ∧ OldK s₁.heap s'.heap ∧ s'.os = s₁.os ∧ AllBare s'.gens) s₁ := by
  have isT : ∀ b ∈ cs.map Prod.snd, s₁.heap.get? b = some tabObj := fun b h => by
    obtain ⟨p, hp, rfl⟩ := List.mem_map.mp h
    exact (tabs p hp).1
  -- what is of another kind is not told of
  have un : ∀ {b : Addr} {o : Obj}, s₁.heap.get? b = some o → o.data ≠ (scriptObj vs).data → o.data ≠ tabObj.data → H b = none := fun {b o} e n1 n2 => by
    cases q : H b with
    | none => rfl
    | some u =>
      rcases hall b u q with ⟨hm, _⟩ | ⟨rfl, _, _⟩
      · rw [isT b hm] at e
        exact (n2 (by rw [← Option.some.inj e])).elim
      · rw [ha] at e
        exact (n1 (by rw [← Option.some.inj e])).elim
  have unD : ∀ {b : Addr} {o : Obj} {es : Array DictEntry} {ep : Nat}, s₁.heap.get? b = some o → o.data = .dict es ep → H b = none := fun e d => un e (fun z => by rw [d] at z; cases z) fun z => by rw [d] at z; cases z
  have nsK : ∀ {b : Addr} {m : Str → Option Value}, s₁.heap.Ns b m → (hidT s₁.heap H).Ns b m := fun ⟨o, es, ep, e, d, r⟩ => ⟨o, es, ep, hidT_get e (unD e d), d, r⟩
  have hKb : K.In (hidT s₁.heap H) := fun b o e => hidT_get (KX b o e) (by
    cases q : H b with
    | none => rfl
    | some u =>
      rcases hall b u q with ⟨hm, _⟩ | ⟨rfl, hk, _⟩
      · obtain ⟨p, hp, rfl⟩ := List.mem_map.mp hm
        rw [(tabs p hp).2.1] at e
        cases e
      · rw [hk] at e
        cases e)
  have hok : HOk P w H s₁.heap := fun b u q => by
    rcases hall b u q with ⟨hm, rfl⟩ | ⟨rfl, _, rfl⟩
    · exact isT b hm
    · exact ⟨ha, by rw [List.length_map]; exact hl, vs, _, rv, ha⟩
  have TB : ∀ p ∈ cs, TabB (hidT s₁.heap H) mg p.1 p.2 := fun p hp => by
    obtain ⟨t1, t2, o, us, file, tf, flags, tg, inF, text, tt, e1, r1, r2, r3, rr⟩ := tabs p hp
    have nMain : mainGlobals ≠ p.2 := fun z => by
      obtain ⟨o, es, ep, e, d, _⟩ := hns
      rw [z, t1] at e
      cases e
      cases d
    refine ⟨⟨o, us, file, tf, flags, tg, inF, text, tt, hidT_get e1 (un e1 (fun z => ?_) fun z => ?_), r1, r2, r3, rr⟩, ?_, nMain⟩
    · rw [r2] at z
      cases z
    · rw [r2] at z
      cases z
      simp at r3
    · obtain ⟨bm, ob, b1, b2, b3, b4, b5, b6⟩ := hbm
      refine ⟨bm, ob, b1, b2, fun z => ?_, fun z => ?_, hidT_get b3 (un b3 (fun z => ?_) fun z => ?_), b4, b5, b6⟩
      · obtain ⟨o, es, ep, e, d, _⟩ := hns
        rw [z, e] at b3
        cases b3
        rw [d] at b6
        cases b6
      · rw [z, t1] at b3
        cases b3
        cases b6
      · rw [b6] at z
        cases z
      · rw [b6] at z
        cases z
  have lim2 : (hidT s₁.heap H).NoLimit := hlim.elim fun mc h => ⟨mc, nsK h.1, h.2⟩
  have e0 : Env0 P w K mg (hidT s₁.heap H) callerA [] s₁ H :=
    { frames := rfl, mod := ⟨hKb, nsK hns, ⟨mb, nsK hb, hbb⟩, lim2⟩, bs := fun b o e => of_hidT e, bsz := Nat.le_of_eq (hidT_size _ _), funs := trivial, frf := fun b hb => absurd (show b ∈ ([] : List Addr) from hb) (by simp), hok := hok, bare := .of_eq hg }
  refine codeAny_mono ((F _ hKb (nsK hns) TB).runs callerA [] s₁ H ⟨[.ref a], []⟩ [.ref a] [.ref a] _ _ rfl hr e0 (hbind s₁ (.ref a)) (.cons rfl .nil) hsp) fun r s' h => ?_
  match r, h with
  | .ok (.ret u), h =>
    obtain ⟨v, H', os, bare, U, hok', ru, ev⟩ := h
    subst ev
    have eu : u = .bool true := ru
    subst eu
    have kept : ∀ b o, b ∉ cs.map Prod.snd → s₁.heap.get? b = some o → s'.heap.get? b = some o := fun b o nb e => by
      cases q : H b with
      | none => exact U.keep b o e q (fun z => absurd (show b ∈ ([] : List Addr) from z) (by simp)) (by simp)
      | some u =>
        rcases hall b u q with ⟨hm, _⟩ | ⟨rfl, _, rfl⟩
        · exact (nb hm).elim
        · obtain ⟨e1, _⟩ := hok b _ q
          obtain ⟨e2, _⟩ := hok' b _ (U.frzs b _ _ q)
          rw [e] at e1
          rw [e1]
          exact e2
    have grown : ∀ p ∈ cs, ∃ more : Array Value, s'.heap.get? p.2 = some { cls := .none, data := .fields more } := fun p hp => by
      obtain ⟨more, z⟩ := U.tbls p.2 #[] (hT p hp)
      exact ⟨_, hok' p.2 _ z⟩
    refine ⟨rfl, ⟨fun b o e => ?_, fun b o e => ?_⟩, os, bare⟩
    · by_cases hm : b ∈ cs.map Prod.snd
      · obtain ⟨p, hp, rfl⟩ := List.mem_map.mp hm
        obtain ⟨more, hmore⟩ := grown p hp
        rw [(tabs p hp).1] at e
        cases e
        exact .inr (.inl ⟨((tabs p hp).2.2.tab (tabs p hp).1).isCodeTable, rfl, #[], more, rfl, by rw [Array.empty_append]; exact hmore⟩)
      · exact .inl (kept b o hm e)
    · by_cases hm : b ∈ cs.map Prod.snd
      · obtain ⟨p, hp, rfl⟩ := List.mem_map.mp hm
        exact (grown p hp).elim fun more h => ⟨_, h⟩
      · exact ⟨o, kept b o hm e⟩
/-- what is known of the law's promise at the heap h behind the top -/
def LawG (l : PySem.W.OpenLaw) (w : World) (K : PySem.W.Frag) (k n : Nat) (x : Str) (mg : Str → Option Value) (fa : Addr) (h : Heap) : Prop :=
  ∃ (fd : FuncData) (cs : List (Addr × Addr)) (sp : Sp), (∀ p ∈ cs, h.get? p.2 = some tabObj ∧ K.lookup p.2 = none ∧ PySem.W.CodeHd h p.1 p.2) ∧ (∀ (s : Shared) (u : Value), BindsTo s fd ⟨[u], []⟩ [(x, u)]) ∧
    (∀ (H : Hp) (a : Addr) (ns : List Int), ns.length ≤ n → (∀ z ∈ ns, Builtin.Int.intBits z ≤ 1048576) → (∀ p ∈ cs, H p.2 = some (.tbl #[])) → SqL K H a (ns.map V.int) → sp [.ref a] H (fun v _ => v = .bl true) E0) ∧
    ∀ base : Heap, K.In base → base.Ns mainGlobals mg → (∀ p ∈ cs, TabB base mg p.1 p.2) → FnG l.prog w K mg base CX0 k fa fd [x] sp
theorem walk_G {l : PySem.W.OpenLaw} {n k : Nat} {q : Program} {loose : List Str} {XP : (Str → Option Value) → Heap → Prop} {YP : World → Heap → Prop} {d : DefRec} {K : Params → PySem.W.Frag} {x : Str}
    (hn : l.most = some n) (hn2 : n ≤ sizeLine) (hdf : d.params.defaults = []) (hr : Room k callerA) (hY : ∀ (w : World) (h : Heap), YP w h → (K w.params).In h)
    (F : ∀ (w : World) (mg : Str → Option Value) (fa : Addr) (h : Heap), YP w h → (K w.params).In h → h.Ns mainGlobals mg → mg d.name = some (.ref fa) → LawG l w (K w.params) k n x mg fa h) :
    PySem.W.WalkO q loose XP YP l.row.toRowW d [] (fun f vs => PySem.call f vs) := by
  refine Att.attach_callB hn hdf fun w s₀ s₁ mg mb fa o pm cd doc a vs ns G Y ho hd hcd hmg hobj hints hlen hbits hg => ?_
  have KX := hY w _ Y
  obtain ⟨fd, cs, sp, hT, hb, hsp, hF⟩ := F w mg fa _ Y KX G.T.g hmg
  have aT : a ∉ cs.map Prod.snd := fun z => by
    obtain ⟨p, hp, e⟩ := List.mem_map.mp z
    have q := (hT p hp).1
    rw [e, hobj] at q
    have z' : Data.seq vs.toArray _ = Data.fields #[] := congrArg Obj.data (Option.some.inj q)
    cases z'
  have rv := vals_ints hints
  cases hk : (K w.params).lookup a with
  | some o2 =>
    have e := KX a o2 hk
    rw [hobj] at e
    cases e
    have sl : SqL (K w.params) (fun b => if b ∈ cs.map Prod.snd then some (.tbl #[]) else none) a (ns.map V.int) :=
      .inr ⟨_, vs.toArray, _, hk, rfl, rfl, rfl, by rw [List.size_toArray, hints.length]; exact Nat.le_trans hlen hn2, by simpa using rv⟩
    have hT' : ∀ p ∈ cs, (fun b => if b ∈ cs.map Prod.snd then some (HO.tbl #[]) else none) p.2 = some (.tbl #[]) := fun p hp => if_pos (List.mem_map.mpr ⟨p, hp, rfl⟩)
    refine law_from _ hT' (fun b u z => ?_) KX G.T.g G.T.b G.T.builtins G.T.nolimit hg hT G.T.bmain hobj rv (Nat.le_trans hlen hn2) sl hr hF hb (hsp _ a ns hlen hbits hT' sl)
    by_cases hm : b ∈ cs.map Prod.snd
    · exact .inl ⟨hm, Option.some.inj (z.symm.trans (if_pos hm))⟩
    · have z' := z.symm.trans (if_neg hm)
      cases z'
  | none =>
    have sl : SqL (K w.params) (fun b => if b = a then some (.frz (scriptObj vs) (.lst (ns.map V.int))) else if b ∈ cs.map Prod.snd then some (.tbl #[]) else none) a (ns.map V.int) := .inl (.inr ⟨scriptObj vs, if_pos rfl⟩)
    have hT' : ∀ p ∈ cs, (fun b => if b = a then some (HO.frz (scriptObj vs) (.lst (ns.map V.int))) else if b ∈ cs.map Prod.snd then some (.tbl #[]) else none) p.2 = some (.tbl #[]) := fun p hp =>
      (if_neg (show ¬ p.2 = a from fun z => aT (by rw [← z]; exact List.mem_map.mpr ⟨p, hp, rfl⟩))).trans (if_pos (List.mem_map.mpr ⟨p, hp, rfl⟩))
    refine law_from _ hT' (fun b u z => ?_) KX G.T.g G.T.b G.T.builtins G.T.nolimit hg hT G.T.bmain hobj rv (Nat.le_trans hlen hn2) sl hr hF hb (hsp _ a ns hlen hbits hT' sl)
    by_cases hm : b = a
    · exact .inr ⟨hm, hk, Option.some.inj (z.symm.trans (if_pos hm))⟩
    · have z1 := z.symm.trans (if_neg hm)
      by_cases hm2 : b ∈ cs.map Prod.snd
      · exact .inl ⟨hm2, Option.some.inj (z1.trans (if_pos hm2))⟩
      · have z' := z1.trans (if_neg hm2)
        cases z'
end
end Gx

/-! set( ) of a list of keys of any kind, fewer than 4,000; len(set( )) of a list of texts -/
namespace Gx
open PySem PySem.Spec PyProof.Rows L2 GxR GenW
/-- the unlike ones, in their order -/
def uq {κ : Type} [DecidableEq κ] : List κ → List κ → List κ
  | acc, [] => acc
  | acc, x :: r => uq (if x ∈ acc then acc else acc ++ [x]) r
theorem uq_append {κ : Type} [DecidableEq κ] : ∀ (l acc : List κ) (x : κ), uq acc (l ++ [x]) = if x ∈ uq acc l then uq acc l else uq acc l ++ [x]
  | [], acc, x => rfl
  | y :: r, acc, x => uq_append r _ x
theorem uq_len {κ : Type} [DecidableEq κ] : ∀ (l acc : List κ), (uq acc l).length ≤ acc.length + l.length
  | [], acc => Nat.le_refl _
  | x :: r, acc => by
    have h := uq_len r (if x ∈ acc then acc else acc ++ [x])
    have e : (if x ∈ acc then acc else acc ++ [x]).length ≤ acc.length + 1 := by split <;> simp
    show (uq _ r).length ≤ acc.length + (r.length + 1)
    omega
theorem uq_mem {κ : Type} [DecidableEq κ] : ∀ (l acc : List κ) (k : κ), k ∈ uq acc l ↔ k ∈ acc ∨ k ∈ l
  | [], acc, k => by simp [uq]
  | x :: r, acc, k => by
    show k ∈ uq (if x ∈ acc then acc else acc ++ [x]) r ↔ _
    rw [uq_mem r]
    by_cases h : x ∈ acc
    · rw [if_pos h]
      constructor
      · rintro (h1 | h1)
        · exact .inl h1
        · exact .inr (List.mem_cons_of_mem _ h1)
      · rintro (h1 | h1)
        · exact .inl h1
        · rcases List.mem_cons.mp h1 with e | h2
          · exact .inl (e ▸ h)
          · exact .inr h2
    · rw [if_neg h]
      simp only [List.mem_append, List.mem_cons, List.not_mem_nil, or_false]
      constructor
      · rintro ((h1 | h1) | h1)
        · exact .inl h1
        · exact .inr (.inl h1)
        · exact .inr (.inr h1)
      · rintro (h1 | h1 | h1)
        · exact .inl (.inl h1)
        · exact .inl (.inr h1)
        · exact .inr h1
theorem uq_nodup {κ : Type} [DecidableEq κ] : ∀ (l acc : List κ), (acc ++ l).Nodup → uq acc l = acc ++ l
  | [], acc, _ => by simp [uq]
  | x :: r, acc, h => by
    have hx : x ∉ acc := fun hm => by
      rw [List.nodup_append] at h
      exact h.2.2 x hm x List.mem_cons_self rfl
    show uq (if x ∈ acc then acc else acc ++ [x]) r = _
    rw [if_neg hx]
    have e : acc ++ x :: r = (acc ++ [x]) ++ r := by simp
    rw [e] at h ⊢
    exact uq_nodup r _ h
theorem uq_short {κ : Type} [DecidableEq κ] : ∀ (l acc : List κ), acc.Nodup → ¬ (acc ++ l).Nodup → (uq acc l).length < acc.length + l.length
  | [], acc, h, h2 => absurd (by simpa using h) h2
  | x :: r, acc, h, h2 => by
    show (uq (if x ∈ acc then acc else acc ++ [x]) r).length < acc.length + (r.length + 1)
    by_cases hx : x ∈ acc
    · rw [if_pos hx]
      have := uq_len r acc
      omega
    · rw [if_neg hx]
      have hn : (acc ++ [x]).Nodup := by
        rw [List.nodup_append]
        refine ⟨h, by simp, fun a ha b hb => ?_⟩
        have e : b = x := by simpa using hb
        rw [e]
        exact fun z => hx (z ▸ ha)
      have e : acc ++ x :: r = (acc ++ [x]) ++ r := by simp
      rw [e] at h2
      have := uq_short r (acc ++ [x]) hn h2
      rw [List.length_append, List.length_singleton] at this
      omega

section
variable {prog : Program} {w : World} {A : Around} {κ : Type} [DecidableEq κ] {knd : PySem.KeyKind prog w κ}
/-- the loop that fills it -/
theorem fill_set {R : Result → Shared → Prop} {it : Addr} {fp wr : List Addr} {G : Array GenState → Array GenState → Prop} {n : Nat} {P : Nat → Value → Prop} {St : Nat → Shared → Prop} (W : WalksS prog w A.in1 it fp wr G n P St) {Z : Addr} (zf : Z ∉ fp)
    (ks : List κ) (hn : ks.length = n) (hv : ∀ (i : Nat) (v : Value), P i v → v.scannable = true ∧ ∃ k, ks[i]? = some k ∧ knd.is k v = true) (hb : n + 1 < scanBound) :
    ∀ (m i : Nat) (s : Shared), n = i + m → St i s → s.heap.SetOf knd Z (fun k => decide (k ∈ ks.take i)) (uq [] (ks.take i)).length →
      (∀ s', Moved (Z :: wr) G s s' → s'.heap.SetOf knd Z (fun k => decide (k ∈ ks)) (uq [] ks).length → R (.ok (.ret .none)) s') →
      codeAny (model prog w) A (.builtin "set.update.loop" ⟨[.ref Z, .ref it], []⟩) R s := by
  have zw : Z ∉ wr := fun z => zf (W.sub _ z)
  have more : ∀ b ∈ wr, b ∈ Z :: wr := fun b hb => List.mem_cons_of_mem _ hb
  have stays : ∀ {s s' : Shared} {T : κ → Bool} {c : Nat}, Moved wr G s s' → s.heap.SetOf knd Z T c → s'.heap.SetOf knd Z T c := fun mv ⟨o, es, ep, tb, ho, r⟩ => ⟨o, es, ep, tb, mv.heap Z _ zw ho, r⟩
  intro m
  induction m with
  | zero =>
    intro i s hi hst hS hR
    have e1 : i = n := by omega
    subst e1
    have e2 : ks.take ks.length = ks := List.take_length
    refine codeAny_builtin PyProof.Rows.F.entry_set_update_loop ?_
    rw [Around.under_plainId PyProof.Rows.F.plain_set_update_loop _]
    show wpAny (model prog w) A.in1 (pyNext (.ref it) >>= _) _ _ s
    refine wpAny_bind (W.done s _ _ hst fun s' mv => ?_)
    show wpAny (model prog w) A.in1 (ret Value.none) _ _ s'
    refine wpAny_pure (hR s' (mv.mono more) ?_)
    have q := stays mv hS
    rw [← hn, e2] at q
    exact q
  | succ m ih =>
    intro i s hi hst hS hR
    have il : i < n := by omega
    refine codeAny_builtin PyProof.Rows.F.entry_set_update_loop ?_
    rw [Around.under_plainId PyProof.Rows.F.plain_set_update_loop _]
    show wpAny (model prog w) A.in1 (pyNext (.ref it) >>= _) _ _ s
    refine wpAny_bind (W.item i s _ _ il hst fun v s' hP hst' mv => ?_)
    obtain ⟨hsc, k, hk, his⟩ := hv i v hP
    have hS' := stays mv hS
    show wpAny (model prog w) A.in1 (holding [v] (setAdd Z v) >>= _) _ _ s'
    refine wpAny_bind (wpAny_holding ?_)
    unfold setAdd
    refine wpAny_holding (wpAny_bind (knd.pyHash his ?_))
    have room : (uq [] (ks.take i)).length + 1 < scanBound := by
      have h1 := uq_len (ks.take i) ([] : List κ)
      have h2 : (ks.take i).length ≤ i := by rw [List.length_take]; omega
      simp only [List.length_nil] at h1
      omega
    refine wpAny_setAddHashed_of (knd := knd) (s := { s' with toks := s'.toks + 1 }) his hsc hS' room fun h' sb hS2 => ?_
    have et : ks.take (i + 1) = ks.take i ++ [k] := by rw [List.take_add_one, hk]; rfl
    have hS3 : h'.SetOf knd Z (fun k => decide (k ∈ ks.take (i + 1))) (uq [] (ks.take (i + 1))).length := by
      have e1 : (fun k' => decide (k' ∈ ks.take i) || decide (k' = k)) = fun k' => decide (k' ∈ ks.take (i + 1)) := by
        funext k'
        rw [et]
        by_cases c1 : k' ∈ ks.take i <;> by_cases c2 : k' = k <;> simp [c1, c2]
      have e2 : (if decide (k ∈ ks.take i) = true then (uq [] (ks.take i)).length else (uq [] (ks.take i)).length + 1) = (uq [] (ks.take (i + 1))).length := by
        rw [et, uq_append]
        by_cases c : k ∈ ks.take i
        · have c2 : k ∈ uq [] (ks.take i) := (uq_mem _ _ _).mpr (.inr c)
          rw [if_pos c2, if_pos (decide_eq_true c)]
        · have c2 : k ∉ uq [] (ks.take i) := fun z => by
            rcases (uq_mem _ _ _).mp z with y | y
            · cases y
            · exact c y
          rw [if_neg c2, if_neg (by simpa using c), List.length_append, List.length_singleton]
      rw [← e1, ← e2]
      exact hS2
    have same : ∀ b o, b ≠ Z → s'.heap.get? b = some o → h'.get? b = some o := fun b o hb e => by rw [sb.2 b hb]; exact e
    refine wpAny_pure ⟨plainId_quiet PyProof.Rows.F.plain_set_update_loop _, ih (i + 1) _ (by omega) (W.frame _ s' _ _ hst' (Nat.le_succ _) fun b hb o e => same b o (fun z => zf (z ▸ hb)) e) hS3 fun s'' mv2 hS4 => ?_⟩
    exact hR s'' (Moved.trans W.gtrans ((mv.mono more).then_heap (Nat.le_succ _) fun b o hb e => same b o (fun z => hb (by rw [z]; exact List.mem_cons_self)) e) mv2) hS4

/-- set(l), l a list of keys -/
theorem set_of_list {E : Value → Shared → Prop} {s : Shared} {l : Addr} {items : Array Value} {ks : List κ} {Q : Value → Shared → Prop} (hh : A.handled = none) (hl : s.heap.IsList l items) (hn : ks.length = items.size)
    (hv : ∀ (i : Nat) (v : Value), items[i]? = some v → v.scannable = true ∧ ∃ k, ks[i]? = some k ∧ knd.is k v = true) (hb : items.size + 1 < scanBound)
    (h : ∀ (h' : Heap) (tk : Nat), h'.SetOf knd s.heap.objs.size (fun k => decide (k ∈ ks)) (uq [] ks).length → (∀ b o, s.heap.get? b = some o → h'.get? b = some o) → Q (.ref s.heap.objs.size) { s with heap := h', toks := tk }) :
    wpAny (model prog w) A (call (.type "set") [.ref l]) Q E s := by
  obtain ⟨c0, tl0, mro0⟩ := PySem.F.called_set.mro
  have made0 := PySem.F.called_set.made; have sub0 := PySem.F.called_set.sub
  have nt0 := PySem.F.called_set.notType; have cc0 := PySem.F.called_set.canCreate
  have tc0 := PySem.F.typeCall_set_1 (.ref l)
  refine wpAny_call (codeAny_of_tree ?_)
  show wpAny (model prog w) _ (callAny (.type "set") _) _ _ _
  refine wpAny_pure ⟨Code.quiet_builtin _ (by decide +kernel), codeAny_builtin PySem.F.entry_type_call ?_⟩
  rw [Around.under_plain (weight_type_call_type "set" [.ref l] []) rfl]
  repeat any_goals first | assumption | wp_step
  refine codeAny_mono (code_set_new_1 (.ref l) (E := E) (Q₁ := fun z t => ∃ led : Bool, z = .ref s.heap.objs.size ∧ t = { s with heap := s.heap.push { cls := .type "set", dict := none, data := .set #[] 0 (.fresh 0 0 led) } }) fun led => ⟨led, rfl, rfl⟩) fun r1 t1 q1 => ?_
  match r1, q1 with
  | .error e, q1 => exact q1
  | .ok (.ret z), q1 =>
    obtain ⟨led, rfl, rfl⟩ := q1
    have gS : (s.heap.push { cls := .type "set", dict := none, data := .set #[] 0 (.fresh 0 0 led) }).get? s.heap.objs.size = some { cls := .type "set", dict := none, data := .set #[] 0 (.fresh 0 0 led) } := Heap.get?_push_size _ rfl
    have tS : Shared.TypeIs { s with heap := s.heap.push { cls := .type "set", dict := none, data := .set #[] 0 (.fresh 0 0 led) } } (.ref s.heap.objs.size) "set" := ⟨_, gS, rfl⟩
    have li := PySem.F.called_set.init.lookup; have bi := PySem.F.called_set.init.bind (.ref s.heap.objs.size)
    repeat any_goals first | assumption | wp_step
    refine codeAny_mono (codeAny_call_builtin (R := wants (fun r t => r = .none ∧ ∃ h' tk, t = { s with heap := h', toks := tk } ∧ h'.SetOf knd s.heap.objs.size (fun k => decide (k ∈ ks)) (uq [] ks).length ∧
        ∀ b o, s.heap.get? b = some o → h'.get? b = some o) E) PySem.F.called_set.init.plain PySem.F.entry_set_init (check_set_init_1 tS ?_)) fun r2 t2 q2 => ?_
    · obtain ⟨ol, gl, cl, nl, dl⟩ := hl
      obtain ⟨oc, od, ot, os⟩ := ol
      simp only at cl dl
      subst cl; subst dl
      have ll : l < s.heap.objs.size := Heap.lt_size gl
      have gl' : (s.heap.push { cls := .type "set", dict := none, data := .set #[] 0 (.fresh 0 0 led) }).get? l = some { cls := .type "list", dict := od, data := .seq items nl, slots := os } := Heap.get?_push_of_some _ gl
      have il : (s.heap.push { cls := .type "set", dict := none, data := .set #[] 0 (.fresh 0 0 led) }).IsList l items := ⟨_, gl', rfl, nl, rfl⟩
      have s1 := PySem.F.sub_list_set; have s2 := PySem.F.sub_list_frozenset
      have nd : (Value.type "list" == Value.type "dict") = false := by decide
      unfold Builtin.«set.__init__» noKeywords Builtin.Frozenset.updateFrom
      generalize hp : pyIter = pI
      wp_walk
      subst hp
      refine wpAny_pyIter_list il (wpAny_bind (wpAny_runValue ?_))
      have h3 : A.in1.in1.in1.handled = none := by simp [hh]
      have ni : l ≠ (s.heap.push { cls := .type "set", dict := none, data := .set #[] 0 (.fresh 0 0 led) }).objs.size := by rw [Heap.size_push]; exact Nat.ne_of_lt (Nat.lt_succ_of_lt ll)
      have zf : s.heap.objs.size ∉ [(s.heap.push { cls := .type "set", dict := none, data := .set #[] 0 (.fresh 0 0 led) }).objs.size, l] := by
        rw [Heap.size_push]; simp only [List.mem_cons, List.mem_singleton, List.not_mem_nil, or_false, not_or]
        exact ⟨Nat.ne_of_lt (Nat.lt_succ_self _), Nat.ne_of_gt ll⟩
      refine fill_set ((Walks.list h3 _ l ni items).toS) zf ks hn hv hb items.size 0 _ (by omega) ⟨⟨_, Heap.get?_push_size _ rfl, rfl, rfl⟩, il.push _⟩ ?_ fun t mv hS => ?_
      · have g2 : ((s.heap.push { cls := .type "set", dict := none, data := .set #[] 0 (.fresh 0 0 led) }).push { cls := .type "list_iterator", data := .fields #[.ref l, .int 0 0] }).get? s.heap.objs.size =
            some { cls := .type "set", dict := none, data := .set #[] 0 (.fresh 0 0 led) } := Heap.get?_push_of_some _ gS
        have q := (PyProof.Rows.setObjOf_fresh (knd := knd) led).setOf g2 (by unfold scanBound; omega)
        have e : (fun k => decide (k ∈ ks.take 0)) = fun _ : κ => false := by funext k; simp
        rw [e]
        exact q
      · obtain ⟨h', g', d', tk', os'⟩ := t
        obtain rfl : g' = s.gens := mv.gens
        obtain rfl : d' = s.drawn := mv.drawn
        obtain rfl : os' = s.os := mv.os
        show wpAny (model prog w) _ _ _ _ _
        refine wpAny_pure ?_
        show wpAny (model prog w) _ (ret Value.none) _ _ _
        refine wpAny_pure ⟨rfl, h', tk', rfl, hS, fun b o e => ?_⟩
        have lb := Heap.lt_size e
        refine mv.heap b o (fun z => ?_) (Heap.get?_push_of_some _ (Heap.get?_push_of_some _ e))
        rcases List.mem_cons.mp z with y | y
        · exact Nat.ne_of_lt lb y
        · rcases List.mem_cons.mp y with y | y
          · rw [Heap.size_push] at y
            exact Nat.ne_of_lt (Nat.lt_succ_of_lt lb) y
          · cases y
    · match r2, q2 with
      | .error e, q2 => exact q2
      | .ok (.ret r), q2 =>
        obtain ⟨rfl, h', tk, rfl, hS, hk⟩ := q2
        repeat any_goals first | assumption | wp_step
        exact h _ _ hS hk
end
end Gx
namespace Gx
open PySem PySem.Spec PyProof.Rows L2 GxR GenW
section
variable {X : Cx}
/-- len(set(xs)) of a list of texts -/
def tLenSetS (K : PySem.W.Frag) (ta : TE) : TE := fun σ H Q => ta σ H fun x H1 => ∃ (l : Addr) (xs : List Str), x = .ref l ∧ SqL K H1 l (xs.map V.str) ∧ xs.length ≤ 4000 ∧ Q (.int ((uq [] xs).length : Nat)) H1
theorem pe_lenSetS {a : Expr} {ta : TE} {p p2 q pos : Pos} (hg : Gl X "len") (hm : X.mg "len" = none) (hg2 : Gl X "set") (hm2 : X.mg "set" = none) (hh : X.A.handled = none) (ha : PE X a ta)
    (na : starEach [a] X.env = (false, eval a X.env) :: starEach [] X.env := by rfl) : PE X (.Call (.Name "len" p) [.Call (.Name "set" p2) [a] [] q] [] pos) (tLenSetS X.K ta) := by
  refine ⟨fun pins s σ H Q I h => Call_ (ld_blt I hg hm boot_len (PyProof.Rows.callWith_builtin1 (PyProof.Rows.args_cons (Call_ (ld_blt I hg2 hm2 boot_set ?_)) rfl) rfl rfl))⟩
  refine PyProof.Rows.callWith_type1 (PyProof.Rows.args_cons (thn (ha.run pins s σ H _ I h) fun v s1 h1 => PyProof.Rows.args_nil ?_) na) na rfl
  obtain ⟨x, H1, I1, r1, l, xs, rfl, hq, hz, q1⟩ := h1
  have e : v = .ref l := r1
  subst e
  obtain ⟨its, rv, pl, _⟩ := I1.list hq
  have hlen : xs.length = its.length := by have := rv.length; rw [List.length_map] at this; exact this
  refine set_of_list (knd := PySem.strKind X.prog X.w) hh pl.isList (ks := xs) (by rw [List.size_toArray]; exact hlen) (fun i v hv => ?_) (by rw [List.size_toArray, ← hlen]; unfold scanBound; omega) fun h' tk hS hk => ?_
  · have hv' : its[i]? = some v := by simpa using hv
    have hi : i < xs.length := by rw [hlen]; exact (List.getElem?_eq_some_iff.mp hv').1
    have e1 : (xs.map V.str)[i]? = some (V.str xs[i]) := by rw [List.getElem?_map, List.getElem?_eq_getElem hi]; rfl
    obtain ⟨u, hu, t, rfl⟩ := rv.get e1
    rw [hv'] at hu
    obtain rfl := Option.some.inj hu
    exact ⟨rfl, xs[i], List.getElem?_eq_getElem hi, PySem.strKind_is _ _ _ _⟩
  · obtain ⟨o, es, ep, t, ho, hex, hd, _, _, _, hf, hn⟩ := hS
    have I2 : Inv X pins σ H1 { s1 with heap := h', toks := tk } := I1.kept hk
    have hle : (uq ([] : List Str) xs).length ≤ 4000 := by have := uq_len xs ([] : List Str); simp only [List.length_nil] at this; omega
    exact PyProof.Rows.args_nil (call_len_set ho hex hd hf (by rw [hn]; omega) ⟨.int _, H1, I2.tok _, ⟨_, by rw [hn]⟩, q1⟩)
end
end Gx

/-! What else the programs want: powers, generator expressions by their scopes, what stays of a heap. -/
namespace Gx
open PySem PySem.Spec PyProof.Rows L2 GxR GenW
theorem bits_le {x : Int} {n : Nat} (h0 : 0 < n) (h : x.natAbs < 2 ^ n) : Builtin.Int.intBits x ≤ n := by
  have l := PySem.Flt.log2_lt_of h0 h
  unfold Builtin.Int.intBits
  split <;> omega
section
variable {X : Cx}
/-- ** of any base, together below 2 ^ 27 bits -/
def CPowX (i j : Int) : Prop := 0 ≤ j ∧ (Builtin.Int.intBits i : Int) * j ≤ 2 ^ 27
theorem op_powX : OpR X (binaryOp .Pow) (rI CPowX fun i j => .int (i ^ j.toNat)) := opI fun _ _ _ _ _ _ _ hc q => pow_int hc.1 hc.2 q
theorem room_gx {k : Nat} {s : Shared} {H : Hp} {sc : Scope} {C : Addr} {code : Value} {fp : List Addr} (r : Room (k + 3) X.A) : Room k (gcx X s H sc C code fp).A := r.in1.in1.deeper _
def gxC (sc : Scope) : Bool := (sc.names.all fun y => match y.2 with | .cell => false | _ => true) && (match sc.names.lookup (".0" : Str) with | some .local => true | _ => false) && !sc.isCoroutine
theorem gx_ok {gsc dsc : Scope} {own : List (Str × Nat)} {c P : Addr} {N : List Str} (tb : TabB X.base X.mg c P) (nd : N.Nodup) (b : blkC N dsc gsc own = true) (h2 : gxC gsc = true)
    (e1 : X.N = N := by rfl) (e2 : X.env.scope = dsc := by rfl) (e3 : X.env.code = .ref c := by rfl) : GxOk X gsc own c P := by
  unfold gxC at h2
  rw [Bool.and_eq_true, Bool.and_eq_true, List.all_eq_true] at h2
  refine ⟨tb, e3, ?_, by rw [e1]; exact nd, fun y hy e => ?_, ?_, ?_⟩
  · rw [e1, e2]
    exact blkOk_by b
  · have := h2.1.1 y hy
    rw [e] at this
    cases this
  · have := h2.1.2
    split at this
    · assumption
    · cases this
  · simpa using h2.2
end

/-! ### what stays -/
/-- all but tables and what stands at ex is as it was; tables may have grown -/
structure Grow (ex : List Addr) (H H' : Hp) : Prop where
  keep : ∀ b o, b ∉ ex → H b = some o → (∀ ps, o ≠ .tbl ps) → H' b = some o
  tabs : ∀ b, TabG H b → TabG H' b
theorem Grow.refl (ex : List Addr) (H : Hp) : Grow ex H H := ⟨fun _ _ _ e _ => e, fun _ t => t⟩
theorem Grow.trans {ex : List Addr} {H H1 H2 : Hp} (a : Grow ex H H1) (b : Grow ex H1 H2) : Grow ex H H2 := ⟨fun c o h e t => b.keep c o h (a.keep c o h e t) t, fun c t => b.tabs c (a.tabs c t)⟩
theorem Grow.mono {ex ex' : List Addr} {H H1 : Hp} (a : Grow ex H H1) (h : ∀ b ∈ ex, b ∈ ex') : Grow ex' H H1 := ⟨fun c o n e t => a.keep c o (fun z => n (h c z)) e t, a.tabs⟩
theorem Grow.any {ex : List Addr} {H H1 : Hp} (a : Grow [] H H1) : Grow ex H H1 := a.mono fun _ z => by cases z
theorem Grow.lst {ex : List Addr} {H H' : Hp} (a : Grow ex H H') {p : Addr} {xs : List V} (n : p ∉ ex) (h : H p = some (.lst xs)) : H' p = some (.lst xs) := a.keep p _ n h fun ps z => by cases z
theorem Grow.tup {ex : List Addr} {H H' : Hp} (a : Grow ex H H') {p : Addr} {xs : List V} (n : p ∉ ex) (h : H p = some (.tup xs)) : H' p = some (.tup xs) := a.keep p _ n h fun ps z => by cases z
theorem Grow.seq {K : PySem.W.Frag} {ex : List Addr} {H H' : Hp} (a : Grow ex H H') {p : Addr} {xs : List V} (n : p ∉ ex) (h : SqL K H p xs) : SqL K H' p xs := by
  rcases h with (h | ⟨o, h⟩) | h
  · exact .inl (.inl (a.lst n h))
  · exact .inl (.inr ⟨o, a.keep p _ n h fun ps z => by cases z⟩)
  · exact .inr h
theorem Grow.seq0 {K : PySem.W.Frag} {H H' : Hp} (a : Grow [] H H') {p : Addr} {xs : List V} (h : SqL K H p xs) : SqL K H' p xs := a.seq (by simp) h
/-- a new object -/
theorem grow_new {ex : List Addr} {H : Hp} {p : Addr} {o : HO} (h : H p = none) : Grow ex H (upd H p o) :=
  ⟨fun b u _ e _ => by rw [upd_ne (ne_of_none e h)]; exact e, fun b ⟨ps, e, t⟩ => ⟨ps, by rw [upd_ne (ne_of_none e h)]; exact e, t⟩⟩
/-- what stands at p, no table, is changed -/
theorem grow_at {ex : List Addr} {H : Hp} {p : Addr} {o u : HO} (h : H p = some u) (hu : ∀ ps, u ≠ .tbl ps) (hp : p ∈ ex) : Grow ex H (upd H p o) :=
  ⟨fun b v n e _ => by rw [upd_ne (show b ≠ p from fun z => n (by rw [z]; exact hp))]; exact e, fun b ⟨ps, e, t⟩ => ⟨ps, by rw [upd_ne (show b ≠ p from fun z => by rw [z, h] at e; exact hu ps (Option.some.inj e))]; exact e, t⟩⟩
theorem grow_tab {ex : List Addr} {P : Addr} {H H' : Hp} (h : TabG H P) (t : Tabbed P H H') : Grow ex H H' :=
  ⟨fun b o _ e no => by
    have n : b ≠ P := fun z => by
      obtain ⟨ps, e2, _⟩ := h
      rw [z, e2] at e
      exact no ps (Option.some.inj e).symm
    rw [t.2 b n]
    exact e, fun b ht => by
    by_cases z : b = P
    · rw [z]
      exact t.1
    · obtain ⟨ps, e, q⟩ := ht
      exact ⟨ps, by rw [t.2 b z]; exact e, q⟩⟩
/-- what was not told of before may be dropped from ex -/
theorem Grow.less {ex : List Addr} {p : Addr} {H H' : Hp} (a : Grow (p :: ex) H H') (h : H p = none) : Grow ex H H' :=
  ⟨fun b o n e t => a.keep b o (fun z => by
    rcases List.mem_cons.mp z with y | y
    · rw [y, h] at e
      cases e
    · exact n y) e t, a.tabs⟩
/-- nothing stood there, or a table did -/
def Fresh (H : Hp) (p : Addr) : Prop := ∀ o, H p = some o → ∃ ps, o = .tbl ps
theorem fresh_none {H : Hp} {p : Addr} (h : H p = none) : Fresh H p := fun o e => by
  rw [h] at e
  cases e
theorem Grow.fresh {ex : List Addr} {H H' : Hp} (a : Grow ex H H') {p : Addr} (n : p ∉ ex) (h : Fresh H' p) : Fresh H p := fun o e => by
  cases o with
  | tbl ps => exact ⟨ps, rfl⟩
  | _ => exact h _ (a.keep p _ n e (fun ps z => by cases z))
theorem Grow.fresh0 {H H' : Hp} (a : Grow [] H H') {p : Addr} (h : H' p = none) : Fresh H p := a.fresh (by simp) (fresh_none h)
theorem Fresh.ne {H : Hp} {p b : Addr} {o : HO} (n : Fresh H p) (h : H b = some o) (ho : ∀ ps, o ≠ .tbl ps) : b ≠ p := fun z => by
  rw [z] at h
  obtain ⟨ps, e⟩ := n o h
  exact ho ps e
/-- what is new may be changed -/
theorem Grow.put {ex : List Addr} {p : Addr} {o u : HO} {H H' : Hp} (a : Grow ex H H') (n : Fresh H p) (h : H' p = some u) (hu : ∀ ps, u ≠ .tbl ps) : Grow ex H (upd H' p o) :=
  ⟨fun b v z e t => by
    rw [upd_ne (n.ne e t)]
    exact a.keep b v z e t, fun b t => by
    obtain ⟨ps, e, q⟩ := a.tabs b t
    exact ⟨ps, by rw [upd_ne (show b ≠ p from fun z => by rw [z, h] at e; exact hu ps (Option.some.inj e))]; exact e, q⟩⟩
theorem Grow.drop {ex : List Addr} {p : Addr} {H H' : Hp} (a : Grow (p :: ex) H H') (n : Fresh H p) : Grow ex H H' :=
  ⟨fun b o nb e t => a.keep b o (fun z => by
    rcases List.mem_cons.mp z with y | y
    · exact n.ne e t y
    · exact nb y) e t, a.tabs⟩
theorem Grow.new {ex : List Addr} {p : Addr} {o : HO} {H H' : Hp} (a : Grow ex H H') (h : H' p = none) : Grow ex H (upd H' p o) := a.trans (grow_new h)
/-! ### data -/
mutual
theorem Dp.grow {K : PySem.W.Frag} {H H' : Hp} (a : Grow [] H H') : ∀ {x : V} {d : PyData}, Dp K H x d → Dp K H' x d
  | _, _, .non => .non
  | _, _, .bl b => .bl b
  | _, _, .int i => .int i
  | _, _, .str x => .str x
  | _, _, .lst h1 h2 => .lst (a.seq0 h1) (DpAll.grow a h2)
  | _, _, .tup h1 h2 => .tup (by
      rcases h1 with (h | ⟨o, h⟩) | h
      · exact .inl (.inl (a.keep _ _ (by simp) h fun ps z => by cases z))
      · exact .inl (.inr ⟨o, a.keep _ _ (by simp) h fun ps z => by cases z⟩)
      · exact .inr h) (DpAll.grow a h2)
theorem DpAll.grow {K : PySem.W.Frag} {H H' : Hp} (a : Grow [] H H') : ∀ {x : List V} {d : List PyData}, DpAll K H x d → DpAll K H' x d
  | _, _, .nil => .nil
  | _, _, .cons h t => .cons (Dp.grow a h) (DpAll.grow a t)
end
theorem dp_strs {K : PySem.W.Frag} {H : Hp} : ∀ xs : List Str, DpAll K H (xs.map V.str) (xs.map PyData.str)
  | [] => .nil
  | x :: r => .cons (.str x) (dp_strs r)
theorem dp_book {K : PySem.W.Frag} {H : Hp} {p : Addr} {xs : List Str} (h : SqL K H p (xs.map V.str)) : Dp K H (.ref p) (.list (xs.map PyData.str)) := .lst h (dp_strs xs)

theorem tyB_str {K : PySem.W.Frag} {H : Hp} {z : Str} {p : String → Prop} : (∃ U, TyB K H (.str z) U ∧ p U) ↔ p "str" := by
  constructor
  · rintro ⟨U, t, h⟩
    cases t
    exact h
  · exact fun h => ⟨_, .str z, h⟩
theorem tyB_int {K : PySem.W.Frag} {H : Hp} {z : Int} {p : String → Prop} : (∃ U, TyB K H (.int z) U ∧ p U) ↔ p "int" := by
  constructor
  · rintro ⟨U, t, h⟩
    cases t
    exact h
  · exact fun h => ⟨_, .int z, h⟩

/-! ### all( ), any( ) over items that are known -/
section
variable {sb : Bool} {g : TG} {te : TE} {vs : List Nat} {σ : L2.St} {Q : VK} {P : Addr} {J : It} {H1 : Hp}
theorem truth_by {items : List V} (Pv : Nat → Hp → Prop) (h0 : ∀ H2, Tabbed P H1 H2 → Pv 0 H2) (yld : ∀ i H x H', Pv i H → J.yld i H x H' → H' = H ∧ items[i]? = some x) (go : ∀ i H, i < items.length → Pv i H → J.go i H)
    (stop : ∀ H, Pv items.length H → J.stop items.length H) (step : ∀ i x H, items[i]? = some x → Pv i H → g x (wipe σ vs) H fun σ2 H2 => wipe σ2 vs = wipe σ vs ∧ te σ2 H2 fun y H4 => ∃ b, y = .bl b ∧ if b = sb then Q (.bl sb) H4 else Pv (i + 1) H4)
    (fin : ∀ H, Pv items.length H → Q (.bl (!sb)) H) : rTruth P sb g te vs σ Q J H1 := by
  refine fun H2 t => ⟨fun i m H => m = items.length - i ∧ i ≤ items.length ∧ Pv i H, ⟨_, rfl, Nat.zero_le _, h0 H2 t⟩, fun i m H hw => ?_⟩
  obtain ⟨rfl, hi, hp⟩ := hw
  by_cases hl : i < items.length
  · refine .inr ⟨go i H hl hp, Pv (i + 1), fun H' h' => ⟨items.length - (i + 1), by omega, rfl, hl, h'⟩, fun x H' hy => ?_⟩
    obtain ⟨rfl, hx⟩ := yld i H x H' hp hy
    exact step i x _ hx hp
  · have e : i = items.length := by omega
    subst e
    exact .inl ⟨stop H hp, fin H hp⟩
theorem truth_list {K : PySem.W.Frag} {a : Addr} {xs : List V} (Pv : Nat → Hp → Prop) (h0 : ∀ H2, Tabbed P H1 H2 → Pv 0 H2) (hl : ∀ i H, Pv i H → SqL K H a xs)
    (step : ∀ i x H, xs[i]? = some x → Pv i H → g x (wipe σ vs) H fun σ2 H2 => wipe σ2 vs = wipe σ vs ∧ te σ2 H2 fun y H4 => ∃ b, y = .bl b ∧ if b = sb then Q (.bl sb) H4 else Pv (i + 1) H4)
    (fin : ∀ H, Pv xs.length H → Q (.bl (!sb)) H) : rTruth P sb g te vs σ Q (Itl K a) H1 :=
  truth_by (items := xs) Pv h0 (fun i H x H' hp hy => ⟨hy.1, hy.2 xs (hl i H hp)⟩) (fun i H hi hp => ⟨xs, xs[i], hl i H hp, List.getElem?_eq_getElem hi⟩) (fun H hp => ⟨xs, hl _ H hp, Nat.le_refl _⟩) step fin
theorem truth_text {z : Str} (Pv : Nat → Hp → Prop) (h0 : ∀ H2, Tabbed P H1 H2 → Pv 0 H2)
    (step : ∀ (i : Nat) (c : Nat) H, z.cps.toList[i]? = some c → Pv i H → g (.str ⟨#[c]⟩) (wipe σ vs) H fun σ2 H2 => wipe σ2 vs = wipe σ vs ∧ te σ2 H2 fun y H4 => ∃ b, y = .bl b ∧ if b = sb then Q (.bl sb) H4 else Pv (i + 1) H4)
    (fin : ∀ H, Pv z.cps.toList.length H → Q (.bl (!sb)) H) : rTruth P sb g te vs σ Q (Its z) H1 := by
  have el : (z.cps.toList.map fun c => V.str ⟨#[c]⟩).length = z.cps.toList.length := by rw [List.length_map]
  refine truth_by (items := z.cps.toList.map fun c => V.str ⟨#[c]⟩) Pv h0 (fun i H x H' hp hy => ?_) (fun i H hi hp => ?_) (fun H hp => ?_) (fun i x H hx hp => ?_) fun H hp => fin H (by rw [← el]; exact hp)
  · obtain ⟨e, c, hc, rfl⟩ := hy
    refine ⟨e, ?_⟩
    rw [List.getElem?_map, Array.getElem?_toList, hc]
    rfl
  · rw [el] at hi
    show i < z.cps.size
    simpa using hi
  · show z.cps.size ≤ _
    rw [el]
    simp
  · rw [List.getElem?_map] at hx
    cases hc : z.cps.toList[i]? with
    | none => rw [hc] at hx; cases hx
    | some c =>
      rw [hc] at hx
      cases hx
      exact step i c H hc hp
end

theorem put_len {κ : Type} [DecidableEq κ] (c : List (κ × V)) (k : κ) (x : V) : (putK c k x).length ≤ c.length + 1 := by
  unfold putK
  split
  · rw [List.length_map]
    omega
  · rw [List.length_append]
    exact Nat.le_refl _
/-! ### readings within a block -/
section
variable {X : Cx}
theorem blk_K {s : Shared} {H : Hp} {sc : Scope} {ce : Env} {fp : List Addr} : (X.blk s H sc ce fp).K = X.K := rfl
theorem gcx_K {s : Shared} {H : Hp} {sc : Scope} {C : Addr} {code : Value} {fp : List Addr} : (gcx X s H sc C code fp).K = X.K := rfl
theorem pe_to {e : Expr} {t t' : TE} (p : PE X e t) (h : t = t' := by first | exact rfl | (simp only [Gx.blk_K, Gx.gcx_K]; exact rfl)) : PE X e t' := h ▸ p
theorem pg_to {e : Expr} {t t' : TG} (p : PG X e t) (h : t = t' := by first | exact rfl | (simp only [Gx.blk_K, Gx.gcx_K]; exact rfl)) : PG X e t' := h ▸ p
theorem pts_to {e : List Expr} {t t' : TT} (p : PTs X e t) (h : t = t' := by first | exact rfl | (simp only [Gx.blk_K, Gx.gcx_K]; exact rfl)) : PTs X e t' := h ▸ p
theorem pi_to {tg e : Expr} {t t' : TI} (p : PI X tg e t) (h : t = t' := by first | exact rfl | (simp only [Gx.blk_K, Gx.gcx_K]; exact rfl)) : PI X tg e t' := h ▸ p
end
/-! ### things that are known, lists that are names -/
theorem _root_.L2.TyB.grow {K : PySem.W.Frag} {H H' : Hp} {x : V} {U : String} (g : Grow [] H H') (t : TyB K H x U) : TyB K H' x U := by
  cases t with
  | non => exact .non
  | bl b => exact .bl b
  | int i => exact .int i
  | str z => exact .str z
  | byt b => exact .byt b
  | lst h => exact .lst (g.seq0 h)
  | @tup p xs h =>
    refine .tup (xs := xs) ?_
    rcases h with (h | ⟨o, h⟩) | h
    · exact .inl (.inl (g.keep _ _ (by simp) h fun ps z => by cases z))
    · exact .inl (.inr ⟨o, g.keep _ _ (by simp) h fun ps z => by cases z⟩)
    · exact .inr h
  | dK h => exact .dK (g.keep _ _ (by simp) h fun ps z => by cases z)
/-- a text of no great length, or of a kind that is told -/
def Known (K : PySem.W.Frag) (H : Hp) (x : V) : Prop := (∃ z : Str, x = .str z ∧ z.length ≤ sizeLine) ∨ ∃ U, U ≠ "str" ∧ TyB K H x U
theorem Known.grow {K : PySem.W.Frag} {H H' : Hp} {x : V} (g : Grow [] H H') : Known K H x → Known K H' x
  | .inl h => .inl h
  | .inr ⟨U, n, t⟩ => .inr ⟨U, n, t.grow g⟩
/-- a text's own -/
def theStr : V → Str
  | .str z => z
  | _ => Str.empty
theorem strs_of {p : V → Bool} (hp : ∀ x, p x = true → ∃ z, x = .str z) : ∀ {xs : List V}, xs.all p = true → xs = (xs.map theStr).map V.str
  | [], _ => rfl
  | x :: r, h => by
    rw [List.all_cons, Bool.and_eq_true] at h
    obtain ⟨z, rfl⟩ := hp x h.1
    show V.str z :: r = V.str z :: (r.map theStr).map V.str
    rw [← strs_of hp h.2]
theorem nodup_str {zs : List Str} : (zs.map V.str).Nodup ↔ zs.Nodup := by
  constructor
  · exact fun h => (List.pairwise_map.mp h).imp fun q e => q (congrArg V.str e)
  · exact fun h => List.pairwise_map.mpr (h.imp fun q e => q (V.str.inj e))
theorem uq_same {κ : Type} [DecidableEq κ] (l : List κ) : decide (((uq [] l).length : Int) = (l.length : Int)) = decide l.Nodup := by
  by_cases h : l.Nodup
  · rw [decide_eq_true h, uq_nodup l [] (by simpa using h)]
    exact decide_eq_true rfl
  · rw [decide_eq_false h]
    have := uq_short l [] List.nodup_nil (by simpa using h)
    simp only [List.length_nil] at this
    exact decide_eq_false (by omega)
end Gx

/-! Dict comprehensions and comprehensions of two clauses over walks; data that no list is in. -/
namespace Gx
open PySem PySem.Spec PyProof.Rows L2 GxR
section
variable {J J1 : It} {n : Nat} {G : Hp → Prop} {Y : Nat → Hp → V → Hp → Prop}
theorem dc_it (w : Walk J n G Y) {g : TG} {tt : TT} {tk tv : TE} {vs : List Nat} {σ : L2.St} {H1 : Hp} {D : Addr} {Qd : Hp → Prop} (Pv : Nat → Hp → Prop) (h0 : Pv 0 (upd H1 D (.dK []))) (hG : ∀ i H, i ≤ n → Pv i H → G H)
    (hs : ∀ i x H H', i < n → Pv i H → Y i H x H' → g x (wipe σ vs) H' fun σ2 H2 => wipe σ2 vs = wipe σ vs ∧ tt σ2 H2 fun b H3 =>
      if b = true then tk σ2 H3 fun y H4 => tv σ2 H4 fun z H5 => ∃ kvs k, y = kV k ∧ H5 D = some (.dK kvs) ∧ kvs.length < sizeLine ∧ Pv (i + 1) (upd H5 D (.dK (putK kvs k z))) else Pv (i + 1) H3) (hd : ∀ H, Pv n H → Qd H) :
    ∃ W : Nat → Nat → Hp → Prop, (∃ m, W 0 m (upd H1 D (.dK []))) ∧ ∀ i m H, W i m H →
      (J.stop i H ∧ Qd H) ∨ (J.go i H ∧ ∃ Nx : Hp → Prop, (∀ H', Nx H' → ∃ m', m' < m ∧ W (i + 1) m' H') ∧ ∀ x H', J.yld i H x H' → g x (wipe σ vs) H' fun σ2 H2 => wipe σ2 vs = wipe σ vs ∧ tt σ2 H2 fun b H3 =>
        if b = true then tk σ2 H3 fun y H4 => tv σ2 H4 fun z H5 => ∃ kvs k, y = kV k ∧ H5 D = some (.dK kvs) ∧ kvs.length < sizeLine ∧ Nx (upd H5 D (.dK (putK kvs k z))) else Nx H3) := by
  refine ⟨fun i m H => m = n - i ∧ i ≤ n ∧ Pv i H, ⟨n, by simp, Nat.zero_le _, h0⟩, ?_⟩
  rintro i m H ⟨rfl, hi, p⟩
  by_cases hlt : i < n
  · exact .inr ⟨w.goes i H hlt (hG i H hi p), Pv (i + 1), fun H' p' => ⟨n - (i + 1), by omega, rfl, hlt, p'⟩, fun x H' y => hs i x H H' hlt p (w.yields i H x H' hlt (hG i H hi p) y)⟩
  · have e : i = n := by omega
    subst e
    exact .inl ⟨w.stops H (hG _ H hi p), hd H p⟩
/-- the loop of the second clause -/
abbrev In1 (D : Addr) (g1 : TG) (tt1 : TT) (te : TE) (vs1 : List Nat) (σ2 : L2.St) (Nx : Hp → Prop) (J1 : It) (H4 : Hp) : Prop := ∃ W1 : Nat → Nat → Hp → Prop, (∃ m, W1 0 m H4) ∧ ∀ j k H, W1 j k H →
  (J1.stop j H ∧ Nx H) ∨ (J1.go j H ∧ ∃ Nx1 : Hp → Prop, (∀ H', Nx1 H' → ∃ k', k' < k ∧ W1 (j + 1) k' H') ∧ ∀ x H', J1.yld j H x H' → g1 x (wipe σ2 vs1) H' fun σ3 H5 => wipe σ3 vs1 = wipe σ2 vs1 ∧ tt1 σ3 H5 fun b H6 =>
    if b = true then te σ3 H6 fun y H7 => ∃ acc, H7 D = some (.lst acc) ∧ acc.length < sizeLine ∧ Nx1 (upd H7 D (.lst (acc ++ [y]))) else Nx1 H6)
theorem lc2_it (w : Walk J n G Y) {g g1 : TG} {tt tt1 : TT} {wi1 : TI} {te : TE} {vs vs1 : List Nat} {σ : L2.St} {H1 : Hp} {D : Addr} {Qd : Hp → Prop} (Pv : Nat → Hp → Prop) (h0 : Pv 0 (upd H1 D (.lst []))) (hG : ∀ i H, i ≤ n → Pv i H → G H)
    (hs : ∀ i x H H', i < n → Pv i H → Y i H x H' → g x (wipe σ vs) H' fun σ2 H2 => wipe σ2 vs = wipe σ vs ∧ tt σ2 H2 fun b H3 =>
      if b = true then wi1 σ2 H3 fun J1 H4 => In1 D g1 tt1 te vs1 σ2 (Pv (i + 1)) J1 H4 else Pv (i + 1) H3) (hd : ∀ H, Pv n H → Qd H) :
    ∃ W : Nat → Nat → Hp → Prop, (∃ m, W 0 m (upd H1 D (.lst []))) ∧ ∀ i m H, W i m H →
      (J.stop i H ∧ Qd H) ∨ (J.go i H ∧ ∃ Nx : Hp → Prop, (∀ H', Nx H' → ∃ m', m' < m ∧ W (i + 1) m' H') ∧ ∀ x H', J.yld i H x H' → g x (wipe σ vs) H' fun σ2 H2 => wipe σ2 vs = wipe σ vs ∧ tt σ2 H2 fun b H3 =>
        if b = true then wi1 σ2 H3 fun J1 H4 => In1 D g1 tt1 te vs1 σ2 Nx J1 H4 else Nx H3) := by
  refine ⟨fun i m H => m = n - i ∧ i ≤ n ∧ Pv i H, ⟨n, by simp, Nat.zero_le _, h0⟩, ?_⟩
  rintro i m H ⟨rfl, hi, p⟩
  by_cases hlt : i < n
  · exact .inr ⟨w.goes i H hlt (hG i H hi p), Pv (i + 1), fun H' p' => ⟨n - (i + 1), by omega, rfl, hlt, p'⟩, fun x H' y => hs i x H H' hlt p (w.yields i H x H' hlt (hG i H hi p) y)⟩
  · have e : i = n := by omega
    subst e
    exact .inl ⟨w.stops H (hG _ H hi p), hd H p⟩
theorem in1_it (w : Walk J1 n G Y) {g1 : TG} {tt1 : TT} {te : TE} {vs1 : List Nat} {σ2 : L2.St} {H4 : Hp} {D : Addr} {Nx : Hp → Prop} (Pw : Nat → Hp → Prop) (h0 : Pw 0 H4) (hG : ∀ i H, i ≤ n → Pw i H → G H)
    (hs : ∀ i x H H', i < n → Pw i H → Y i H x H' → g1 x (wipe σ2 vs1) H' fun σ3 H5 => wipe σ3 vs1 = wipe σ2 vs1 ∧ tt1 σ3 H5 fun b H6 =>
      if b = true then te σ3 H6 fun y H7 => ∃ acc, H7 D = some (.lst acc) ∧ acc.length < sizeLine ∧ Pw (i + 1) (upd H7 D (.lst (acc ++ [y]))) else Pw (i + 1) H6) (hd : ∀ H, Pw n H → Nx H) :
    In1 D g1 tt1 te vs1 σ2 Nx J1 H4 := by
  refine ⟨fun i m H => m = n - i ∧ i ≤ n ∧ Pw i H, ⟨n, by simp, Nat.zero_le _, h0⟩, ?_⟩
  rintro i m H ⟨rfl, hi, p⟩
  by_cases hlt : i < n
  · exact .inr ⟨w.goes i H hlt (hG i H hi p), Pw (i + 1), fun H' p' => ⟨n - (i + 1), by omega, rfl, hlt, p'⟩, fun x H' y => hs i x H H' hlt p (w.yields i H x H' hlt (hG i H hi p) y)⟩
  · have e : i = n := by omega
    subst e
    exact .inl ⟨w.stops H (hG _ H hi p), hd H p⟩
end

theorem yes_if {σ : L2.St} {H : Hp} {A B : Hp → Prop} (h : A H) : tYes σ H fun b H3 => if b = true then A H3 else B H3 := by
  show if true = true then A H else B H
  rw [if_pos rfl]
  exact h
theorem if_yes {A B : Hp → Prop} {H : Hp} (h : A H) : (fun (b : Bool) H3 => if b = true then A H3 else B H3) true H := by
  show if true = true then A H else B H
  rw [if_pos rfl]
  exact h
theorem if_no {A B : Hp → Prop} {H : Hp} (h : B H) : (fun (b : Bool) H3 => if b = true then A H3 else B H3) false H := by
  show if false = true then A H else B H
  rw [if_neg Bool.false_ne_true]
  exact h
theorem tyl {K : PySem.W.Frag} {H : Hp} {p : Addr} {xs : List V} (h : H p = some (.lst xs)) : tyV K "list" (.ref p) H := .inl ⟨rfl, xs, .inl (.inl h)⟩
theorem erase_map {α β} (f : α → β) (l : List α) (i : Nat) : (l.map f).eraseIdx i = (l.eraseIdx i).map f := by
  simp [List.eraseIdx_eq_take_drop_succ, List.map_take, List.map_drop]
theorem erase_perm {α} : ∀ (l : List α) (i : Nat) (h : i < l.length), (l[i] :: l.eraseIdx i).Perm l
  | x :: r, 0, _ => .refl _
  | x :: r, i + 1, h => (List.Perm.swap x _ _).trans ((erase_perm r i (Nat.lt_of_succ_lt_succ h)).cons x)
theorem cut_lo (xs : List V) (k : Nat) : cutV xs (some (k : Int)) none = xs.drop k := by
  unfold cutV
  rw [HT.sIx_none, HT.sIx_nat]
  by_cases h : k ≤ xs.length
  · rw [Nat.min_eq_left h]
    exact List.take_of_length_le (by rw [List.length_drop]; exact Nat.le_refl _)
  · rw [Nat.min_eq_right (by omega), Nat.sub_self, List.take_zero, List.drop_of_length_le (by omega)]
theorem cut_hi (xs : List V) (k : Nat) : cutV xs none (some (k : Int)) = xs.take k := by
  unfold cutV
  rw [HT.sIx_none, HT.sIx_nat, List.drop_zero, Nat.sub_zero]
  by_cases h : k ≤ xs.length
  · rw [Nat.min_eq_left h]
  · rw [Nat.min_eq_right (by omega), List.take_length, List.take_of_length_le (by omega)]
theorem swap_perm {α : Type} (xs : List α) (a : Nat) (h : a + 1 < xs.length) : (xs.take a ++ [xs[a + 1], xs[a]] ++ xs.drop (a + 2)).Perm xs := by
  have e : xs = xs.take a ++ [xs[a], xs[a + 1]] ++ xs.drop (a + 2) := by
    have h1 : xs.drop a = xs[a] :: xs[a + 1] :: xs.drop (a + 2) := by rw [List.drop_eq_getElem_cons (by omega), List.drop_eq_getElem_cons h]
    conv => lhs; rw [← List.take_append_drop a xs, h1]
    simp
  conv => rhs; rw [e]
  exact List.Perm.append_right _ (List.Perm.append_left _ (List.Perm.swap _ _ _))
theorem turn_perm {α : Type} (xs : List α) (a : Nat) : (xs.drop a ++ xs.take a).Perm xs := List.perm_append_comm.trans (by rw [List.take_append_drop])
theorem cut_from (xs : List V) (k : Nat) : cutV xs (some ((k : Int) + 1)) none = xs.drop (k + 1) := by
  unfold cutV
  have e : ((k : Int) + 1) = ((k + 1 : Nat) : Int) := by omega
  rw [e, HT.sIx_none, HT.sIx_nat]
  by_cases h : k + 1 ≤ xs.length
  · rw [Nat.min_eq_left h]
    exact List.take_of_length_le (by rw [List.length_drop]; exact Nat.le_refl _)
  · rw [Nat.min_eq_right (by omega), Nat.sub_self, List.take_zero, List.drop_of_length_le (by omega)]
/-- a cut: what holds behind the statement, and from there the rest -/
def tCut (I : L2.St → Hp → Prop) (t u : TS) : TS := fun D σ H => t { D with nx := I } σ H ∧ ∀ σ' H', I σ' H' → u D σ' H'
theorem pss_cut {X : Cx} {st : Stmt} {rest : List Stmt} {t u : TS} (I : L2.St → Hp → Prop) (h1 : PS X st t) (h2 : PSs X rest u) : PSs X (st :: rest) (tCut I t u) := by
  refine ⟨fun pins s σ H D J h => ?_⟩
  refine wpAny_execs_cons (thn (h1.run pins s σ H { D with nx := I } J h.1) fun f s1 q => ?_)
  cases f with
  | next =>
    obtain ⟨σ', H', I', q⟩ := q
    exact h2.run pins s1 σ' H' D I' (h.2 σ' H' q)
  | ret v => exact q
  | brk => exact q
  | cont => exact q
theorem valV_none {κ : Type} [DecidableEq κ] {k : κ} : ∀ {kvs : List (κ × V)}, k ∉ kvs.map Prod.fst → valV kvs k = none
  | [], _ => rfl
  | p :: r, h => by
    rw [valV_neg fun e => h (by rw [← e]; exact List.mem_cons_self)]
    exact valV_none fun z => h (List.mem_cons_of_mem _ z)
theorem valV_some {κ : Type} [DecidableEq κ] {k : κ} {v : V} : ∀ {kvs : List (κ × V)} {j : Nat}, (kvs.map Prod.fst).Nodup → kvs[j]? = some (k, v) → valV kvs k = some v
  | p :: r, 0, _, e => by
    cases e
    exact valV_pos rfl
  | p :: r, j + 1, nd, e => by
    obtain ⟨h1, h2⟩ := List.nodup_cons.mp nd
    have hk : k ∈ r.map Prod.fst := List.mem_map.mpr ⟨(k, v), List.mem_of_getElem? (i := j) e, rfl⟩
    rw [valV_neg fun q => h1 (by rw [q]; exact hk)]
    exact valV_some (j := j) h2 e
/-! ### data that no list is in -/
mutual
inductive DpT (K : PySem.W.Frag) (H : Hp) : V → PyData → Prop
  | non : DpT K H .non .none
  | bl (b : Bool) : DpT K H (.bl b) (.bool b)
  | int (i : Int) : DpT K H (.int i) (.int i)
  | str (z : Str) : DpT K H (.str z) (.str z)
  | tup {a : Addr} {xs : List V} {ds : List PyData} : H a = some (.tup xs) → DpTs K H xs ds → DpT K H (.ref a) (.tuple ds)
inductive DpTs (K : PySem.W.Frag) (H : Hp) : List V → List PyData → Prop
  | nil : DpTs K H [] []
  | cons {x : V} {d : PyData} {xs : List V} {ds : List PyData} : DpT K H x d → DpTs K H xs ds → DpTs K H (x :: xs) (d :: ds)
end
mutual
theorem DpT.dp {K : PySem.W.Frag} {H : Hp} : ∀ {x : V} {d : PyData}, DpT K H x d → Dp K H x d
  | _, _, .non => .non
  | _, _, .bl b => .bl b
  | _, _, .int i => .int i
  | _, _, .str z => .str z
  | _, _, .tup h t => .tup (.inl (.inl h)) (DpTs.dp t)
theorem DpTs.dp {K : PySem.W.Frag} {H : Hp} : ∀ {x : List V} {d : List PyData}, DpTs K H x d → DpAll K H x d
  | _, _, .nil => .nil
  | _, _, .cons h t => .cons (DpT.dp h) (DpTs.dp t)
end
/-- where only lists (or nothing) stood, they stay -/
def Lists (ex : List Addr) (H : Hp) : Prop := ∀ b ∈ ex, ∀ xs, H b ≠ some (.tup xs)
theorem lists_none (H : Hp) : Lists [] H := fun b h => by cases h
theorem lists_one {H : Hp} {a : Addr} {xs : List V} (h : H a = some (.lst xs)) : Lists [a] H := fun b hb ys e => by
  rw [List.mem_singleton.mp hb, h] at e
  cases e
mutual
theorem DpT.grow {K : PySem.W.Frag} {ex : List Addr} {H H' : Hp} (a : Grow ex H H') (l : Lists ex H) : ∀ {x : V} {d : PyData}, DpT K H x d → DpT K H' x d
  | _, _, .non => .non
  | _, _, .bl b => .bl b
  | _, _, .int i => .int i
  | _, _, .str z => .str z
  | _, _, .tup (a := p) (xs := xs) h t => .tup (a.keep p _ (fun z => l p z xs h) h fun ps z => by cases z) (DpTs.grow a l t)
theorem DpTs.grow {K : PySem.W.Frag} {ex : List Addr} {H H' : Hp} (a : Grow ex H H') (l : Lists ex H) : ∀ {x : List V} {d : List PyData}, DpTs K H x d → DpTs K H' x d
  | _, _, .nil => .nil
  | _, _, .cons h t => .cons (DpT.grow a l h) (DpTs.grow a l t)
end
theorem dpT_str {K : PySem.W.Frag} {H : Hp} (z : Str) : DpT K H (.str z) (.str z) := .str z
theorem dpT_int {K : PySem.W.Frag} {H : Hp} (z : Int) : DpT K H (.int z) (.int z) := .int z
theorem dpT_strs {K : PySem.W.Frag} {H : Hp} : ∀ xs : List Str, DpTs K H (xs.map V.str) (xs.map PyData.str)
  | [] => .nil
  | x :: r => .cons (dpT_str x) (dpT_strs r)
theorem DpTs.snoc {K : PySem.W.Frag} {H : Hp} : ∀ {xs : List V} {ds : List PyData} {x : V} {d : PyData}, DpTs K H xs ds → DpT K H x d → DpTs K H (xs ++ [x]) (ds ++ [d])
  | _, _, _, _, .nil, q => .cons q .nil
  | _, _, _, _, .cons h t, q => .cons h (t.snoc q)
theorem DpTs.app {K : PySem.W.Frag} {H : Hp} : ∀ {xs ys : List V} {ds es : List PyData}, DpTs K H xs ds → DpTs K H ys es → DpTs K H (xs ++ ys) (ds ++ es)
  | _, _, _, _, .nil, q => q
  | _, _, _, _, .cons h t, q => .cons h (t.app q)
theorem DpTs.get {K : PySem.W.Frag} {H : Hp} : ∀ {xs : List V} {ds : List PyData} {i : Nat} {x : V}, DpTs K H xs ds → xs[i]? = some x → ∃ d, ds[i]? = some d ∧ DpT K H x d
  | _, _, 0, _, .cons h _, e => ⟨_, rfl, by cases e; exact h⟩
  | _, _, _ + 1, _, .cons _ t, e => t.get e
theorem DpTs.zip {K : PySem.W.Frag} {H : Hp} : ∀ {xs : List V} {ds : List PyData}, DpTs K H xs ds → ∀ b ∈ xs.zip ds, DpT K H b.1 b.2
  | _, _, .nil, b, hb => by cases hb
  | _, _, .cons h t, b, hb => by
    rcases List.mem_cons.mp hb with rfl | hb
    · exact h
    · exact t.zip b hb
theorem dpTs_of {K : PySem.W.Frag} {H : Hp} : ∀ {bs : List (V × PyData)}, (∀ b ∈ bs, DpT K H b.1 b.2) → DpTs K H (bs.map Prod.fst) (bs.map Prod.snd)
  | [], _ => .nil
  | b :: r, h => .cons (h b List.mem_cons_self) (dpTs_of fun c hc => h c (List.mem_cons_of_mem _ hc))
theorem DpTs.length {K : PySem.W.Frag} {H : Hp} : ∀ {xs : List V} {ds : List PyData}, DpTs K H xs ds → xs.length = ds.length
  | _, _, .nil => rfl
  | _, _, .cons _ t => congrArg (· + 1) t.length
/-- a list of such data -/
def LstT (K : PySem.W.Frag) (H : Hp) (D : Addr) (ds : List PyData) : Prop := ∃ xs, H D = some (.lst xs) ∧ DpTs K H xs ds
theorem LstT.dp {K : PySem.W.Frag} {H : Hp} {D : Addr} {ds : List PyData} (h : LstT K H D ds) : Dp K H (.ref D) (.list ds) := by
  obtain ⟨xs, h1, h2⟩ := h
  exact .lst (.inl (.inl h1)) h2.dp
theorem LstT.grow {K : PySem.W.Frag} {ex : List Addr} {H H' : Hp} {D : Addr} {ds : List PyData} (h : LstT K H D ds) (a : Grow ex H H') (l : Lists ex H) (n : D ∉ ex) : LstT K H' D ds := by
  obtain ⟨xs, h1, h2⟩ := h
  exact ⟨xs, a.lst n h1, h2.grow a l⟩
/-- one more at the end -/
theorem LstT.push {K : PySem.W.Frag} {H H' : Hp} {D : Addr} {ds : List PyData} {x : V} {d : PyData} (h : LstT K H D ds) (g : Grow [] H H') (q : DpT K H' x d) :
    ∃ acc, H' D = some (.lst acc) ∧ acc.length = ds.length ∧ LstT K (upd H' D (.lst (acc ++ [x]))) D (ds ++ [d]) := by
  obtain ⟨xs, h1, h2⟩ := h
  have e := g.lst (p := D) (by simp) h1
  have gr : Grow [D] H' (upd H' D (.lst (xs ++ [x]))) := grow_at e (fun ps z => by cases z) (by simp)
  exact ⟨xs, e, h2.length, _, upd_same, ((h2.grow g (lists_none H)).snoc q).grow gr (lists_one e)⟩
/-- the items of another such list behind them -/
theorem LstT.ext {K : PySem.W.Frag} {H : Hp} {D F : Addr} {ds es : List PyData} (h : LstT K H D ds) (k : LstT K H F es) :
    ∃ xs zs, H D = some (.lst xs) ∧ H F = some (.lst zs) ∧ xs.length = ds.length ∧ zs.length = es.length ∧ LstT K (upd H D (.lst (xs ++ zs))) D (ds ++ es) := by
  obtain ⟨xs, h1, h2⟩ := h
  obtain ⟨zs, k1, k2⟩ := k
  have gr : Grow [D] H (upd H D (.lst (xs ++ zs))) := grow_at h1 (fun ps z => by cases z) (by simp)
  exact ⟨xs, zs, h1, k1, h2.length, k2.length, _, upd_same, (h2.app k2).grow gr (lists_one h1)⟩
/-- list.index of a text that is in -/
theorem index_str {K : PySem.W.Frag} {H : Hp} {m : Addr} {ws : List Str} {b : Str} {Q : VK} (h : SqL K H m (ws.map V.str)) (hb : b ∈ ws) (q : Q (.int (ws.idxOf b : Nat)) H) : rIndex K (.ref m) [.str b] H Q := by
  have h1 := List.idxOf_lt_length_of_mem hb
  refine ⟨m, ws.map V.str, .str b, ws.idxOf b, .str b, rfl, rfl, h, rfl, ?_, ?_, by simp [eqV], fun j z' hj hz => ?_, q⟩
  · rw [List.all_map, List.all_eq_true]
    exact fun x _ => rfl
  · rw [List.getElem?_map, List.getElem?_eq_getElem h1, List.getElem_idxOf h1]
    rfl
  · rw [List.getElem?_map] at hz
    cases hw : ws[j]? with
    | none => rw [hw] at hz; cases hz
    | some z =>
      rw [hw] at hz
      cases hz
      have : z ≠ b := fun e => by
        subst e
        have h2 := List.not_of_lt_findIdx (p := (· == z)) (xs := ws) hj
        obtain ⟨h3, h4⟩ := List.getElem?_eq_some_iff.mp hw
        rw [h4] at h2
        simp at h2
      simp [eqV, this]
end Gx

/-! Sorted rows of data: what is a rearrangement of another sorts alike. -/
namespace Gx
open PySem PySem.Spec PyProof.Rows L2 GxR
open PySem.W in
theorem sort_same {β : Type} {enc : β → PyData} {xs ys : List β} (p : xs.Perm ys) (inj : ∀ a b, keyToks (enc a) = keyToks (enc b) → a = b) : xs.mergeSort (dataLe false enc) = ys.mergeSort (dataLe false enc) := by
  have tot := sortLe_total (listOrd itemOrd) false fun b => keyToks (enc b)
  refine List.Perm.eq_of_pairwise (le := fun a b => dataLe false enc a b = true) (fun a b _ _ h h' => ?_) (sort_pairwise tot xs) (sort_pairwise tot ys) ((List.mergeSort_perm xs _).trans (p.trans (List.mergeSort_perm ys _).symm))
  have h1 : (listOrd itemOrd).blt (keyToks (enc b)) (keyToks (enc a)) = false := by simpa [dataLe, sortLe] using h
  have h2 : (listOrd itemOrd).blt (keyToks (enc a)) (keyToks (enc b)) = false := by simpa [dataLe, sortLe] using h'
  exact inj a b ((listOrd itemOrd).total _ _ h2 h1)
theorem str_cps {x y : Str} (h : x.cps.toList = y.cps.toList) : x = y := by
  cases x; cases y
  congr 1
  exact Array.ext' h
theorem toks_str {a b : Str} (h : PySem.W.keyToks (.str a) = PySem.W.keyToks (.str b)) : a = b := by
  simp only [PySem.W.keyToks] at h
  exact str_cps (by simpa using h)
/-- a pair of texts -/
def encP (p : Str × Str) : PyData := .tuple [.str p.1, .str p.2]
theorem toks_pair {a b : Str × Str} (h : PySem.W.keyToks (encP a) = PySem.W.keyToks (encP b)) : a = b := by
  unfold encP at h
  simp only [PySem.W.keyToks, PySem.W.keyToksAll] at h
  simp at h
  exact Prod.ext (by have := h.1; exact str_cps (by simpa using this)) (by have := h.2; exact str_cps (by simpa using this))
theorem alike_strs (zs : List Str) : PySem.W.AllAlike (zs.map PyData.str) := PySem.W.AllAlike.of fun b b' => by simp [PySem.W.alike]
theorem sortable_strs (zs : List Str) : PySem.W.Sortable (zs.map PyData.str) := PySem.W.Sortable.others (enc := PyData.str) fun b => ⟨(nomatch ·), fun xs => (nomatch ·)⟩
theorem alike_pairs (ps : List (Str × Str)) : PySem.W.AllAlike (ps.map encP) := PySem.W.AllAlike.of fun b b' => by simp [encP, PySem.W.alike, PySem.W.alikeAll]
theorem sortable_pairs (ps : List (Str × Str)) : PySem.W.Sortable (ps.map encP) := PySem.W.Sortable.tuples fun b => ⟨_, _, rfl⟩

/-- of a pair of texts -/
theorem pair_inv {K : PySem.W.Frag} {H : Hp} {x : V} {p : Str × Str} (h : DpT K H x (encP p)) : ∃ r, x = .ref r ∧ H r = some (.tup [.str p.1, .str p.2]) := by
  unfold encP at h
  cases h with
  | tup e t =>
    cases t with
    | cons a t =>
      cases t with
      | cons b t =>
        cases t
        cases a
        cases b
        exact ⟨_, rfl, e⟩
/-- sorted of a list of pairs of texts -/
theorem sort_pairs {K : PySem.W.Frag} {H : Hp} {D : Addr} {ps : List (Str × Str)} {Q : VK} (h : LstT K H D (ps.map encP)) (hl : ps.length ≤ 1000000)
    (q : ∀ p o, H p = none → LstT K (upd H p o) p ((ps.mergeSort (PySem.W.dataLe false encP)).map encP) → Q (.ref p) (upd H p o)) : rSortG K Prod.fst Prod.snd [.ref D] H Q := by
  obtain ⟨xs, e, t⟩ := h
  have hlen := t.length
  have m1 : (xs.zip (ps.map encP)).map Prod.fst = xs := List.map_fst_zip (Nat.le_of_eq hlen)
  have m2 : (xs.zip (ps.map encP)).map Prod.snd = ps.map encP := List.map_snd_zip (Nat.le_of_eq hlen.symm)
  refine ⟨D, xs.zip (ps.map encP), rfl, .inl (.inl (by rw [m1]; exact e)), fun b hb => ⟨(t.zip b hb).dp, ?_⟩, by rw [m2]; exact alike_pairs ps, by rw [m2]; exact sortable_pairs ps, ?_, fun p np => q p _ np ⟨_, upd_same, ?_⟩⟩
  · have := List.mem_map_of_mem (f := Prod.snd) hb
    rw [m2] at this
    obtain ⟨y, _, hy⟩ := List.mem_map.mp this
    rw [← hy]
    simp [encP, PyData.depth, PyData.depthAll]
  · rw [List.length_zip, hlen, Nat.min_self, List.length_map]
    unfold sizeLine
    omega
  · have k : ((xs.zip (ps.map encP)).mergeSort (PySem.W.dataLe false Prod.snd)).map Prod.snd = (ps.mergeSort (PySem.W.dataLe false encP)).map encP := by
      rw [List.map_mergeSort (f := Prod.snd) (r := PySem.W.dataLe false Prod.snd) (s := PySem.W.dataLe false id) fun a _ b _ => rfl, m2,
        ← List.map_mergeSort (f := encP) (r := PySem.W.dataLe false encP) (s := PySem.W.dataLe false id) fun a _ b _ => rfl]
    rw [← k]
    exact (dpTs_of fun b hb => t.zip b ((List.mergeSort_perm _ _).mem_iff.mp hb)).grow (grow_new (ex := []) np) (lists_none _)
/-- data that can be shown, compared, sorted: no deeper than n, no more than m -/
structure Fine (d : PyData) (n m : Nat) : Prop where
  lay : d.canLay0 = true
  show_ : d.showable = true
  nod : d.hasDict = false
  leaves : d.leavesShort 8 = true
  deep : d.depth ≤ n
  bulk : d.bulk ≤ m
structure Fines (ds : List PyData) (n m : Nat) : Prop where
  lay : PyData.canLayAll0 ds = true
  show_ : PyData.showableAll ds = true
  nod : PyData.hasDictAll ds = false
  leaves : PyData.leavesShortAll 8 ds = true
  deep : PyData.depthAll ds ≤ n
  bulk : PyData.bulkAll ds ≤ ds.length * (m + 1)
theorem fines {n m : Nat} : ∀ {ds : List PyData}, (∀ d ∈ ds, Fine d n m) → Fines ds n m
  | [], _ => ⟨rfl, rfl, rfl, rfl, Nat.zero_le _, by simp [PyData.bulkAll]⟩
  | d :: r, h => by
    have h1 := h d List.mem_cons_self
    have h2 := fines (ds := r) fun d q => h d (List.mem_cons_of_mem _ q)
    refine ⟨?_, ?_, ?_, ?_, ?_, ?_⟩
    · rw [PyData.canLayAll0, h1.lay, h2.lay]; rfl
    · rw [PyData.showableAll, h1.show_, h2.show_]; rfl
    · rw [PyData.hasDictAll, h1.nod, h2.nod]; rfl
    · rw [PyData.leavesShortAll, h1.leaves, h2.leaves]; rfl
    · rw [PyData.depthAll]
      exact Nat.max_le.mpr ⟨h1.deep, h2.deep⟩
    · rw [PyData.bulkAll, List.length_cons, Nat.succ_mul]
      have := h1.bulk
      have := h2.bulk
      omega
theorem Fine.list {n m k : Nat} {ds : List PyData} (h : ∀ d ∈ ds, Fine d n m) (hk : ds.length * (m + 1) ≤ k) : Fine (.list ds) (n + 1) k := by
  have f := fines h
  exact ⟨by rw [PyData.canLay0]; exact f.lay, by rw [PyData.showable]; exact f.show_, by rw [PyData.hasDict]; exact f.nod, by rw [PyData.leavesShort]; exact f.leaves, by rw [PyData.depth]; exact Nat.succ_le_succ f.deep, by rw [PyData.bulk]; exact Nat.le_trans f.bulk hk⟩
theorem Fine.tuple {n m k : Nat} {ds : List PyData} (h : ∀ d ∈ ds, Fine d n m) (hk : ds.length * (m + 1) ≤ k) : Fine (.tuple ds) (n + 1) k := by
  have f := fines h
  exact ⟨by rw [PyData.canLay0]; exact f.lay, by rw [PyData.showable]; exact f.show_, by rw [PyData.hasDict]; exact f.nod, by rw [PyData.leavesShort]; exact f.leaves, by rw [PyData.depth]; exact Nat.succ_le_succ f.deep, by rw [PyData.bulk]; exact Nat.le_trans f.bulk hk⟩
theorem Fine.str {z : Str} {m : Nat} (h : ∀ c ∈ z.cps.toList, c < 0x110000) (l : z.length ≤ m) : Fine (.str z) 0 m := by
  refine ⟨?_, rfl, rfl, ?_, Nat.le_refl _, l⟩
  · show PyData.strOk z = true
    unfold PyData.strOk
    rw [← Array.all_toList, List.all_eq_true]
    exact fun c hc => decide_eq_true (h c hc)
  · show (z.cps.toList.all fun c => decide (c < 16 ^ 8)) = true
    rw [List.all_eq_true]
    exact fun c hc => decide_eq_true (Nat.lt_of_lt_of_le (h c hc) (by decide))
theorem Fine.shaped {d : PyData} {n m : Nat} (f : Fine d n m) (hn : n ≤ 60) : SeqAt.shaped d = true := by
  unfold SeqAt.shaped
  rw [f.lay, decide_eq_true (by have := f.deep; omega)]
  rfl
theorem Fine.shown {d : PyData} {n m : Nat} (f : Fine d n m) (h : 10 * m + 8 ≤ sizeLine) : d.shown.length ≤ sizeLine := by
  have := PyData.shown_le_bulk 8 (by decide) d f.leaves
  have := f.bulk
  omega
theorem Fine.eqv {d : PyData} {n m : Nat} (f : Fine d n m) : PyData.eqv d d = true := PySem.SeqAt.eqv_refl d f.lay
end Gx

/-! The end of a law over a head whose facts are told by names. -/
namespace Gx
open PySem PySem.Spec PyProof.Rows L2 GxR GenW
/-- a def without defaults, from the head's word of it -/
theorem DefIs.of {K : PySem.W.Frag} {x qual : Str} {st : Stmt} {fd : FuncData} {p : He.Defn} (F : FunD K x qual (defArgs st) (defBody st) (defScope st) [] [] (He.fAd K p) fd) : DefIs K x qual st (He.fAd K p) fd (.ref (He.cT K p).1) := by
  obtain ⟨oc, od, dV, kV, doc, pm, an, cdv, ct, osl, rfl, lk, hcd, hd, _⟩ := F.ex
  obtain ⟨c, rfl⟩ := He.codeIn_ref hcd
  rcases hd with ⟨_, rfl⟩ | ⟨h, _⟩
  · have e : He.codeOf K p = c := He.codeOf_eq lk rfl
    show DefIs K x qual st (He.fAd K p) _ (.ref (He.codeOf K p))
    rw [e]
    exact ⟨⟨oc, od, kV, doc, pm, an, ct, osl, rfl, lk⟩, hcd, F.kp⟩
  · exact absurd rfl h
section
theorem walk_GE {l : PySem.W.OpenLaw} {n k : Nat} {q : Program} {loose : List Str} {XP : (Str → Option Value) → Heap → Prop} {YP : World → Heap → Prop} {d : DefRec} {x : Str}
    (hn : l.most = some n) (hn2 : n ≤ sizeLine) (hdf : d.params.defaults = []) (hr : Room k callerA)
    (F : ∀ (w : World) (mg : Str → Option Value) (fa : Addr) (h : Heap), YP w h → h.Ns mainGlobals mg → mg d.name = some (.ref fa) → ∃ K : PySem.W.Frag, K.In h ∧ LawG l w K k n x mg fa h) :
    PySem.W.WalkO q loose XP YP l.row.toRowW d [] (fun f vs => PySem.call f vs) := by
  refine Att.attach_callB hn hdf fun w s₀ s₁ mg mb fa o pm cd doc a vs ns G Y ho hd hcd hmg hobj hints hlen hbits hg => ?_
  obtain ⟨K, KX, fd, cs, sp, hT, hb, hsp, hF⟩ := F w mg fa _ Y G.T.g hmg
  have aT : a ∉ cs.map Prod.snd := fun z => by
    obtain ⟨p, hp, e⟩ := List.mem_map.mp z
    have q := (hT p hp).1
    rw [e, hobj] at q
    have z' : Data.seq vs.toArray _ = Data.fields #[] := congrArg Obj.data (Option.some.inj q)
    cases z'
  have rv := vals_ints hints
  cases hk : K.lookup a with
  | some o2 =>
    have e := KX a o2 hk
    rw [hobj] at e
    cases e
    have sl : SqL K (fun b => if b ∈ cs.map Prod.snd then some (.tbl #[]) else none) a (ns.map V.int) :=
      .inr ⟨_, vs.toArray, _, hk, rfl, rfl, rfl, by rw [List.size_toArray, hints.length]; exact Nat.le_trans hlen hn2, by simpa using rv⟩
    have hT' : ∀ p ∈ cs, (fun b => if b ∈ cs.map Prod.snd then some (HO.tbl #[]) else none) p.2 = some (.tbl #[]) := fun p hp => if_pos (List.mem_map.mpr ⟨p, hp, rfl⟩)
    refine law_from _ hT' (fun b u z => ?_) KX G.T.g G.T.b G.T.builtins G.T.nolimit hg hT G.T.bmain hobj rv (Nat.le_trans hlen hn2) sl hr hF hb (hsp _ a ns hlen hbits hT' sl)
    by_cases hm : b ∈ cs.map Prod.snd
    · exact .inl ⟨hm, Option.some.inj (z.symm.trans (if_pos hm))⟩
    · have z' := z.symm.trans (if_neg hm)
      cases z'
  | none =>
    have sl : SqL K (fun b => if b = a then some (.frz (scriptObj vs) (.lst (ns.map V.int))) else if b ∈ cs.map Prod.snd then some (.tbl #[]) else none) a (ns.map V.int) := .inl (.inr ⟨scriptObj vs, if_pos rfl⟩)
    have hT' : ∀ p ∈ cs, (fun b => if b = a then some (HO.frz (scriptObj vs) (.lst (ns.map V.int))) else if b ∈ cs.map Prod.snd then some (.tbl #[]) else none) p.2 = some (.tbl #[]) := fun p hp =>
      (if_neg (show ¬ p.2 = a from fun z => aT (by rw [← z]; exact List.mem_map.mpr ⟨p, hp, rfl⟩))).trans (if_pos (List.mem_map.mpr ⟨p, hp, rfl⟩))
    refine law_from _ hT' (fun b u z => ?_) KX G.T.g G.T.b G.T.builtins G.T.nolimit hg hT G.T.bmain hobj rv (Nat.le_trans hlen hn2) sl hr hF hb (hsp _ a ns hlen hbits hT' sl)
    by_cases hm : b = a
    · exact .inr ⟨hm, hk, Option.some.inj (z.symm.trans (if_pos hm))⟩
    · have z1 := z.symm.trans (if_neg hm)
      by_cases hm2 : b ∈ cs.map Prod.snd
      · exact .inl ⟨hm2, Option.some.inj (z1.trans (if_pos hm2))⟩
      · have z' := z1.trans (if_neg hm2)
        cases z'
end
end Gx

/-! max( ) of whole numbers with a default. -/
namespace Gx
open PySem PySem.Spec PyProof.Rows L2
def MaxA (a d : Value) : Args := ⟨[a], [(Str.ofString "default", d)]⟩
theorem maxA_ok (a d : Value) : argsOk "max" (MaxA a d) := by
  unfold argsOk MaxA
  kernel_rfl
section
variable {prog : Program} {w : World} {A : Around} {R : Result → Shared → Prop} {I : Addr} {fp wr : List Addr} {n : Nat} {P : Nat → Value → Prop} {St : Nat → Heap → Prop}
/-- what the loop holds: nothing yet, or the best so far -/
def MaxHeld (P : Nat → Value → Prop) (bt : Nat → Nat → Bool) (j : Nat) (vs : Array Value) : Prop := (j = 0 ∧ vs = #[]) ∨ ∃ v, vs = #[v, v] ∧ 0 < j ∧ P (argBest bt (j - 1)) v
def MaxOut (P : Nat → Value → Prop) (bt : Nat → Nat → Bool) (n : Nat) (d v : Value) : Prop := (n = 0 ∧ v = d) ∨ (0 < n ∧ P (argBest bt (n - 1)) v)
theorem max_rounds (W : Walks prog w A.in1 I fp wr n P St) (bt : Nat → Nat → Bool) (hcmp : CmpOf prog w A.in1 .Gt P bt) (S : Addr) (hS0 : S ∉ fp) (d : Value) :
    ∀ (k j : Nat) (s : Shared) (vs : Array Value) (c : Nat), n - j = k → j ≤ n → St j s.heap → MaxHeld P bt j vs → s.heap.get? S = some { cls := .type "list", dict := none, data := .seq vs c, slots := #[] } →
    (∀ v h2 tk, MaxOut P bt n d v → (∀ b o, b ∉ wr → b ≠ S → s.heap.get? b = some o → h2.get? b = some o) → R (.ok (.ret v)) { s with heap := h2, toks := tk }) →
    codeAny (model prog w) A (.builtin "max.loop" ⟨[.ref I, .none, .ref S], [(Str.ofString "default", d)]⟩) R s := by
  have sw : S ∉ wr := fun h => hS0 (W.sub _ h)
  have nm : (toString "max" ++ toString ".loop" : String) = "max.loop" := by decide
  intro k
  induction k with
  | zero =>
    intro j s vs c e hj st held hS fin
    have ej : j = n := by omega
    subst ej
    refine codeAny_builtin F.entry_max_loop (by
      rw [Around.under_plainId F.plain_max_loop _]
      show wpAny _ A.in1 (seqItems? (.ref S) >>= _) _ _ s
      refine wpAny_bind (wpAny_seqItems hS rfl ?_)
      show wpAny _ A.in1 (tryCatch (pyNext (.ref I)) _ >>= _) _ _ s
      refine wpAny_bind (wpAny_tryCatch (W.done s _ _ st fun h2 tk keep => ?_))
      have hS2 := keep S _ sw hS
      rcases held with ⟨e0, rfl⟩ | ⟨v, rfl, j0, hv⟩
      · show wpAny _ A.in1 (rule _ >>= _) _ _ _
        refine wpAny_bind (wpAny_rule ?_)
        refine wpAny_pure ?_
        exact fin d h2 tk (.inl ⟨e0, rfl⟩) fun b o hw _ q => keep b o hw q
      · show wpAny _ A.in1 (updateSeq S (fun _ => #[]) >>= _) _ _ _
        refine wpAny_bind (wpAny_updateSeq hS2 rfl (wpAny_bind (wpAny_letGo (wpAny_pure ?_))))
        exact fin v _ tk (.inr ⟨j0, hv⟩) fun b o hw hb q => (Heap.get?_update_other _ _ (Ne.symm hb)).trans (keep b o hw q))
  | succ k ih =>
    intro j s vs c e hj st held hS fin
    have hlt : j < n := by omega
    refine codeAny_builtin F.entry_max_loop (by
      rw [Around.under_plainId F.plain_max_loop _]
      show wpAny _ A.in1 (seqItems? (.ref S) >>= _) _ _ s
      refine wpAny_bind (wpAny_seqItems hS rfl ?_)
      show wpAny _ A.in1 (tryCatch (pyNext (.ref I)) _ >>= _) _ _ s
      refine wpAny_bind (wpAny_tryCatch (W.item j s _ _ hlt st fun v h2 tk hP st2 keep => ?_))
      have hS2 := keep S _ sw hS
      rcases held with ⟨rfl, rfl⟩ | ⟨b0, rfl, j0, hb0⟩
      · show wpAny _ A.in1 (updateSeq S (fun _ => #[v, v]) >>= _) _ _ _
        refine wpAny_bind (wpAny_updateSeq hS2 rfl ?_)
        rw [nm]
        refine wpAny_pure ⟨plainId_quiet F.plain_max_loop _, ih 1 _ #[v, v] _ (by omega) (by omega) (W.frame _ _ _ st2 fun b hb o q => (Heap.get?_update_other _ _ (fun h : S = b => hS0 (by rw [h]; exact hb))).trans q) (.inr ⟨v, rfl, Nat.one_pos, hP⟩) (Heap.get?_update_self _ hS2 rfl) fun v3 h3 tk3 out keep3 => ?_⟩
        exact fin v3 h3 tk3 out fun b o hw hb q => keep3 b o hw hb ((Heap.get?_update_other _ _ (Ne.symm hb)).trans (keep b o hw q))
      · show wpAny _ A.in1 (tryCatch (holding [v, v] (richCompare .Gt v b0 >>= _)) _ >>= _) _ _ _
        refine wpAny_bind (wpAny_tryCatch (wpAny_holding (wpAny_bind (hcmp j (argBest bt (j - 1)) v b0 _ _ _ hP hb0 ?_))))
        refine wpAny_bind (wpAny_holding (wpAny_truthy_bool (wpAny_bind (wpAny_letGo (wpAny_pure ?_)))))
        have ea : ∀ q, bt j (argBest bt (j - 1)) = q → argBest bt j = if q = true then j else argBest bt (j - 1) := fun q hq => by
          obtain ⟨i, rfl⟩ : ∃ i, j = i + 1 := ⟨j - 1, by omega⟩
          rw [argBest]
          rw [show i + 1 - 1 = i from rfl] at hq ⊢
          rw [hq]
        cases hb : bt j (argBest bt (j - 1)) with
        | true =>
          have eb := ea true hb
          rw [if_pos rfl] at eb ⊢
          refine wpAny_bind (wpAny_updateSeq hS2 rfl (wpAny_bind (wpAny_letGo ?_)))
          rw [nm]
          refine wpAny_pure ⟨plainId_quiet F.plain_max_loop _, ih (j + 1) _ #[v, v] _ (by omega) (by omega) (W.frame _ _ _ st2 fun b hb o q => (Heap.get?_update_other _ _ (fun h : S = b => hS0 (by rw [h]; exact hb))).trans q) (.inr ⟨v, rfl, Nat.succ_pos _, by rw [Nat.add_sub_cancel, eb]; exact hP⟩) (Heap.get?_update_self _ hS2 rfl) fun v3 h3 tk3 out keep3 => ?_⟩
          exact fin v3 h3 tk3 out fun b o hw hb q => keep3 b o hw hb ((Heap.get?_update_other _ _ (Ne.symm hb)).trans (keep b o hw q))
        | false =>
          have eb := ea false hb
          rw [if_neg Bool.false_ne_true] at eb ⊢
          refine wpAny_bind (wpAny_letGo ?_)
          rw [nm]
          refine wpAny_pure ⟨plainId_quiet F.plain_max_loop _, ih (j + 1) _ #[b0, b0] c (by omega) (by omega) st2 (.inr ⟨b0, rfl, Nat.succ_pos _, by rw [Nat.add_sub_cancel, eb]; exact hb0⟩) hS2 fun v3 h3 tk3 out keep3 => ?_⟩
          exact fin v3 h3 tk3 out fun b o hw hb q => keep3 b o hw hb (keep b o hw q))
end
end Gx
namespace Gx
open PySem PySem.Spec PyProof.Rows L2
section
variable {prog : Program} {w : World} {A : Around} {E : Value → Shared → Prop} {s : Shared}
theorem max_def_walk {x d : Value} {Q : Value → Shared → Prop}
    (h : wpAny (model prog w) A.in1 (pyIter x) (fun it s2 => ∃ I fp wr n P St bt, it = .ref I ∧ Walks prog w A.in1 I fp wr n P St ∧ St 0 s2.heap ∧ (∀ b ∈ fp, b < s2.heap.objs.size) ∧ CmpOf prog w A.in1 .Gt P bt ∧
      ∀ v h2 tk, MaxOut P bt n d v → (∀ b o, b ∉ wr → s2.heap.get? b = some o → h2.get? b = some o) → Q v { s2 with heap := h2, toks := tk }) E s) :
    wpAny (model prog w) A (call (.builtin "max") [x] [(Str.ofString "default", d)]) Q E s := by
  have nm : (toString "max" ++ toString ".loop" : String) = "max.loop" := by decide
  refine wpAny_call (codeAny_call_builtin F.plain_max F.entry_max ?_)
  simp only [checkBuiltinCall, F.kind_max]
  have body : wpAny (model prog w) A.in1 (Builtin.«max» (MaxA x d)) (fun fin s' => match fin with
      | .done f => (match (Except.ok f : Result) with | .ok (.ret v) => Q v s' | .ok _ => False | .error e => E e s')
      | .again c' => c'.quiet = true ∧ codeAny (model prog w) A c' (fun r s' => match r with | .ok (.ret v) => Q v s' | .ok _ => False | .error e => E e s') s') E s := by
    show wpAny _ A.in1 (Builtin.Builtins.bindParams "max" ["key", "default"] 0 ⟨[], [(Str.ofString "default", d)]⟩ >>= _) _ _ s
    refine wpAny_bind (wpAny_of_eq (show Builtin.Builtins.bindParams "max" ["key", "default"] 0 ⟨[], [(Str.ofString "default", d)]⟩ = pure [none, some d] from rfl) ?_)
    refine wpAny_bind (wpAny_pure ?_)
    refine wpAny_bind (wpAny_mono h (fun it s2 h2 => ?_) fun _ _ e => e)
    obtain ⟨I, fp, wr, n, P, St, bt, rfl, W, hst, hfp, hcmp, hQ⟩ := h2
    refine wpAny_bind (wpAny_newObj_type ?_)
    have sf : s2.heap.objs.size ∉ fp := fun hm => Nat.lt_irrefl _ (hfp _ hm)
    rw [nm]
    refine wpAny_pure ⟨plainId_quiet F.plain_max_loop _, max_rounds W bt hcmp s2.heap.objs.size sf d n 0 _ #[] _ rfl (Nat.zero_le _) (W.frame _ _ _ hst fun b _ o e => Heap.get?_push_of_some _ e) (.inl ⟨rfl, rfl⟩) (Heap.get?_push_size _ rfl) fun v h3 tk out keep => ?_⟩
    exact hQ v h3 tk out fun b o hbw e => keep b o hbw (Nat.ne_of_lt (Heap.lt_size e)) (Heap.get?_push_of_some _ e)
  cases hsig : Manifest.signature? "max" with
  | none => exact wpAny_pure body
  | some sig =>
    have ok := maxA_ok x d
    simp only [argsOk, hsig] at ok
    have h2 : Bind.checkArgs "max" sig (MaxA x d) = pure () := ok
    show wpAny _ A.in1 (Bind.checkArgs "max" sig (MaxA x d)) _ _ s
    rw [h2]
    exact wpAny_pure body
end
end Gx
namespace Gx
open PySem PySem.Spec PyProof.Rows L2
/-- what max(ns, default=d) is -/
def TopOf (d : Int) (ns : List Int) (m : Int) : Prop := (ns = [] ∧ m = d) ∨ (m ∈ ns ∧ ∀ y ∈ ns, y ≤ m)
section
variable {prog : Program} {w : World} {A : Around} {E : Value → Shared → Prop} {s : Shared}
theorem max_def_ints {l : Addr} {its : List Value} {ns : List Int} {d : Int} {dt : Tok} {Q : Value → Shared → Prop} (hh : A.handled = none) (hl : s.heap.IsList l its.toArray) (hi : IntsAre its ns)
    (h : ∀ h2 tk m t2, (∀ b o, s.heap.get? b = some o → h2.get? b = some o) → TopOf d ns m → Q (.int m t2) { s with heap := h2, toks := tk }) : wpAny (model prog w) A (call (.builtin "max") [.ref l] [(Str.ofString "default", .int d dt)]) Q E s := by
  obtain ⟨xs, e⟩ := hi.allInts.items
  have hn : numsOf (intItems xs).toList = ns := by rw [← e]; exact hi.numsOf
  rw [nums_intItems] at hn
  subst hn
  rw [e] at hl
  refine max_def_walk (iter_intList hl fun s2 e2 st hfp hlI => ?_)
  subst e2
  refine ⟨_, _, _, _, _, _, _, rfl, Walks.list (A := A.in1) hh _ l hlI (intItems xs), st, hfp, CmpOf.ints_gt (numAt xs) (fun _ _ => intItems_at), fun v h2 tk out keep => ?_⟩
  rcases out with ⟨e0, rfl⟩ | ⟨n0, hv⟩
  · refine h h2 tk d dt (old_kept keep) (.inl ⟨?_, rfl⟩)
    have : xs.toList = [] := List.eq_nil_of_length_eq_zero (by simpa [intItems] using e0)
    rw [this]
    rfl
  · obtain ⟨t, rfl⟩ := intItems_at hv
    obtain ⟨h1, h2'⟩ := argBest_gt (numAt xs) ((intItems xs).size - 1)
    have hs : (intItems xs).size = xs.size := by simp [intItems]
    rw [hs] at h1 h2' n0
    rw [hs]
    refine h h2 tk _ t (old_kept keep) (.inr ⟨?_, fun a ha => ?_⟩)
    · rw [numAt_eq]
      exact PySem.getD_mem (by rw [List.length_map, Array.length_toList]; omega)
    · obtain ⟨j, hj, rfl⟩ := mem_getD ha
      rw [List.length_map, Array.length_toList] at hj
      rw [← numAt_eq]
      exact h2' j (by omega)
end
section
variable {X : Cx}
def rMaxDef (K : PySem.W.Frag) : List V → List V → Hp → VK → Prop := fun vs zs H Q => ∃ (a : Addr) (ns : List Int) (d : Int), vs = [V.ref a] ∧ zs = [V.int d] ∧ SqL K H a (ns.map V.int) ∧ ∀ m, TopOf d ns m → Q (.int m) H
theorem cr_maxDef (hc : X.calm = true) : CallRK X (.builtin "max") [Str.ofString "default"] (rMaxDef X.K) := by
  intro pins s σ H xs zs us ws Q I r1 r2 h
  obtain ⟨a, ns, d, rfl, rfl, hs, q⟩ := h
  obtain ⟨its, rv, hl, _⟩ := I.list hs
  rw [Vals.ref1 r1]
  cases r2 with
  | cons r rr =>
    cases rr
    obtain ⟨t, rfl⟩ := r
    exact max_def_ints (I.ok.hd hc) hl.isList rv.ints fun h2 tk m t2 keep top => ⟨.int m, H, I.kept keep, ⟨_, rfl⟩, q m top⟩
end
end Gx

/-! max(d.values(), default=k) of whole numbers. -/
namespace Gx
open PySem PySem.Spec PyProof.Rows L2
theorem topOf_out {ns : List Int} {d : Int} {n : Nat} (hn : n = ns.length) {P : Nat → Value → Prop} (hP : ∀ i v, P i v → i < n ∧ ∃ t, v = .int (ns.getD i 0) t) {dv v : Value} {dt : Tok} (hd : dv = .int d dt)
    (out : MaxOut P (fun i j => decide (ns.getD i 0 > ns.getD j 0)) n dv v) : ∃ m t, v = .int m t ∧ TopOf d ns m := by
  rcases out with ⟨e0, rfl⟩ | ⟨n0, hv⟩
  · exact ⟨d, dt, hd, .inl ⟨List.eq_nil_of_length_eq_zero (by omega), rfl⟩⟩
  · obtain ⟨hi, t, rfl⟩ := hP _ _ hv
    obtain ⟨h1, h2⟩ := argBest_gt (fun i => ns.getD i 0) (n - 1)
    refine ⟨_, t, rfl, .inr ⟨PySem.getD_mem (by omega), fun a ha => ?_⟩⟩
    obtain ⟨j, hj, rfl⟩ := mem_getD ha
    exact h2 j (by omega)
section
variable {X : Cx}
def tMaxVals (td : TE) (k : Int) : TE := fun σ H Q => td σ H fun x H1 => ∃ (d : Addr) (kvs : List (Key × V)) (ns : List Int), x = .ref d ∧ H1 d = some (.dK kvs) ∧ kvs.map Prod.snd = ns.map V.int ∧ ∀ m, TopOf k ns m → Q (.int m) H1
theorem pe_maxVals {e : Expr} {td : TE} {p apos cpos kpos kp pos : Pos} {k : Int} {kk : Nat} (hc : X.calm = true) (hg : Gl X "max") (hm : X.mg "max" = none) (he : PE X e td)
    (hbase : attributeBase e "values" X.env (eval e X.env) = eval e X.env := by rfl) (hline : (apos.endLine == cpos.line) = true := by rfl) :
    PE X (.Call (.Name "max" p) [.Call (.Attribute e "values" apos) [] [] cpos] [⟨some "default", .Constant (.int k) kk kp, kpos⟩] pos) (tMaxVals td k) := by
  refine ⟨fun pins s σ H Q I h => ?_⟩
  refine wpAny_Call_Name_kw (ld_blt I hg hm (show bootBuiltins "max" = some (.builtin "max") by decide +kernel) ?_)
  refine PyProof.Rows.callWith_kw ?_
  refine Calls.spliced_cons ?_
  refine wpAny_Call_method (T := "dict") (id := "dict.values") hbase rfl hline F.plainAttrs_dict F.slot_dict_values F.type_dict_values (thn (he.run pins s σ H _ I h) fun u s1 h1 => ?_)
  obtain ⟨x, H1, I1, rx, d, kvs, ns, rfl, hd, hv, q⟩ := h1
  obtain rfl : u = Value.ref d := rx
  obtain ⟨hz, hs, vs, kv, o1, es, ep, ho, hx, hdt, r⟩ := I1.hok d _ hd
  have hD : s1.heap.DictAt (mixKind X.prog X.w) d vs ep := ⟨o1, es, ho, hx, hdt, r⟩
  have hl : kvs.length = vs.length := Paired.length kv
  have hln : kvs.length = ns.length := by have := congrArg List.length hv; rwa [List.length_map, List.length_map] at this
  refine ⟨hD.dictOf.typeIs, hD.dictOf.mapOf.noDict, ?_⟩
  refine method_meetsIn F.slot_dict_values F.entry_dict_values rfl (PySem.evalArgs_none ⟨rfl, hD.dictOf.typeIs, F.args_dict_values_1 _, _, meets_dict_values (mixKind X.prog X.w) d hs, ⟨vs, hD.dictOf⟩, ?_⟩)
  have I2 : L2.Inv X pins σ H1 { s1 with heap := s1.heap.push { cls := .type "dict_values", data := .fields #[.ref d] } } := I1.kept (t' := s1.toks) fun b ob z => Heap.get?_push_of_some _ z
  have nb : H1 s1.heap.objs.size = none := I1.hok.fresh (Nat.le_refl _)
  have I3 := I2.pinned (fp := [s1.heap.objs.size]) (fun b hb => by
    rw [List.mem_singleton.mp hb]
    exact I1.fpOk (Nat.le_refl _) nb) (fun b hb => by
    rw [List.mem_singleton.mp hb]
    exact ⟨_, Heap.get?_push_size _ rfl, fun v z => by cases z⟩)
  show wpAny _ _ (spliced []) _ _ _
  refine Calls.spliced_nil ?_
  refine thn ((pk_cons pe_int pk_nil).run pos _ _ σ H1 _ I3 (show tCons (tC (.int k)) tNil σ H1 (fun zs H2 => zs = [V.int k] ∧ H2 = H1) from ⟨rfl, rfl⟩)) fun ws s4 h4 => ?_
  obtain ⟨zs, H2, I4, rz, rfl, rfl⟩ := h4
  obtain ⟨t, rfl⟩ : ∃ t, ws = [Value.int k t] := by
    cases rz with
    | cons r0 rr =>
      cases rr
      obtain ⟨t, rfl⟩ := r0
      exact ⟨t, rfl⟩
  obtain ⟨_, _, us, ku, o4, es4, ep4, ho4, hx4, hdt4, r4⟩ := I4.hok d _ hd
  have hD4 : s4.heap.DictAt (mixKind X.prog X.w) d us ep4 := ⟨o4, es4, ho4, hx4, hdt4, r4⟩
  have hlu : kvs.length = us.length := Paired.length ku
  have view : s4.heap.get? s1.heap.objs.size = some { cls := .type "dict_values", data := .fields #[.ref d] } :=
    (I4.pin (s1.heap.objs.size, { cls := .type "dict_values", data := .fields #[.ref d] }) (List.mem_append_right _ (List.mem_append_right _ (mem_pinsAt (List.mem_singleton.mpr rfl) (Heap.get?_push_size _ rfl))))).1
  show wpAny _ _ (call (.builtin "max") [.ref s1.heap.objs.size] [(Str.ofString "default", .int k t)]) _ _ _
  have vals : ∀ i v, (∃ key, us[i]? = some (key, v)) → i < us.length ∧ ∃ t, v = .int (ns.getD i 0) t := fun i v hk => by
    obtain ⟨key, hk⟩ := hk
    have hi := (List.getElem?_eq_some_iff.mp hk).1
    obtain ⟨⟨k2, x2⟩, hk2⟩ : ∃ q, kvs[i]? = some q := ⟨kvs[i]'(by omega), List.getElem?_eq_getElem (by omega)⟩
    obtain ⟨u2, hu2, ru2⟩ := kv_get ku hk2
    rw [hk] at hu2
    cases hu2
    have e1 := congrArg (fun l => l[i]?) hv
    simp only [List.getElem?_map, hk2] at e1
    have hni : i < ns.length := by omega
    rw [List.getElem?_eq_getElem hni] at e1
    have e2 : x2 = V.int ns[i] := Option.some.inj e1
    subst e2
    obtain ⟨t2, rfl⟩ := ru2
    exact ⟨hi, t2, by rw [List.getD_eq_getElem?_getD, List.getElem?_eq_getElem hni]; rfl⟩
  refine max_def_walk (wpAny_pyIter_values (d := d) (knd := mixKind X.prog X.w) ⟨_, view, rfl, rfl⟩ hD4 ?_)
  have hlt : d < s4.heap.objs.size := by
    obtain ⟨_, _, e, _⟩ := hD4
    exact Heap.lt_size e
  refine ⟨s4.heap.objs.size, _, _, _, _, _, fun i j => decide (ns.getD i 0 > ns.getD j 0), rfl, Walks.dictValues (A := X.A.in1) (knd := mixKind X.prog X.w) (I.ok.hd hc) s4.heap.objs.size d (Nat.ne_of_lt hlt) us ep4, ⟨⟨_, Heap.get?_push_size _ rfl, rfl, rfl⟩, hD4.push _⟩, fun b hb => ?_, CmpOf.ints_gt (fun i => ns.getD i 0) (fun i v hk => (vals i v hk).2), fun v h2 tk out keep => ?_⟩
  · show b < (s4.heap.push _).objs.size
    rw [Heap.size_push]
    rcases List.mem_cons.mp hb with rfl | hb
    · exact Nat.lt_succ_self _
    · rw [List.mem_singleton.mp hb]
      exact Nat.lt_succ_of_lt hlt
  · obtain ⟨m, t3, rfl, top⟩ := topOf_out (by omega) vals rfl out
    refine ⟨.int m, H2, (I4.unpinned.kept fun b o e => ?_), ⟨_, rfl⟩, q m top⟩
    exact keep b o (fun z => by rw [List.mem_singleton.mp z] at e; exact absurd (Heap.lt_size e) (Nat.lt_irrefl _)) (Heap.get?_push_of_some _ e)
end
end Gx
namespace Gx
open PySem PySem.Spec PyProof.Rows L2
theorem kv_vals {κ : Type} : ∀ {kvs : List (κ × V)} {us : List (κ × Value)} {vs : List Value}, KV kvs us → vs = us.map Prod.snd → Vals (kvs.map Prod.snd) vs
  | _, _, _, .nil, rfl => .nil
  | _, _, _, .cons h t, rfl => .cons h.2 (kv_vals t rfl)
section
variable {X : Cx}
/-- list(d.values()) -/
def tListVals (td : TE) : TE := fun σ H Q => td σ H fun x H1 => ∃ (d : Addr) (kvs : List (Key × V)), x = .ref d ∧ H1 d = some (.dK kvs) ∧ ∀ l, H1 l = none → Q (.ref l) (upd H1 l (.lst (kvs.map Prod.snd)))
theorem pe_listVals {e : Expr} {td : TE} {p apos cpos pos : Pos} (hc : X.calm = true) (hg : Gl X "list") (hm : X.mg "list" = none) (he : PE X e td)
    (hbase : attributeBase e "values" X.env (eval e X.env) = eval e X.env := by rfl) (hline : (apos.endLine == cpos.line) = true := by rfl) (na : starEach [(.Call (.Attribute e "values" apos) [] [] cpos : Expr)] X.env = (false, eval (.Call (.Attribute e "values" apos) [] [] cpos) X.env) :: starEach [] X.env := by rfl) :
    PE X (.Call (.Name "list" p) [.Call (.Attribute e "values" apos) [] [] cpos] [] pos) (tListVals td) := by
  refine ⟨fun pins s σ H Q I h => Call_ (ld_blt I hg hm (show bootBuiltins "list" = some (.type "list") by decide +kernel) ?_)⟩
  refine PyProof.Rows.callWith_type1 (PyProof.Rows.args_cons ?_ na) na rfl
  refine wpAny_Call_method (T := "dict") (id := "dict.values") hbase rfl hline F.plainAttrs_dict F.slot_dict_values F.type_dict_values (thn (he.run pins s σ H _ I h) fun u s1 h1 => ?_)
  obtain ⟨x, H1, I1, rx, d, kvs, rfl, hd, q⟩ := h1
  obtain rfl : u = Value.ref d := rx
  obtain ⟨hz, hs, vs, kv, o1, es, ep, ho, hx, hdt, r⟩ := I1.hok d _ hd
  have hD : s1.heap.DictAt (mixKind X.prog X.w) d vs ep := ⟨o1, es, ho, hx, hdt, r⟩
  have hl : kvs.length = vs.length := Paired.length kv
  refine ⟨hD.dictOf.typeIs, hD.dictOf.mapOf.noDict, ?_⟩
  refine method_meetsIn F.slot_dict_values F.entry_dict_values rfl (PySem.evalArgs_none ⟨rfl, hD.dictOf.typeIs, F.args_dict_values_1 _, _, meets_dict_values (mixKind X.prog X.w) d hs, ⟨vs, hD.dictOf⟩, PyProof.Rows.args_nil ?_⟩)
  have I2 : L2.Inv X pins σ H1 { s1 with heap := s1.heap.push { cls := .type "dict_values", data := .fields #[.ref d] } } := I1.kept (t' := s1.toks) fun b ob z => Heap.get?_push_of_some _ z
  refine PySem.W.kdl_call (PySem.W.kdl_values (knd := mixKind X.prog X.w) (d := d) (r := s1.heap.objs.size) (kvs := vs) (ep := ep)) (I.ok.hd hc) ⟨⟨_, Heap.get?_push_size _ rfl, rfl, rfl⟩, hD.push _⟩ (by omega) fun h2 tk acc c keep new items => ?_
  have ev : acc.toList = vs.map Prod.snd := PySem.W.kdl_vals_eq acc.toList (by rw [Array.length_toList]; exact items.1) fun j v e => items.2 j v (by rw [← Array.getElem?_toList]; exact e)
  refine ⟨.ref _, _, I2.laid (t' := tk) (h' := h2) keep (Nat.le_refl _) (show ObjOk X.prog X.w _ h2 _ (.lst (kvs.map Prod.snd)) from ⟨by rw [List.length_map]; exact hz, acc.toList, c, kv_vals kv ev, ?_⟩), rfl, q _ (I2.hok.fresh (Nat.le_refl _))⟩
  rw [Array.toArray_toList]
  exact new
end
end Gx

/-! combinations of two of a list: how it is made, what it hands out -/
namespace Gx
open PySem PySem.Spec
open Sem (wp)
theorem cm_mro : mroOf (.type "itertools.combinations") = pure [.type "itertools.combinations", .type "object"] := by rw [mroOf_type]; kernel_rfl
theorem cm_look : typeLookup (.type "itertools.combinations") "__new__" = pure (some (.builtin "itertools.combinations.__new__")) := by rw [typeLookup_type, builtinLookup_eq_fast]; kernel_rfl
theorem cm_sub : isSubtype (.type "itertools.combinations") (.type "itertools.combinations") = pure true := by rw [isSubtype_type]; kernel_rfl
theorem cm_init : Slot "itertools.combinations" "__init__" "object.__init__" := by
  refine Slot.of (owner := "object") (n := "__init__") ?_ (by decide +kernel) (by decide +kernel) (by decide +kernel) ?_ ?_
  · rw [typeLookup_type, builtinLookup_eq_fast]; kernel_rfl
  · first | exact .inl (by decide +kernel) | exact .inr (by decide +kernel)
  · rw [isSubtype_type]; kernel_rfl
theorem cm_iter : Slot "itertools.combinations" "__iter__" "itertools.combinations.__iter__" := by
  refine Slot.of (owner := "itertools.combinations") (n := "__iter__") ?_ (by decide +kernel) (by decide +kernel) (by decide +kernel) ?_ cm_sub
  · rw [typeLookup_type, builtinLookup_eq_fast]; kernel_rfl
  · first | exact .inl (by decide +kernel) | exact .inr (by decide +kernel)
theorem cm_next : Slot "itertools.combinations" "__next__" "itertools.combinations.__next__" := by
  refine Slot.of (owner := "itertools.combinations") (n := "__next__") ?_ (by decide +kernel) (by decide +kernel) (by decide +kernel) ?_ cm_sub
  · rw [typeLookup_type, builtinLookup_eq_fast]; kernel_rfl
  · first | exact .inl (by decide +kernel) | exact .inr (by decide +kernel)
theorem cm_called : TypeCalled "itertools.combinations" "itertools.combinations.__new__" "object.__init__" :=
  ⟨by decide +kernel, by decide +kernel, ⟨_, _, cm_mro⟩, madeBy_type cm_mro cm_look (by decide +kernel), by decide +kernel, cm_sub, cm_init⟩
theorem cm_call2 (a b : Value) : checkTypeCall "itertools.combinations" ⟨[a, b], []⟩ = pure () := by kernel_rfl
theorem cm_new2 (a b : Value) : checkBuiltinCall "itertools.combinations.__new__" ⟨[.type "itertools.combinations", a, b], []⟩ = pure () := by kernel_rfl
theorem cm_entN : entryFor table "itertools.combinations.__new__" = some Builtin.«itertools.combinations.__new__» := entryFor_of_tree (by kernel_rfl)
theorem cm_entI : entryFor table "itertools.combinations.__iter__" = some Builtin.«dict_keyiterator.__iter__» := by
  refine entryFor_alias (id' := "dict_keyiterator.__iter__") (by kernel_rfl) ?_ (by decide +kernel) (by kernel_rfl)
  first | rfl | decide +kernel | (unfold String.splitOn; simp +decide [String.splitOnAux])
theorem cm_entX : entryFor table "itertools.combinations.__next__" = some Builtin.«itertools.combinations.__next__» := entryFor_of_tree (by kernel_rfl)
theorem cm_owner : Manifest.owners.lookup (String.ofList ['s', 'n', 'o', 'i', 't', 'a', 'n', 'i', 'b', 'm', 'o', 'c', '.', 's', 'l', 'o', 'o', 't', 'r', 'e', 't', 'i'].reverse) = some Manifest.sig_itertools_combinations := by kernel_rfl
theorem cm_argI (a : Value) : argsOk "itertools.combinations.__iter__" ⟨[a], []⟩ := by
  unfold argsOk
  rw [signature?_of (id := "itertools.combinations.__iter__") (n := ['_', '_', 'r', 'e', 't', 'i', '_', '_']) (o := ['s', 'n', 'o', 'i', 't', 'a', 'n', 'i', 'b', 'm', 'o', 'c', '.', 's', 'l', 'o', 'o', 't', 'r', 'e', 't', 'i']) (by kernel_rfl) cm_owner]
  kernel_rfl
theorem cm_argX (a : Value) : argsOk "itertools.combinations.__next__" ⟨[a], []⟩ := by
  unfold argsOk
  rw [signature?_of (id := "itertools.combinations.__next__") (n := ['_', '_', 't', 'x', 'e', 'n', '_', '_']) (o := ['s', 'n', 'o', 'i', 't', 'a', 'n', 'i', 'b', 'm', 'o', 'c', '.', 's', 'l', 'o', 'o', 't', 'r', 'e', 't', 'i']) (by kernel_rfl) cm_owner]
  kernel_rfl
theorem cm_noDict : typeHasDict (.type "itertools.combinations") = false := by decide +kernel

/-- such a thing: its pool, how far it is, what it told last, the two places -/
abbrev IsCm (h : Heap) (it p : Addr) (st : Nat) (last : Value) (i j : Nat) : Prop :=
  h.get? it = some { cls := .type "itertools.combinations", dict := none, data := .fields #[.ref p, rawInt st, last, rawInt i, rawInt j], slots := #[] }
abbrev IsPool (h : Heap) (p : Addr) (us : List Value) : Prop := h.get? p = some { cls := .type "tuple", dict := none, data := .seq us.toArray, slots := #[] }
end Gx

namespace Gx
open PySem PySem.Spec
open Sem (wp)
theorem cm_new (l : Addr) (t : Tok) (us : List Value) (hsz : us.length ≤ sizeLine) :
    Meets (Builtin.«itertools.combinations.__new__» ⟨[.type "itertools.combinations", .ref l, .int 2 t], []⟩)
      (fun _ R s => s.heap.IsList l us.toArray ∧ ∀ h' : Heap, (∀ b o', s.heap.get? b = some o' → h'.get? b = some o') →
        R (.ok (.ret (.ref (h'.objs.size + 1)))) { s with heap := (h'.push { cls := .type "tuple", data := .seq us.toArray }).push { cls := .type "itertools.combinations", data := .fields #[.ref h'.objs.size, rawInt (if 2 > us.length then 2 else 0), .none, rawInt 0, rawInt 1] } }) :=
  .of_wp fun prog w A R s h => by
    obtain ⟨hp, g, d, tk, os⟩ := s
    obtain ⟨⟨o, ho, hc, n, hd⟩, h⟩ := h
    have hsub := cm_sub
    have hsub2 : isSubtype (.type "itertools.combinations") (.type ("itertools." ++ "combinations")) = pure true := by rw [show ("itertools." ++ "combinations" : String) = "itertools.combinations" by decide]; exact cm_sub
    have hbn : Builtin.Itertools.itBindNamed "combinations" ["iterable", "r"] 2 2 [.ref l, .int 2 t] [] = pure [some (.ref l), some (.int 2 t)] := by kernel_rfl
    have hnd := cm_noDict
    have hz : us.toArray.size ≤ sizeLine := by simpa using hsz
    wp_walk using wpAny_collect_seq (hsz := hz) l (.inl rfl) ho hc hd
    intro h' k
    have e0 : us.toArray.toList = us := rfl
    rw [e0]
    have hsz' : us.length ≤ sizeLine := hsz
    show wpAny _ _ (newTuple us >>= _) _ _ _
    refine wpAny_bind (wpAny_newTuple ?_ hsz')
    refine wpAny_pure ?_
    show wpAny _ _ (Builtin.Itertools.itNewRecord _ _ >>= _) _ _ _
    refine wpAny_bind ?_
    unfold Builtin.Itertools.itNewRecord
    rw [hnd]
    rw [if_pos (show (!false) = true from rfl)]
    refine wpAny_newObj_type ?_ (by show (5 : Nat) ≤ _; decide)
    refine wpAny_pure ⟨_, rfl, ?_⟩
    have := h h' k
    rw [Heap.size_push]
    exact this
end Gx

namespace Gx
open PySem PySem.Spec
open Sem (wp)
section
variable {prog : Program} {w : World} {A : Around} {E : Value → Shared → Prop} {s : Shared}
theorem cm_self {it p : Addr} {st : Nat} {last : Value} {i j : Nat} {Q : Value → Shared → Prop} (hit : IsCm s.heap it p st last i j) (h : Q (.ref it) s) : wpAny (model prog w) A (pyIter (.ref it)) Q E s := by
  have hT : s.TypeIs (.ref it) "itertools.combinations" := ⟨_, hit, rfl⟩
  refine wpAny_pyIter_slot hT cm_iter (wpAny_call_entry cm_iter hT cm_entI ?_ (cm_argI _))
  show wpAny _ _ (ret (.ref it)) _ _ s
  exact wpAny_pure ⟨_, rfl, "itertools.combinations", _, hT, cm_next.lookup, h⟩
theorem cm_stop {α : Type} {Q : α → Shared → Prop} (hh : A.handled = none)
    (hQ : ∀ e h', (∃ o, h'.get? e = some o ∧ o.cls = .type "StopIteration") → (∀ b o, s.heap.get? b = some o → h'.get? b = some o) → E (.ref e) { s with heap := h' }) :
    wpAny (model prog w) A (Builtin.Itertools.itStop : Sem α) Q E s := by
  unfold Builtin.Itertools.itStop
  refine wpAny_bind ?_
  simp only [newExc, newTuple]
  refine wpAny_bind (wpAny_newObj_type ?_ (by size_fits))
  refine wpAny_bind (m := firstArgMember _ _) (wpAny_of_eq (a := Value.none) (by first | rfl | (simp only [firstArgMember]; rfl)) ?_)
  refine wpAny_newObj_type ?_ (by size_fits)
  simp only [raiseNew]
  refine wpAny_bind (wpAny_handled ?_)
  rw [hh]
  refine wpAny_bind (wpAny_pure (wpAny_throw ?_))
  exact hQ _ _ ⟨_, Heap.get?_push_size _ rfl, rfl⟩ fun b o e => Heap.get?_push_of_some _ (Heap.get?_push_of_some _ e)
/-- the two things at the places are handed out -/
theorem cm_pick {p : Addr} {i j : Nat} {x y : Value} {us : List Value} {Q : Value → Shared → Prop} (hp : IsPool s.heap p us) (hx : us[i]? = some x) (hy : us[j]? = some y)
    (hQ : Q (.ref s.heap.objs.size) { s with heap := s.heap.push { cls := .type "tuple", data := .seq #[x, y] } }) :
    wpAny (model prog w) A (Builtin.Itertools.itPoolItems (.ref p) >>= fun items => newTuple ([i, j].map fun k => items.getD k .none)) Q E s := by
  refine wpAny_bind ?_
  unfold Builtin.Itertools.itPoolItems
  refine wpAny_bind (wpAny_seqItems hp rfl (wpAny_pure ?_))
  have ex : us.toArray.getD i Value.none = x := by simp [Array.getD_eq_getD_getElem?, hx]
  have ey : us.toArray.getD j Value.none = y := by simp [Array.getD_eq_getD_getElem?, hy]
  show wpAny _ _ (newTuple [us.toArray.getD i Value.none, us.toArray.getD j Value.none]) _ _ _
  rw [ex, ey]
  exact wpAny_newTuple hQ (by show 2 ≤ sizeLine; decide)
theorem cm_apart {h : Heap} {it p : Addr} {st : Nat} {last : Value} {i j : Nat} {us : List Value} (hp : IsPool h p us) (hit : IsCm h it p st last i j) : p ≠ it := fun e => by
  rw [e] at hp
  have h1 := Option.some.inj (hp.symm.trans hit)
  have h2 := congrArg Obj.data h1
  exact nomatch h2
theorem cm_hand {it p : Addr} {st : Nat} {last : Value} {i j a b : Nat} {x y : Value} {us : List Value} {Q : Value → Shared → Prop} (hit : IsCm s.heap it p st last a b) (hp : IsPool s.heap p us) (hx : us[i]? = some x) (hy : us[j]? = some y)
    (hQ : ∀ h', IsCm h' it p st (.ref s.heap.objs.size) a b → IsPair h' s.heap.objs.size x y → h'.objs.size = s.heap.objs.size + 1 → (∀ c o, c ≠ it → s.heap.get? c = some o → h'.get? c = some o) → Q (.ref s.heap.objs.size) { s with heap := h' }) :
    wpAny (model prog w) A ((Builtin.Itertools.itPoolItems (.ref p) >>= fun items => newTuple ([i, j].map fun k => items.getD k .none)) >>= fun result => field (.ref it) 2 >>= fun before => setField (.ref it) 2 result >>= fun _ => letGo [before] [result] >>= fun _ => ret result)
      (fun fin s' => ∃ v, fin = .done (.ret v) ∧ Q v s') E s := by
  refine wpAny_bind (cm_pick hp hx hy ?_)
  have hit1 : IsCm (s.heap.push { cls := .type "tuple", data := .seq #[x, y] }) it p st last a b := Heap.get?_push_of_some _ hit
  refine wpAny_bind (wpAny_field hit1 rfl (x := last) rfl ?_)
  refine wpAny_bind (wpAny_setField_rec hit1 (by simp) fun h2 hit2 sb2 => ?_)
  refine wpAny_bind (wpAny_letGo ?_)
  have lt : it < s.heap.objs.size := Heap.lt_size hit
  refine wpAny_pure ⟨_, rfl, hQ h2 hit2 ((sb2.2 _ (Nat.ne_of_gt lt)).trans (Heap.get?_push_size _ rfl)) (by rw [sb2.1, Heap.size_push]) fun c o hc e => (sb2.2 c hc).trans (Heap.get?_push_of_some _ e)⟩
/-- what the next step does with the two places -/
theorem cm_item0 {it p : Addr} {i j : Nat} {x y : Value} {us : List Value} {Q : Value → Shared → Prop} (hit : IsCm s.heap it p 0 .none i j) (hp : IsPool s.heap p us) (hx : us[i]? = some x) (hy : us[j]? = some y)
    (hQ : ∀ h', IsCm h' it p 1 (.ref s.heap.objs.size) i j → IsPair h' s.heap.objs.size x y → h'.objs.size = s.heap.objs.size + 1 → (∀ c o, c ≠ it → s.heap.get? c = some o → h'.get? c = some o) → Q (.ref s.heap.objs.size) { s with heap := h' }) :
    wpAny (model prog w) A (Builtin.«itertools.combinations.__next__» ⟨[.ref it], []⟩) (fun fin s' => ∃ v, fin = .done (.ret v) ∧ Q v s') E s := by
  show wpAny _ _ (field (.ref it) 0 >>= _) _ _ s
  refine wpAny_bind (wpAny_field hit rfl (x := .ref p) rfl ?_)
  show wpAny _ _ (Builtin.Itertools.itNumbersFrom (.ref it) 3 >>= _) _ _ s
  refine wpAny_bind ?_
  unfold Builtin.Itertools.itNumbersFrom
  refine wpAny_bind (wpAny_load hit ?_)
  refine wpAny_pure ?_
  show wpAny _ _ (Builtin.Itertools.itIntField (.ref it) 1 >>= _) _ _ s
  refine wpAny_bind ?_
  unfold Builtin.Itertools.itIntField
  refine wpAny_bind (wpAny_field hit rfl (x := rawInt 0) rfl ?_)
  refine wpAny_pure ?_
  show wpAny _ _ (setField (.ref it) 1 (rawInt 1) >>= _) _ _ s
  refine wpAny_bind (wpAny_setField_rec hit (by simp) fun h1 hit1 sb1 => ?_)
  have hp1 : IsPool h1 p us := (sb1.2 p (cm_apart hp hit)).trans hp
  replace hit1 : IsCm h1 it p 1 .none i j := hit1
  refine cm_hand (s := { s with heap := h1 }) hit1 hp1 hx hy fun h' a b c d => ?_
  have e1 : h1.objs.size = s.heap.objs.size := sb1.1
  have a' : IsCm h' it p 1 (.ref h1.objs.size) i j := a
  have b' : IsPair h' h1.objs.size x y := b
  have c' : h'.objs.size = h1.objs.size + 1 := c
  show Q (.ref h1.objs.size) _
  rw [e1] at a' b' c' ⊢
  exact hQ h' a' b' c' fun q o hq e => d q o hq ((sb1.2 q hq).trans e)
theorem cm_item1 {it p : Addr} {i j a b : Nat} {x y last : Value} {us : List Value} {Q : Value → Shared → Prop} (hit : IsCm s.heap it p 1 last a b) (hp : IsPool s.heap p us) (hn : (b + 1 < us.length ∧ i = a ∧ j = b + 1) ∨ (b + 1 = us.length ∧ a + 2 < us.length ∧ i = a + 1 ∧ j = a + 2)) (hx : us[i]? = some x) (hy : us[j]? = some y)
    (hQ : ∀ h', IsCm h' it p 1 (.ref s.heap.objs.size) i j → IsPair h' s.heap.objs.size x y → h'.objs.size = s.heap.objs.size + 1 → (∀ c o, c ≠ it → s.heap.get? c = some o → h'.get? c = some o) → Q (.ref s.heap.objs.size) { s with heap := h' }) :
    wpAny (model prog w) A (Builtin.«itertools.combinations.__next__» ⟨[.ref it], []⟩) (fun fin s' => ∃ v, fin = .done (.ret v) ∧ Q v s') E s := by
  show wpAny _ _ (field (.ref it) 0 >>= _) _ _ s
  refine wpAny_bind (wpAny_field hit rfl (x := .ref p) rfl ?_)
  show wpAny _ _ (Builtin.Itertools.itNumbersFrom (.ref it) 3 >>= _) _ _ s
  refine wpAny_bind ?_
  unfold Builtin.Itertools.itNumbersFrom
  refine wpAny_bind (wpAny_load hit ?_)
  refine wpAny_pure ?_
  show wpAny _ _ (Builtin.Itertools.itIntField (.ref it) 1 >>= _) _ _ s
  refine wpAny_bind ?_
  unfold Builtin.Itertools.itIntField
  refine wpAny_bind (wpAny_field hit rfl (x := rawInt 1) rfl ?_)
  refine wpAny_pure ?_
  show wpAny _ _ (Builtin.Itertools.itPoolItems (.ref p) >>= _) _ _ s
  refine wpAny_bind ?_
  unfold Builtin.Itertools.itPoolItems
  refine wpAny_bind (wpAny_seqItems hp rfl (wpAny_pure ?_))
  have key : (match List.find? (fun k => [a, b].getD k 0 != k + us.toArray.size - 2) [1, 0] with | none => (none : Option (List Nat)) | some k => some ([a, b].take k ++ (List.range (2 - k)).map fun m => [a, b].getD k 0 + 1 + m)) = some [i, j] := by
    rw [List.size_toArray]
    rcases hn with ⟨h1, rfl, rfl⟩ | ⟨h1, h2, rfl, rfl⟩
    · rw [List.find?_cons_of_pos (by simp; omega)]
      rfl
    · rw [List.find?_cons_of_neg (by simp; omega), List.find?_cons_of_pos (by simp; omega)]
      rfl
  split
  · next nx e =>
    have e2 : some nx = some [i, j] := e.symm.trans key
    cases e2
    show wpAny _ _ (Builtin.Itertools.itSetNumbersFrom (.ref it) 3 [i, j] >>= _) _ _ s
    unfold Builtin.Itertools.itSetNumbersFrom
    refine wpAny_bind (wpAny_updateFields hit rfl ?_ (by show (5 : Nat) ≤ _; decide))
    have hit1 : IsCm (s.heap.update it (Obj.mapFields fun fs => fs.extract 0 3 ++ ([i, j].map fun (n : Nat) => rawInt n).toArray)) it p 1 last i j := Heap.get?_update_self _ hit rfl
    have sb : Heap.SameBut it s.heap (s.heap.update it (Obj.mapFields fun fs => fs.extract 0 3 ++ ([i, j].map fun (n : Nat) => rawInt n).toArray)) := Heap.SameBut.update ..
    generalize (s.heap.update it (Obj.mapFields fun fs => fs.extract 0 3 ++ ([i, j].map fun (n : Nat) => rawInt n).toArray)) = h1 at *
    have hp1 : IsPool h1 p us := (sb.2 p (cm_apart hp hit)).trans hp
    refine cm_hand (s := { s with heap := h1 }) hit1 hp1 hx hy fun h' q1 q2 q3 q4 => ?_
    have e1 : h1.objs.size = s.heap.objs.size := sb.1
    have a' : IsCm h' it p 1 (.ref h1.objs.size) i j := q1
    have b' : IsPair h' h1.objs.size x y := q2
    have c' : h'.objs.size = h1.objs.size + 1 := q3
    show Q (.ref h1.objs.size) _
    rw [e1] at a' b' c' ⊢
    exact hQ h' a' b' c' fun q o hq e => q4 q o hq ((sb.2 q hq).trans e)
  · next e => exact nomatch e.symm.trans key
theorem cm_end1 {it p : Addr} {a b : Nat} {last : Value} {us : List Value} {Q : Fin → Shared → Prop} (hh : A.handled = none) (hit : IsCm s.heap it p 1 last a b) (hp : IsPool s.heap p us) (h1 : b + 1 = us.length) (h2 : us.length ≤ a + 2) (h3 : a < b)
    (hE : ∀ e h', (∃ o, h'.get? e = some o ∧ o.cls = .type "StopIteration") → (∀ c o, c ≠ it → s.heap.get? c = some o → h'.get? c = some o) → E (.ref e) { s with heap := h' }) :
    wpAny (model prog w) A (Builtin.«itertools.combinations.__next__» ⟨[.ref it], []⟩) Q E s := by
  show wpAny _ _ (field (.ref it) 0 >>= _) _ _ s
  refine wpAny_bind (wpAny_field hit rfl (x := .ref p) rfl ?_)
  show wpAny _ _ (Builtin.Itertools.itNumbersFrom (.ref it) 3 >>= _) _ _ s
  refine wpAny_bind ?_
  unfold Builtin.Itertools.itNumbersFrom
  refine wpAny_bind (wpAny_load hit ?_)
  refine wpAny_pure ?_
  show wpAny _ _ (Builtin.Itertools.itIntField (.ref it) 1 >>= _) _ _ s
  refine wpAny_bind ?_
  unfold Builtin.Itertools.itIntField
  refine wpAny_bind (wpAny_field hit rfl (x := rawInt 1) rfl ?_)
  refine wpAny_pure ?_
  show wpAny _ _ (Builtin.Itertools.itPoolItems (.ref p) >>= _) _ _ s
  refine wpAny_bind ?_
  unfold Builtin.Itertools.itPoolItems
  refine wpAny_bind (wpAny_seqItems hp rfl (wpAny_pure ?_))
  have key : (match List.find? (fun k => [a, b].getD k 0 != k + us.toArray.size - 2) [1, 0] with | none => (none : Option (List Nat)) | some k => some ([a, b].take k ++ (List.range (2 - k)).map fun m => [a, b].getD k 0 + 1 + m)) = none := by
    rw [List.size_toArray]
    rw [List.find?_cons_of_neg (by simp; omega), List.find?_cons_of_neg (by simp; omega)]
    rfl
  split
  · next nx e => exact nomatch e.symm.trans key
  · show wpAny _ _ (setField (.ref it) 1 (rawInt 2) >>= _) _ _ s
    refine wpAny_bind (wpAny_setField_rec hit (by simp) fun h5 hit5 sb5 => ?_)
    exact cm_stop (s := { s with heap := h5 }) hh fun e h' he k => hE e h' he fun c o hc q => k c o ((sb5.2 c hc).trans q)
theorem cm_end2 {it p : Addr} {a b : Nat} {last : Value} {Q : Fin → Shared → Prop} (hh : A.handled = none) (hit : IsCm s.heap it p 2 last a b)
    (hE : ∀ e h', (∃ o, h'.get? e = some o ∧ o.cls = .type "StopIteration") → (∀ c o, c ≠ it → s.heap.get? c = some o → h'.get? c = some o) → E (.ref e) { s with heap := h' }) :
    wpAny (model prog w) A (Builtin.«itertools.combinations.__next__» ⟨[.ref it], []⟩) Q E s := by
  show wpAny _ _ (field (.ref it) 0 >>= _) _ _ s
  refine wpAny_bind (wpAny_field hit rfl (x := .ref p) rfl ?_)
  show wpAny _ _ (Builtin.Itertools.itNumbersFrom (.ref it) 3 >>= _) _ _ s
  refine wpAny_bind ?_
  unfold Builtin.Itertools.itNumbersFrom
  refine wpAny_bind (wpAny_load hit ?_)
  refine wpAny_pure ?_
  show wpAny _ _ (Builtin.Itertools.itIntField (.ref it) 1 >>= _) _ _ s
  refine wpAny_bind ?_
  unfold Builtin.Itertools.itIntField
  refine wpAny_bind (wpAny_field hit rfl (x := rawInt 2) rfl ?_)
  refine wpAny_pure ?_
  show wpAny _ _ (rule "itertools.combinations.ended" >>= _) _ _ s
  refine wpAny_bind (wpAny_rule ?_)
  exact cm_stop hh fun e h' he k => hE e h' he fun c o _ q => k c o q
/-- the next one -/
theorem cm_pyItem {it : Addr} {Q : Option Value → Shared → Prop} (hT : s.TypeIs (.ref it) "itertools.combinations")
    (h : ∀ E' : Value → Shared → Prop, wpAny (model prog w) A.in1 (Builtin.«itertools.combinations.__next__» ⟨[.ref it], []⟩) (fun fin s' => ∃ v, fin = .done (.ret v) ∧ Q (some v) s') E' s) : wpAny (model prog w) A (pyNext (.ref it)) Q E s := by
  unfold pyNext
  refine wpAny_bind (wpAny_attempt (wpAny_callSpecial?_slot (name := Str.ofString "__next__") hT cm_next (wpAny_call_entry cm_next hT cm_entX ?_ (cm_argX _))))
  exact wpAny_mono (h _) (fun fin s' ⟨v, e, q⟩ => ⟨v, e, wpAny_pure q⟩) fun _ _ x => x
theorem cm_pyEnd {it : Addr} {Q : Option Value → Shared → Prop} (hT : s.TypeIs (.ref it) "itertools.combinations")
    (h : ∀ Q' : Fin → Shared → Prop, wpAny (model prog w) A.in1 (Builtin.«itertools.combinations.__next__» ⟨[.ref it], []⟩) Q' (fun e s' => ∃ a, e = .ref a ∧ (∃ o, s'.heap.get? a = some o ∧ o.cls = .type "StopIteration") ∧ Q none s') s) : wpAny (model prog w) A (pyNext (.ref it)) Q E s := by
  unfold pyNext
  refine wpAny_bind (wpAny_attempt (wpAny_callSpecial?_slot (name := Str.ofString "__next__") hT cm_next (wpAny_call_entry cm_next hT cm_entX ?_ (cm_argX _))))
  refine wpAny_mono (h _) (fun _ _ x => x) fun e s' ⟨a, ea, ⟨o, ho, hc⟩, q⟩ => ?_
  subst ea
  refine wpAny_bind (wpAny_isInstance (T := "StopIteration") (b := true) ⟨o, ho, hc⟩ isSubtype_stop ?_)
  exact wpAny_pure q
end
end Gx

/-! a loop over combinations(xs, 2) -/
namespace Gx
open PySem PySem.Spec PyProof.Rows L2
/-- all two of a list, by their places -/
def combos {α : Type} : List α → List (α × α)
  | [] => []
  | x :: xs => (xs.map fun y => (x, y)) ++ combos xs
def idxs : Nat → Nat → List (Nat × Nat)
  | _, 0 => []
  | i, m + 1 => ((List.range m).map fun k => (i, i + 1 + k)) ++ idxs (i + 1) m
def later2 (n i j : Nat) : List (Nat × Nat) := ((List.range (n - 1 - j)).map fun k => (i, j + 1 + k)) ++ idxs (i + 1) (n - 1 - i)
theorem range_head (m : Nat) {α : Type} (f : Nat → α) : (List.range (m + 1)).map f = f 0 :: (List.range m).map fun k => f (k + 1) := by
  rw [List.range_succ_eq_map, List.map_cons, List.map_map]
  rfl
theorem later2_next {n i j : Nat} (h : j + 1 < n) : later2 n i j = (i, j + 1) :: later2 n i (j + 1) := by
  unfold later2
  rw [show n - 1 - j = (n - 1 - (j + 1)) + 1 by omega, range_head]
  simp only [List.cons_append, Nat.add_zero]
  congr 2
  refine List.map_congr_left fun k _ => ?_
  rw [show j + 1 + (k + 1) = j + 1 + 1 + k by omega]
theorem later2_row {n i j : Nat} (h : j + 1 = n) (h2 : i + 2 < n) : later2 n i j = (i + 1, i + 2) :: later2 n (i + 1) (i + 2) := by
  unfold later2
  rw [show n - 1 - j = 0 by omega, List.range_zero, List.map_nil, List.nil_append, show n - 1 - i = (n - 1 - (i + 2)) + 1 + 1 by omega, idxs, range_head]
  simp only [List.cons_append, Nat.add_zero]
  rw [show n - 1 - (i + 1) = (n - 1 - (i + 2)) + 1 by omega]
  congr 2
  refine List.map_congr_left fun k _ => ?_
  rw [show i + 1 + 1 + (k + 1) = i + 2 + 1 + k by omega]
theorem later2_end {n i j : Nat} (h : j + 1 = n) (h2 : n ≤ i + 2) : later2 n i j = [] := by
  unfold later2
  rw [show n - 1 - j = 0 by omega, List.range_zero, List.map_nil, List.nil_append]
  rcases (by omega : n - 1 - i = 0 ∨ n - 1 - i = 1) with e | e
  · rw [e]; rfl
  · rw [e]; rfl
theorem idxs_first {n : Nat} (h : 2 ≤ n) : idxs 0 n = (0, 1) :: later2 n 0 1 := by
  obtain ⟨m, rfl⟩ : ∃ m, n = m + 1 + 1 := ⟨n - 2, by omega⟩
  unfold later2
  rw [idxs, range_head]
  simp only [List.cons_append, Nat.add_zero]
  rw [show m + 1 + 1 - 1 - 1 = m by omega, show m + 1 + 1 - 1 - 0 = m + 1 by omega]
  congr 2
  refine List.map_congr_left fun k _ => ?_
  rw [show 0 + 1 + (k + 1) = 1 + 1 + k by omega]
theorem idxs_none {n : Nat} (h : n < 2) : idxs 0 n = [] := by
  rcases (by omega : n = 0 ∨ n = 1) with e | e
  · rw [e]; rfl
  · rw [e]; rfl
theorem combos_idx {α : Type} (d : α) (xs : List α) : ∀ (m i : Nat), i + m = xs.length → combos (xs.drop i) = (idxs i m).map fun p => (xs.getD p.1 d, xs.getD p.2 d)
  | 0, i, h => by rw [List.drop_of_length_le (by omega)]; rfl
  | m + 1, i, h => by
    have hi : i < xs.length := by omega
    rw [List.drop_eq_getElem_cons hi, combos, combos_idx d xs m (i + 1) (by omega), idxs, List.map_append, List.map_map]
    congr 1
    have e : xs.drop (i + 1) = (List.range m).map fun k => xs.getD (i + 1 + k) d := by
      refine List.ext_getElem? fun k => ?_
      rw [List.getElem?_drop, List.getElem?_map]
      by_cases hk : k < m
      · rw [List.getElem?_range hk, List.getElem?_eq_getElem (by omega)]
        simp [List.getD, List.getElem?_eq_getElem (show i + 1 + k < xs.length by omega)]
      · rw [List.getElem?_eq_none (by omega), List.getElem?_eq_none (by simp; omega)]
        rfl
    rw [e, List.map_map]
    refine List.map_congr_left fun k _ => ?_
    simp [List.getD, List.getElem?_eq_getElem hi]
theorem combos_all {α : Type} (d : α) (xs : List α) : combos xs = (idxs 0 xs.length).map fun p => (xs.getD p.1 d, xs.getD p.2 d) := by
  have := combos_idx d xs xs.length 0 (Nat.zero_add _)
  rwa [List.drop_zero] at this
/-- what is handed out -/
def Itm (ps : List (V × V)) : It :=
  ⟨fun i _ => i < ps.length, fun i H v H' => ∃ T x y, v = .ref T ∧ H T = none ∧ H' = upd H T (.tup [x, y]) ∧ ps[i]? = some (x, y), fun i _ => ps.length ≤ i⟩
def CmAt (n : Nat) (it p : Addr) (us : List Value) (i : Nat) (h : Heap) : Prop := IsPool h p us ∧
  ((n < 2 ∧ ∃ last a b, IsCm h it p 2 last a b) ∨ (2 ≤ n ∧ i = 0 ∧ IsCm h it p 0 .none 0 1) ∨ ∃ k last a b, i = k + 1 ∧ IsCm h it p 1 last a b ∧ a < b ∧ b < n ∧ (idxs 0 n).drop (k + 1) = later2 n a b)
theorem CmAt.typ {n : Nat} {it p : Addr} {us : List Value} {i : Nat} {s : Shared} (h : CmAt n it p us i s.heap) : s.TypeIs (.ref it) "itertools.combinations" := by
  obtain ⟨_, ⟨_, _, _, _, h⟩ | ⟨_, _, h⟩ | ⟨_, _, _, _, _, h, _⟩⟩ := h
  · exact ⟨_, h, rfl⟩
  · exact ⟨_, h, rfl⟩
  · exact ⟨_, h, rfl⟩
theorem turn_cm {P : Program} {w : World} {K : PySem.W.Frag} {tg : Expr} {it p : Addr} {xs : List V} {us : List Value} (rv : Vals xs us) :
    Turn P w K tg (Itm (combos xs)) [it, p] it (CmAt xs.length it p us) where
  mem := by simp
  obj := fun i h st c hc => by
    obtain ⟨hp, st⟩ := st
    have e : c = it ∨ c = p := by simpa using hc
    rcases e with e | e
    · rw [e]
      rcases st with ⟨_, _, _, _, h⟩ | ⟨_, _, h⟩ | ⟨_, _, _, _, _, h, _⟩
      · exact ⟨_, h, fun v q => nomatch q⟩
      · exact ⟨_, h, fun v q => nomatch q⟩
      · exact ⟨_, h, fun v q => nomatch q⟩
    · rw [e]; exact ⟨_, hp, fun v q => nomatch q⟩
  keep := fun i h h' st k => by
    obtain ⟨hp, st⟩ := st
    refine ⟨k p (by simp) _ hp, ?_⟩
    rcases st with ⟨a1, a2, a3, a4, h⟩ | ⟨a1, a2, h⟩ | ⟨a1, a2, a3, a4, a5, h, a6⟩
    · exact .inl ⟨a1, a2, a3, a4, k it (by simp) _ h⟩
    · exact .inr (.inl ⟨a1, a2, k it (by simp) _ h⟩)
    · exact .inr (.inr ⟨a1, a2, a3, a4, a5, k it (by simp) _ h, a6⟩)
  item := by
    intro X hP hw hK hc i pins s σ H E I hf st hg
    subst hP hw hK
    have hT := st.typ
    obtain ⟨hp, st⟩ := st
    replace hg : i < (combos xs).length := hg
    have hl := rv.length
    have ce := combos_all V.non xs
    -- the places of this turn
    have fin : ∀ (a b : Nat), a < xs.length → b < xs.length → (idxs 0 xs.length)[i]? = some (a, b) → (idxs 0 xs.length).drop (i + 1) = later2 xs.length a b → a < b →
        (∀ (x y : Value) (Q : Value → Shared → Prop) (E' : Value → Shared → Prop), us[a]? = some x → us[b]? = some y →
          (∀ h', IsCm h' it p 1 (.ref s.heap.objs.size) a b → IsPair h' s.heap.objs.size x y → h'.objs.size = s.heap.objs.size + 1 → (∀ c o, c ≠ it → s.heap.get? c = some o → h'.get? c = some o) → Q (.ref s.heap.objs.size) { s with heap := h' }) →
          wpAny (model X.prog X.w) X.A.in1 (Builtin.«itertools.combinations.__next__» ⟨[.ref it], []⟩) (fun fin s' => ∃ v, fin = .done (.ret v) ∧ Q v s') E' s) →
        wpAny (model X.prog X.w) X.A (pyNext (.ref it)) (fun r s1 => ∃ u, r = some u ∧
          wpAny (model X.prog X.w) X.A (letOwnedTupleGo tg (.ref it) u) (fun _ s2 => ∃ x H', Inv X pins σ H' s2 ∧ RelV x u ∧ (Itm (combos xs)).yld i H x H' ∧ CmAt xs.length it p us (i + 1) s2.heap ∧ ∀ b ∈ [it, p], H' b = none) E s1) E s := by
      intro a b ha hb hi hd hab step
      have ea : xs[a]? = some (xs.getD a V.non) := by rw [List.getD, List.getElem?_eq_getElem ha]; rfl
      have eb : xs[b]? = some (xs.getD b V.non) := by rw [List.getD, List.getElem?_eq_getElem hb]; rfl
      obtain ⟨u, hu, ru⟩ := rv.get ea
      obtain ⟨u2, hu2, ru2⟩ := rv.get eb
      refine cm_pyItem hT fun E' => step u u2 (fun v s' => ∃ u, some v = some u ∧ _) E' hu hu2 fun h' a1 a2 a3 a4 => ⟨_, rfl, go_of (s := { s with heap := h' }) a1 rfl rfl (by decide) ?_⟩
      have pit : p ≠ it := fun e => by
        obtain ⟨o, ho, hco⟩ := hT
        rw [e] at hp
        have := Option.some.inj (hp.symm.trans ho)
        rw [← this] at hco
        simp at hco
      · have new : ObjOk X.prog X.w (upd H s.heap.objs.size (.tup [xs.getD a V.non, xs.getD b V.non])) h' s.heap.objs.size (.tup [xs.getD a V.non, xs.getD b V.non]) :=
          ⟨by show 2 ≤ sizeLine; decide, [u, u2], .cons ru (.cons ru2 .nil), ⟨_, a2, rfl, _, rfl⟩⟩
        have I1 : Inv X pins σ (upd H s.heap.objs.size (.tup [xs.getD a V.non, xs.getD b V.non])) { s with heap := h' } :=
          I.turnedNew (t' := s.toks) (ch := [it]) (fun c o hb q => a4 c o (fun e => hb (by simp [e])) q) (fun c hc => hf c (by simp at hc ⊢; exact .inl hc)) (Nat.le_refl _) new
        refine ⟨.ref s.heap.objs.size, _, I1, rfl, ⟨_, _, _, rfl, I.hok.fresh (Nat.le_refl _), rfl, ?_⟩, ⟨a4 p _ pit hp, .inr (.inr ⟨i, _, a, b, rfl, a1, hab, hb, hd⟩)⟩, fun c hc => ?_⟩
        · rw [ce, List.getElem?_map, hi]; rfl
        · have lt : c < s.heap.objs.size := by
            have e : c = it ∨ c = p := by simpa using hc
            rcases e with e | e
            · rw [e]; obtain ⟨o, ho, _⟩ := hT; exact Heap.lt_size ho
            · rw [e]; exact Heap.lt_size hp
          rw [upd_ne (Nat.ne_of_lt lt)]
          exact (hf c hc).1
    have hn : ∀ {k : Nat}, (idxs 0 xs.length).length = k → i < k := fun {k} e => by rw [← e]; rw [ce, List.length_map] at hg; exact hg
    have hi : i < (idxs 0 xs.length).length := hn rfl
    rcases st with ⟨n2, last, a, b, hit⟩ | ⟨n2, rfl, hit⟩ | ⟨k, last, a, b, rfl, hit, hab, hb, hd⟩
    · rw [idxs_none n2] at hi; exact absurd hi (by simp)
    · refine fin 0 1 (by omega) (by omega) (by rw [idxs_first n2]; rfl) (by rw [idxs_first n2]; rfl) (by omega) fun x y Q E' hx hy hQ => cm_item0 hit hp hx hy hQ
    · have hb' : b < us.length := by omega
      by_cases c1 : b + 1 < xs.length
      · rw [later2_next c1] at hd
        refine fin a (b + 1) (by omega) c1 ?_ ?_ (by omega) fun x y Q E' hx hy hQ => cm_item1 hit hp (.inl ⟨by omega, rfl, rfl⟩) hx hy hQ
        · have := congrArg (fun l : List (Nat × Nat) => l[0]?) hd
          simpa using this
        · have := congrArg (fun l : List (Nat × Nat) => l.drop 1) hd
          simpa [List.drop_drop] using this
      · have hb1 : b + 1 = xs.length := by omega
        by_cases c2 : a + 2 < xs.length
        · rw [later2_row hb1 c2] at hd
          refine fin (a + 1) (a + 2) (by omega) c2 ?_ ?_ (by omega) fun x y Q E' hx hy hQ => cm_item1 hit hp (.inr ⟨by omega, by omega, rfl, rfl⟩) hx hy hQ
          · have := congrArg (fun l : List (Nat × Nat) => l[0]?) hd
            simpa using this
          · have := congrArg (fun l : List (Nat × Nat) => l.drop 1) hd
            simpa [List.drop_drop] using this
        · rw [later2_end hb1 (by omega)] at hd
          have := congrArg List.length hd
          rw [List.length_drop, List.length_nil] at this
          omega
  done := by
    intro X hP hw hK hc i pins s σ H E I hf st hg
    subst hP hw hK
    have hT := st.typ
    obtain ⟨hp, st⟩ := st
    replace hg : (combos xs).length ≤ i := hg
    have hl := rv.length
    rw [combos_all V.non xs, List.length_map] at hg
    have hend : ∀ (e : Value) (h' : Heap), (∀ c o, c ≠ it → s.heap.get? c = some o → h'.get? c = some o) → Inv X pins σ H { s with heap := h' } := fun e h' k =>
      I.turnedL (t' := s.toks) (ch := [it]) (fun c o hb q => k c o (fun e => hb (by simp [e])) q) fun c hc => hf c (by simp at hc ⊢; exact .inl hc)
    rcases st with ⟨n2, last, a, b, hit⟩ | ⟨n2, rfl, hit⟩ | ⟨k, last, a, b, rfl, hit, hab, hb, hd⟩
    · exact cm_pyEnd hT fun Q' => cm_end2 (I.ok.hd hc) hit fun e h' q k => ⟨e, rfl, q, rfl, hend (.ref e) h' k⟩
    · rw [idxs_first n2] at hg; exact absurd hg (by simp)
    · have c1 : ¬ b + 1 < xs.length := fun c1 => by
        rw [later2_next c1] at hd
        have := congrArg List.length hd
        rw [List.length_drop, List.length_cons] at this
        omega
      have hb1 : b + 1 = xs.length := by omega
      have c2 : ¬ a + 2 < xs.length := fun c2 => by
        rw [later2_row hb1 c2] at hd
        have := congrArg List.length hd
        rw [List.length_drop, List.length_cons] at this
        omega
      exact cm_pyEnd hT fun Q' => cm_end1 (I.ok.hd hc) hit hp (by omega) (by omega) hab fun e h' q k => ⟨e, rfl, q, rfl, hend (.ref e) h' k⟩
  self := fun A i s Q E st h => by
    obtain ⟨_, ⟨_, _, _, _, q⟩ | ⟨_, _, q⟩ | ⟨_, _, _, _, _, q, _⟩⟩ := st
    · exact cm_self q h
    · exact cm_self q h
    · exact cm_self q h
/-- combinations(xs, 2) of a list -/
def iComb (K : PySem.W.Frag) (ta : TA) : TI := fun σ H R => ta σ H fun vs H1 => ∃ (a : Addr) (xs : List V), vs = [.ref a, .int 2] ∧ SqL K H1 a xs ∧ R (Itm (combos xs)) H1
theorem pi_comb {X : Cx} {tg e e2 : Expr} {ta : TA} {p pos : Pos} (hg : Gl X "combinations") (hm : X.mg "combinations" = some (.type "itertools.combinations")) (ha : PA X [e, e2] ta)
    (hs : starEach [e, e2] X.env = (false, eval e X.env) :: starEach [e2] X.env := by rfl) (hpl : (backTo pos (starEach [e2] X.env)).any (·.1) = false := by rfl) :
    PI X tg (.Call (.Name "combinations" p) [e, e2] [] pos) (iComb X.K ta) := by
  refine ⟨fun pins s σ H R I h => ?_⟩
  refine Call_ (ld_glob I hg hm (PyProof.Rows.callWith_type1 (thn (ha.run pos pins s σ H _ I h) fun us s1 ⟨vs, H1, I1, r1, q1⟩ => ?_) hs hpl))
  obtain ⟨a, xs, ex, hq, q⟩ := q1
  subst ex
  cases r1 with
  | cons r rr =>
    cases rr with
    | cons r' rr =>
      cases rr
      cases r
      obtain ⟨t, rfl⟩ := r'
      obtain ⟨its, rv, p1, hz⟩ := I1.list hq
      have hl := rv.length
      refine callType_new cm_called (by decide) (cm_call2 _ _) (cm_new2 _ _) (fun obj => F.args_object_init_3 obj _ _) cm_entN (cm_new a t its ?_) ⟨p1.isList, fun h' k => ?_⟩
      · omega
      · have z1 : (h'.push { cls := .type "tuple", data := .seq its.toArray }).objs.size = h'.objs.size + 1 := Heap.size_push ..
        have g1 := Heap.get?_push_size (h'.push { cls := .type "tuple", data := .seq its.toArray }) (o := { cls := .type "itertools.combinations", data := .fields #[.ref h'.objs.size, rawInt (if 2 > its.length then 2 else 0), .none, rawInt 0, rawInt 1] }) rfl
        rw [z1] at g1
        have g0 : ((h'.push { cls := .type "tuple", data := .seq its.toArray }).push { cls := .type "itertools.combinations", data := .fields #[.ref h'.objs.size, rawInt (if 2 > its.length then 2 else 0), .none, rawInt 0, rawInt 1] }).get? h'.objs.size = some _ := Heap.get?_push_of_some _ (Heap.get?_push_size _ rfl)
        have kk : ∀ b o, s1.heap.get? b = some o → ((h'.push { cls := .type "tuple", data := .seq its.toArray }).push { cls := .type "itertools.combinations", data := .fields #[.ref h'.objs.size, rawInt (if 2 > its.length then 2 else 0), .none, rawInt 0, rawInt 1] }).get? b = some o := fun b o e => Heap.get?_push_of_some _ (Heap.get?_push_of_some _ (k b o e))
        generalize ((h'.push { cls := .type "tuple", data := .seq its.toArray }).push { cls := .type "itertools.combinations", data := .fields #[.ref h'.objs.size, rawInt (if 2 > its.length then 2 else 0), .none, rawInt 0, rawInt 1] }) = h2 at g1 g0 kk ⊢
        refine ⟨⟨_, g1, rfl⟩, ?_⟩
        have I2 : Inv X pins σ H1 { s1 with heap := h2 } := I1.kept (t' := s1.toks) kk
        have at0 : CmAt xs.length (h'.objs.size + 1) h'.objs.size its 0 h2 := by
          refine ⟨g0, ?_⟩
          by_cases c : xs.length < 2
          · rw [if_pos (by omega)] at g1
            exact .inl ⟨c, _, 0, 1, g1⟩
          · rw [if_neg (by omega)] at g1
            exact .inr (.inl ⟨by omega, rfl, g1⟩)
        refine (turn_cm (P := X.prog) (w := X.w) (K := X.K) (tg := tg) rv).self _ 0 _ _ _ at0 ⟨_, _, _, _, H1, rfl, I2, turn_cm rv, at0, fun c hc => ?_, q⟩
        have I' : Inv X pins σ H1 { s1 with heap := h' } := I1.kept (t' := s1.toks) k
        have hle : h'.objs.size ≤ c := by
          have e : c = h'.objs.size + 1 ∨ c = h'.objs.size := by simpa using hc
          rcases e with e | e
          · exact e ▸ Nat.le_succ _
          · exact e ▸ Nat.le_refl _
        exact I'.fpOk hle (I'.hok.fresh hle)
theorem walk_comb {ps : List (V × V)} : Walk (Itm ps) ps.length (fun _ => True) (YPair (fun i => ps[i]?.map Prod.fst) (fun i => ps[i]?.map Prod.snd)) := by
  refine ⟨fun _ _ hi _ => hi, fun _ _ => Nat.le_refl _, fun i H v H' _ _ y => ?_⟩
  obtain ⟨T, x, z, h1, h2, h3, h4⟩ := y
  exact ⟨T, x, z, h1, h2, h3, by show Option.map Prod.fst ps[i]? = _; rw [h4]; rfl, by show Option.map Prod.snd ps[i]? = _; rw [h4]; rfl⟩
end Gx

/-! sorted(set(xs)) of a list of whole numbers -/
namespace Gx
open PySem PySem.Spec PyProof.Rows L2
section
variable {prog : Program} {w : World} {A : Around}
/-- set(l), l a list of whole numbers, with the order of its members -/
theorem set_of_ints {E : Value → Shared → Prop} {s : Shared} {l : Addr} {items : Array Value} {ns : List Int} {Q : Value → Shared → Prop} (hh : A.handled = none) (hl : s.heap.IsList l items) (hi : IntsAre items.toList ns) (hb : ns.length + 1 < scanBound)
    (h : ∀ (h' : Heap) (tk c : Nat), SetR w h' s.heap.objs.size (fun j => decide (j ∈ ns)) c → c ≤ ns.length → (∀ b o, s.heap.get? b = some o → h'.get? b = some o) → Q (.ref s.heap.objs.size) { s with heap := h', toks := tk }) :
    wpAny (model prog w) A (call (.type "set") [.ref l]) Q E s := by
  have hn : ns.length = items.size := by have q := IntsAre.length hi; rw [Array.length_toList] at q; exact q.symm
  obtain ⟨led, hled⟩ : ∃ led : Bool, (!w.params.followText "set-order") = led := ⟨_, rfl⟩
  obtain ⟨c0, tl0, mro0⟩ := PySem.F.called_set.mro
  have made0 := PySem.F.called_set.made; have sub0 := PySem.F.called_set.sub
  have nt0 := PySem.F.called_set.notType; have cc0 := PySem.F.called_set.canCreate
  have tc0 := PySem.F.typeCall_set_1 (.ref l)
  refine wpAny_call (codeAny_of_tree ?_)
  show wpAny (model prog w) _ (callAny (.type "set") _) _ _ _
  refine wpAny_pure ⟨Code.quiet_builtin _ (by decide +kernel), codeAny_builtin PySem.F.entry_type_call ?_⟩
  rw [Around.under_plain (weight_type_call_type "set" [.ref l] []) rfl]
  repeat any_goals first | assumption | wp_step
  refine codeAny_mono (code_set_led1 (.ref l) (E := E) (Q₁ := fun z t => z = .ref s.heap.objs.size ∧ t = { s with heap := s.heap.push { cls := .type "set", dict := none, data := .set #[] 0 (.fresh 0 0 (!w.params.followText "set-order")) } }) ⟨rfl, rfl⟩) fun r1 t1 q1 => ?_
  match r1, q1 with
  | .error e, q1 => exact q1
  | .ok (.ret z), q1 =>
    obtain ⟨rfl, rfl⟩ := q1
    have gS : (s.heap.push { cls := .type "set", dict := none, data := .set #[] 0 (.fresh 0 0 (!w.params.followText "set-order")) }).get? s.heap.objs.size = some { cls := .type "set", dict := none, data := .set #[] 0 (.fresh 0 0 (!w.params.followText "set-order")) } := Heap.get?_push_size _ rfl
    have tS : Shared.TypeIs { s with heap := s.heap.push { cls := .type "set", dict := none, data := .set #[] 0 (.fresh 0 0 (!w.params.followText "set-order")) } } (.ref s.heap.objs.size) "set" := ⟨_, gS, rfl⟩
    have li := PySem.F.called_set.init.lookup; have bi := PySem.F.called_set.init.bind (.ref s.heap.objs.size)
    repeat any_goals first | assumption | wp_step
    refine codeAny_mono (codeAny_call_builtin (R := wants (fun r t => r = .none ∧ ∃ h' tk c, t = { s with heap := h', toks := tk } ∧ SetR w h' s.heap.objs.size (fun j => decide (j ∈ ns)) c ∧ c ≤ ns.length ∧
        ∀ b o, s.heap.get? b = some o → h'.get? b = some o) E) PySem.F.called_set.init.plain PySem.F.entry_set_init (check_set_init_1 tS ?_)) fun r2 t2 q2 => ?_
    · obtain ⟨ol, gl, cl, nl, dl⟩ := hl
      obtain ⟨oc, od, ot, os⟩ := ol
      simp only at cl dl
      subst cl; subst dl
      have ll : l < s.heap.objs.size := Heap.lt_size gl
      have gl' : (s.heap.push { cls := .type "set", dict := none, data := .set #[] 0 (.fresh 0 0 (!w.params.followText "set-order")) }).get? l = some { cls := .type "list", dict := od, data := .seq items nl, slots := os } := Heap.get?_push_of_some _ gl
      have il : (s.heap.push { cls := .type "set", dict := none, data := .set #[] 0 (.fresh 0 0 (!w.params.followText "set-order")) }).IsList l items := ⟨_, gl', rfl, nl, rfl⟩
      have s1 := PySem.F.sub_list_set; have s2 := PySem.F.sub_list_frozenset
      have nd : (Value.type "list" == Value.type "dict") = false := by decide
      unfold Builtin.«set.__init__» noKeywords Builtin.Frozenset.updateFrom
      generalize hp : pyIter = pI
      wp_walk
      subst hp
      refine wpAny_pyIter_list il ?_
      refine wpAny_bind (wpAny_runValue ?_)
      have h3 : A.in1.in1.in1.handled = none := by simp [hh]
      have ni : l ≠ (s.heap.push { cls := .type "set", dict := none, data := .set #[] 0 (.fresh 0 0 (!w.params.followText "set-order")) }).objs.size := by rw [Heap.size_push]; exact Nat.ne_of_lt (Nat.lt_succ_of_lt ll)
      have zf : s.heap.objs.size ∉ [(s.heap.push { cls := .type "set", dict := none, data := .set #[] 0 (.fresh 0 0 (!w.params.followText "set-order")) }).objs.size, l] := by
        rw [Heap.size_push]; simp only [List.mem_cons, List.mem_singleton, List.not_mem_nil, or_false, not_or]
        exact ⟨Nat.ne_of_lt (Nat.lt_succ_self _), Nat.ne_of_gt ll⟩
      have hv : ∀ (i : Nat) (v : Value), items[i]? = some v → ∃ k t, ns[i]? = some k ∧ v = .int k t := fun i v q => by
        have il2 : i < ns.length := by rw [hn]; exact (Array.getElem?_eq_some_iff.mp q).1
        obtain ⟨t, e⟩ := PyProof.Rows.IntsAre.int_at hi i v (by rw [Array.getElem?_toList]; exact q)
        refine ⟨ns[i], t, List.getElem?_eq_getElem il2, ?_⟩
        rw [e, List.getD_eq_getElem?_getD, List.getElem?_eq_getElem il2] <;> rfl
      refine set_update_ints ((Walks.list h3 _ l ni items).toS) s.heap.objs.size zf ns hn.symm hb hv (items.size - 0) 0 _ (by omega) (Nat.zero_le _) ⟨⟨_, Heap.get?_push_size _ rfl, rfl, rfl⟩, il.push _⟩ ?_ fun t c mv hc hS => ?_
      · refine ⟨0, Nat.le_refl 0, setR_new_at ?_⟩
        exact Heap.get?_push_of_some _ gS
      · obtain ⟨h', g', d', tk', os'⟩ := t
        obtain rfl : g' = s.gens := mv.gens
        obtain rfl : d' = s.drawn := mv.drawn
        obtain rfl : os' = s.os := mv.os
        show wpAny (model prog w) _ _ _ _ _
        refine wpAny_pure ?_
        show wpAny (model prog w) _ (ret Value.none) _ _ _
        refine wpAny_pure ⟨rfl, h', tk', c, rfl, hS, by omega, fun b o e => ?_⟩
        have lb := Heap.lt_size e
        refine mv.heap b o (fun z => ?_) (Heap.get?_push_of_some _ (Heap.get?_push_of_some _ e))
        rcases List.mem_cons.mp z with y | y
        · exact Nat.ne_of_lt lb y
        · rcases List.mem_cons.mp y with y | y
          · rw [Heap.size_push] at y
            exact Nat.ne_of_lt (Nat.lt_succ_of_lt lb) y
          · cases y
    · match r2, q2 with
      | .error e, q2 => exact q2
      | .ok (.ret r), q2 =>
        obtain ⟨rfl, h', tk, c, rfl, hS, hc, hk⟩ := q2
        repeat any_goals first | assumption | wp_step
        exact h _ _ _ hS hc hk
/-- sorted(s), s a set of whole numbers, any number of them -/
theorem sorted_setN {E : Value → Shared → Prop} {s : Shared} {a : Addr} {S : Int → Bool} {n : Nat} {Q : Value → Shared → Prop} (R : SetR w s.heap a S n) (hh : A.handled = none)
    (hQ : ∀ s' p (out : Array Value) (c : Nat) (ns : List Int), (∀ b o, s.heap.get? b = some o → s'.heap.get? b = some o) → s'.gens = s.gens → s'.os = s.os → s.heap.objs.size ≤ p →
      s'.heap.get? p = some (seqObj "list" out c) → IntsAre out.toList ns → ns.Pairwise (· < ·) → (∀ k, k ∈ ns ↔ S k = true) → ns.length = n → Q (.ref p) s') :
    wpAny (model prog w) A (call (.builtin "sorted") [.ref a]) Q E s := by
  obtain ⟨o, es, ep, t, ho, hex, hd, g, nd, hm, hb, hf, hn, hr, hl⟩ := R
  refine Calls.call_function_entry kind_sorted plain_sorted entry_sorted (args_sorted1 _) ?_
  unfold Builtin.«sorted»
  refine wpAny_bind (m := checkCount "sorted" 1 1 _) (wpAny_pure (wpAny_bind (collect_set (A := A.in1) hh ⟨o, ho, hex.1, hd⟩ hf hb hr hl fun s1 vs keep le g1 o1 pm => ?_)))
  have lv : vs.length = n := by rw [pm.length_eq, List.length_map, Array.length_toList]; exact hn
  have lz : vs.length ≤ sizeLine := by rw [lv, ← hn]; unfold scanBound at hb; unfold sizeLine; omega
  have hI : IntsAre vs (vs.map Builtin.Re.reRawOf) := ints_of vs fun v hv => by
    obtain ⟨e, he, q⟩ := List.mem_map.mp (pm.mem_iff.mp hv)
    obtain ⟨k, tk, h1, _⟩ := g e he
    exact ⟨k, tk, q.symm.trans h1⟩
  have pk : (vs.map Builtin.Re.reRawOf).Perm (es.toList.map keyOf) := by
    have q := pm.map Builtin.Re.reRawOf
    rwa [List.map_map] at q
  refine wpAny_bind (wpAny_newList ?_ lz)
  have gL : (s1.heap.push (seqObj "list" vs.toArray 0)).get? s1.heap.objs.size = some (seqObj "list" vs.toArray 0) := Heap.get?_push_size _ rfl
  refine wpAny_bind (wpAny_holding (wpAny_call_entry slot_list_sort ⟨_, gL, rfl⟩ entry_list_sort (SrtO.list_sort_ord SrtO.swo_int gL lz (fun h2 => SrtO.ints_sortable hI h2) fun out a1 a2 => ⟨_, rfl, ?_⟩) (args_list_sort _)))
  obtain ⟨k1, k2, k3⟩ := SrtO.ints_out hI a1 a2
  obtain ⟨c, hc⟩ := sortedHeap_at (vs := vs) (out := out.toArray) gL
  have pn : (out.map SrtO.iv).Perm (es.toList.map keyOf) := k2.trans pk
  refine wpAny_pure ⟨_, rfl, hQ _ s1.heap.objs.size out.toArray c _ (fun b u e => ?_) g1 o1 le hc k1 (lt_of_le_nodup _ k3 (pn.nodup_iff.mpr nd)) (fun k => by rw [pn.mem_iff, ← hm k]) ?_⟩
  · have q := keep b u e
    have hlt := Heap.lt_size q
    show (sortedHeap (s1.heap.push (seqObj "list" vs.toArray 0)) s1.heap.objs.size vs out.toArray).get? b = some u
    rw [sortedHeap_old (Nat.ne_of_lt hlt) (by rw [size_push']; exact Nat.lt_succ_of_lt hlt)]
    exact Heap.get?_push_of_some _ q
  · rw [pn.length_eq, List.length_map, Array.length_toList]; exact hn
end
section
variable {X : Cx}
/-- sorted(set(xs)) of a list of whole numbers -/
def tSortedSetI (K : PySem.W.Frag) (ta : TE) : TE := fun σ H Q => ta σ H fun x H1 => ∃ (l : Addr) (ns : List Int), x = .ref l ∧ SqL K H1 l (ns.map V.int) ∧ ns.length ≤ 4000 ∧
  ∀ (ms : List Int) p, ms.Pairwise (· < ·) → (∀ k, k ∈ ms ↔ k ∈ ns) → H1 p = none → Q (.ref p) (upd H1 p (.lst (ms.map V.int)))
theorem pe_sortedSetI {a : Expr} {ta : TE} {p p2 q pos : Pos} (hg : Gl X "sorted") (hm : X.mg "sorted" = none) (hg2 : Gl X "set") (hm2 : X.mg "set" = none) (hh : X.A.handled = none) (ha : PE X a ta)
    (na : starEach [a] X.env = (false, eval a X.env) :: starEach [] X.env := by rfl) : PE X (.Call (.Name "sorted" p) [.Call (.Name "set" p2) [a] [] q] [] pos) (tSortedSetI X.K ta) := by
  refine ⟨fun pins s σ H Q I h => Call_ (ld_blt I hg hm (show bootBuiltins "sorted" = some (.builtin "sorted") by decide +kernel) (PyProof.Rows.callWith_builtin1 (PyProof.Rows.args_cons (Call_ (ld_blt I hg2 hm2 boot_set ?_)) rfl) rfl rfl))⟩
  refine PyProof.Rows.callWith_type1 (PyProof.Rows.args_cons (thn (ha.run pins s σ H _ I h) fun v s1 h1 => PyProof.Rows.args_nil ?_) na) na rfl
  obtain ⟨x, H1, I1, r1, l, ns, rfl, hq, hz, q1⟩ := h1
  have e : v = .ref l := r1
  subst e
  obtain ⟨its, rv, pl, _⟩ := I1.list hq
  refine set_of_ints hh pl.isList (ns := ns) (by simpa using rv.ints) (by unfold scanBound; omega) fun h' tk c hS hc hk => ?_
  have I2 : Inv X pins σ H1 { s1 with heap := h', toks := tk } := I1.kept hk
  refine PyProof.Rows.args_nil ?_
  obtain ⟨s2, hs2⟩ : ∃ s2 : Shared, s2 = { s1 with heap := h', toks := tk } := ⟨_, rfl⟩
  rw [← hs2] at I2 ⊢
  refine sorted_setN (by rw [hs2]; exact hS) hh fun s' p out c ms k g o hp hgp hi hs hm hl => ?_
  have hlen : (ms.map V.int).length ≤ sizeLine := by rw [List.length_map, hl]; unfold sizeLine; omega
  have hn : H1 p = none := I2.hok.fresh hp
  have J : Inv X pins σ (upd H1 p (.lst (ms.map V.int))) { s2 with heap := s'.heap, gens := s'.gens, drawn := s'.drawn, toks := s'.toks } :=
    I2.call (ch := []) (Un.laid k hp hn) (I2.hok.laid k hp ⟨hlen, out.toList, c, vals_of_ints hi, hgp⟩) (by rw [g]; exact I2.bare) (fun _ z => nomatch z)
  have e : s' = { s2 with heap := s'.heap, gens := s'.gens, drawn := s'.drawn, toks := s'.toks } := by
    cases s'
    cases s2
    cases o
    rfl
  rw [e]
  exact ⟨.ref p, _, J, rfl, q1 ms p hs (fun k => by rw [hm k]; exact decide_eq_true_iff) hn⟩
end
end Gx
namespace Gx
open L2
theorem room65 {A : PySem.Around} {k : Nat} (r : Room k A) : A.units + 65 < PySem.cLine := by have := r.un; omega
end Gx

/-! name = {key: value for ..}, the name a local of its def -/
namespace Gx
open PySem PySem.Spec PyProof.Rows L2 GxR
section
variable {X : Cx}
theorem swD_true {k v : Expr} {gs : List Comprehension} {sc : Scope} {p q : Pos} {n : Str} {ln : Nat} {en : Env} (k1 : en.scope.kind = .function) (k2 : en.scope.names.lookup n = some .local) (k3 : (q.line == p.line) = true)
    (k4 : (sc.names.any fun (z, y) => z == n && (y == .local || y == .cell)) = false) : swapsWith (.DictComp k v gs sc p) (some (.Name n q)) ln en = pure true := by
  have e1 : en.kindOf n = some .local := k2
  have e2 : en.blockKind = .function := by
    unfold Env.blockKind
    rw [k1]
    rfl
  unfold swapsWith
  simp only [e2, e1, k4, Expr.pos, k3]
  rfl
theorem ps_setDc {n : Nat} {x : Str} {px p sp : Pos} {ke ve tg it : Expr} {ifs : List Expr} {sc : Scope} {own : List (Str × Nat)} {w : TI} {g : TG} {tt : TT} {tk tv : TE}
    (calm : X.calm = true) (nd : X.N.Nodup) (at_ : X.N[n]? = some x) (loc : X.env.scope.names.lookup x = some .local) (used : swapsWith (.DictComp ke ve [⟨tg, it, ifs, 0⟩] sc p) (some (.Name x px)) sp.line X.env = pure true)
    (hw : PI X tg it w) (ok : BlkOk X.N X.env.scope sc own)
    (hg : ∀ (s : Shared) (H : Hp) (C : Addr) (cl : List (Str × Addr)) (fp : List Addr),
      PG (X.blk s H sc (compEnvC sc cl C X.env) fp) tg g)
    (ht : ∀ (s : Shared) (H : Hp) (C : Addr) (cl : List (Str × Addr)) (fp : List Addr),
      PTs (X.blk s H sc (compEnvC sc cl C X.env) fp) ifs tt)
    (hk : ∀ (s : Shared) (H : Hp) (C : Addr) (cl : List (Str × Addr)) (fp : List Addr),
      PE (X.blk s H sc (compEnvC sc cl C X.env) fp) ke tk)
    (hv : ∀ (s : Shared) (H : Hp) (C : Addr) (cl : List (Str × Addr)) (fp : List Addr),
      PE (X.blk s H sc (compEnvC sc cl C X.env) fp) ve tv)
    (fold : ∀ z, foldedSetIterable it X.env z = pure z := by intro _; rfl) :
    PS X (.Assign [.Name x px] (.DictComp ke ve [⟨tg, it, ifs, 0⟩] sc p) sp) (tAsg (tDc w g tt tk tv (own.map (·.2))) (gName n)) := by
  refine ⟨fun pins s σ H J I h => ?_⟩
  rw [exec_Assign_Name_used _ _ _ _ used]
  refine wpAny_bind (wpAny_standAt (wpAny_bind ?_))
  show wpAny _ X.A (do
    let _ ← comprehension (.DictComp ke ve [⟨tg, it, ifs, 0⟩] sc p) sc X.env (firstIterPos [⟨tg, it, ifs, 0⟩] p) newDict false (eval it X.env) (some (assign (.Name x px) X.env))) _ _ s
  have h2 : tDc w g tt tk tv (own.map (·.2)) σ H (fun y H1 => gName n y σ H1 J.nx) := h
  refine wpAny_bind (thn (dc_core (Qf := fun _ s' => SP X pins J .next s') calm nd I hw ok hg ht hk hv fold h2 fun L C t m H' I' q ns fr => ?_) fun _ t hq => wpAny_pure (wpAny_pure hq))
  show wpAny _ _ (assign (.Name x px) X.env (.ref L)) _ _ _
  refine wpAny_assign_Name (store_ok2 (v := V.ref L) I' nd at_ (.inl loc) rfl (fun t2 I2 hb => ?_) (.inr loc))
  obtain ⟨b, sb, hb⟩ := hb
  obtain ⟨r0, r1, r2, r3, r4, r5⟩ := fr
  have ne : C ≠ b := by
    rcases hb with z | z
    · rw [z]
      exact r1
    · exact fun e => r4 x b z e.symm
  refine ⟨m, ns.sameBut sb ne, fun h3 sb3 => ⟨_, H', I2.turned (t' := t2.toks) (fun c o hc e => ?_) r0 r1 r3 r4 r5, q⟩⟩
  exact (sb3.2 c hc).trans e
end
end Gx

/-! Tuples whose objects are known to have no names of their own: made by tuple( ), and their methods. -/
namespace Gx
open PySem PySem.Spec PyProof.Rows L2 GxR
section
variable {X : Cx}
def rTupF (K : PySem.W.Frag) : List V → Hp → VK → Prop := fun xs H Q => ∃ (p : Addr) (ys : List V), xs = [.ref p] ∧ SqL K H p ys ∧ ∀ (l : Addr) (o : Obj), H l = none → o.dict = none → Q (.ref l) (upd H l (.frz o (.tup ys)))
theorem call_tupleF : CallR X (.type "tuple") (rTupF X.K) := by
  intro pins s σ H xs us Q I r h
  obtain ⟨p, ys, rfl, hq, q⟩ := h
  obtain ⟨u, rfl, rx⟩ := vals1 r
  obtain rfl : u = Value.ref p := rx
  obtain ⟨its, rv, pl, hz⟩ := I.list hq
  have hlen := rv.length
  refine call_tuple_list pl.isList (fun g keep => ?_) (by rw [List.size_toArray]; omega)
  have J : Inv X pins σ H { s with heap := g } := I.kept (t' := s.toks) keep
  have J2 : Inv X pins σ (upd H g.objs.size (.frz { cls := .type "tuple", data := .seq its.toArray } (.tup ys))) { s with heap := g.push { cls := .type "tuple", data := .seq its.toArray } } :=
    J.laid (t' := s.toks) (fun b o e => Heap.get?_push_of_some _ e) (Nat.le_refl _)
      (show ObjOk X.prog X.w _ _ _ (.frz _ (.tup ys)) from ⟨Heap.get?_push_size _ rfl, hz, its, rv, IsTup.new _ _⟩)
  exact ⟨.ref g.objs.size, _, J2, rfl, q _ _ (J.hok.fresh (Nat.le_refl _)) rfl⟩
/-- t.name(..), t such a tuple -/
def tBMF (r : V → List V → Hp → VK → Prop) (to : TE) (t : TA) : TE := fun σ H Q => to σ H fun x H1 => (∃ (p : Addr) (o : Obj) (ys : List V), x = .ref p ∧ H1 p = some (.frz o (.tup ys)) ∧ o.dict = none) ∧ t σ H1 fun xs H2 => r x xs H2 Q
variable {o e : Expr} {es : List Expr} {to : TE} {t : TA} {name : Str} {apos cpos : Pos} {id : String} {r : V → List V → Hp → VK → Prop}
theorem pe_bmF (slot : Slot "tuple" name id) (hty : typeOf (.builtin id) = pure (.type "method_descriptor")) (hm : MtR X id r) (ho : PE X o to) (ha : PA X (e :: es) t)
    (base : attributeBase o name X.env (eval o X.env) = eval o X.env := by rfl)
    (few : ((backTo cpos (starEach (e :: es) X.env)).all (fun x => !x.1) && (backToKw cpos (keywordEach [] X.env)).all (fun x => x.1.isSome) && decide ((e :: es).length + ([] : List Keyword).length + (if ([] : List Keyword).isEmpty then 0 else 1) < 30)) = true := by rfl)
    (line : (apos.endLine == cpos.line) = true := by rfl) (star : starEach (e :: es) X.env = (false, eval e X.env) :: starEach es X.env := by rfl)
    (plain : (backTo cpos (starEach es X.env)).any (·.1) = false := by rfl) :
    PE X (.Call (.Attribute o name apos) (e :: es) [] cpos) (tBMF r to t) := by
  refine ⟨fun pins s σ H Q I h => ?_⟩
  refine wpAny_Call_method_late base few line rfl (thn (ho.run pins s σ H _ I h) fun v s1 hx => ?_)
  obtain ⟨x, H1, I1, r1, ⟨p, ob, ys, rfl, hp, hd⟩, q1⟩ := hx
  obtain rfl : v = Value.ref p := r1
  obtain ⟨g, _, its, _, o2, g2, c2, _⟩ := I1.hok p _ hp
  have ty : s1.TypeIs (.ref p) "tuple" := ⟨o2, g2, c2⟩
  refine ⟨"tuple", id, PySem.F.plainAttrs_tuple, slot, hty, ty, fun a ea => ?_, ?_⟩
  · cases ea
    exact ⟨ob, g, hd⟩
  · have hA := ha.run cpos pins s1 σ H1 _ I1 q1
    rw [star] at hA ⊢
    refine Calls.callWith_builtin (by show (false || (backTo cpos (starEach es X.env)).any (·.1)) = false; rw [plain] <;> rfl) (Calls.evalArgs_plain ?_)
    exact thn hA fun us s2 hu => by
      obtain ⟨vs, H2, I2, r2, q2⟩ := hu
      exact hm pins s2 σ H2 (.ref p) vs (.ref p) us Q I2 rfl r2 q2
end
end Gx

/-! sorted(d), d a dict of up to sizeLine texts -/
namespace Gx
open PySem PySem.Spec PyProof.Rows L2 GxR GenW
section
variable {X : Cx}
def rSortD : List V → Hp → VK → Prop := fun xs H Q => ∃ (a : Addr) (kvs : List (Key × V)) (ks : List Str), xs = [.ref a] ∧ Rd H a (.dK kvs) ∧ kvs.map (·.1) = ks.map Sum.inr ∧ ks.length ≤ sizeLine ∧
  ∀ p, H p = none → Q (.ref p) (upd H p (.lst ((ks.mergeSort (PySem.W.dataLe false PyData.str)).map V.str)))
theorem strs_each : ∀ {vs : List Value} {ks : List Str}, StrsAre vs ks → PySem.W.EachIs (fun u b => RelV (V.str b) u) vs ks
  | _, _, h => by
    exact each_vals (val := V.str) (vals_of_strs h)
theorem cr_sortD (hcalm : X.calm = true) (hu : X.A.units + 64 < cLine) : CallR X (.builtin "sorted") rSortD := by
  intro pins s σ H xs us Q I r q
  obtain ⟨a, kvs, ks, ex, hd, hks, h64, q⟩ := q
  subst ex
  obtain ⟨u, eu, rx⟩ := vals1 r
  subst eu
  cases rx
  obtain ⟨z, lo, vs, rel, dd⟩ := dk_rd I.hok hd
  obtain ⟨ep, hat⟩ := dd.dictAt
  have hkeys : vs.map (·.1) = ks.map Sum.inr := rel.keys.symm.trans hks
  have hl : vs.length = ks.length := by
    have e := congrArg List.length hkeys
    rw [List.length_map, List.length_map] at e
    exact e
  have h16 : vs.length ≤ sizeLine := by rw [hl]; exact h64
  refine Calls.call_function_entry PyProof.Rows.kind_sorted PyProof.Rows.plain_sorted PyProof.Rows.entry_sorted (PyProof.Rows.args_sorted1 _) ?_
  unfold Builtin.«sorted»
  refine wpAny_bind (m := checkCount "sorted" 1 1 _) (wpAny_pure ?_)
  refine wpAny_bind (PySem.W.kdu_collect (A := X.A.in1) (PySem.W.kdl_dict (knd := mixKind X.prog X.w) (kvs := vs) (ep := ep) lo) (I.ok.hd hcalm) hat h16 fun h' tk acc hk hacc => ?_)
  have hal : acc.toList.length = ks.length := by rw [Array.length_toList, hacc.1, hl]
  have hS : StrsAre acc.toList ks := strs_at hal fun j v e => by
    obtain ⟨k, x, e1, e2⟩ := hacc.2 j v (by rw [← Array.getElem?_toList]; exact e)
    have e3 : (vs.map (·.1))[j]? = some k := by rw [List.getElem?_map, e1]; all_goals rfl
    rw [hkeys, List.getElem?_map] at e3
    cases e4 : ks[j]? with
    | none => rw [e4] at e3; cases e3
    | some y =>
      rw [e4] at e3
      have e5 : Sum.inr y = k := Option.some.inj e3
      subst e5
      obtain ⟨t, ev⟩ := Value.isStrOf_shape (x := y) (v := v) e2
      exact ⟨y, t, rfl, ev⟩
  have I1 : Inv X pins σ H { s with heap := h', toks := tk } := I.kept hk
  refine wpAny_bind (wpAny_newList ?_ (by rw [hal]; exact h64))
  have hoL : (h'.push (seqObj "list" acc.toList.toArray 0)).get? h'.objs.size = some (seqObj "list" acc.toList.toArray 0) := Heap.get?_push_size _ rfl
  show wpAny _ _ _ _ _ { s with heap := h'.push (seqObj "list" acc.toList.toArray 0), toks := tk }
  have ev := strs_each hS
  have er : PySem.W.EachIs (fun v b => ∃ as, Reads (h'.push (seqObj "list" acc.toList.toArray 0)) v (PyData.str b) as ∧ h'.objs.size ∉ as) acc.toList ks := each_mem ev fun v b hb rb => by
    obtain ⟨t, rfl⟩ := rb
    exact ⟨_, Reads.str b t, List.not_mem_nil⟩
  refine wpAny_bind (wpAny_holding (PySem.W.list_sort_data (s := { s with heap := h'.push (seqObj "list" acc.toList.toArray 0), toks := tk }) hoL ev er (alike_strs _) (sortable_strs _) h64 (fun b hb => by
    have : (PyData.str b).depth ≤ 1 := by show 0 ≤ 1; decide
    show X.A.in1.units + 1 + (PyData.str b).depth < cLine
    have : X.A.in1.units ≤ X.A.units + 32 := by
      show X.A.units + 1 ≤ X.A.units + 32
      omega
    omega) fun out ho eo => ?_))
  have rout : Vals ((ks.mergeSort (PySem.W.dataLe false PyData.str)).map V.str) out := vals_each eo
  obtain ⟨e', he'⟩ := PyProof.Rows.sortedHeap_at (vs := acc.toList) (out := out.toArray) hoL
  have hlen : ((ks.mergeSort (PySem.W.dataLe false PyData.str)).map V.str).length ≤ sizeLine := by rw [rout.length, ho]; exact h64
  refine wpAny_pure ⟨_, rfl, .ref h'.objs.size, upd H h'.objs.size (.lst ((ks.mergeSort (PySem.W.dataLe false PyData.str)).map V.str)), I1.laid (t' := tk) (fun b u e => ?_) (Nat.le_refl _)
    (show ObjOk X.prog X.w _ _ _ (.lst ((ks.mergeSort (PySem.W.dataLe false PyData.str)).map V.str)) from ⟨hlen, out, e', rout, he'⟩), rfl, q _ (I1.hok.fresh (Nat.le_refl _))⟩
  have hb : b < h'.objs.size := Heap.lt_size e
  rw [PyProof.Rows.sortedHeap_old (Nat.ne_of_lt hb) (by rw [size_push']; exact Nat.lt_succ_of_lt hb)]
  exact Heap.get?_push_of_some _ e
end
end Gx

/-! ### repr of a list in which dicts from texts to whole numbers stand -/
namespace Gx
open PySem PySem.Spec PyProof.Rows L2 GxR GenW
def encN (ps : List (Str × Int)) : PyData := .dict (ps.map fun p => (.str p.1, .int p.2))
inductive Dm (K : PySem.W.Frag) (H : Hp) : V → PyData → Prop
  | p {v : V} {d : PyData} : Dp K H v d → d.hasDict = false → Dm K H v d
  | k {a : Addr} {ps : List (Str × Int)} : H a = some (.dK (ps.map fun p => ((Sum.inr p.1 : Key), V.int p.2))) → Dm K H (.ref a) (encN ps)
inductive Dms (K : PySem.W.Frag) (H : Hp) : List V → List PyData → Prop
  | nil : Dms K H [] []
  | cons {v : V} {d : PyData} {vs : List V} {ds : List PyData} : Dm K H v d → Dms K H vs ds → Dms K H (v :: vs) (d :: ds)
section
variable {X : Cx} {pins : List (Addr × Obj)} {σ : L2.St} {H : Hp} {s : Shared}
theorem pairs_read {h : Heap} : ∀ {ps : List (Str × Int)} {vs : List (Key × Value)}, KV (ps.map fun p => ((Sum.inr p.1 : Key), V.int p.2)) vs →
    PyProof.V.PairsRead h (fun k : Key => match k with | .inl i => PyData.int i | .inr x => PyData.str x) vs (ps.map fun p => (.str p.1, .int p.2)) []
  | [], _, h => by
    unfold KV at h
    rw [List.map_nil] at h
    cases h
    exact .nil
  | p :: ps, _, h => by
    unfold KV at h
    rw [List.map_cons] at h
    cases h with
    | @cons a b as bs r t =>
      obtain ⟨k, u⟩ := b
      obtain ⟨e, t2, eu⟩ := r
      have e : Sum.inr p.1 = k := e
      have eu : u = Value.int p.2 t2 := eu
      subst e eu
      exact PyProof.V.PairsRead.cons (as := []) (bs := []) (Reads.int _ _) (pairs_read t)
theorem Dm.shows (I : Inv X pins σ H s) {v : V} {u : Value} {d : PyData} (h : Dm X.K H v d) (r : RelV v u) (hs : d.showable = true) (hz : d.shown.length ≤ sizeLine) :
    ∃ as bs, Reads s.heap u d as ∧ ReadAtMost s.heap d.depth bs ∧ ReprK X.prog X.w bs s.heap d.depth u d.shown := by
  cases h with
  | p hd nod =>
    obtain ⟨as, rd⟩ := Dp.reads I d v u hd r
    obtain ⟨bs, h1, h2⟩ := ReprK.of_reads (prog := X.prog) (w := X.w) rd hs (PyData.noDict_hsm nod) hz
    exact ⟨as, bs, rd, h1, h2⟩
  | @k a ps e =>
    cases r
    obtain ⟨_, lo, vs, rel, dd⟩ := dk_of I.hok e
    have rd : Reads s.heap (.ref a) (encN ps) [a] := PyProof.V.reads_dictOf (fun k key hk => by
      rcases keyIs_shape hk with ⟨i, t, rfl, rfl⟩ | ⟨x, t, rfl, rfl⟩
      · exact Reads.int i t
      · exact Reads.str x t) dd (pairs_read rel)
    obtain ⟨bs, h1, h2⟩ := ReprK.of_reads (prog := X.prog) (w := X.w) rd hs (fun _ hm => by
      rw [List.mem_singleton.mp hm] at lo
      exact absurd lo (by simp)) hz
    exact ⟨_, bs, rd, h1, h2⟩
theorem Dms.shows (I : Inv X pins σ H s) : ∀ {vs : List V} {us : List Value} {ds : List PyData}, Dms X.K H vs ds → Vals vs us → PyData.showableAll ds = true → (∀ t ∈ PyData.shownAll ds, t.length ≤ sizeLine) →
    ∃ as bs, ReadsAll s.heap us ds as ∧ ReadAtMost s.heap (PyData.depthAll ds) bs ∧ ReprAllK X.prog X.w bs s.heap (PyData.depthAll ds) us (PyData.shownAll ds)
  | _, _, _, .nil, r, _, _ => by
    cases r
    exact ⟨[], [], .nil, (fun _ h => nomatch h), by simp only [PyData.shownAll]; exact .nil⟩
  | _, _, _, .cons (d := d) (ds := ds) h t, r, hs, hz => by
    cases r with
    | cons r1 r2 =>
      rw [PyData.showableAll, Bool.and_eq_true] at hs
      obtain ⟨as, bs, a1, a2, a3⟩ := h.shows I r1 hs.1 (hz _ (by rw [PyData.shownAll]; exact List.mem_cons_self))
      obtain ⟨cs, ds', b1, b2, b3⟩ := t.shows I r2 hs.2 fun t ht => hz t (by rw [PyData.shownAll]; exact List.mem_cons_of_mem _ ht)
      refine ⟨_, bs ++ ds', .cons a1 b1, (a2.mono ?_).append (b2.mono ?_), ?_⟩
      · rw [PyData.depthAll]
        exact Nat.le_max_left _ _
      · rw [PyData.depthAll]
        exact Nat.le_max_right _ _
      · rw [PyData.shownAll, PyData.depthAll]
        exact .cons ((a3.more fun b hb => List.mem_append_left _ hb).level_le (Nat.le_max_left _ _)) (b3.more_le (fun b hb => List.mem_append_right _ hb) (Nat.le_max_right _ _))
end
section
variable {X : Cx}
def rReprM (K : PySem.W.Frag) : List V → Hp → VK → Prop := fun xs H Q => ∃ (L : Addr) (v : V) (vs : List V) (ds : List PyData), xs = [.ref L] ∧ H L = some (.lst (v :: vs)) ∧ Dms K H (v :: vs) ds ∧ PyData.showableAll ds = true ∧
  PyData.depthAll ds ≤ 60 ∧ (PyData.list ds).shown.length ≤ sizeLine ∧ Q (.str (PyData.list ds).shown) H
theorem cr_reprM (g : X.A.guards = some []) (hu : X.A.units + 64 < cLine) : CallR X (.builtin "repr") (rReprM X.K) := by
  intro pins s σ H xs us Q I r h
  obtain ⟨L, v, vs, ds, rfl, hL, hD, hs, hd, hz, q⟩ := h
  obtain ⟨u, rfl, rx⟩ : ∃ u, us = [u] ∧ RelV (.ref L) u := by
    cases r with
    | cons r1 r2 => cases r2; exact ⟨_, rfl, r1⟩
  cases rx
  obtain ⟨z, its, n, ri, hl, e⟩ := I.lstM hL
  have hz2 : (listText (PyData.shownAll ds)).length ≤ sizeLine := by simpa only [PyData.shown] using hz
  obtain ⟨as, bs, a1, a2, a3⟩ := hD.shows I ri hs fun t ht => Nat.le_trans (listText_mem_le ht) hz2
  have rd : Reads s.heap (.ref L) (.list ds) (L :: as) := Reads.list e rfl rfl (by simpa using a1)
  have hna : L ∉ bs := not_mem_of_deeper rd (by simp only [PyData.depth]; omega) a2
  cases ri with
  | @cons _ y _ ys r1 r2 =>
    refine call_repr_slot (T := "list") (by omega) ⟨_, e, rfl⟩ F.slot_list_repr.toG ?_
    refine call_list_reprK e rfl rfl hna (by simpa using a3.length_eq) (fun i y e => a3.item i y (by simpa using e)) g (fun b _ => Clear.nil b) (by show X.A.units + 1 + (_ + 1) < cLine; omega) (fun _ _ e => e) (fun h' u tk hk => ?_) hz2
    refine ⟨_, _, rfl, .str _, H, I.kept hk, ⟨_, rfl⟩, ?_⟩
    have : (PyData.list ds).shown = listText (PyData.shownAll ds) := by simp only [PyData.shown]
    rw [this] at q
    exact q
end
end Gx

/-! ### tuples in which dicts with text keys stand: repr, == -/
namespace Gx
open PySem PySem.Spec PyProof.Rows L2 GxR GenW
inductive KvD (K : PySem.W.Frag) (H : Hp) : List (Key × V) → List (Str × PyData) → Prop
  | nil : KvD K H [] []
  | cons {x : Str} {v : V} {d : PyData} {r : List (Key × V)} {t : List (Str × PyData)} : Dp K H v d → d.hasDict = false → KvD K H r t → KvD K H ((Sum.inr x, v) :: r) ((x, d) :: t)
def dicD (ps : List (Str × PyData)) : PyData := .dict (ps.map fun p => (.str p.1, p.2))
/-- data, or a dict of data -/
inductive Di (K : PySem.W.Frag) (H : Hp) : V → PyData → Prop
  | p {v : V} {d : PyData} : Dp K H v d → d.hasDict = false → Di K H v d
  | k {a : Addr} {kvs : List (Key × V)} {ps : List (Str × PyData)} : H a = some (.dK kvs) → KvD K H kvs ps → Di K H (.ref a) (dicD ps)
inductive Dis (K : PySem.W.Frag) (H : Hp) : List V → List PyData → Prop
  | nil : Dis K H [] []
  | cons {v : V} {d : PyData} {vs : List V} {ds : List PyData} : Di K H v d → Dis K H vs ds → Dis K H (v :: vs) (d :: ds)
theorem kvd_plain {K : PySem.W.Frag} {H : Hp} {kvs : List (Key × V)} {ps : List (Str × PyData)} (h : KvD K H kvs ps) : PyData.hasDictAll ((ps.map fun p => ((.str p.1 : PyData), p.2)).map (·.2)) = false ∧ PyData.hasDictAll ((ps.map fun p => ((.str p.1 : PyData), p.2)).map (·.1)) = false := by
  induction h with
  | nil => exact ⟨rfl, rfl⟩
  | cons h1 h2 _ ih =>
    refine ⟨?_, ?_⟩
    · rw [List.map_cons, List.map_cons, PyData.hasDictAll, ih.1, h2]
      rfl
    · rw [List.map_cons, List.map_cons, PyData.hasDictAll, ih.2]
      rfl
section
variable {X : Cx} {pins : List (Addr × Obj)} {σ : L2.St} {H : Hp} {s : Shared}
theorem kvd_read (I : Inv X pins σ H s) {kvs : List (Key × V)} {ps : List (Str × PyData)} (h : KvD X.K H kvs ps) : ∀ {vs : List (Key × Value)}, KV kvs vs →
    ∃ bs, PyProof.V.PairsRead s.heap (fun k : Key => match k with | .inl i => PyData.int i | .inr x => PyData.str x) vs (ps.map fun p => (.str p.1, p.2)) bs := by
  induction h with
  | nil =>
    intro vs r
    cases r
    exact ⟨[], .nil⟩
  | cons h1 h2 _ ih =>
    intro vs r
    cases r with
    | @cons a b as bs r t =>
      obtain ⟨k, u⟩ := b
      obtain ⟨e, ru⟩ := r
      have e : Sum.inr _ = k := e
      subst e
      obtain ⟨as, rd⟩ := Dp.reads I _ _ u h1 ru
      obtain ⟨bs, pb⟩ := ih t
      exact ⟨_, .cons rd pb⟩
theorem Di.shows (I : Inv X pins σ H s) {v : V} {u : Value} {d : PyData} (h : Di X.K H v d) (r : RelV v u) (hs : d.showable = true) (hz : d.shown.length ≤ sizeLine) :
    ∃ as bs, Reads s.heap u d as ∧ ReadAtMost s.heap d.depth bs ∧ ReprK X.prog X.w bs s.heap d.depth u d.shown := by
  cases h with
  | p hd nod =>
    obtain ⟨as, rd⟩ := Dp.reads I d v u hd r
    obtain ⟨bs, h1, h2⟩ := ReprK.of_reads (prog := X.prog) (w := X.w) rd hs (PyData.noDict_hsm nod) hz
    exact ⟨as, bs, rd, h1, h2⟩
  | @k a kvs ps e kd =>
    cases r
    obtain ⟨_, lo, vs, rel, o, es, ep, ho, hx, hdat, c1, hp, c2⟩ := dk_of I.hok e
    obtain ⟨bs0, pr⟩ := kvd_read I kd rel
    obtain ⟨r1, r2⟩ := PyProof.V.readsAll_of_pairs (fun k key hk => by
      rcases keyIs_shape hk with ⟨i, t, rfl, rfl⟩ | ⟨x, t, rfl, rfl⟩
      · exact Reads.int i t
      · exact Reads.str x t) hp pr
    have rd : Reads s.heap (.ref a) (dicD ps) _ := Reads.dict ho hx.1 hdat r1 r2
    have big : (dictText (PyData.shownKv (ps.map fun p => ((.str p.1 : PyData), p.2)))).length ≤ sizeLine := by
      have e2 : (dicD ps).shown = dictText (PyData.shownKv (ps.map fun p => ((.str p.1 : PyData), p.2))) := by
        unfold dicD
        rw [PyData.shown]
      rw [← e2]
      exact hz
    obtain ⟨s1, s2⟩ := PyData.showableKv_split (ps.map fun p => ((.str p.1 : PyData), p.2)) (by
      unfold dicD at hs
      rwa [PyData.showable] at hs)
    obtain ⟨n2, n1⟩ := kvd_plain kd
    obtain ⟨b1, m1, k1⟩ := ReprAllK.of_readsAll (prog := X.prog) (w := X.w) r1 s1 (fun q => by rw [n1] at q; cases q) (fun t ht => by
      obtain ⟨q, hq, l⟩ := PyData.shownKv_key_le _ t ht
      exact Nat.le_trans (Nat.le_trans l (dictText_mem_le hq)) big)
    obtain ⟨b2, m2, k2⟩ := ReprAllK.of_readsAll (prog := X.prog) (w := X.w) r2 s2 (fun q => by rw [n2] at q; cases q) (fun t ht => by
      obtain ⟨q, hq, l⟩ := PyData.shownKv_val_le _ t ht
      exact Nat.le_trans (Nat.le_trans l (dictText_mem_le hq)) big)
    have dd : (dicD ps).depth = PyData.depthKv (ps.map fun p => ((.str p.1 : PyData), p.2)) + 1 := by
      unfold dicD
      rw [PyData.depth]
    have both : ReadAtMost s.heap (PyData.depthKv (ps.map fun p => ((.str p.1 : PyData), p.2))) (b1 ++ b2) := (m1.mono (PyData.depthAll_keys_le _)).append (m2.mono (PyData.depthAll_vals_le _))
    have out : a ∉ b1 ++ b2 := not_mem_of_deeper rd (by rw [dd]; omega) both
    refine ⟨_, a :: (b1 ++ b2), rd, ReadAtMost.cons rd (by rw [dd]; omega) both, ?_⟩
    rw [dd]
    unfold dicD
    rw [PyData.shown, PyData.shownKv_eq]
    exact ReprK.dict ho hx.1 hdat lo out (ReprEntriesK.of_two es.toList _ _ (k1.more_le (fun b hb => List.mem_append_left b2 hb) (PyData.depthAll_keys_le _)) (k2.more_le (fun b hb => List.mem_append_right b1 hb) (PyData.depthAll_vals_le _)))
theorem Dis.shows (I : Inv X pins σ H s) {vs : List V} {ds : List PyData} (h : Dis X.K H vs ds) : ∀ {us : List Value}, Vals vs us → PyData.showableAll ds = true → (∀ t ∈ PyData.shownAll ds, t.length ≤ sizeLine) →
    ∃ as bs, ReadsAll s.heap us ds as ∧ ReadAtMost s.heap (PyData.depthAll ds) bs ∧ ReprAllK X.prog X.w bs s.heap (PyData.depthAll ds) us (PyData.shownAll ds) := by
  induction h with
  | nil =>
    intro us r _ _
    cases r
    exact ⟨[], [], .nil, (fun _ h => nomatch h), by simp only [PyData.shownAll]; exact .nil⟩
  | @cons v d vs ds h t ih =>
    intro us r hs hz
    cases r with
    | cons r1 r2 =>
      rw [PyData.showableAll, Bool.and_eq_true] at hs
      obtain ⟨as, bs, a1, a2, a3⟩ := h.shows I r1 hs.1 (hz _ (by rw [PyData.shownAll]; exact List.mem_cons_self))
      obtain ⟨cs, ds', b1, b2, b3⟩ := ih r2 hs.2 fun t ht => hz t (by rw [PyData.shownAll]; exact List.mem_cons_of_mem _ ht)
      refine ⟨_, bs ++ ds', .cons a1 b1, (a2.mono ?_).append (b2.mono ?_), ?_⟩
      · rw [PyData.depthAll]
        exact Nat.le_max_left _ _
      · rw [PyData.depthAll]
        exact Nat.le_max_right _ _
      · rw [PyData.shownAll, PyData.depthAll]
        exact .cons ((a3.more fun b hb => List.mem_append_left _ hb).level_le (Nat.le_max_left _ _)) (b3.more_le (fun b hb => List.mem_append_right _ hb) (Nat.le_max_right _ _))
end
section
variable {X : Cx}
def rReprT (K : PySem.W.Frag) : List V → Hp → VK → Prop := fun xs H Q => ∃ (T : Addr) (vs : List V) (ds : List PyData), xs = [.ref T] ∧ SqT K H T vs ∧ Dis K H vs ds ∧ PyData.showableAll ds = true ∧
  PyData.depthAll ds ≤ 60 ∧ (PyData.tuple ds).shown.length ≤ sizeLine ∧ Q (.str (PyData.tuple ds).shown) H
theorem cr_reprT (g : X.A.guards = some []) (hu : X.A.units + 64 < cLine) : CallR X (.builtin "repr") (rReprT X.K) := by
  intro pins s σ H xs us Q I r h
  obtain ⟨T, vs, ds, rfl, hT, hD, hs, hd, hz, q⟩ := h
  obtain ⟨u, rfl, rx⟩ : ∃ u, us = [u] ∧ RelV (.ref T) u := by
    cases r with
    | cons r1 r2 => cases r2; exact ⟨_, rfl, r1⟩
  cases rx
  obtain ⟨its, ri, ⟨o, ho, hc, n, hdat⟩, hl⟩ := I.tuple hT
  have e0 : (PyData.tuple ds).shown = tupleText (PyData.shownAll ds) := by rw [PyData.shown]
  have hz2 : (tupleText (PyData.shownAll ds)).length ≤ sizeLine := by rw [← e0]; exact hz
  obtain ⟨as, bs, a1, a2, a3⟩ := hD.shows I ri hs fun t ht => Nat.le_trans (tupleText_mem_le ht) hz2
  have rd : Reads s.heap (.ref T) (.tuple ds) as := Reads.tuple ho hc hdat (by simpa using a1)
  have hna : T ∉ bs := not_mem_of_deeper rd (by simp only [PyData.depth]; omega) a2
  refine call_repr_slot (T := "tuple") (by omega) ⟨_, ho, hc⟩ F.slot_tuple_repr ?_
  refine call_tuple_reprK ho hc hdat hna (by simpa using a3) g (fun b _ => Clear.nil b) (by show X.A.units + 1 + (_ + 1) < cLine; omega) (fun _ _ e => e) (fun h' u tk hk => ?_) hz2
  refine ⟨_, _, rfl, .str _, H, I.kept hk, ⟨_, rfl⟩, ?_⟩
  rw [e0] at q
  exact q
end
/-! ### == -/
/-- the values of two dicts, key by key -/
def Hits (K : PySem.W.Frag) (H : Hp) (kvs lvs : List (Key × V)) (e : Key → Bool) : Prop := ∀ k v w, (k, v) ∈ kvs → valV lvs k = some w → ∃ d d', Dp K H v d ∧ Dp K H w d' ∧ SeqAt.shaped d = true ∧ SeqAt.shaped d' = true ∧ e k = PyData.eqv d d'
def dicE (kvs lvs : List (Key × V)) (e : Key → Bool) : Bool := kvs.length == lvs.length && kvs.all fun p => (valV lvs p.1).isSome && e p.1
inductive EqV (K : PySem.W.Frag) (H : Hp) : V → V → Bool → Prop
  | p {v w : V} {d d' : PyData} : Dp K H v d → Dp K H w d' → SeqAt.shaped d = true → SeqAt.shaped d' = true → EqV K H v w (PyData.eqv d d')
  | k {a b : Addr} {kvs lvs : List (Key × V)} {e : Key → Bool} : a ≠ b → H a = some (.dK kvs) → H b = some (.dK lvs) → Hits K H kvs lvs e → EqV K H (.ref a) (.ref b) (dicE kvs lvs e)
inductive EqVs (K : PySem.W.Frag) (H : Hp) : List V → List V → List Bool → Prop
  | nil : EqVs K H [] [] []
  | cons {v w : V} {b : Bool} {vs ws : List V} {bs : List Bool} : EqV K H v w b → EqVs K H vs ws bs → EqVs K H (v :: vs) (w :: ws) (b :: bs)
section
variable {X : Cx} {pins : List (Addr × Obj)} {σ : L2.St} {H : Hp} {s : Shared}
theorem dp_leaf (I : Inv X pins σ H s) {v w : V} {u y : Value} {d d' : PyData} (h : Dp X.K H v d) (k : Dp X.K H w d') (sd : SeqAt.shaped d = true) (se : SeqAt.shaped d' = true) (ru : RelV v u) (ry : RelV w y) :
    PySem.W.EqTree X.prog X.w s 64 u y (PyData.eqv d d') := by
  obtain ⟨as, r1⟩ := Dp.reads I d v u h ru
  obtain ⟨bs, r2⟩ := Dp.reads I d' w y k ry
  refine .leaf fun A hu => SeqAt.eqAt_reads d d' A s u y as bs r1 r2 (SeqAt.canLay_of_shaped sd) (SeqAt.canLay_of_shaped se) ?_
  have := SeqAt.depth_of_shaped sd
  have : min d.depth d'.depth ≤ d.depth := Nat.min_le_left _ _
  omega
theorem paired_mem {α β : Type} {F : α → β → Prop} : ∀ {xs : List α} {ys : List β}, Paired F xs ys → ∀ {y : β}, y ∈ ys → ∃ x, x ∈ xs ∧ F x y
  | _, _, .nil, _, h => by cases h
  | _, _, .cons r t, y, h => by
    rcases List.mem_cons.mp h with rfl | h
    · exact ⟨_, List.mem_cons_self, r⟩
    · obtain ⟨x, hx, fx⟩ := paired_mem t h
      exact ⟨x, List.mem_cons_of_mem _ hx, fx⟩
theorem EqV.tree (I : Inv X pins σ H s) {v w : V} {b : Bool} (h : EqV X.K H v w b) {u y : Value} (ru : RelV v u) (ry : RelV w y) : PySem.W.EqTree X.prog X.w s 65 u y b := by
  cases h with
  | @p _ _ d d' h1 h2 s1 s2 =>
    obtain ⟨as, r1⟩ := Dp.reads I _ v u h1 ru
    obtain ⟨bs, r2⟩ := Dp.reads I _ w y h2 ry
    refine .leaf fun A hu => SeqAt.eqAt_reads _ _ A s u y as bs r1 r2 (SeqAt.canLay_of_shaped s1) (SeqAt.canLay_of_shaped s2) ?_
    have := SeqAt.depth_of_shaped s1
    have : min d.depth d'.depth ≤ d.depth := Nat.min_le_left _ _
    omega
  | @k a b kvs lvs e ne ha hb hit =>
    cases ru
    cases ry
    obtain ⟨_, la, va, ra, da⟩ := dk_of I.hok ha
    obtain ⟨_, lb, vb, rb, db⟩ := dk_of I.hok hb
    have t := PySem.W.EqTree.dicts (prog := X.prog) (w := X.w) (s := s) (n := 64) (knd := mixKind X.prog X.w) (e := e) ne la lb da db fun k u y hm hv => by
      obtain ⟨⟨k', v⟩, hv', e1, r1⟩ := paired_mem ra hm
      have e1 : k' = k := e1
      subst e1
      have rv := rb.val k'
      rw [hv] at rv
      obtain ⟨w, hw, rw_⟩ : ∃ w, valV lvs k' = some w ∧ RelV w y := by
        cases z : valV lvs k' with
        | none =>
          rw [z] at rv
          exact absurd rv (by intro q; cases q)
        | some w =>
          rw [z] at rv
          exact ⟨w, rfl, rv⟩
      obtain ⟨d, d', p1, p2, s1, s2, ee⟩ := hit k' v w hv' hw
      rw [ee]
      exact dp_leaf I p1 p2 s1 s2 r1 rw_
    have e3 : (va.length == vb.length && va.all fun p => (valueAt vb p.1).isSome && e p.1) = dicE kvs lvs e := by
      unfold dicE
      rw [← ra.length, ← rb.length]
      congr 1
      have some_ : ∀ k, (valueAt vb k).isSome = (valV lvs k).isSome := fun k => by
        have rv := rb.val k
        cases z1 : valV lvs k with
        | none =>
          rw [z1] at rv
          cases z2 : valueAt vb k with
          | none => rfl
          | some q =>
            rw [z2] at rv
            exact absurd rv (by intro q; cases q)
        | some w =>
          rw [z1] at rv
          cases z2 : valueAt vb k with
          | none =>
            rw [z2] at rv
            exact absurd rv (by intro q; cases q)
          | some q => rfl
      have a1 : ∀ (l : List (Key × Value)), (l.all fun p => (valueAt vb p.1).isSome && e p.1) = (l.map (·.1)).all fun k => (valV lvs k).isSome && e k := fun l => by
        rw [List.all_map]
        congr 1
        funext p
        show ((valueAt vb p.1).isSome && e p.1) = ((valV lvs p.1).isSome && e p.1)
        rw [some_]
      rw [a1, ← ra.keys, List.all_map]
      rfl
    rw [← e3]
    exact t
theorem EqVs.trees (I : Inv X pins σ H s) {vs ws : List V} {bs : List Bool} (h : EqVs X.K H vs ws bs) : ∀ {us ys : List Value}, Vals vs us → Vals ws ys → us.length = bs.length ∧ ys.length = bs.length ∧
    ∀ j (h1 : j < us.length) (h2 : j < ys.length), PySem.W.EqTree X.prog X.w s 65 us[j] ys[j] (bs.getD j false) := by
  induction h with
  | nil =>
    intro us ys r1 r2
    cases r1
    cases r2
    exact ⟨rfl, rfl, fun j h1 => absurd h1 (Nat.not_lt_zero _)⟩
  | cons hb _ ih =>
    intro us ys r1 r2
    cases r1 with
    | cons a1 t1 =>
      cases r2 with
      | cons a2 t2 =>
        obtain ⟨l1, l2, t⟩ := ih t1 t2
        refine ⟨congrArg (· + 1) l1, congrArg (· + 1) l2, fun j h1 h2 => ?_⟩
        cases j with
        | zero => exact hb.tree I a1 a2
        | succ j => exact t j (Nat.lt_of_succ_lt_succ h1) (Nat.lt_of_succ_lt_succ h2)
end
section
open AutoSeq1 SeqRoads2 MeetsSeq MeetsSeq2 MeetsSeq3 SeqAt
variable {prog : Program} {w : World}
/-- tuple.__ne__ of two of one length, item by item -/
theorem ne_meets (p q : Addr) (us ys : List Value) (bs : List Bool) (n m : Nat) (od oe : Option Addr) (so sp : Array (Option Value)) (lu : us.length = bs.length) (ly : ys.length = bs.length) :
    MeetsIn prog w (Builtin.«tuple.__ne__» ⟨[.ref p, .ref q], []⟩) (fun A R s =>
      s.heap.get? p = some { cls := .type "tuple", dict := od, data := .seq us.toArray n, slots := so } ∧
      s.heap.get? q = some { cls := .type "tuple", dict := oe, data := .seq ys.toArray m, slots := sp } ∧
      (∀ (j : Nat) (u y : Value) (b : Bool), us[j]? = some u → ys[j]? = some y → bs[j]? = some b → EqIn prog w A.in1 s u y b) ∧ R (.ok (.ret (.bool (!bs.all id)))) s) := .of_wp fun A R s h => by
  obtain ⟨hp, g, d, tk, os⟩ := s
  obtain ⟨e1, e2, each, fin⟩ := h
  have sub := AutoSeq1.sub_tuple_tuple
  have zl : (us.zip ys).length = bs.length := by rw [List.length_zip, lu, ly, Nat.min_self]
  wp_walk using wpAny_loadPart' e1, wpAny_loadPart' e2, wpAny_forIn_list _ (fun left acc st => acc.1 = none ∧ st = ⟨hp, g, d, tk, os⟩ ∧ ∃ i, left = (us.zip ys).drop i ∧ R (.ok (.ret (.bool (!(bs.drop i).all id)))) ⟨hp, g, d, tk, os⟩) _
  case turn =>
    rintro ⟨u, y⟩ left acc st ⟨ha, rfl, i, hz, hr⟩
    have hi : i < (us.zip ys).length := Nat.lt_of_not_le fun z => by
      rw [List.drop_of_length_le z] at hz
      cases hz
    have hb : i < bs.length := by omega
    have at_ : (us.zip ys)[i]? = some (u, y) := by
      have := congrArg List.head? hz
      rw [List.head?_cons, List.head?_drop] at this
      exact this.symm
    have tl : left = (us.zip ys).drop (i + 1) := by
      have := congrArg List.tail hz
      rw [List.tail_cons, List.tail_drop] at this
      exact this
    obtain ⟨a1, a2⟩ := List.getElem?_zip_eq_some.mp at_
    have bd : bs.drop i = bs[i] :: bs.drop (i + 1) := List.drop_eq_getElem_cons hb
    rw [bd, List.all_cons] at hr
    refine wpAny_bind (each i u y bs[i] a1 a2 (List.getElem?_eq_getElem hb) _ _ ?_)
    cases cb : bs[i] with
    | true =>
      rw [cb] at hr
      wp_walk
      exact ⟨rfl, rfl, i + 1, tl, by simpa using hr⟩
    | false =>
      rw [cb] at hr
      wp_walk
      exact ⟨_, rfl, by simpa using hr⟩
  case fin =>
    rintro ⟨c1, c2⟩ st ⟨hc, rfl, i, hz, hr⟩
    have hc : c1 = none := hc
    subst hc
    have hi : bs.length ≤ i := Nat.le_of_not_lt fun z => by
      rw [List.drop_eq_getElem_cons (by omega : i < (us.zip ys).length)] at hz
      cases hz
    rw [List.drop_of_length_le hi] at hr
    wp_walk
    refine ⟨_, rfl, ?_⟩
    simpa [Builtin.Tuple.tupleCompareSizes, bne, lu, ly] using hr
  case h =>
    exact ⟨rfl, rfl, 0, by simp, by simpa using fin⟩
end
section
variable {X : Cx}
def rEqT (K : PySem.W.Frag) : R2 := fun x y H Q => ∃ (a b : Addr) (vs ws : List V) (bs : List Bool), x = .ref a ∧ y = .ref b ∧ SqT K H a vs ∧ SqT K H b ws ∧ EqVs K H vs ws bs ∧ Q (.bl (bs.all id)) H
def rNeT (K : PySem.W.Frag) : R2 := fun x y H Q => ∃ (a b : Addr) (vs ws : List V) (bs : List Bool), x = .ref a ∧ y = .ref b ∧ SqT K H a vs ∧ SqT K H b ws ∧ EqVs K H vs ws bs ∧ Q (.bl (!bs.all id)) H
theorem all_range {bs : List Bool} : ((List.range bs.length).all fun j => bs.getD j false) = bs.all id := by
  induction bs with
  | nil => rfl
  | cons b r ih =>
    rw [List.length_cons, List.range_succ_eq_map, List.all_cons, List.all_cons, ← ih, List.all_map]
    rfl
theorem op_eqT (hu : X.A.units + 128 < cLine) : OpR X (compareOp .Eq) (rEqT X.K) := by
  intro pins s σ H x y v u Q I rx ry h
  obtain ⟨a, b, vs, ws, bs, rfl, rfl, ha, hb, he, q⟩ := h
  cases rx
  cases ry
  obtain ⟨i1, r1, ⟨o1, x1, x2, n1, x3⟩, _⟩ := I.tuple ha
  obtain ⟨i2, r2, ⟨o2, y1, y2, n2, y3⟩, _⟩ := I.tuple hb
  obtain ⟨l1, l2, t⟩ := he.trees I r1 r2
  refine PySem.W.eq_tuplesT (n := 65) (e := fun j => bs.getD j false) ⟨o1, x1, x2, n1, x3⟩ ⟨o2, y1, y2, n2, y3⟩ (fun j h1 h2 => by simpa using t j (by simpa using h1) (by simpa using h2)) (by omega) ?_
  have e1 : ((List.range (min i1.toArray.size i2.toArray.size)).all (fun j => bs.getD j false) && i1.toArray.size == i2.toArray.size) = bs.all id := by
    rw [List.size_toArray, List.size_toArray, l1, l2, Nat.min_self, all_range, beq_self_eq_true, Bool.and_true]
  rw [e1]
  exact ⟨.bl _, H, I, rfl, q⟩
theorem op_neT (hu : X.A.units + 128 < cLine) : OpR X (compareOp .NotEq) (rNeT X.K) := by
  intro pins s σ H x y v u Q I rx ry h
  obtain ⟨a, b, vs, ws, bs, rfl, rfl, ha, hb, he, q⟩ := h
  cases rx
  cases ry
  obtain ⟨i1, r1, ⟨⟨c1, d1, t1, s1⟩, x1, x2, n1, x3⟩, _⟩ := I.tuple ha
  obtain ⟨i2, r2, ⟨⟨c2, d2, t2, s2⟩, y1, y2, n2, y3⟩, _⟩ := I.tuple hb
  have x2 : c1 = .type "tuple" := x2
  have x3 : t1 = .seq i1.toArray n1 := x3
  have y2 : c2 = .type "tuple" := y2
  have y3 : t2 = .seq i2.toArray n2 := y3
  subst x2 x3 y2 y3
  obtain ⟨l1, l2, t⟩ := he.trees I r1 r2
  show wpAny (model X.prog X.w) X.A (richCompare .NotEq (.ref a) (.ref b)) _ _ s
  refine wpAny_richCompare_same_room (T := "tuple") (op := .NotEq) ⟨_, x1, rfl⟩ ⟨_, y1, rfl⟩ F.slot_tuple_ne (call_meetsIn F.slot_tuple_ne ⟨_, x1, rfl⟩ F.entry_tuple_ne (F.args_tuple_ne_2 _ _) (ne_meets a b i1 i2 bs n1 n2 d1 d2 s1 s2 l1 l2)
    ⟨x1, y1, fun j u y b e1 e2 e3 => ?_, show Value.bool (!bs.all id) ≠ Value.notImplemented ∧ _ from ⟨(fun x => nomatch x), ⟨.bl _, H, I, rfl, q⟩⟩⟩) (by omega)
  obtain ⟨h1, rfl⟩ := List.getElem?_eq_some_iff.mp e1
  obtain ⟨h2, rfl⟩ := List.getElem?_eq_some_iff.mp e2
  have t2 := t j h1 h2
  rw [List.getD_eq_getElem?_getD, e3] at t2
  exact t2.at _ (by show X.A.units + 1 + 65 < cLine; omega)
/-- d != {} -/
def rNeD0 : R2 := fun x y H Q => ∃ (a b : Addr) (kvs : List (Key × V)), x = .ref a ∧ y = .ref b ∧ H a = some (.dK kvs) ∧ H b = some (.dK []) ∧ Q (.bl (decide (kvs ≠ []))) H
theorem op_neD0 (hu : X.A.units < cLine) : OpR X (compareOp .NotEq) rNeD0 := by
  intro pins s σ H x y v u Q I rx ry h
  obtain ⟨a, b, kvs, rfl, rfl, ha, hb, q⟩ := h
  cases rx
  cases ry
  obtain ⟨_, la, va, ra, da⟩ := dk_of I.hok ha
  obtain ⟨_, lb, vb, rb, db⟩ := dk_of I.hok hb
  cases rb
  have e : (!(va.length == ([] : List (Key × Value)).length && true)) = decide (kvs ≠ []) := by
    rw [← ra.length, Bool.and_true]
    cases kvs <;> rfl
  refine PySem.W.keq_ne (knd := mixKind X.prog X.w) (r := true) la lb da db hu (fun z => ?_) ?_
  · rw [List.length_nil] at z
    rw [List.eq_nil_of_length_eq_zero z]
    exact .nil
  · rw [e]
    exact ⟨.bl _, H, I, rfl, q⟩
theorem room128 {A : PySem.Around} {k : Nat} (r : Room k A) : A.units + 128 < PySem.cLine := by
  have := r.un
  omega
end
end Gx

/-! Partings that do not cross, and the places of their tree: without a heap, of names of any kind. -/
namespace Gx
section
variable {α : Type} [DecidableEq α]
theorem snoc_ind {β : Type} {C : List β → Prop} (h0 : C []) (hs : ∀ l a, C l → C (l ++ [a])) (l : List β) : C l := by
  have : ∀ k : List β, C k.reverse := fun k => by
    induction k with
    | nil => exact h0
    | cons a k ih => rw [List.reverse_cons]; exact hs _ _ ih
  rw [← l.reverse_reverse]
  exact this _
/-! ### pairs of a list, counted -/
def pc {β : Type} (R : β → β → Bool) : List β → Nat
  | [] => 0
  | x :: xs => xs.countP (R x) + pc R xs
theorem pc_perm {β : Type} {R : β → β → Bool} (sy : ∀ a b, R a b = R b a) {l k : List β} (h : l.Perm k) : pc R l = pc R k := by
  induction h with
  | nil => rfl
  | cons x p ih => rw [pc, pc, ih, p.countP_eq]
  | swap x y l =>
    rw [pc, pc, pc, pc, List.countP_cons, List.countP_cons, sy x y]
    omega
  | trans _ _ h1 h2 => exact h1.trans h2
theorem pc_map {β γ : Type} {R : γ → γ → Bool} (g : β → γ) (l : List β) : pc R (l.map g) = pc (fun a b => R (g a) (g b)) l := by
  induction l with
  | nil => rfl
  | cons x l ih =>
    rw [List.map_cons, pc, pc, ih, List.countP_map]
    rfl
theorem pc_congr {β : Type} {R S : β → β → Bool} {l : List β} (nd : l.Nodup) (h : ∀ a ∈ l, ∀ b ∈ l, a ≠ b → R a b = S a b) : pc R l = pc S l := by
  induction l with
  | nil => rfl
  | cons x l ih =>
    have nd2 := List.nodup_cons.mp nd
    rw [pc, pc, ih nd2.2 fun a ha b hb => h a (List.mem_cons_of_mem _ ha) b (List.mem_cons_of_mem _ hb)]
    congr 1
    refine List.countP_congr fun b hb => ?_
    rw [h x List.mem_cons_self b (List.mem_cons_of_mem _ hb) fun z => nd2.1 (by rw [z]; exact hb)]
theorem pc_snoc {β : Type} {R : β → β → Bool} (l : List β) (x : β) : pc R (l ++ [x]) = pc R l + l.countP fun y => R y x := by
  induction l with
  | nil => rfl
  | cons y l ih =>
    rw [List.cons_append, pc, pc, ih, List.countP_append, List.countP_cons (a := y)]
    rw [List.countP_singleton]
    omega
/-! ### meeting, crossing -/
def meet (a b : List α) : Bool := a.any fun x => decide (x ∈ b)
theorem meet_iff {a b : List α} : meet a b = true ↔ ∃ x, x ∈ a ∧ x ∈ b := by
  unfold meet
  rw [List.any_eq_true]
  exact ⟨fun ⟨x, h1, h2⟩ => ⟨x, h1, of_decide_eq_true h2⟩, fun ⟨x, h1, h2⟩ => ⟨x, h1, decide_eq_true h2⟩⟩
theorem meet_no {a b : List α} : meet a b = false ↔ ∀ x, x ∈ a → x ∉ b := by
  rw [← Bool.not_eq_true, meet_iff]
  exact ⟨fun h x h1 h2 => h ⟨x, h1, h2⟩, fun h ⟨x, h1, h2⟩ => h x h1 h2⟩
theorem meet_comm (a b : List α) : meet a b = meet b a := by
  rw [Bool.eq_iff_iff, meet_iff, meet_iff]
  exact ⟨fun ⟨x, h⟩ => ⟨x, h.2, h.1⟩, fun ⟨x, h⟩ => ⟨x, h.2, h.1⟩⟩
def crossB (p q : List α × List α) : Bool := (meet p.1 q.1 && meet p.1 q.2) && (meet p.2 q.1 && meet p.2 q.2)
theorem cross_comm (p q : List α × List α) : crossB p q = crossB q p := by
  unfold crossB
  rw [meet_comm q.1 p.1, meet_comm q.1 p.2, meet_comm q.2 p.1, meet_comm q.2 p.2]
  cases meet p.1 q.1 <;> cases meet p.1 q.2 <;> cases meet p.2 q.1 <;> cases meet p.2 q.2 <;> rfl
def fitsB (s : List (List α)) (c : List α) : Bool := s.all fun d => meet c d
def ext (p : List α × List α) (s : List (List α)) : List (List (List α)) := ([p.1, p.2].filter (fitsB s)).map fun c => s ++ [c]
def placesOf (ps : List (List α × List α)) : List (List (List α)) := ps.foldl (fun acc p => acc.flatMap (ext p)) [[]]
theorem places_snoc (ps : List (List α × List α)) (p : List α × List α) : placesOf (ps ++ [p]) = (placesOf ps).flatMap (ext p) := by
  unfold placesOf
  rw [List.foldl_append]
  rfl
def sd (p : List α × List α) (b : Bool) : List α := if b = true then p.1 else p.2
/-- partings of names `ns` with the first name `h`, no two of which cross -/
structure Prts (ns : List α) (h : α) (ps : List (List α × List α)) : Prop where
  nd : ps.Nodup
  hd1 : ∀ p ∈ ps, h ∈ p.1
  hd2 : ∀ p ∈ ps, h ∉ p.2
  ne2 : ∀ p ∈ ps, p.2 ≠ []
  nd2 : ∀ p ∈ ps, p.2.Nodup
  cov : ∀ p ∈ ps, ∀ x, x ∈ p.1 ↔ x ∈ ns ∧ x ∉ p.2
  sub : ∀ p ∈ ps, ∀ x ∈ p.2, x ∈ ns
  eqv : ∀ p ∈ ps, ∀ q ∈ ps, (∀ x, x ∈ p.2 ↔ x ∈ q.2) → p = q
  nc : ps.Pairwise fun p q => crossB p q = false
theorem Prts.left {ns : List α} {h : α} {ps qs : List (List α × List α)} (g : Prts ns h (ps ++ qs)) : Prts ns h ps :=
  have m : ∀ {p}, p ∈ ps → p ∈ ps ++ qs := fun hp => List.mem_append_left _ hp
  ⟨(List.nodup_append.mp g.nd).1, fun p hp => g.hd1 p (m hp), fun p hp => g.hd2 p (m hp), fun p hp => g.ne2 p (m hp), fun p hp => g.nd2 p (m hp), fun p hp => g.cov p (m hp), fun p hp => g.sub p (m hp), fun p hp q hq => g.eqv p (m hp) q (m hq), (List.pairwise_append.mp g.nc).1⟩
theorem Prts.one {ns : List α} {h : α} {ps : List (List α × List α)} (g : Prts ns h ps) {p : List α × List α} (hp : p ∈ ps) (x : α) (hx : x ∈ ns) (b : Bool) : x ∈ sd p b ↔ x ∉ sd p (!b) := by
  have c := g.cov p hp x
  cases b
  · show x ∈ p.2 ↔ x ∉ p.1
    rw [c]
    by_cases z : x ∈ p.2
    · simp [z]
    · simp [z, hx]
  · show x ∈ p.1 ↔ x ∉ p.2
    rw [c]
    simp [hx]
theorem Prts.in_ {ns : List α} {h : α} {ps : List (List α × List α)} (g : Prts ns h ps) {p : List α × List α} (hp : p ∈ ps) {b : Bool} {x : α} (hx : x ∈ sd p b) : x ∈ ns := by
  cases b
  · exact g.sub p hp x hx
  · exact ((g.cov p hp x).mp hx).1
theorem Prts.some_ {ns : List α} {h : α} {ps : List (List α × List α)} (g : Prts ns h ps) {p : List α × List α} (hp : p ∈ ps) (b : Bool) : ∃ x, x ∈ sd p b := by
  cases b
  · exact List.exists_mem_of_ne_nil _ (g.ne2 p hp)
  · exact ⟨h, g.hd1 p hp⟩
theorem Prts.ne {ns : List α} {h : α} {ps : List (List α × List α)} (g : Prts ns h ps) {p : List α × List α} (hp : p ∈ ps) {a b : Bool} : sd p a = sd p b ↔ a = b := by
  refine ⟨fun e => ?_, fun e => by rw [e]⟩
  have h1 := g.hd1 p hp
  have h2 := g.hd2 p hp
  cases a <;> cases b
  · rfl
  · exact absurd (show h ∈ p.2 by have e' : p.2 = p.1 := e; rw [e']; exact h1) h2
  · exact absurd (show h ∈ p.2 by have e' : p.1 = p.2 := e; rw [← e']; exact h1) h2
  · rfl
/-- the side of an earlier parting that meets both sides of a new one -/
def b0 (p q : List α × List α) : Bool := meet q.1 p.1 && meet q.1 p.2
theorem Prts.mid {ns : List α} {h : α} {ps : List (List α × List α)} {p : List α × List α} (g : Prts ns h (ps ++ [p])) {q : List α × List α} (hq : q ∈ ps) :
    (∀ c, ∃ x, x ∈ sd q (b0 p q) ∧ x ∈ sd p c) ∧ ∃ c, ∀ x, x ∈ sd p c → x ∈ sd q (b0 p q) := by
  have hq' : q ∈ ps ++ [p] := List.mem_append_left _ hq
  have hp' : p ∈ ps ++ [p] := List.mem_append_right _ List.mem_cons_self
  have qp : q ≠ p := fun z => (List.nodup_append.mp g.nd).2.2 q hq p List.mem_cons_self z
  have nc : crossB q p = false := (List.pairwise_append.mp g.nc).2.2 q hq p List.mem_cons_self
  have m11 : meet q.1 p.1 = true := meet_iff.mpr ⟨h, g.hd1 q hq', g.hd1 p hp'⟩
  obtain ⟨z, hz⟩ := g.some_ hp' false
  have hz' : z ∈ p.2 := hz
  cases m12 : meet q.1 p.2 with
  | false =>
    have eb : b0 p q = false := by unfold b0; rw [m12, Bool.and_false]
    rw [eb]
    have sub : ∀ x, x ∈ p.2 → x ∈ q.2 := fun x hx => by
      have := meet_no.mp m12
      exact (g.one hq' x (g.sub p hp' x hx) false).mpr fun y => this x y hx
    refine ⟨fun c => ?_, false, sub⟩
    cases c
    · exact ⟨z, sub z hz', hz'⟩
    · refine Classical.byContradiction fun no => qp (g.eqv q hq' p hp' fun x => ⟨fun hx => ?_, sub x⟩)
      refine Classical.byContradiction fun y => no ⟨x, hx, ?_⟩
      exact (g.one hp' x (g.sub q hq' x hx) true).mpr y
  | true =>
    have eb : b0 p q = true := by unfold b0; rw [m11, m12]; rfl
    rw [eb]
    obtain ⟨y, hy1, hy2⟩ := meet_iff.mp m12
    refine ⟨fun c => ?_, ?_⟩
    · cases c
      · exact ⟨y, hy1, hy2⟩
      · exact ⟨h, g.hd1 q hq', g.hd1 p hp'⟩
    · unfold crossB at nc
      rw [m11, m12] at nc
      simp only [Bool.true_and, Bool.and_self] at nc
      cases m21 : meet q.2 p.1 with
      | false =>
        refine ⟨true, fun x hx => ?_⟩
        have := meet_no.mp m21
        exact (g.one hq' x (g.in_ hp' (b := true) hx) true).mpr fun y => this x y hx
      | true =>
        rw [m21, Bool.true_and] at nc
        refine ⟨false, fun x hx => ?_⟩
        have := meet_no.mp nc
        exact (g.one hq' x (g.in_ hp' (b := false) hx) true).mpr fun y => this x y hx
/-- the other side lies within one side of the new one -/
theorem Prts.side {ns : List α} {h : α} {ps : List (List α × List α)} {p : List α × List α} (g : Prts ns h (ps ++ [p])) {q : List α × List α} (hq : q ∈ ps) : ∃ c, ∀ x, x ∈ sd q (!b0 p q) → x ∈ sd p c := by
  have hq' : q ∈ ps ++ [p] := List.mem_append_left _ hq
  have hp' : p ∈ ps ++ [p] := List.mem_append_right _ List.mem_cons_self
  obtain ⟨_, c, hc⟩ := g.mid hq
  refine ⟨!c, fun x hx => ?_⟩
  have hn := g.in_ hq' hx
  refine (g.one hp' x hn (!c)).mpr fun y => ?_
  rw [Bool.not_not] at y
  exact (g.one hq' x hn (b0 p q)).mp (hc x y) hx
/-- any two sides that are chosen meet -/
def Met (ps : List (List α × List α)) (f : List α × List α → Bool) : Prop := ∀ p ∈ ps, ∀ q ∈ ps, ∃ x, x ∈ sd p (f p) ∧ x ∈ sd q (f q)
def plOf (ps : List (List α × List α)) (f : List α × List α → Bool) : List (List α) := ps.map fun p => sd p (f p)
theorem fits_iff {ps : List (List α × List α)} {f : List α × List α → Bool} {c : List α} : fitsB (plOf ps f) c = true ↔ ∀ q ∈ ps, ∃ x, x ∈ c ∧ x ∈ sd q (f q) := by
  unfold fitsB plOf
  rw [List.all_eq_true]
  constructor
  · intro h q hq
    exact meet_iff.mp (h _ (List.mem_map.mpr ⟨q, hq, rfl⟩))
  · intro h d hd
    obtain ⟨q, hq, rfl⟩ := List.mem_map.mp hd
    exact meet_iff.mpr (h q hq)
theorem Prts.fit {ns : List α} {h : α} {ps : List (List α × List α)} {p : List α × List α} (g : Prts ns h (ps ++ [p])) {f : List α × List α → Bool} (hm : Met ps f) :
    ((∀ q ∈ ps, f q = b0 p q) ∧ ∀ c, fitsB (plOf ps f) (sd p c) = true) ∨
    ∃ c, (∃ q ∈ ps, f q ≠ b0 p q ∧ ∀ x, x ∈ sd q (f q) → x ∈ sd p c) ∧ fitsB (plOf ps f) (sd p c) = true ∧ fitsB (plOf ps f) (sd p (!c)) = false := by
  have hp' : p ∈ ps ++ [p] := List.mem_append_right _ List.mem_cons_self
  by_cases a : ∀ q ∈ ps, f q = b0 p q
  · refine .inl ⟨a, fun c => fits_iff.mpr fun q hq => ?_⟩
    obtain ⟨x, h1, h2⟩ := (g.mid hq).1 c
    exact ⟨x, h2, by rw [a q hq]; exact h1⟩
  · obtain ⟨q, a⟩ := Classical.not_forall.mp a
    obtain ⟨hq, ne⟩ := Classical.not_imp.mp a
    have hq' : q ∈ ps ++ [p] := List.mem_append_left _ hq
    have e : f q = !b0 p q := by
      cases h1 : f q <;> cases h2 : b0 p q <;> simp_all
    obtain ⟨c, hc⟩ := g.side hq
    rw [← e] at hc
    refine .inr ⟨c, ⟨q, hq, ne, hc⟩, fits_iff.mpr fun r hr => ?_, ?_⟩
    · obtain ⟨x, h1, h2⟩ := hm q hq r hr
      exact ⟨x, hc x h1, h2⟩
    · refine Bool.eq_false_iff.mpr fun y => ?_
      obtain ⟨x, h1, h2⟩ := fits_iff.mp y q hq
      have hn := g.in_ hp' h1
      exact (g.one hp' x hn c).mp (hc x h2) h1
/-! ### the places -/
def df (s t : List (List α)) : Nat := ((s.zip t).filter fun z => decide (z.1 ≠ z.2)).length
def nb (s t : List (List α)) : Bool := decide (df s t = 1)
theorem df_comm : ∀ (s t : List (List α)), df s t = df t s
  | [], [] => rfl
  | [], _ :: _ => rfl
  | _ :: _, [] => rfl
  | x :: s, y :: t => by
    have ih := df_comm s t
    unfold df at ih ⊢
    rw [List.zip_cons_cons, List.zip_cons_cons, List.filter_cons, List.filter_cons]
    by_cases e : x = y
    · simp [e] at ih ⊢; exact ih
    · have e2 : ¬ y = x := fun z => e z.symm
      simp [e, e2] at ih ⊢; exact ih
theorem nb_comm (s t : List (List α)) : nb s t = nb t s := by unfold nb; rw [df_comm]
theorem df_snoc {s t : List (List α)} (h : s.length = t.length) (c d : List α) : df (s ++ [c]) (t ++ [d]) = df s t + (if c = d then 0 else 1) := by
  unfold df
  rw [List.zip_append h, List.filter_append, List.length_append]
  congr 1
  by_cases e : c = d
  · simp [e]
  · simp [e]
theorem df_eq {s t : List (List α)} (h : s.length = t.length) : df s t = 0 ↔ s = t := by
  induction s generalizing t with
  | nil =>
    cases t with
    | nil => exact ⟨fun _ => rfl, fun _ => rfl⟩
    | cons y t => cases h
  | cons x s ih =>
    cases t with
    | nil => cases h
    | cons y t =>
      have ih := ih (Nat.succ.inj h)
      unfold df at ih ⊢
      rw [List.zip_cons_cons, List.filter_cons]
      by_cases e : x = y
      · simp [e] at ih ⊢; exact ih
      · simp [e]
structure TreeR (ns : List α) (ps : List (List α × List α)) (F : List (List (List α))) : Prop where
  mem : ∀ s, s ∈ F ↔ ∃ f, s = plOf ps f ∧ Met ps f
  nd : F.Nodup
  len : F.length = ps.length + 1
  nbs : pc nb F = ps.length
theorem plOf_snoc (ps : List (List α × List α)) (p : List α × List α) (f) : plOf (ps ++ [p]) f = plOf ps f ++ [sd p (f p)] := by
  unfold plOf
  rw [List.map_append]
  rfl
theorem plOf_congr {ps : List (List α × List α)} {f k : List α × List α → Bool} (h : ∀ q ∈ ps, f q = k q) : plOf ps f = plOf ps k :=
  List.map_congr_left fun q hq => by rw [h q hq]
theorem ext_mem {p : List α × List α} {s t : List (List α)} : t ∈ ext p s ↔ ∃ c, t = s ++ [sd p c] ∧ fitsB s (sd p c) = true := by
  unfold ext
  rw [List.mem_map]
  constructor
  · rintro ⟨c, hc, rfl⟩
    obtain ⟨h1, h2⟩ := List.mem_filter.mp hc
    rcases List.mem_cons.mp h1 with e | h1
    · exact ⟨true, by rw [e]; rfl, by rw [e] at h2; exact h2⟩
    · exact ⟨false, by rw [List.mem_singleton.mp h1]; rfl, by rw [List.mem_singleton.mp h1] at h2; exact h2⟩
  · rintro ⟨c, rfl, h⟩
    refine ⟨_, List.mem_filter.mpr ⟨?_, h⟩, rfl⟩
    cases c
    · exact List.mem_cons_of_mem _ List.mem_cons_self
    · exact List.mem_cons_self
theorem plOf_len (ps : List (List α × List α)) (f) : (plOf ps f).length = ps.length := List.length_map _
theorem Prts.plOf_ne {ns : List α} {h : α} {ps : List (List α × List α)} (g : Prts ns h ps) {f k : List α × List α → Bool} (e : plOf ps f = plOf ps k) : ∀ q ∈ ps, f q = k q := fun q hq => by
  unfold plOf at e
  exact (g.ne hq).mp (List.map_inj_left.mp e q hq)
theorem flat_map1 {β γ : Type} {f : β → List γ} {k : β → γ} : ∀ (l : List β), (∀ b ∈ l, f b = [k b]) → l.flatMap f = l.map k
  | [], _ => rfl
  | b :: l, h => by
    rw [List.flatMap_cons, List.map_cons, h b List.mem_cons_self, flat_map1 l fun x hx => h x (List.mem_cons_of_mem _ hx)]
    rfl
theorem ext_eq {p : List α × List α} {s : List (List α)} : ext p s = (if fitsB s (sd p true) = true then [s ++ [sd p true]] else []) ++ (if fitsB s (sd p false) = true then [s ++ [sd p false]] else []) := by
  unfold ext
  rw [List.filter_cons, List.filter_cons, List.filter_nil]
  show List.map _ (if fitsB s (sd p true) = true then _ else _) = _
  by_cases c1 : fitsB s (sd p true) = true
  · rw [if_pos c1, if_pos c1, List.map_cons]
    show _ :: List.map _ (if fitsB s (sd p false) = true then _ else _) = _
    by_cases c2 : fitsB s (sd p false) = true
    · rw [if_pos c2, if_pos c2]; rfl
    · rw [if_neg c2, if_neg c2]; rfl
  · rw [if_neg c1, if_neg c1]
    show List.map _ (if fitsB s (sd p false) = true then _ else _) = _
    by_cases c2 : fitsB s (sd p false) = true
    · rw [if_pos c2, if_pos c2]; rfl
    · rw [if_neg c2, if_neg c2]; rfl
theorem ext_two {p : List α × List α} {s : List (List α)} (h : ∀ c, fitsB s (sd p c) = true) : ext p s = [s ++ [sd p true], s ++ [sd p false]] := by
  rw [ext_eq, if_pos (h true), if_pos (h false)]
  rfl
/-- the one side by which a place goes on that is not the middle -/
def cc (p : List α × List α) (s : List (List α)) : Bool := fitsB s (sd p true)
theorem ext_one {p : List α × List α} {s : List (List α)} {c : Bool} (h : fitsB s (sd p c) = true) (h2 : fitsB s (sd p (!c)) = false) : ext p s = [s ++ [sd p (cc p s)]] ∧ cc p s = c := by
  rw [ext_eq]
  cases c
  · have h2' : fitsB s (sd p true) = false := h2
    refine ⟨?_, h2'⟩
    rw [if_neg (by rw [h2']; exact Bool.false_ne_true), if_pos h, show cc p s = false from h2']
    rfl
  · have h2' : fitsB s (sd p false) = false := h2
    refine ⟨?_, h⟩
    rw [if_pos h, if_neg (by rw [h2']; exact Bool.false_ne_true), show cc p s = true from h]
    rfl
theorem bool_ne {a b : Bool} (h : a ≠ b) : b = !a := by cases a <;> cases b <;> simp_all
/-- two places, neither of them the middle, that go on by two sides are no neighbours -/
theorem Prts.far {ns : List α} {h : α} {ps : List (List α × List α)} {p : List α × List α} (g : Prts ns h (ps ++ [p])) {f k : List α × List α → Bool} (mk : Met ps k) (mf : Met ps f) {c : Bool}
    (hf : ∃ q ∈ ps, f q ≠ b0 p q ∧ ∀ x, x ∈ sd q (f q) → x ∈ sd p c) (hk : ∃ q ∈ ps, k q ≠ b0 p q ∧ ∀ x, x ∈ sd q (k q) → x ∈ sd p (!c)) : nb (plOf ps f) (plOf ps k) = false := by
  have hp' : p ∈ ps ++ [p] := List.mem_append_right _ List.mem_cons_self
  obtain ⟨q, hq, nq, sq⟩ := hf
  obtain ⟨r, hr, nr, sr⟩ := hk
  have hq' : q ∈ ps ++ [p] := List.mem_append_left _ hq
  have hr' : r ∈ ps ++ [p] := List.mem_append_left _ hr
  have out : ∀ (f' : List α × List α → Bool), Met ps f' → (∀ x, x ∈ sd q (f' q) → x ∈ sd p c) → (∀ x, x ∈ sd r (f' r) → x ∈ sd p (!c)) → False := fun f' m a b => by
    obtain ⟨x, h1, h2⟩ := m q hq r hr
    have hn := g.in_ hq' h1
    exact (g.one hp' x hn c).mp (a x h1) (b x h2)
  have dq : f q ≠ k q := fun e => out k mk (by rw [← e]; exact sq) sr
  have dr : f r ≠ k r := fun e => out f mf sq (by rw [e]; exact sr)
  have qr : q ≠ r := fun e => by
    subst e
    have e1 : k q = !f q := bool_ne dq
    have qp : q ≠ p := fun z => (List.nodup_append.mp g.nd).2.2 q hq p List.mem_cons_self z
    have same : ∀ x, x ∈ sd q (f q) ↔ x ∈ sd p c := fun x => ⟨sq x, fun hx => by
      have hn := g.in_ hp' hx
      refine (g.one hq' x hn (f q)).mpr fun y => ?_
      rw [← e1] at y
      exact (g.one hp' x hn c).mp hx (sr x y)⟩
    cases e2 : f q <;> cases e3 : c
    · rw [e2, e3] at same
      exact qp (g.eqv q hq' p hp' same)
    · rw [e2, e3] at same
      exact g.hd2 q hq' ((same h).mpr (g.hd1 p hp'))
    · rw [e2, e3] at same
      exact g.hd2 p hp' ((same h).mp (g.hd1 q hq'))
    · rw [e2, e3] at same
      refine qp (g.eqv q hq' p hp' fun x => ?_)
      constructor
      · intro hx
        have hn := g.sub q hq' x hx
        refine (g.one hp' x hn false).mpr fun y => ?_
        exact (g.one hq' x hn false).mp hx ((same x).mpr y)
      · intro hx
        have hn := g.sub p hp' x hx
        refine (g.one hq' x hn false).mpr fun y => ?_
        exact (g.one hp' x hn false).mp hx ((same x).mp y)
  unfold nb
  refine decide_eq_false fun e => ?_
  have gl := g.left
  have key : ∀ l : List (List α × List α), (∀ z ∈ l, z ∈ ps) → df (plOf l f) (plOf l k) = (l.filter fun z => decide (f z ≠ k z)).length := fun l => by
    induction l with
    | nil => intro _; rfl
    | cons z l ih =>
      intro hl
      have ih := ih fun y hy => hl y (List.mem_cons_of_mem _ hy)
      have hz := hl z List.mem_cons_self
      unfold df plOf at ih ⊢
      rw [List.map_cons, List.map_cons, List.zip_cons_cons, List.filter_cons, List.filter_cons]
      have ne := gl.ne hz (a := f z) (b := k z)
      by_cases w : f z = k z
      · have w2 := ne.mpr w
        simp only [w2, w, ne_eq, not_true_eq_false, decide_false] at ih ⊢
        exact ih
      · have w2 : ¬ sd z (f z) = sd z (k z) := fun y => w (ne.mp y)
        simp only [w2, w, ne_eq, not_false_eq_true, decide_true, if_true, List.length_cons] at ih ⊢
        rw [ih]
  rw [key ps fun _ hz => hz] at e
  obtain ⟨z, ez⟩ := List.length_eq_one_iff.mp e
  have h1 : q ∈ [z] := by rw [← ez]; exact List.mem_filter.mpr ⟨hq, decide_eq_true dq⟩
  have h2 : r ∈ [z] := by rw [← ez]; exact List.mem_filter.mpr ⟨hr, decide_eq_true dr⟩
  exact qr ((List.mem_singleton.mp h1).trans (List.mem_singleton.mp h2).symm)
theorem count_two {β : Type} (f k : β → Bool) (l : List β) : l.countP (fun s => f s && decide (k s = true)) + l.countP (fun s => f s && decide (k s = false)) = l.countP f := by
  induction l with
  | nil => rfl
  | cons s l ih =>
    rw [List.countP_cons, List.countP_cons, List.countP_cons]
    have e1 : (if (f s && decide (k s = true)) = true then 1 else 0) + (if (f s && decide (k s = false)) = true then 1 else 0) = (if f s = true then 1 else 0) := by
      cases f s <;> cases k s <;> rfl
    omega
theorem tree_right {ns : List α} {h : α} (ps : List (List α × List α)) : Prts ns h ps → TreeR ns ps (placesOf ps) := by
  induction ps using snoc_ind with
  | h0 =>
    intro _
    refine ⟨fun s => ?_, by show [[]].Nodup; simp, rfl, rfl⟩
    show s ∈ [[]] ↔ _
    rw [List.mem_singleton]
    exact ⟨fun e => ⟨fun _ => true, e, fun p hp => nomatch hp⟩, fun ⟨_, e, _⟩ => e⟩
  | hs ps p ih =>
    intro g
    have t := ih g.left
    have hp' : p ∈ ps ++ [p] := List.mem_append_right _ List.mem_cons_self
    have pn : p ∉ ps := fun z => (List.nodup_append.mp g.nd).2.2 p z p List.mem_cons_self rfl
    rw [places_snoc]
    generalize placesOf ps = F at t
    have m0 : Met ps (b0 p) := fun q hq r hr => by
      obtain ⟨c, hc⟩ := (g.mid hq).2
      obtain ⟨x, h1, h2⟩ := (g.mid hr).1 c
      exact ⟨x, hc x h2, h1⟩
    obtain ⟨p0, ep0⟩ : ∃ s, plOf ps (b0 p) = s := ⟨_, rfl⟩
    have hp0 : p0 ∈ F := (t.mem p0).mpr ⟨_, ep0.symm, m0⟩
    have pm : F.Perm (p0 :: F.erase p0) := List.perm_cons_erase hp0
    obtain ⟨F0, eF0⟩ : ∃ l, F.erase p0 = l := ⟨_, rfl⟩
    rw [eF0] at pm
    have nd0 := pm.nodup_iff.mp t.nd
    have nF0 := List.nodup_cons.mp nd0
    have two : ext p p0 = [p0 ++ [sd p true], p0 ++ [sd p false]] := ext_two fun c => by
      rcases g.fit m0 with ⟨_, a⟩ | ⟨_, ⟨q, _, a, _⟩, _⟩
      · rw [← ep0]; exact a c
      · exact absurd rfl a
    -- what holds of every other place
    have oth : ∀ s ∈ F0, s.length = ps.length ∧ ext p s = [s ++ [sd p (cc p s)]] ∧ ∃ f, s = plOf ps f ∧ Met ps f ∧ ∃ q ∈ ps, f q ≠ b0 p q ∧ ∀ x, x ∈ sd q (f q) → x ∈ sd p (cc p s) := fun s hs => by
      have hsF : s ∈ F := pm.mem_iff.mpr (List.mem_cons_of_mem _ hs)
      obtain ⟨f, rfl, mf⟩ := (t.mem s).mp hsF
      rcases g.fit mf with ⟨a, _⟩ | ⟨c, a, b1, b2⟩
      · refine absurd hs ?_
        rw [plOf_congr a, ep0]
        exact nF0.1
      · obtain ⟨e1, e2⟩ := ext_one b1 b2
        exact ⟨plOf_len _ _, e1, f, rfl, mf, by rw [e2]; exact a⟩
    have l0 : p0.length = ps.length := by rw [← ep0]; exact plOf_len _ _
    have pm2 : (F.flatMap (ext p)).Perm ((p0 ++ [sd p true]) :: (p0 ++ [sd p false]) :: F0.map fun s => s ++ [sd p (cc p s)]) := by
      refine (pm.flatMap_right _).trans ?_
      rw [List.flatMap_cons, two, flat_map1 F0 fun s hs => (oth s hs).2.1]
      exact .refl _
    have inj : ∀ {s u : List (List α)} {c d : List α}, s ++ [c] = u ++ [d] → s = u ∧ c = d := fun {s u c d} e => by
      have := List.append_inj_left' e rfl
      subst this
      exact ⟨rfl, by simpa using e⟩
    have n2 : ((p0 ++ [sd p true]) :: (p0 ++ [sd p false]) :: F0.map fun s => s ++ [sd p (cc p s)]).Nodup := by
      refine List.nodup_cons.mpr ⟨fun z => ?_, List.nodup_cons.mpr ⟨fun z => ?_, ?_⟩⟩
      · rcases List.mem_cons.mp z with z | z
        · have := (g.ne hp').mp (inj z).2
          cases this
        · obtain ⟨s, hs, e⟩ := List.mem_map.mp z
          rw [(inj e).1] at hs
          exact nF0.1 hs
      · obtain ⟨s, hs, e⟩ := List.mem_map.mp z
        rw [(inj e).1] at hs
        exact nF0.1 hs
      · exact List.pairwise_map.mpr (nF0.2.imp fun ne e => ne (inj e).1)
    refine ⟨fun s => ?_, pm2.nodup_iff.mpr n2, ?_, ?_⟩
    · rw [List.mem_flatMap]
      constructor
      · rintro ⟨u, hu, hs⟩
        obtain ⟨f, rfl, mf⟩ := (t.mem u).mp hu
        obtain ⟨c, rfl, hc⟩ := ext_mem.mp hs
        have hc := fits_iff.mp hc
        have ef : ∀ q ∈ ps, (fun z => if z = p then c else f z) q = f q := fun q hq => if_neg fun z => pn (by rw [← z]; exact hq)
        have ep : (fun z => if z = p then c else f z) p = c := if_pos rfl
        refine ⟨fun z => if z = p then c else f z, ?_, fun q hq r hr => ?_⟩
        · rw [plOf_snoc, plOf_congr ef]
          show _ = plOf ps f ++ [sd p ((fun z => if z = p then c else f z) p)]
          rw [ep]
        · rcases List.mem_append.mp hq with hq | hq <;> rcases List.mem_append.mp hr with hr | hr
          · rw [ef q hq, ef r hr]; exact mf q hq r hr
          · rw [List.mem_singleton.mp hr, ef q hq, ep]
            obtain ⟨x, h1, h2⟩ := hc q hq
            exact ⟨x, h2, h1⟩
          · rw [List.mem_singleton.mp hq, ef r hr, ep]
            obtain ⟨x, h1, h2⟩ := hc r hr
            exact ⟨x, h1, h2⟩
          · rw [List.mem_singleton.mp hq, List.mem_singleton.mp hr]
            obtain ⟨x, hx⟩ := g.some_ hp' ((fun z => if z = p then c else f z) p)
            exact ⟨x, hx, hx⟩
      · rintro ⟨f, rfl, mf⟩
        refine ⟨plOf ps f, (t.mem _).mpr ⟨f, rfl, fun q hq r hr => mf q (List.mem_append_left _ hq) r (List.mem_append_left _ hr)⟩, ext_mem.mpr ⟨f p, plOf_snoc _ _ _, fits_iff.mpr fun q hq => ?_⟩⟩
        exact mf p hp' q (List.mem_append_left _ hq)
    · rw [pm2.length_eq, List.length_cons, List.length_cons, List.length_map, List.length_append]
      have h1 := t.len
      rw [pm.length_eq, List.length_cons] at h1
      show F0.length + 1 + 1 = ps.length + 1 + 1
      omega
    · rw [pc_perm nb_comm pm2, pc, pc, List.countP_cons, pc_map, List.countP_map, List.countP_map]
      have h1 := t.nbs
      rw [pc_perm nb_comm pm, pc] at h1
      have e1 : nb (p0 ++ [sd p true]) (p0 ++ [sd p false]) = true := by
        unfold nb
        rw [df_snoc rfl, (df_eq rfl).mpr rfl, if_neg (fun z => by have := (g.ne hp').mp z; cases this)]
        rfl
      have e2 : pc (fun a b => nb (a ++ [sd p (cc p a)]) (b ++ [sd p (cc p b)])) F0 = pc nb F0 := by
        refine pc_congr nF0.2 fun a ha b hb ne => ?_
        obtain ⟨la, _, f, ea, mf, hf⟩ := oth a ha
        obtain ⟨lb, _, k, eb, mk, hk⟩ := oth b hb
        have lab : a.length = b.length := la.trans lb.symm
        by_cases c : cc p a = cc p b
        · unfold nb
          rw [df_snoc lab, c, if_pos rfl]
          rfl
        · have eb2 := bool_ne c
          rw [eb2] at hk
          have fr := g.far mk mf hf hk
          rw [← ea, ← eb] at fr
          rw [fr]
          unfold nb
          rw [df_snoc lab, if_neg fun z => c ((g.ne hp').mp z)]
          refine decide_eq_false fun z => ?_
          have : df a b = 0 := by omega
          exact ne ((df_eq lab).mp this)
      have e3 : ∀ c : Bool, ∀ s ∈ F0, nb (p0 ++ [sd p c]) (s ++ [sd p (cc p s)]) = (nb p0 s && decide (cc p s = c)) := fun c s hs => by
        have ls := (oth s hs).1
        have lp : p0.length = s.length := l0.trans ls.symm
        have d0 : df p0 s ≠ 0 := fun z => nF0.1 (by rw [(df_eq lp).mp z]; exact hs)
        unfold nb
        rw [df_snoc lp]
        by_cases e : cc p s = c
        · rw [e, if_pos rfl, decide_eq_true (rfl : c = c), Bool.and_true]
          rfl
        · rw [if_neg (fun z => e ((g.ne hp').mp z).symm), decide_eq_false e, Bool.and_false]
          exact decide_eq_false fun z => d0 (by omega)
      have e4 : F0.countP ((nb (p0 ++ [sd p true])) ∘ fun s => s ++ [sd p (cc p s)]) + F0.countP ((nb (p0 ++ [sd p false])) ∘ fun s => s ++ [sd p (cc p s)]) = F0.countP (nb p0) := by
        rw [List.countP_congr (p := (nb (p0 ++ [sd p true])) ∘ fun s => s ++ [sd p (cc p s)]) (q := fun s => nb p0 s && decide (cc p s = true)) fun s hs => by rw [Function.comp, e3 true s hs],
          List.countP_congr (p := (nb (p0 ++ [sd p false])) ∘ fun s => s ++ [sd p (cc p s)]) (q := fun s => nb p0 s && decide (cc p s = false)) fun s hs => by rw [Function.comp, e3 false s hs]]
        exact count_two _ _ _
      rw [e1, e2, List.length_append]
      simp only [if_true]
      show _ = ps.length + 1
      omega
theorem Prts.few {h : α} {r : List α} {ps : List (List α × List α)} (g : Prts (h :: r) h ps) : ps.length ≤ r.length * r.length := by
  have inr : ∀ p ∈ ps, ∀ x ∈ p.2, x ∈ r := fun p hp x hx => by
    rcases List.mem_cons.mp (g.sub p hp x hx) with e | e
    · exact absurd (by rw [← e]; exact hx) (g.hd2 p hp)
    · exact e
  have nd : (ps.map fun p => (p.2.headD h, p.2.length)).Nodup := by
    refine List.pairwise_map.mpr ?_
    refine ((List.pairwise_and_iff).mpr ⟨g.nd, g.nc⟩).imp_of_mem fun {p q} hp hq hh e => ?_
    obtain ⟨ne, nc⟩ := hh
    obtain ⟨e1, e2⟩ := Prod.mk.inj e
    have hd : ∀ {z : List α × List α}, z ∈ ps → z.2.headD h ∈ z.2 := fun {z} hz => by
      cases ez : z.2 with
      | nil => exact absurd ez (g.ne2 z hz)
      | cons a l => exact List.mem_cons_self
    have m22 : meet p.2 q.2 = true := meet_iff.mpr ⟨_, hd hp, by rw [e1]; exact hd hq⟩
    have m11 : meet p.1 q.1 = true := meet_iff.mpr ⟨h, g.hd1 p hp, g.hd1 q hq⟩
    have same : (∀ x ∈ p.2, x ∈ q.2) ∨ (∀ x ∈ q.2, x ∈ p.2) := by
      unfold crossB at nc
      rw [m11, m22, Bool.true_and, Bool.and_true] at nc
      cases m12 : meet p.1 q.2 with
      | false =>
        refine .inr fun x hx => ?_
        exact (g.one hp x (g.sub q hq x hx) false).mpr fun y => meet_no.mp m12 x y hx
      | true =>
        rw [m12, Bool.true_and] at nc
        refine .inl fun x hx => ?_
        exact (g.one hq x (g.sub p hp x hx) false).mpr fun y => meet_no.mp nc x hx y
    have full : ∀ {a b : List α}, a.Nodup → b.Nodup → (∀ x ∈ a, x ∈ b) → a.length = b.length → ∀ x, x ∈ a ↔ x ∈ b := fun {a b} na nb s l x => by
      refine ⟨s x, fun hx => ?_⟩
      refine Classical.byContradiction fun y => ?_
      have := (List.nodup_cons.mpr ⟨y, na⟩).length_le_of_subset (l₂ := b) fun z hz => by
        rcases List.mem_cons.mp hz with e | hz
        · rw [e]; exact hx
        · exact s z hz
      rw [List.length_cons] at this
      omega
    rcases same with s | s
    · exact ne (g.eqv p hp q hq (full (g.nd2 p hp) (g.nd2 q hq) s e2))
    · exact ne (g.eqv p hp q hq fun x => (full (g.nd2 q hq) (g.nd2 p hp) s e2.symm x).symm)
  have sub : ∀ z ∈ ps.map (fun p => (p.2.headD h, p.2.length)), z ∈ r.flatMap fun x => (List.range r.length).map fun k => (x, k + 1) := fun z hz => by
    obtain ⟨p, hp, rfl⟩ := List.mem_map.mp hz
    have l1 : p.2.length ≤ r.length := (g.nd2 p hp).length_le_of_subset fun x hx => inr p hp x hx
    cases ez : p.2 with
    | nil => exact absurd ez (g.ne2 p hp)
    | cons a l =>
      rw [ez, List.length_cons] at l1
      refine List.mem_flatMap.mpr ⟨a, inr p hp a (by rw [ez]; exact List.mem_cons_self), List.mem_map.mpr ⟨l.length, List.mem_range.mpr l1, rfl⟩⟩
  have := nd.length_le_of_subset sub
  rw [List.length_map] at this
  refine Nat.le_trans this (Nat.le_of_eq ?_)
  have c : ∀ (l : List α) (n : Nat), (l.flatMap fun x => (List.range n).map fun k => (x, k + 1)).length = l.length * n := fun l n => by
    induction l with
    | nil => simp
    | cons a l ih => rw [List.flatMap_cons, List.length_append, ih, List.length_map, List.length_range, List.length_cons, Nat.succ_mul]; omega
  exact c r r.length
end
end Gx

/-! [val z for z in zs if p z], the test and the value told from without; any two of a list that cross. -/
namespace Gx
open PySem PySem.Spec PyProof.Rows L2 GxR
section
variable {J : It} {n : Nat} {G : Hp → Prop} {Y : Nat → Hp → V → Hp → Prop}
theorem lc_filt {β : Type} (w : Walk J n G Y) (zs : List β) (p : β → Bool) (val : β → V) {g : TG} {tt : TT} {te : TE} {vs : List Nat} {σ : L2.St} {H1 : Hp} {D : Addr} {Qd : Hp → Prop} (nD : H1 D = none) (hn : n = zs.length) (hz : zs.length ≤ 1000000)
    (hG : ∀ H, Grow [] H1 H → G H)
    (hs : ∀ i z x Ha Hb (Pu : V → Hp → Prop) (Pn : Hp → Prop), zs[i]? = some z → Grow [] H1 Ha → Y i Ha x Hb → (∀ Hc, Grow [] Ha Hc → p z = true → Pu (val z) Hc) → (∀ Hc, Grow [] Ha Hc → p z = false → Pn Hc) →
      g x (wipe σ vs) Hb fun σ2 H2 => wipe σ2 vs = wipe σ vs ∧ tt σ2 H2 fun b H3 => if b = true then te σ2 H3 Pu else Pn H3)
    (hd : ∀ H, Grow [] H1 H → H D = some (.lst ((zs.filter p).map val)) → Qd H) :
    ∃ W : Nat → Nat → Hp → Prop, (∃ m, W 0 m (upd H1 D (.lst []))) ∧ ∀ i m H, W i m H →
      (J.stop i H ∧ Qd H) ∨ (J.go i H ∧ ∃ Nx : Hp → Prop, (∀ H', Nx H' → ∃ m', m' < m ∧ W (i + 1) m' H') ∧ ∀ x H', J.yld i H x H' → g x (wipe σ vs) H' fun σ2 H2 => wipe σ2 vs = wipe σ vs ∧ tt σ2 H2 fun b H3 =>
        if b = true then te σ2 H3 fun y H4 => ∃ acc, H4 D = some (.lst acc) ∧ acc.length < sizeLine ∧ Nx (upd H4 D (.lst (acc ++ [y]))) else Nx H3) := by
  subst hn
  refine lc_it w (fun i H' => Grow [] H1 H' ∧ H' D = some (.lst (((zs.take i).filter p).map val))) ⟨grow_new nD, upd_same⟩ (fun i H' _ h => hG H' h.1) (fun i x Ha Hb hi hp hy => ?_) (fun H2 hp => ?_)
  · obtain ⟨ga, ea⟩ := hp
    obtain ⟨z, ez⟩ : ∃ z, zs[i]? = some z := ⟨_, List.getElem?_eq_getElem hi⟩
    have tk : zs.take (i + 1) = zs.take i ++ [z] := by rw [List.take_add_one, ez]; rfl
    refine hs i z x Ha Hb _ _ ez ga hy (fun Hc gc hb => ?_) (fun Hc gc hb => ?_)
    · have ec := gc.lst (by simp) ea
      refine ⟨_, ec, ?_, (ga.trans gc).put (fresh_none nD) ec (fun ps z => by cases z), ?_⟩
      · rw [List.length_map]
        have h1 := List.length_filter_le p (zs.take i)
        rw [List.length_take] at h1
        have : (1000001 : Nat) < sizeLine := by decide
        omega
      · rw [upd_same, tk, List.filter_append, List.filter_cons_of_pos hb, List.filter_nil, List.map_append]
        rfl
    · refine ⟨ga.trans gc, ?_⟩
      rw [gc.lst (by simp) ea, tk, List.filter_append, List.filter_cons_of_neg (by rw [hb]; exact Bool.false_ne_true), List.filter_nil, List.append_nil]
  · obtain ⟨g2, e2⟩ := hp
    rw [List.take_length] at e2
    exact hd H2 g2 e2
end
section
variable {α : Type} [DecidableEq α]
/-- any two of these partings cross -/
def crs (ps : List (List α × List α)) : Bool := (combos ps).any fun z => crossB z.1 z.2
theorem crs_iff (ps : List (List α × List α)) : crs ps = false ↔ ps.Pairwise fun p q => crossB p q = false := by
  unfold crs
  induction ps with
  | nil => exact ⟨fun _ => .nil, fun _ => rfl⟩
  | cons p ps ih =>
    rw [combos, List.any_append, Bool.or_eq_false_iff, ih, List.pairwise_cons, List.any_map, List.any_eq_false]
    refine and_congr_left fun _ => ?_
    exact ⟨fun h q hq => Bool.eq_false_iff.mpr fun z => h q hq z, fun h q hq z => by have := h q hq; rw [show crossB p q = true from z] at this; cases this⟩
end
end Gx

/-! ### repr of lists in which lists and dicts stand; x == [] for a list of anything; list.remove of a text -/
namespace Gx
open PySem PySem.Spec PyProof.Rows L2 GxR GenW
mutual
inductive Dn (K : PySem.W.Frag) (H : Hp) : V → PyData → Prop
  | d {v : V} {d : PyData} : Di K H v d → Dn K H v d
  | l {a : Addr} {xs : List V} {ds : List PyData} : H a = some (.lst xs) → Dns K H xs ds → Dn K H (.ref a) (.list ds)
inductive Dns (K : PySem.W.Frag) (H : Hp) : List V → List PyData → Prop
  | nil : Dns K H [] []
  | cons {v : V} {d : PyData} {vs : List V} {ds : List PyData} : Dn K H v d → Dns K H vs ds → Dns K H (v :: vs) (d :: ds)
end
section
variable {X : Cx} {pins : List (Addr × Obj)} {σ : L2.St} {H : Hp} {s : Shared}
mutual
theorem Dn.shows (I : Inv X pins σ H s) : ∀ {v : V} {u : Value} {d : PyData}, Dn X.K H v d → RelV v u → d.showable = true → d.shown.length ≤ sizeLine →
    ∃ as bs, Reads s.heap u d as ∧ ReadAtMost s.heap d.depth bs ∧ ReprK X.prog X.w bs s.heap d.depth u d.shown
  | _, _, _, .d h, r, hs, hz => h.shows I r hs hz
  | _, u, _, .l (a := a) (xs := xs) (ds := ds) e h, r, hs, hz => by
    cases r
    obtain ⟨z, its, n, ri, hl, e1⟩ := I.lstM e
    have hz2 : (listText (PyData.shownAll ds)).length ≤ sizeLine := by simpa only [PyData.shown] using hz
    obtain ⟨as, bs, a1, a2, a3⟩ := Dns.shows I h ri (by rwa [PyData.showable] at hs) fun t ht => Nat.le_trans (listText_mem_le ht) hz2
    have rd : Reads s.heap (.ref a) (.list ds) (a :: as) := Reads.list e1 rfl rfl (by simpa using a1)
    have hna : a ∉ bs := not_mem_of_deeper rd (by simp only [PyData.depth]; omega) a2
    refine ⟨_, a :: bs, rd, ReadAtMost.cons rd (Nat.le_refl _) (a2.mono (by rw [PyData.depth]; omega)), ?_⟩
    cases ri with
    | nil =>
      cases h
      simp only [PyData.shown, PyData.shownAll]
      exact ReprK.listEmpty e1 rfl rfl
    | @cons _ y _ ys r1 r2 =>
      rw [PyData.depth]
      have : (PyData.list ds).shown = listText (PyData.shownAll ds) := by simp only [PyData.shown]
      rw [this]
      exact ReprK.list e1 rfl rfl hna (by simpa using a3.length_eq) (fun i y e => a3.item i y (by simpa using e))
theorem Dns.shows (I : Inv X pins σ H s) : ∀ {vs : List V} {us : List Value} {ds : List PyData}, Dns X.K H vs ds → Vals vs us → PyData.showableAll ds = true → (∀ t ∈ PyData.shownAll ds, t.length ≤ sizeLine) →
    ∃ as bs, ReadsAll s.heap us ds as ∧ ReadAtMost s.heap (PyData.depthAll ds) bs ∧ ReprAllK X.prog X.w bs s.heap (PyData.depthAll ds) us (PyData.shownAll ds)
  | _, _, _, .nil, r, _, _ => by
    cases r
    exact ⟨[], [], .nil, (fun _ h => nomatch h), by simp only [PyData.shownAll]; exact .nil⟩
  | _, _, _, .cons (d := d) (ds := ds) h t, r, hs, hz => by
    cases r with
    | cons r1 r2 =>
      rw [PyData.showableAll, Bool.and_eq_true] at hs
      obtain ⟨as, bs, a1, a2, a3⟩ := Dn.shows I h r1 hs.1 (hz _ (by rw [PyData.shownAll]; exact List.mem_cons_self))
      obtain ⟨cs, ds', b1, b2, b3⟩ := Dns.shows I t r2 hs.2 fun t ht => hz t (by rw [PyData.shownAll]; exact List.mem_cons_of_mem _ ht)
      refine ⟨_, bs ++ ds', .cons a1 b1, (a2.mono ?_).append (b2.mono ?_), ?_⟩
      · rw [PyData.depthAll]
        exact Nat.le_max_left _ _
      · rw [PyData.depthAll]
        exact Nat.le_max_right _ _
      · rw [PyData.shownAll, PyData.depthAll]
        exact .cons ((a3.more fun b hb => List.mem_append_left _ hb).level_le (Nat.le_max_left _ _)) (b3.more_le (fun b hb => List.mem_append_right _ hb) (Nat.le_max_right _ _))
end
end
section
variable {X : Cx}
def rReprN (K : PySem.W.Frag) : List V → Hp → VK → Prop := fun xs H Q => ∃ (L : Addr) (v : V) (vs : List V) (ds : List PyData), xs = [.ref L] ∧ H L = some (.lst (v :: vs)) ∧ Dns K H (v :: vs) ds ∧ PyData.showableAll ds = true ∧
  PyData.depthAll ds ≤ 60 ∧ (PyData.list ds).shown.length ≤ sizeLine ∧ Q (.str (PyData.list ds).shown) H
theorem cr_reprN (g : X.A.guards = some []) (hu : X.A.units + 64 < cLine) : CallR X (.builtin "repr") (rReprN X.K) := by
  intro pins s σ H xs us Q I r h
  obtain ⟨L, v, vs, ds, rfl, hL, hD, hs, hd, hz, q⟩ := h
  obtain ⟨u, rfl, rx⟩ : ∃ u, us = [u] ∧ RelV (.ref L) u := by
    cases r with
    | cons r1 r2 => cases r2; exact ⟨_, rfl, r1⟩
  cases rx
  obtain ⟨z, its, n, ri, hl, e⟩ := I.lstM hL
  have e0 : (PyData.list ds).shown = listText (PyData.shownAll ds) := by simp only [PyData.shown]
  rw [e0] at hz q
  obtain ⟨as, bs, a1, a2, a3⟩ := hD.shows I ri hs fun t ht => Nat.le_trans (listText_mem_le ht) hz
  have rd : Reads s.heap (.ref L) (.list ds) (L :: as) := Reads.list e rfl rfl (by simpa using a1)
  have hna : L ∉ bs := not_mem_of_deeper rd (by simp only [PyData.depth]; omega) a2
  cases ri with
  | @cons _ y _ ys r1 r2 =>
    refine call_repr_slot (T := "list") (by omega) ⟨_, e, rfl⟩ F.slot_list_repr.toG ?_
    exact call_list_reprK e rfl rfl hna (by simpa using a3.length_eq) (fun i y e => a3.item i y (by simpa using e)) g (fun b _ => Clear.nil b) (by show X.A.units + 1 + (_ + 1) < cLine; omega) (fun _ _ e => e) (fun h' u tk hk => ⟨_, _, rfl, .str _, H, I.kept hk, ⟨_, rfl⟩, q⟩) hz
/-- x == [], x != [] -/
def rEqE : R2 := fun x y H Q => ∃ (a b : Addr) (xs : List V), x = .ref a ∧ y = .ref b ∧ H a = some (.lst xs) ∧ H b = some (.lst []) ∧ Q (.bl (decide (xs = []))) H
def rNeE : R2 := fun x y H Q => ∃ (a b : Addr) (xs : List V), x = .ref a ∧ y = .ref b ∧ H a = some (.lst xs) ∧ H b = some (.lst []) ∧ Q (.bl (!decide (xs = []))) H
theorem op_eqE (hu : X.A.units + 64 < cLine) : OpR X (compareOp .Eq) rEqE := by
  intro pins s σ H x y v u Q I rx ry h
  obtain ⟨a, b, xs, rfl, rfl, ha, hb, q⟩ := h
  cases xs with
  | nil => exact op_eqD hu pins s σ H _ _ v u Q I rx ry ⟨_, _, .lst (.inl (.inl ha)) .nil, .lst (.inl (.inl hb)) .nil, rfl, rfl, q⟩
  | cons z zs =>
    cases rx
    cases ry
    obtain ⟨_, i1, n1, r1, l1, e1⟩ := I.lstM ha
    obtain ⟨_, i2, n2, r2, l2, e2⟩ := I.lstM hb
    cases r2
    refine SeqAt.eq_list_lengthsAt ⟨_, e1, rfl, _, rfl⟩ ⟨_, e2, rfl, _, rfl⟩ ?_ (by omega) ⟨.bl _, H, I, rfl, q⟩
    rw [List.size_toArray, ← l1]
    rfl
theorem op_neE (hu : X.A.units + 64 < cLine) : OpR X (compareOp .NotEq) rNeE := by
  intro pins s σ H x y v u Q I rx ry h
  obtain ⟨a, b, xs, rfl, rfl, ha, hb, q⟩ := h
  cases xs with
  | nil => exact op_neD hu pins s σ H _ _ v u Q I rx ry ⟨_, _, .lst (.inl (.inl ha)) .nil, .lst (.inl (.inl hb)) .nil, rfl, rfl, q⟩
  | cons z zs =>
    cases rx
    cases ry
    obtain ⟨_, i1, n1, r1, l1, e1⟩ := I.lstM ha
    obtain ⟨_, i2, n2, r2, l2, e2⟩ := I.lstM hb
    cases r2
    refine SeqAt.RcNeAt.lists_lengths ⟨_, e1, rfl, _, rfl⟩ ⟨_, e2, rfl, _, rfl⟩ ?_ (by omega) X.prog X.w _ _ ⟨.bl _, H, I, rfl, q⟩
    rw [List.size_toArray, ← l1]
    rfl
/-- xs.remove(k), a text that stands there -/
def rRemS : V → List V → Hp → VK → Prop := fun x xs H Q => ∃ (l : Addr) (ys : List Str) (k : Str) (j : Nat), x = .ref l ∧ xs = [.str k] ∧ H l = some (.lst (ys.map V.str)) ∧ ys[j]? = some k ∧ (∀ m : Nat, m < j → ys[m]? ≠ some k) ∧ Q .non (upd H l (.lst ((ys.eraseIdx j).map V.str)))
theorem mt_removeS : MtM X "list.remove" rRemS := by
  intro pins s σ H x xs v us Q I rx rxs h
  obtain ⟨l, ys, k, j, rfl, rfl, hH, hj, hno, q⟩ := h
  cases rx
  obtain ⟨u, rfl, ru⟩ := rxs.one
  obtain ⟨t, rfl⟩ := ru
  obtain ⟨z, its, n, r, hl, e⟩ := I.lstM hH
  have hi := strs_of_vals r
  rw [List.length_map] at hl z
  have hjn : j < ys.length := (List.getElem?_eq_some_iff.mp hj).1
  have at_ : ∀ {m : Nat} (hm : m < its.toArray.size), ∃ tm, its.toArray[m] = .str (ys[m]'(by rw [List.size_toArray] at hm; omega)) tm := fun {m} hm => by
    have hm2 : m < ys.length := by rw [List.size_toArray] at hm; omega
    obtain ⟨tm, e2⟩ := hi.get m _ (List.getElem?_eq_getElem hm2)
    obtain ⟨h1, h2⟩ := List.getElem?_eq_some_iff.mp e2
    exact ⟨tm, by simpa using h2⟩
  have hjl : j < its.toArray.size := by rw [List.size_toArray]; omega
  refine call_meets PySem.F.slot_list_remove ⟨_, e, rfl⟩ PySem.F.entry_list_remove (PySem.F.args_list_remove_2 _ _)
    (MeetsSeq.list_remove l its.toArray n (.str k t) (isStrOf k) (fun y hy => eq_isStrOf k t hi y (by simpa using hy)) j hjl ?_ ?_ (by rw [List.size_toArray]; omega)) ⟨e, ?_⟩
  · obtain ⟨tm, e2⟩ := at_ hjl
    rw [e2]
    show (ys[j] == k) = true
    rw [List.getElem?_eq_getElem hjn] at hj
    rw [Option.some.inj hj]
    exact beq_self_eq_true k
  · intro m hm hmj
    obtain ⟨tm, e2⟩ := at_ hm
    rw [e2]
    have hmn : m < ys.length := by omega
    refine beq_eq_false_iff_ne.mpr fun e3 => hno m hmj ?_
    rw [List.getElem?_eq_getElem hmn, e3]
  · have rr := r.eraseIdx j
    rw [erase_map] at rr
    refine ⟨.non, _, I.lset (its' := its.eraseIdx j) (t' := s.toks) hH e ?_ rr ?_, rfl, q⟩
    · show its.toArray.eraseIdxIfInBounds j = (its.eraseIdx j).toArray
      rw [List.eraseIdxIfInBounds_toArray]
    · rw [List.length_map, List.length_eraseIdx]
      split <;> omega
end
end Gx

/-! ### {None: 0}: a dict that no program of the layer tells; its type, its length, its one key, its text -/
namespace Gx
open PySem PySem.Spec PyProof.Rows L2 GxR GenW
/-- what stands at a -/
def NdH (a : Addr) (h : Heap) : Prop := (a == sysModules) = false ∧ ∃ (od : Obj) (e : DictEntry) (ep : Nat) (t : Nat), h.get? a = some od ∧ od.ExactDict ∧ od.data = .dict #[e] ep ∧ e.key = .none ∧ e.val = .int 0 t ∧ e.hash = reduceHash 0xFCA86420
def ndo (a : Addr) : HO := .ext (NdH a)
theorem NdH.stays {a : Addr} {h1 h2 : Heap} (x : NdH a h1) (k : ∀ o, h1.get? a = some o → h2.get? a = some o) : NdH a h2 := by
  obtain ⟨n, od, e, ep, t, h, r⟩ := x
  exact ⟨n, od, e, ep, t, k _ h, r⟩
theorem NdH.ok {P : Program} {w : World} {H : Hp} {a : Addr} {h : Heap} (x : NdH a h) : ObjOk P w H h a (ndo a) := by
  refine ⟨x, ?_, fun _ _ p k => p.stays k⟩
  obtain ⟨n, od, e, ep, t, h, r⟩ := x
  exact ⟨od, h⟩
theorem nd_pairs {P : Program} {w : World} {e : DictEntry} {t : Nat} (h1 : e.key = .none) (h2 : e.val = .int 0 t) (h3 : e.hash = reduceHash 0xFCA86420) :
    KeysOf (noneKind P w) #[e] ∧ Pairs (noneKind P w) [e] [((none : Option Key), Value.int 0 t)] := by
  have k : (noneKind P w).is none e.key = true := by rw [h1]; rfl
  refine ⟨fun x hx => ?_, ?_⟩
  · have : x = e := by simpa using hx
    rw [this]
    exact ⟨none, k, h3⟩
  · exact .cons k h2 .nil
theorem NdH.at {P : Program} {w : World} {a : Addr} {h : Heap} (x : NdH a h) : ∃ t ep, h.DictAt (noneKind P w) a [((none : Option Key), Value.int 0 t)] ep := by
  obtain ⟨n, od, e, ep, t, h, hx, hd, k1, k2, k3⟩ := x
  obtain ⟨p1, p2⟩ := nd_pairs (P := P) (w := w) k1 k2 k3
  exact ⟨t, ep, od, #[e], h, hx, hd, p1, p2, by simp⟩
section
variable {X : Cx} {pins : List (Addr × Obj)} {σ : L2.St} {H : Hp} {s : Shared} {d : Addr} {o : Obj}
theorem Inv.nd (I : Inv X pins σ H s) (h : H d = some (ndo d)) : NdH d s.heap := (show ObjOk X.prog X.w H s.heap d (ndo d) from I.hok d _ h).1
theorem Inv.frzN (I : Inv X pins σ H s) (h : H d = some (.frz o (ndo d))) :
    (d == sysModules) = false ∧ s.heap.get? d = some o ∧ o.ExactDict ∧ ∃ (es : Array DictEntry) (ep t : Nat), o.data = .dict es ep ∧ es.size = 1 ∧ s.heap.DictAt (noneKind X.prog X.w) d [((none : Option Key), Value.int 0 t)] ep := by
  obtain ⟨e1, e2, _⟩ := (show ObjOk X.prog X.w H s.heap d (.frz o (ndo d)) from I.hok d _ h)
  obtain ⟨n, od, e, ep, t, g, hx, hd, k1, k2, k3⟩ := e2
  rw [e1] at g
  cases g
  obtain ⟨p1, p2⟩ := nd_pairs (P := X.prog) (w := X.w) k1 k2 k3
  exact ⟨n, e1, hx, #[e], ep, t, hd, rfl, o, #[e], e1, hx, hd, p1, p2, by simp⟩
/-- its one key, None -/
def ItN (d : Addr) (o : Obj) : It :=
  ⟨fun i H => H d = some (.frz o (ndo d)) ∧ i < 1, fun i H x H' => H' = H ∧ x = .non ∧ i < 1, fun i H => H d = some (.frz o (ndo d)) ∧ 1 ≤ i⟩
theorem turn_none {P : Program} {w : World} {K : PySem.W.Frag} {tg : Expr} {es : Array DictEntry} {ep : Nat} (it : Addr) (hod : o.data = .dict es ep) : Turn P w K tg (ItN d o) [it] it (fun i h => h.IsKeyIter it d i 1 ep) := by
  refine ⟨by simp, fun i h st b hb => ?_, fun i h h' st k => ?_, ?_, ?_, fun A i s Q E st h => wpAny_pyIter_keyiter st h⟩
  · obtain ⟨oi, e, c, dd⟩ := st
    rw [List.mem_singleton.mp hb]
    exact ⟨oi, e, fun v z => by rw [dd] at z; cases z⟩
  · obtain ⟨oi, e, r⟩ := st
    exact ⟨oi, k it (by simp) oi e, r⟩
  · rintro X rfl rfl rfl hc i pins s σ H E I hf st ⟨hd, hi⟩
    obtain ⟨f0, f1, f2, f3, f4, f5⟩ := hf it (by simp)
    obtain ⟨hs, hgd, hx, es', ep', t, hdt, hsz, hm⟩ := Inv.frzN I hd
    obtain ⟨rfl, rfl⟩ := dict_ep hod hdt
    obtain rfl : i = 0 := by omega
    refine wpAny_pyNext_dict_item (kvs := [((none : Option Key), Value.int 0 t)]) st hm rfl fun key h' hkey st' sb => ?_
    have I1 : Inv X pins σ H { s with heap := h' } := I.turned (t' := s.toks) (fun b ob hb e => (sb.2 b hb).trans e) f0 f1 f3 f4 f5
    obtain ⟨oi, e, c, dd⟩ := id st'
    exact ⟨key, rfl, go_of (s := { s with heap := h' }) e c dd (by decide) ⟨.non, H, I1, nk_none hkey, ⟨rfl, rfl, by decide⟩, st', fun b hb => (hf b hb).1⟩⟩
  · rintro X rfl rfl rfl hc i pins s σ H E I hf st ⟨hd, hi⟩
    obtain ⟨f0, f1, f2, f3, f4, f5⟩ := hf it (by simp)
    obtain ⟨hs, hgd, hx, es', ep', t, hdt, hsz, hm⟩ := Inv.frzN I hd
    obtain ⟨rfl, rfl⟩ := dict_ep hod hdt
    exact next_key_end (I.ok.hd hc) st hgd hdt hsz hi fun h' eb => ⟨rfl, I.turned (t' := s.toks) (fun b ob hb e => eb b ob hb e) f0 f1 f3 f4 f5⟩
/-- for k in d: a dict of texts, or {None: 0} -/
def iKeysN (td : TE) : TI := fun σ H R => td σ H fun x H1 => ∃ d o, x = .ref d ∧ ((∃ kvs, H1 d = some (.frz o (.dK kvs)) ∧ R (Itk d o kvs) H1) ∨ (H1 d = some (.frz o (ndo d)) ∧ R (ItN d o) H1))
theorem pi_keysN {tg e : Expr} {td : TE} (he : PE X e td) : PI X tg e (iKeysN td) := by
  refine ⟨fun pins s σ H R I h => thn (he.run pins s σ H _ I h) fun u s1 ⟨x, H1, I1, rx, d, o, ex, q⟩ => ?_⟩
  subst ex
  cases rx
  have go : ∀ {es : Array DictEntry} {ep n : Nat} {J : It}, (d == sysModules) = false → s1.heap.get? d = some o → o.ExactDict → o.data = .dict es ep → es.size = n → R J H1 →
      (∀ it, Turn X.prog X.w X.K tg J [it] it (fun i h => h.IsKeyIter it d i n ep)) → wpAny (model X.prog X.w) X.A (pyIter (.ref d)) (PIE X pins σ tg R) X.xe s1 := by
    intro es ep n J g1 g2 g3 g4 g5 r T
    subst g5
    exact iter_keys g1 g2 g3 g4 (pi_one (tk := s1.toks) I1 _ (T _) ⟨_, Heap.get?_push_size _ rfl, rfl, rfl⟩ r)
  rcases q with ⟨kvs, hk, q⟩ | ⟨hk, q⟩
  · obtain ⟨g1, g2, g3, _, _, _, g4, g5, _⟩ := I1.frzK hk
    exact go g1 g2 g3 g4 g5 q fun it => turn_keys it g4
  · obtain ⟨g1, g2, g3, _, _, _, g4, g5, _⟩ := Inv.frzN I1 hk
    exact go g1 g2 g3 g4 g5 q fun it => turn_none it g4
/-- type(x), len(x), isinstance(x, c): as ever, or of {None: 0} -/
def rTypN (K : PySem.W.Frag) : List V → Hp → VK → Prop := fun xs H Q => rTyp K xs H Q ∨ ∃ a, xs = [.ref a] ∧ H a = some (ndo a) ∧ Q (.ty "dict") H
theorem call_typN : CallR X (.type "type") (rTypN X.K) := by
  intro pins s σ H xs us Q I r h
  rcases h with h | ⟨a, rfl, ha, q⟩
  · exact call_type1 pins s σ H xs us Q I r h
  · obtain ⟨u, rfl, rx⟩ := vals1 r
    cases rx
    obtain ⟨n, od, e, ep, t, g, hx, _⟩ := Inv.nd I ha
    exact call_type_of (Tx := "dict") ⟨od, g, hx.1⟩ (by decide +kernel) ⟨.ty "dict", H, I, rfl, q⟩
def rLenN (K : PySem.W.Frag) : List V → Hp → VK → Prop := fun xs H Q => ∃ a, xs = [.ref a] ∧ ((∃ kvs, H a = some (.dK kvs) ∧ Q (.int kvs.length) H) ∨ (H a = some (ndo a) ∧ Q (.int 1) H))
theorem call_lenN (hu : X.A.units + 1 < cLine) : CallR X (.builtin "len") (rLenN X.K) := by
  intro pins s σ H xs us Q I r h
  obtain ⟨a, rfl, h⟩ := h
  obtain ⟨u, rfl, rx⟩ := vals1 r
  cases rx
  rcases h with ⟨kvs, ha, q⟩ | ⟨ha, q⟩
  · obtain ⟨z, hd, vs, kv, dd⟩ := dk_of I.hok ha
    have hl : kvs.length = vs.length := Paired.length kv
    exact call_len_dict hd dd (by rw [sizeLine_eq] at z; omega) ⟨.int kvs.length, H, I.tok _, ⟨s.toks + 1, by rw [hl]⟩, q⟩
  · obtain ⟨t, ep, dd⟩ := (Inv.nd I ha).at (P := X.prog) (w := X.w)
    exact call_len_dict (Inv.nd I ha).1 dd.dictOf (by simp) ⟨.int 1, H, I.tok _, ⟨_, rfl⟩, q⟩
def rIsiN (K : PySem.W.Frag) : List V → Hp → VK → Prop := fun xs H Q => rIsi K xs H Q ∨ ∃ (a : Addr) (n : String) (b : Bool), xs = [.ref a, .ty n] ∧ H a = some (ndo a) ∧ PySem.W.kitOne K (.type "dict") (.type n) = some b ∧ Q (.bl b) H
theorem call_isiN : CallR X (.builtin "isinstance") (rIsiN X.K) := by
  intro pins s σ H xs us Q I r h
  rcases h with h | ⟨a, n, b, rfl, ha, e, q⟩
  · exact call_isi pins s σ H xs us Q I r h
  · obtain ⟨u1, u2, rfl, r1, r2⟩ := vals2 r
    cases r1
    cases r2
    obtain ⟨_, od, _, _, _, g, hx, _⟩ := Inv.nd I ha
    exact PySem.W.kia_one PySem.W.kitx_dict I.kIn ⟨od, g, hx.1⟩ e (fun z => nomatch z) fun tk => ⟨.bl b, H, I.tok tk, rfl, q⟩
/-- {None: 0} -/
def tNd (tk tv : TE) : TE := fun σ H Q => tk σ H fun x _ => x = .non ∧ tv σ H fun y _ => y = .int 0 ∧ ∀ p, H p = none → Q (.ref p) (upd H p (ndo p))
theorem NdH.of {P : Program} {w : World} {a : Addr} {h : Heap} {t : Nat} (n : (a == sysModules) = false) (x : h.DictOf (noneKind P w) a [((none : Option Key), Value.int 0 t)]) : NdH a h := by
  obtain ⟨o, es, ep, g, hx, hd, hk, hp, _⟩ := x
  obtain ⟨l⟩ := es
  cases hp with
  | @cons e _ _ _ k1 k2 r =>
    cases r
    obtain ⟨k, c1, c2⟩ := hk e (by simp)
    have e0 := nk_none k1
    refine ⟨n, o, e, ep, t, g, hx, hd, e0, k2, ?_⟩
    rw [e0] at c1
    cases k with
    | none => exact c2
    | some k => exact absurd c1 (keyIs_none k)
theorem pe_nd {k v : Expr} {pos : Pos} (hk : PE X k (tC .non)) (hv : PE X v (tC (.int 0))) : PE X (.Dict [some k] [v] pos) (tNd (tC .non) (tC (.int 0))) := by
  refine ⟨fun pins s σ H Q I q => ?_⟩
  obtain ⟨_, _, q⟩ := q
  have n := I.hok.fresh (Nat.le_refl s.heap.objs.size)
  have I1 := I.laid (a := s.heap.objs.size) (o := .dK []) (h' := s.heap.push { cls := .type "dict", data := .dict #[] }) (t' := s.toks) (fun _ _ z => Heap.get?_push_of_some _ z) (Nat.le_refl _) (dk_empty s.heap I.big)
  refine wpAny_Dict_walk (knd := noneKind X.prog X.w) rfl rfl (by simp) (by simp) ?_
  refine pairTrees_cons_walk (thn (hk.run pins _ σ _ (fun x H1 => x = .non ∧ H1 = upd H s.heap.objs.size (.dK [])) I1 ⟨rfl, rfl⟩) fun u s1 ⟨x, H1, I2, r1, ex, e1⟩ => thn (hv.run pins s1 σ H1 (fun y H2 => y = .int 0 ∧ H2 = H1) I2 ⟨rfl, rfl⟩) fun v2 s2 ⟨y, H2, I3, r2, ey, e2⟩ => pairTrees_nil_walk ?_)
  subst ex ey e1 e2
  cases r1
  obtain ⟨t, rfl⟩ := r2
  obtain ⟨z, hd, vs0, r0, dd⟩ := dk_of I3.hok (upd_same (H := H))
  cases r0
  refine ⟨[(none, .int 0 t)], ⟨rfl, rfl, trivial⟩, ?_, fun h' d2 sb => ?_⟩
  · obtain ⟨o, es, ep, g, hx, hdt, hk', hp, nd⟩ := dd
    cases es with | mk l =>
    cases hp
    exact ⟨o, #[], ep, g, hx, hdt, fun e he => by simp at he, .nil, by simp⟩
  · obtain ⟨o, es, ep, g, _⟩ := id d2
    have I4 := d_write (t' := s2.toks + 1) (ob := ndo s.heap.objs.size) I3 (by rw [upd_same]; exact True.intro) sb ⟨o, g⟩ (NdH.ok (NdH.of hd d2))
    rw [upd_upd] at I4
    exact ⟨.ref s.heap.objs.size, _, I4, rfl, q _ n⟩
end
end Gx

/-! ### repr of a list of things that can be shown, whatever they are: also dicts with whole numbers as keys, {None: 0} -/
namespace Gx
open PySem PySem.Spec PyProof.Rows L2 GxR GenW
/-- v can be shown as the data d -/
def Sq (K : PySem.W.Frag) (H : Hp) (v : V) (d : PyData) : Prop := ∀ (X : Cx) (pins : List (Addr × Obj)) (σ : L2.St) (s : Shared) (u : Value), X.K = K → L2.Inv X pins σ H s → RelV v u → d.showable = true → d.shown.length ≤ sizeLine →
  ∃ as bs, Reads s.heap u d as ∧ ReadAtMost s.heap d.depth bs ∧ ReprK X.prog X.w bs s.heap d.depth u d.shown
theorem Dn.sq {K : PySem.W.Frag} {H : Hp} {v : V} {d : PyData} (h : Dn K H v d) : Sq K H v d := by
  rintro X pins σ s u rfl I r hs hz
  exact h.shows I r hs hz
/-- a dict of the heap, shown -/
theorem dict_sq {κ : Type} [DecidableEq κ] {P : Program} {w : World} {knd : KeyKind P w κ} {enc : κ → PyData} {h : Heap} {a : Addr} {vs : List (κ × Value)} {D : List (PyData × PyData)} {bs0 : List Addr} (lo : (a == sysModules) = false)
    (dd : h.DictOf knd a vs) (hk : ∀ k key, knd.is k key = true → Reads h key (enc k) []) (pr : PyProof.V.PairsRead h enc vs D bs0) (n1 : PyData.hasDictAll (D.map (·.1)) = false) (n2 : PyData.hasDictAll (D.map (·.2)) = false)
    (hs : (PyData.dict D).showable = true) (hz : (PyData.dict D).shown.length ≤ sizeLine) :
    ∃ as bs, Reads h (.ref a) (.dict D) as ∧ ReadAtMost h (PyData.dict D).depth bs ∧ ReprK P w bs h (PyData.dict D).depth (.ref a) (PyData.dict D).shown := by
  obtain ⟨o, es, ep, ho, hx, hdat, _, hp, _⟩ := dd
  obtain ⟨r1, r2⟩ := PyProof.V.readsAll_of_pairs hk hp pr
  have rd : Reads h (.ref a) (.dict D) (a :: ([] ++ bs0)) := Reads.dict ho hx.1 hdat r1 r2
  have ed : (PyData.dict D).depth = PyData.depthKv D + 1 := by rw [PyData.depth]
  have et : (PyData.dict D).shown = dictText (PyData.shownKv D) := by rw [PyData.shown]
  rw [PyData.showable] at hs
  rw [et] at hz
  obtain ⟨s1, s2⟩ := PyData.showableKv_split D hs
  obtain ⟨b1, m1, k1⟩ := ReprAllK.of_readsAll (prog := P) (w := w) r1 s1 (fun q => by rw [n1] at q; cases q) (fun t ht => by
    obtain ⟨q, hq, l⟩ := PyData.shownKv_key_le _ t ht
    exact Nat.le_trans (Nat.le_trans l (dictText_mem_le hq)) hz)
  obtain ⟨b2, m2, k2⟩ := ReprAllK.of_readsAll (prog := P) (w := w) r2 s2 (fun q => by rw [n2] at q; cases q) (fun t ht => by
    obtain ⟨q, hq, l⟩ := PyData.shownKv_val_le _ t ht
    exact Nat.le_trans (Nat.le_trans l (dictText_mem_le hq)) hz)
  have le1 : PyData.depthAll (D.map (·.1)) ≤ PyData.depthKv D := PyData.depthAll_keys_le _
  have le2 : PyData.depthAll (D.map (·.2)) ≤ PyData.depthKv D := PyData.depthAll_vals_le _
  have both : ReadAtMost h (PyData.depthKv D) (b1 ++ b2) := (m1.mono le1).append (m2.mono le2)
  have out : a ∉ b1 ++ b2 := not_mem_of_deeper rd (by omega) both
  refine ⟨_, a :: (b1 ++ b2), rd, ReadAtMost.cons rd (Nat.le_refl _) (both.mono (by rw [ed]; omega)), ?_⟩
  rw [et, ed, PyData.shownKv_eq]
  exact ReprK.dict ho hx.1 hdat lo out (ReprEntriesK.of_two es.toList _ _ (k1.more_le (fun b hb => List.mem_append_left b2 hb) le1) (k2.more_le (fun b hb => List.mem_append_right b1 hb) le2))
def keyD : Key → PyData
  | .inl i => .int i
  | .inr x => .str x
/-- the data of a dict's pairs, f the data of its values -/
def kvsD (f : V → PyData) (kvs : List (Key × V)) : List (PyData × PyData) := kvs.map fun kv => (keyD kv.1, f kv.2)
theorem kvsD_plain {f : V → PyData} : ∀ {kvs : List (Key × V)}, (∀ kv ∈ kvs, (f kv.2).hasDict = false) → PyData.hasDictAll ((kvsD f kvs).map (·.1)) = false ∧ PyData.hasDictAll ((kvsD f kvs).map (·.2)) = false
  | [], _ => ⟨rfl, rfl⟩
  | (k, v) :: r, h => by
    obtain ⟨h1, h2⟩ := kvsD_plain (kvs := r) fun kv hk => h kv (List.mem_cons_of_mem _ hk)
    have h3 := h _ List.mem_cons_self
    refine ⟨?_, ?_⟩
    · show PyData.hasDictAll (keyD k :: (kvsD f r).map (·.1)) = false
      rw [PyData.hasDictAll, h1]
      cases k <;> rfl
    · show PyData.hasDictAll (f v :: (kvsD f r).map (·.2)) = false
      rw [PyData.hasDictAll, h2, h3]
      rfl
theorem kvs_read {X : Cx} {pins : List (Addr × Obj)} {σ : L2.St} {H : Hp} {s : Shared} {f : V → PyData} (I : L2.Inv X pins σ H s) : ∀ {kvs : List (Key × V)} {vs : List (Key × Value)}, (∀ kv ∈ kvs, Dp X.K H kv.2 (f kv.2)) → KV kvs vs →
    ∃ bs, PyProof.V.PairsRead s.heap keyD vs (kvsD f kvs) bs
  | [], _, _, r => by
    cases r
    exact ⟨[], .nil⟩
  | (k, v) :: q, _, h, r => by
    cases r with
    | @cons _ b _ bs r t =>
      obtain ⟨k2, u⟩ := b
      obtain ⟨e, ru⟩ := r
      have e : k = k2 := e
      subst e
      obtain ⟨as, rd⟩ := Dp.reads I _ v u (h _ List.mem_cons_self) ru
      obtain ⟨bs, pb⟩ := kvs_read I (kvs := q) (fun kv hk => h kv (List.mem_cons_of_mem _ hk)) t
      exact ⟨_, .cons rd pb⟩
theorem dk_sq {K : PySem.W.Frag} {H : Hp} {a : Addr} {kvs : List (Key × V)} {f : V → PyData} (e : H a = some (.dK kvs)) (h : ∀ kv ∈ kvs, Dp K H kv.2 (f kv.2) ∧ (f kv.2).hasDict = false) : Sq K H (.ref a) (.dict (kvsD f kvs)) := by
  rintro X pins σ s u rfl I r hs hz
  cases r
  obtain ⟨_, lo, vs, rel, dd⟩ := dk_of I.hok e
  obtain ⟨bs, pr⟩ := kvs_read I (fun kv hk => (h kv hk).1) rel
  obtain ⟨n1, n2⟩ := kvsD_plain fun kv hk => (h kv hk).2
  refine dict_sq lo dd (fun k key hk => ?_) pr n1 n2 hs hz
  rcases keyIs_shape hk with ⟨i, t, rfl, rfl⟩ | ⟨x, t, rfl, rfl⟩
  · exact Reads.int i t
  · exact Reads.str x t
theorem nd_sq {K : PySem.W.Frag} {H : Hp} {a : Addr} (e : H a = some (ndo a)) : Sq K H (.ref a) (.dict [(.none, .int 0)]) := by
  rintro X pins σ s u rfl I r hs hz
  cases r
  have x := Inv.nd I e
  obtain ⟨t, ep, dd⟩ := x.at (P := X.prog) (w := X.w)
  refine dict_sq (knd := noneKind X.prog X.w) (enc := fun k => match k with | none => PyData.none | some k => keyD k) x.1 dd.dictOf (fun k key hk => ?_) (.cons (Reads.int 0 t) .nil) rfl rfl hs hz
  cases k with
  | none =>
    rw [nk_none hk]
    exact Reads.none
  | some k =>
    rcases keyIs_shape (show keyIs k key = true from hk) with ⟨i, t, rfl, rfl⟩ | ⟨x, t, rfl, rfl⟩
    · exact Reads.int i t
    · exact Reads.str x t
theorem sqs_shows {X : Cx} {pins : List (Addr × Obj)} {σ : L2.St} {H : Hp} {s : Shared} (I : L2.Inv X pins σ H s) : ∀ {vs : List V} {us : List Value} {ds : List PyData}, Paired (Sq X.K H) vs ds → Vals vs us → PyData.showableAll ds = true → (∀ t ∈ PyData.shownAll ds, t.length ≤ sizeLine) →
    ∃ as bs, ReadsAll s.heap us ds as ∧ ReadAtMost s.heap (PyData.depthAll ds) bs ∧ ReprAllK X.prog X.w bs s.heap (PyData.depthAll ds) us (PyData.shownAll ds)
  | _, _, _, .nil, r, _, _ => by
    cases r
    exact ⟨[], [], .nil, (fun _ h => nomatch h), by simp only [PyData.shownAll]; exact .nil⟩
  | _, _, _, .cons (b := d) (l₂ := ds) h t, r, hs, hz => by
    cases r with
    | cons r1 r2 =>
      rw [PyData.showableAll, Bool.and_eq_true] at hs
      obtain ⟨as, bs, a1, a2, a3⟩ := h X pins σ s _ rfl I r1 hs.1 (hz _ (by rw [PyData.shownAll]; exact List.mem_cons_self))
      obtain ⟨cs, ds', b1, b2, b3⟩ := sqs_shows I t r2 hs.2 fun t ht => hz t (by rw [PyData.shownAll]; exact List.mem_cons_of_mem _ ht)
      refine ⟨_, bs ++ ds', .cons a1 b1, (a2.mono ?_).append (b2.mono ?_), ?_⟩
      · rw [PyData.depthAll]
        exact Nat.le_max_left _ _
      · rw [PyData.depthAll]
        exact Nat.le_max_right _ _
      · rw [PyData.shownAll, PyData.depthAll]
        exact .cons ((a3.more fun b hb => List.mem_append_left _ hb).level_le (Nat.le_max_left _ _)) (b3.more_le (fun b hb => List.mem_append_right _ hb) (Nat.le_max_right _ _))
def rReprQ (K : PySem.W.Frag) : List V → Hp → VK → Prop := fun xs H Q => ∃ (L : Addr) (v : V) (vs : List V) (ds : List PyData), xs = [.ref L] ∧ H L = some (.lst (v :: vs)) ∧ Paired (Sq K H) (v :: vs) ds ∧ PyData.showableAll ds = true ∧
  PyData.depthAll ds ≤ 60 ∧ (PyData.list ds).shown.length ≤ sizeLine ∧ Q (.str (PyData.list ds).shown) H
theorem cr_reprQ {X : Cx} (g : X.A.guards = some []) (hu : X.A.units + 64 < cLine) : CallR X (.builtin "repr") (rReprQ X.K) := by
  intro pins s σ H xs us Q I r h
  obtain ⟨L, v, vs, ds, rfl, hL, hD, hs, hd, hz, q⟩ := h
  obtain ⟨u, rfl, rx⟩ : ∃ u, us = [u] ∧ RelV (.ref L) u := by
    cases r with
    | cons r1 r2 => cases r2; exact ⟨_, rfl, r1⟩
  cases rx
  obtain ⟨z, its, n, ri, hl, e⟩ := I.lstM hL
  have e0 : (PyData.list ds).shown = listText (PyData.shownAll ds) := by simp only [PyData.shown]
  rw [e0] at hz q
  obtain ⟨as, bs, a1, a2, a3⟩ := sqs_shows I hD ri hs fun t ht => Nat.le_trans (listText_mem_le ht) hz
  have rd : Reads s.heap (.ref L) (.list ds) (L :: as) := Reads.list e rfl rfl (by simpa using a1)
  have hna : L ∉ bs := not_mem_of_deeper rd (by simp only [PyData.depth]; omega) a2
  cases ri with
  | @cons _ y _ ys r1 r2 =>
    refine call_repr_slot (T := "list") (by omega) ⟨_, e, rfl⟩ F.slot_list_repr.toG ?_
    exact call_list_reprK e rfl rfl hna (by simpa using a3.length_eq) (fun i y e => a3.item i y (by simpa using e)) g (fun b _ => Clear.nil b) (by show X.A.units + 1 + (_ + 1) < cLine; omega) (fun _ _ e => e) (fun h' u tk hk => ⟨_, _, rfl, .str _, H, I.kept hk, ⟨_, rfl⟩, q⟩) hz
end Gx

namespace Lw
open PySem PySem.Spec PyProof.Rows L2 GxR Gx
def topS (i : Nat) : Stmt := PySem.Challenge.pw_heardapart_k11_numberings_judged.main.body.getD i (.Pass ⟨0, 0, 0, 0⟩)
abbrev st_is_name : Stmt := topS 7
abbrev N_is_name : List Str := ["thing", "letter"]
theorem sc_is_name : FnScope N_is_name ["thing"] (defScope st_is_name) := ⟨rfl, rfl, rfl, by decide +kernel, rfl, by decide +kernel, by decide +kernel⟩
abbrev st_are_unlike_names : Stmt := topS 8
abbrev N_are_unlike_names : List Str := ["thing", "name"]
theorem sc_are_unlike_names : FnScope N_are_unlike_names ["thing"] (defScope st_are_unlike_names) := ⟨rfl, rfl, rfl, by decide +kernel, rfl, by decide +kernel, by decide +kernel⟩
abbrev st_is_book : Stmt := topS 10
abbrev N_is_book : List Str := ["thing"]
theorem sc_is_book : FnScope N_is_book ["thing"] (defScope st_is_book) := ⟨rfl, rfl, rfl, by decide +kernel, rfl, by decide +kernel, by decide +kernel⟩
abbrev st_is_numbering : Stmt := topS 11
abbrev N_is_numbering : List Str := ["book", "other", "roads", "thing"]
theorem sc_is_numbering : FnScope N_is_numbering ["book", "other", "roads", "thing"] (defScope st_is_numbering) := ⟨rfl, rfl, rfl, by decide +kernel, rfl, by decide +kernel, by decide +kernel⟩
abbrev st_is_whole : Stmt := topS 12
abbrev N_is_whole : List Str := ["thing", "least"]
theorem sc_is_whole : FnScope N_is_whole ["thing", "least"] (defScope st_is_whole) := ⟨rfl, rfl, rfl, by decide +kernel, rfl, by decide +kernel, by decide +kernel⟩
abbrev st_is_spot : Stmt := topS 13
abbrev N_is_spot : List Str := ["thing", "roads"]
theorem sc_is_spot : FnScope N_is_spot ["thing", "roads"] (defScope st_is_spot) := ⟨rfl, rfl, rfl, by decide +kernel, rfl, by decide +kernel, by decide +kernel⟩
abbrev st_check_books : Stmt := topS 14
abbrev N_check_books : List Str := ["book", "other"]
theorem sc_check_books : FnScope N_check_books ["book", "other"] (defScope st_check_books) := ⟨rfl, rfl, rfl, by decide +kernel, rfl, by decide +kernel, by decide +kernel⟩
abbrev st_check_roads : Stmt := topS 15
abbrev N_check_roads : List Str := ["thing"]
theorem sc_check_roads : FnScope N_check_roads ["thing"] (defScope st_check_roads) := ⟨rfl, rfl, rfl, by decide +kernel, rfl, by decide +kernel, by decide +kernel⟩
abbrev st_places_of : Stmt := topS 16
abbrev N_places_of : List Str := ["book", "place", "word"]
theorem sc_places_of : FnScope N_places_of ["book"] (defScope st_places_of) := ⟨rfl, rfl, rfl, by decide +kernel, rfl, by decide +kernel, by decide +kernel⟩
abbrev st_pairs_turned : Stmt := topS 17
abbrev N_pairs_turned : List Str := ["book", "other", "places", "k", "a", "b"]
theorem sc_pairs_turned : FnScope N_pairs_turned ["book", "other"] (defScope st_pairs_turned) := ⟨rfl, rfl, rfl, by decide +kernel, rfl, by decide +kernel, by decide +kernel⟩
abbrev st_numbers_all : Stmt := topS 18
abbrev N_numbers_all : List Str := ["book", "other", "roads", "thing", "word", "a", "b"]
theorem sc_numbers_all : FnScope N_numbers_all ["book", "other", "roads", "thing"] (defScope st_numbers_all) := ⟨rfl, rfl, rfl, by decide +kernel, rfl, by decide +kernel, by decide +kernel⟩
abbrev st_law_pot : Stmt := topS 20
abbrev N_law_pot : List Str := ["script", "k", "cell"]
theorem sc_law_pot : FnScope N_law_pot ["script", "k"] (defScope st_law_pot) := ⟨rfl, rfl, rfl, by decide +kernel, rfl, by decide +kernel, by decide +kernel⟩
abbrev st_law_take : Stmt := topS 21
abbrev N_law_take : List Str := ["pot", "many", "found", "mixed"]
theorem sc_law_take : FnScope N_law_take ["pot", "many"] (defScope st_law_take) := ⟨rfl, rfl, rfl, by decide +kernel, rfl, by decide +kernel, by decide +kernel⟩
abbrev st_law_some : Stmt := topS 22
abbrev N_law_some : List Str := ["pot", "things", "many", "left", "found"]
theorem sc_law_some : FnScope N_law_some ["pot", "things", "many"] (defScope st_law_some) := ⟨rfl, rfl, rfl, by decide +kernel, rfl, by decide +kernel, by decide +kernel⟩
abbrev st_law_names : Stmt := topS 23
abbrev N_law_names : List Str := ["pot", "many", "some"]
theorem sc_law_names : FnScope N_law_names ["pot", "many"] (defScope st_law_names) := ⟨rfl, rfl, rfl, by decide +kernel, rfl, by decide +kernel, by decide +kernel⟩
abbrev st_law_many : Stmt := topS 24
abbrev N_law_many : List Str := ["pot", "many", "letters", "k"]
theorem sc_law_many : FnScope N_law_many ["pot", "many"] (defScope st_law_many) := ⟨rfl, rfl, rfl, by decide +kernel, rfl, by decide +kernel, by decide +kernel⟩
abbrev st_law_other : Stmt := topS 25
abbrev N_law_other : List Str := ["pot", "book", "other", "way", "turn", "at"]
theorem sc_law_other : FnScope N_law_other ["pot", "book"] (defScope st_law_other) := ⟨rfl, rfl, rfl, by decide +kernel, rfl, by decide +kernel, by decide +kernel⟩
abbrev st_law_turned : Stmt := topS 26
abbrev N_law_turned : List Str := ["book", "other", "found", "spot", "a", "b"]
theorem sc_law_turned : FnScope N_law_turned ["book", "other"] (defScope st_law_turned) := ⟨rfl, rfl, rfl, by decide +kernel, rfl, by decide +kernel, by decide +kernel⟩
abbrev st_law_levels : Stmt := topS 27
abbrev N_law_levels : List Str := ["book", "other", "found", "word", "ahead", "a"]
theorem sc_law_levels : FnScope N_law_levels ["book", "other"] (defScope st_law_levels) := ⟨rfl, rfl, rfl, by decide +kernel, rfl, by decide +kernel, by decide +kernel⟩
abbrev st_law_is_count : Stmt := topS 28
abbrev N_law_is_count : List Str := ["thing", "most"]
theorem sc_law_is_count : FnScope N_law_is_count ["thing", "most"] (defScope st_law_is_count) := ⟨rfl, rfl, rfl, by decide +kernel, rfl, by decide +kernel, by decide +kernel⟩
abbrev st_law_due : Stmt := topS 29
abbrev N_law_due : List Str := ["book", "other", "roads", "thing", "word", "a", "b"]
theorem sc_law_due : FnScope N_law_due ["book", "other", "roads", "thing"] (defScope st_law_due) := ⟨rfl, rfl, rfl, by decide +kernel, rfl, by decide +kernel, by decide +kernel⟩
abbrev st_law_numbers : Stmt := topS 30
abbrev N_law_numbers : List Str := ["pot", "book", "other", "roads", "levels", "most", "room", "steps", "level", "found", "word", "turn", "number", "some"]
theorem sc_law_numbers : FnScope N_law_numbers ["pot", "book", "other", "roads"] (defScope st_law_numbers) := ⟨rfl, rfl, rfl, by decide +kernel, rfl, by decide +kernel, by decide +kernel⟩
abbrev st_law : Stmt := topS 31
abbrev N_law : List Str := ["script", "k", "pot", "book", "other", "roads", "odd", "word", "thing", "turn", "kept", "due", "told"]
theorem sc_law : FnScope N_law ["script"] (defScope st_law) := ⟨rfl, rfl, rfl, by decide +kernel, rfl, by decide +kernel, by decide +kernel⟩
/-- names that the top leaves to the built-ins -/
structure Nb (mg : Str → Option Value) : Prop where
  n_all : mg "all" = none
  n_bool : mg "bool" = none
  n_dict : mg "dict" = none
  n_enumerate : mg "enumerate" = none
  n_int : mg "int" = none
  n_isinstance : mg "isinstance" = none
  n_len : mg "len" = none
  n_list : mg "list" = none
  n_max : mg "max" = none
  n_min : mg "min" = none
  n_range : mg "range" = none
  n_repr : mg "repr" = none
  n_set : mg "set" = none
  n_sorted : mg "sorted" = none
  n_str : mg "str" = none
  n_type : mg "type" = none
section
variable {P : Program} {w : World} {K : PySem.W.Frag} {mg : Str → Option Value} {base : Heap}
/-! ### is_name -/
def nameC (c : Nat) : Bool := decide (97 ≤ c) && decide (c ≤ 122)
def isNm (z : Str) : Bool := decide (1 ≤ z.length) && decide (z.length ≤ 8) && z.cps.toList.all nameC
def spIsName (K : PySem.W.Frag) (T : Addr) : Sp := fun vs H Q _ => ∃ x, vs = [x] ∧ TabG H T ∧
  ((∃ z : Str, x = .str z ∧ z.length ≤ sizeLine ∧ ∀ H', Grow [] H H' → Q (.bl (isNm z)) H') ∨ ∃ U, U ≠ "str" ∧ TyB K H x U ∧ Q (.bl false) H)
theorem lt1 (a b : Nat) : decide ([a] < [b]) = decide (a < b) := by
  have h : ([a] < [b]) ↔ a < b := by
    rw [List.cons_lt_cons_iff]
    simp
  exact decide_eq_decide.mpr h
theorem ge_a (c : Nat) : (!decide ([c] < [97])) = decide (97 ≤ c) := by
  rw [lt1]
  by_cases h : 97 ≤ c
  · rw [decide_eq_true h, decide_eq_false (by omega)]; rfl
  · rw [decide_eq_false h, decide_eq_true (by omega)]; rfl
theorem le_z (c : Nat) : (!decide ([122] < [c])) = decide (c ≤ 122) := by
  rw [lt1]
  by_cases h : c ≤ 122
  · rw [decide_eq_true h, decide_eq_false (by omega)]; rfl
  · rw [decide_eq_false h, decide_eq_true (by omega)]; rfl
theorem ok_is_name {f c T : Addr} {fd : FuncData} {tk : Tok} (B : Nb mg) (D : DefIs K "is_name" "is_name" st_is_name f fd (.ref c)) (x_is_name : TabB base mg c T) (k_MOST_LETTERS : mg "MOST_LETTERS" = some (.int 8 tk)) :
    FnG P w K mg base CX0 4 f fd ["thing"] (spIsName K T) := by
  refine D.ok0 (k := 3) sc_is_name (fun vs H Q E h => ?_) (fun A outer s H vs Q E g hr h => ?_)
  · obtain ⟨x, rfl, _⟩ := h
    rfl
  obtain ⟨x, rfl, tT, h⟩ := h
  refine ⟨_,
      (pss_cons (ps_if (PW.pt (pw_or (pt_cmpR (op_notTyB) (pe_callTy call_type1 rfl B.n_type (by decide +kernel) (pa_cons (pv 0) pa_nil)) (pe_bltn (v := .ty "str") rfl B.n_str (by decide +kernel) rfl) (nomark _)) (pw_or1 (pt_not (pt_chain (op_le) (op_le) pe_int (pe_callB call_len_str rfl B.n_len PySem.boot_len (pa_cons (pv 0) pa_nil)) (pe_glob (v := .int 8) rfl k_MOST_LETTERS ⟨_, rfl⟩)))))) (
        (pss_one (ps_ret pe_bl))) pss_nil)
      (pss_one (ps_ret (pe_allG (own := [("letter", 1)]) hr (gx_ok (N := N_is_name) (dsc := defScope st_is_name) x_is_name sc_is_name.nd (by decide +kernel) (by decide +kernel)) rfl B.n_all (by decide +kernel) (pi_str (pv 0)) (fun _ _ _ _ _ => (pg_name (i := 1) sc_is_name.nd rfl (.inl rfl))) (fun _ _ _ _ _ => pe_to (pe_chain (op_le_str) (op_le_str) pe_str (pv 1) pe_str)))))), ?_⟩
  rcases h with ⟨z, rfl, hz, q⟩ | ⟨U, hU, ty, q⟩
  · refine ⟨.str z, rfl, _, "str", rfl, .str z, "str", "str", rfl, rfl, _, rfl, iteNS rfl ⟨.str z, rfl, z, rfl, hz, 1, z.length, rfl, rfl, _, rfl, ?_⟩⟩
    have no : isNm z = false → Q (.bl false) H := fun e => by
      rw [← e]
      exact q H (Grow.refl _ _)
    by_cases h1 : (1 : Int) ≤ z.length
    · rw [if_pos (decide_eq_true h1)]
      refine ⟨z.length, 8, rfl, rfl, _, rfl, ?_⟩
      by_cases h8 : (z.length : Int) ≤ 8
      · rw [decide_eq_true h8]
        refine iteF ⟨.str z, rfl, z, rfl, tT, ?_⟩
        have hall : ∀ b : Bool, b = z.cps.toList.all nameC → ∀ H', Grow [] H H' → Q (.bl b) H' := fun b e H' gr => by
          have e2 : isNm z = b := by
            unfold isNm
            rw [decide_eq_true (by omega : 1 ≤ z.length), decide_eq_true (by omega : z.length ≤ 8), e]
            rfl
          rw [← e2]
          exact q H' gr
        refine truth_text (fun i H' => Grow [] H H' ∧ (z.cps.toList.take i).all nameC = true) (fun H2 t => ⟨grow_tab tT t, rfl⟩) (fun i cc H' hc hp => ?_) fun H' hp => ?_
        · have e1 : (!decide ((⟨#[cc]⟩ : Str).cps.toList < (Str.ofString "a").cps.toList)) = decide (97 ≤ cc) := ge_a cc
          have e2 : (!decide ((Str.ofString "z").cps.toList < (⟨#[cc]⟩ : Str).cps.toList)) = decide (cc ≤ 122) := le_z cc
          have out : nameC cc = false → Q (.bl false) H' := fun e => by
            refine hall false ?_ H' hp.1
            refine (List.all_eq_false.mpr ⟨cc, List.mem_of_getElem? hc, ?_⟩).symm
            rw [e]
            exact Bool.false_ne_true
          refine ⟨rfl, .str ⟨#[cc]⟩, rfl, _, _, rfl, rfl, _, rfl, ?_⟩
          rw [e1]
          by_cases ca : 97 ≤ cc
          · rw [if_pos (decide_eq_true ca)]
            refine ⟨_, _, rfl, rfl, _, rfl, ?_⟩
            rw [e2]
            by_cases cz : cc ≤ 122
            · rw [if_neg (by rw [decide_eq_true cz]; exact fun z => Bool.noConfusion z)]
              refine ⟨hp.1, ?_⟩
              rw [List.take_add_one, hc, List.all_append, hp.2]
              show (true && (nameC cc && true)) = true
              unfold nameC
              rw [decide_eq_true ca, decide_eq_true cz]
              rfl
            · rw [if_pos (decide_eq_false cz)]
              refine out ?_
              unfold nameC
              rw [decide_eq_false cz, Bool.and_false]
          · rw [if_neg (by rw [decide_eq_false ca]; exact Bool.false_ne_true)]
            refine ⟨false, rfl, ?_⟩
            rw [if_pos rfl]
            refine out ?_
            unfold nameC
            rw [decide_eq_false ca, Bool.false_and]
        · refine hall true ?_ H' hp.1
          have := hp.2
          rw [List.take_length] at this
          exact this.symm
      · rw [decide_eq_false h8]
        refine iteT (no ?_)
        unfold isNm
        rw [decide_eq_false (by omega : ¬ z.length ≤ 8), Bool.and_false, Bool.false_and]
    · rw [decide_eq_false h1]
      refine iteF ⟨_, rfl, iteT (no ?_)⟩
      unfold isNm
      rw [decide_eq_false (by omega : ¬ 1 ≤ z.length), Bool.false_and, Bool.false_and]
  · refine ⟨x, rfl, _, U, rfl, ty, U, "str", rfl, rfl, _, rfl, ?_⟩
    rw [decide_eq_false hU]
    exact iteT (iteT q)
end

section
variable {P : Program} {w : World} {K : PySem.W.Frag} {mg : Str → Option Value} {base : Heap}
/-! ### are_unlike_names, is_book -/
def nameV : V → Bool
  | .str z => isNm z
  | _ => false
def bookV (xs : List V) : Bool := xs.all nameV && decide xs.Nodup
theorem nameV_str (x : V) (h : nameV x = true) : ∃ z, x = .str z := by
  cases x with
  | str z => exact ⟨z, rfl⟩
  | _ => cases h
def spUnlike (K : PySem.W.Frag) (T1 T2 : Addr) : Sp := fun vs H Q _ => ∃ x, vs = [x] ∧ TabG H T1 ∧ TabG H T2 ∧
  ((∃ (l : Addr) (xs : List V), x = .ref l ∧ SqL K H l xs ∧ (∀ x ∈ xs, Known K H x) ∧ xs.length ≤ 4000 ∧ ∀ H', Grow [] H H' → Q (.bl (bookV xs)) H') ∨ ∃ U, U ≠ "list" ∧ TyB K H x U ∧ Q (.bl false) H)
theorem ok_are_unlike_names {f c T1 T : Addr} {fd : FuncData} (B : Nb mg) (D : DefIs K "are_unlike_names" "are_unlike_names" st_are_unlike_names f fd (.ref c)) (x_are_unlike_names : TabB base mg c T)
    (c_is_name : Callee P w K mg base CX0 4 "is_name" ["thing"] (spIsName K T1)) : FnG P w K mg base CX0 8 f fd ["thing"] (spUnlike K T1 T) := by
  refine D.ok0 (k := 7) sc_are_unlike_names (fun vs H Q E h => ?_) (fun A outer s H vs Q E g hr h => ?_)
  · obtain ⟨x, rfl, _⟩ := h
    rfl
  obtain ⟨x, rfl, t1, tT, h⟩ := h
  refine ⟨_,
      (pss_cons (ps_if (PW.pt (pw_or (pt_cmpR (op_notTyB) (pe_callTy call_type1 rfl B.n_type (by decide +kernel) (pa_cons (pv 0) pa_nil)) (pe_bltn (v := .ty "list") rfl B.n_list (by decide +kernel) rfl) (nomark _)) (pw_or1 (pt_not (pt_val (pe_allG (own := [("name", 1)]) hr (gx_ok (N := N_are_unlike_names) (dsc := defScope st_are_unlike_names) x_are_unlike_names sc_are_unlike_names.nd (by decide +kernel) (by decide +kernel)) rfl B.n_all (by decide +kernel) (pi_list (pv 0)) (fun _ _ _ _ _ => (pg_name (i := 1) sc_are_unlike_names.nd rfl (.inl rfl))) (fun _ _ _ _ _ => pe_to (pe_g c_is_name g ((room_gx hr).mono (by decide)) pass0 (pa_cons (pv 1) pa_nil))))))))) (
        (pss_one (ps_ret pe_bl))) pss_nil)
      (pss_one (ps_ret (pe_cmpR (op_eq) (pe_lenSetS rfl B.n_len rfl B.n_set hr.hd (pv 0)) (pe_callB call_len_seq rfl B.n_len PySem.boot_len (pa_cons (pv 0) pa_nil)) (nomark _))))), ?_⟩
  rcases h with ⟨l, xs, rfl, hl, hk, hz, q⟩ | ⟨U, hU, ty, q⟩
  · refine ⟨.ref l, rfl, _, "list", rfl, .lst hl, "list", "list", rfl, rfl, _, rfl, iteNS rfl ⟨.ref l, rfl, l, rfl, ⟨xs, hl⟩, tT, ?_⟩⟩
    refine truth_list (xs := xs) (fun i H' => Grow [] H H' ∧ (xs.take i).all nameV = true) (fun H2 t => ⟨grow_tab tT t, rfl⟩) (fun i H' hp => hp.1.seq0 hl) (fun i x H' hx hp => ?_) fun H' hp => ?_
    · refine ⟨rfl, x, rfl, x, rfl, hp.1.tabs _ t1, ?_⟩
      have key : ∀ b, b = nameV x → ∀ H2, Grow [] H' H2 → (b = false → Q (.bl false) H2) ∧ (b = true → Grow [] H H2 ∧ (xs.take (i + 1)).all nameV = true) := fun b e H2 gr => by
        refine ⟨fun hb => ?_, fun hb => ⟨hp.1.trans gr, ?_⟩⟩
        · have eb : bookV xs = false := by
            unfold bookV
            rw [(List.all_eq_false.mpr ⟨x, List.mem_of_getElem? hx, by rw [← e, hb]; exact Bool.false_ne_true⟩ : xs.all nameV = false), Bool.false_and]
          rw [← eb]
          exact q H2 (hp.1.trans gr)
        · rw [List.take_add_one, hx, List.all_append, hp.2]
          show (true && (nameV x && true)) = true
          rw [← e, hb]
          rfl
      rcases (hk x (List.mem_of_getElem? hx)).grow hp.1 with ⟨z, rfl, hz'⟩ | ⟨U, nU, tU⟩
      · refine .inl ⟨z, rfl, hz', fun H2 gr => ?_⟩
        obtain ⟨k1, k2⟩ := key (isNm z) rfl H2 gr
        refine ⟨isNm z, rfl, ?_⟩
        cases hb : isNm z with
        | false =>
          rw [if_pos rfl]
          exact ⟨false, rfl, iteT (k1 hb)⟩
        | true =>
          rw [if_neg (fun z => Bool.noConfusion z)]
          exact k2 hb
      · refine .inr ⟨U, nU, tU, ?_⟩
        have e : nameV x = false := by
          cases hb : nameV x with
          | false => rfl
          | true =>
            obtain ⟨z, rfl⟩ := nameV_str x hb
            cases tU
            exact absurd rfl nU
        refine ⟨false, rfl, ?_⟩
        rw [if_pos rfl]
        exact ⟨false, rfl, iteT ((key false e.symm H' (Grow.refl _ _)).1 rfl)⟩
    · have hall : xs.all nameV = true := by
        have := hp.2
        rwa [List.take_length] at this
      have ex := strs_of nameV_str hall
      refine ⟨true, rfl, iteF ?_⟩
      refine ⟨.ref l, rfl, l, xs.map theStr, rfl, by rw [← ex]; exact hp.1.seq0 hl, by rw [List.length_map]; exact hz, ?_⟩
      refine ⟨.ref l, rfl, l, xs, rfl, .inl (hp.1.seq0 hl), ?_⟩
      have e : decide (V.int ((uq [] (xs.map theStr)).length : Nat) = V.int (xs.length : Nat)) = bookV xs := by
        unfold bookV
        rw [hall, Bool.true_and]
        have e1 : decide (V.int ((uq [] (xs.map theStr)).length : Nat) = V.int (xs.length : Nat)) = decide (((uq [] (xs.map theStr)).length : Int) = ((xs.map theStr).length : Int)) :=
          decide_eq_decide.mpr ⟨fun h => by rw [List.length_map]; exact V.int.inj h, fun h => by rw [List.length_map] at h; rw [h]⟩
        rw [e1, uq_same]
        exact decide_eq_decide.mpr (Iff.trans nodup_str.symm (by rw [← ex]))
      show rEq _ _ _ _
      refine ⟨rfl, ?_⟩
      rw [e]
      exact q H' hp.1
  · refine ⟨x, rfl, _, U, rfl, ty, U, "list", rfl, rfl, _, rfl, ?_⟩
    rw [decide_eq_false hU]
    exact iteT (iteT q)
end

section
variable {K : PySem.W.Frag}
/-! ### books -/
/-- a book -/
structure Bk (zs : List Str) : Prop where
  nm : zs.all isNm = true
  nd : zs.Nodup
  len : zs.length ≤ 200
theorem Bk.perm {zs ws : List Str} (b : Bk zs) (p : zs.Perm ws) : Bk ws :=
  ⟨by rw [List.all_eq_true] at *; exact fun x h => List.all_eq_true.mp b.nm x (p.mem_iff.mpr h), p.nodup_iff.mp b.nd, by rw [← p.length_eq]; exact b.len⟩
theorem Bk.v {zs : List Str} (b : Bk zs) : bookV (zs.map V.str) = true := by
  unfold bookV
  rw [decide_eq_true (nodup_str.mpr b.nd), Bool.and_true, List.all_map]
  exact b.nm
theorem Bk.short {zs : List Str} (b : Bk zs) {z : Str} (h : z ∈ zs) : z.length ≤ 8 := by
  have := List.all_eq_true.mp b.nm z h
  unfold isNm at this
  rw [Bool.and_eq_true, Bool.and_eq_true, decide_eq_true_iff, decide_eq_true_iff] at this
  exact this.1.2
theorem Bk.known {zs : List Str} (b : Bk zs) {H : Hp} : ∀ x ∈ zs.map V.str, Known K H x := fun x h => by
  obtain ⟨z, hz, rfl⟩ := List.mem_map.mp h
  exact .inl ⟨z, rfl, Nat.le_trans (b.short hz) (by decide)⟩
theorem nm_lt {z : Str} (h : isNm z = true) : ∀ c ∈ z.cps.toList, c < 0x110000 := fun c hc => by
  unfold isNm at h
  rw [Bool.and_eq_true] at h
  have := List.all_eq_true.mp h.2 c hc
  unfold nameC at this
  rw [Bool.and_eq_true, decide_eq_true_iff, decide_eq_true_iff] at this
  omega
theorem Bk.fine {zs : List Str} (b : Bk zs) {z : Str} (h : z ∈ zs) : Fine (.str z) 0 8 := .str (nm_lt (List.all_eq_true.mp b.nm z h)) (b.short h)
theorem fine_name {z : Str} (h1 : isNm z = true) : Fine (.str z) 0 8 := by
  refine .str (nm_lt h1) ?_
  unfold isNm at h1
  rw [Bool.and_eq_true, Bool.and_eq_true, decide_eq_true_iff, decide_eq_true_iff] at h1
  exact h1.1.2
theorem fine_names {zs : List Str} (hn : zs.all isNm = true) (hz : zs.length ≤ 200) : Fine (.list (zs.map PyData.str)) 1 1800 := Fine.list (n := 0) (m := 8) (fun d hd => by
  obtain ⟨z, h, rfl⟩ := List.mem_map.mp hd
  have h1 := List.all_eq_true.mp hn z h
  refine .str (nm_lt h1) ?_
  unfold isNm at h1
  rw [Bool.and_eq_true, Bool.and_eq_true, decide_eq_true_iff, decide_eq_true_iff] at h1
  exact h1.1.2) (by rw [List.length_map]; omega)
theorem all_perm {zs ws : List Str} (h : zs.all isNm = true) (p : ws.Perm zs) : ws.all isNm = true := List.all_eq_true.mpr fun x hx => List.all_eq_true.mp h x (p.mem_iff.mp hx)
theorem seqIndex_nat {v : Int} {n : Nat} (h0 : 0 ≤ v) (h : v < n) : seqIndex? v n = some v.toNat := by
  have e : seqIndex? v n = if (decide (0 ≤ (if v < 0 then v + n else v)) && decide ((if v < 0 then v + n else v) < n)) = true then some (if v < 0 then v + n else v).toNat else none := rfl
  rw [e, if_neg (by omega : ¬ v < 0), decide_eq_true h0, decide_eq_true h]
  rfl
end

section
variable {P : Program} {w : World} {K : PySem.W.Frag} {mg : Str → Option Value} {base : Heap}
/-! ### is_book -/
theorem ok_is_book {f c T1 T : Addr} {fd : FuncData} (D : DefIs K "is_book" "is_book" st_is_book f fd (.ref c))
    (c_are_unlike_names : Callee P w K mg base CX0 8 "are_unlike_names" ["thing"] (spUnlike K T1 T)) : FnG P w K mg base CX0 9 f fd ["thing"] (spUnlike K T1 T) := by
  refine D.ok0 (k := 8) sc_is_book (fun vs H Q E h => ?_) (fun A outer s H vs Q E g hr h => ?_)
  · obtain ⟨x, rfl, _⟩ := h
    rfl
  obtain ⟨x, rfl, t1, tT, h⟩ := h
  refine ⟨_,
      (pss_one (ps_ret (pe_g c_are_unlike_names g (hr.mono (by decide)) pass0 (pa_cons (pv 0) pa_nil)))), ?_⟩
  exact ⟨x, rfl, x, rfl, t1, tT, h⟩
end

section
variable {P : Program} {w : World} {K : PySem.W.Frag} {mg : Str → Option Value} {base : Heap}
/-! ### check_books -/
def spCheck (K : PySem.W.Frag) (T1 T : Addr) : Sp := fun vs H Q _ => ∃ (l m : Addr) (zs ws : List Str), vs = [.ref l, .ref m] ∧ TabG H T1 ∧ TabG H T ∧ SqL K H l (zs.map V.str) ∧ SqL K H m (ws.map V.str) ∧ Bk zs ∧ zs.Perm ws ∧ ∀ H', Grow [] H H' → Q V.non H'
theorem ok_check_books {f c T1 T : Addr} {fd : FuncData} (B : Nb mg) (D : DefIs K "check_books" "check_books" st_check_books f fd (.ref c))
    (c_is_book : Callee P w K mg base CX0 9 "is_book" ["thing"] (spUnlike K T1 T)) : FnG P w K mg base CX0 10 f fd ["book", "other"] (spCheck K T1 T) := by
  refine D.ok0 (k := 9) sc_check_books (fun vs H Q E h => ?_) (fun A outer s H vs Q E g hr h => ?_)
  · obtain ⟨l, m, zs, ws, rfl, _⟩ := h
    rfl
  obtain ⟨l, m, zs, ws, rfl, t1, tT, hl, hm, bz, pm, q⟩ := h
  have bw := bz.perm pm
  refine ⟨_,
      (pss_cons (ps_if (pt_not (pt_val (pe_g c_is_book g (hr.mono (by decide)) pass0 (pa_cons (pv 0) pa_nil)))) (
        (pss_one ps_dead)) pss_nil)
      (pss_cons (ps_if (pt_not (pt_val (pe_g c_is_book g (hr.mono (by decide)) pass0 (pa_cons (pv 1) pa_nil)))) (
        (pss_one ps_dead)) pss_nil)
      (pss_one (ps_if (pt_cmpR (op_neD hr.units) (pe_callB (cr_sortG (val := V.str) (enc := PyData.str) hr.units) rfl B.n_sorted (by decide +kernel) (pa_cons (pv 0) pa_nil)) (pe_callB (cr_sortG (val := V.str) (enc := PyData.str) hr.units) rfl B.n_sorted (by decide +kernel) (pa_cons (pv 1) pa_nil)) (nomark _)) (
        (pss_one ps_dead)) pss_nil)))), ?_⟩
  refine ⟨.ref l, rfl, .ref l, rfl, t1, tT, .inl ⟨l, _, rfl, hl, bz.known, by rw [List.length_map]; have := bz.len; omega, fun H1 g1 => ?_⟩⟩
  rw [bz.v]
  refine ⟨true, rfl, iteF ⟨.ref m, rfl, .ref m, rfl, g1.tabs _ t1, g1.tabs _ tT, .inl ⟨m, _, rfl, g1.seq0 hm, bw.known, by rw [List.length_map]; have := bw.len; omega, fun H2 g2 => ?_⟩⟩⟩
  rw [bw.v]
  have gg := g1.trans g2
  have fz : ∀ xs : List Str, Bk xs → Fine (.list (xs.map PyData.str)) 1 1800 := fun xs b => Fine.list (n := 0) (m := 8) (fun d hd => by
    obtain ⟨z, hz, rfl⟩ := List.mem_map.mp hd
    exact b.fine hz) (by rw [List.length_map]; have := b.len; omega)
  refine ⟨true, rfl, iteF ⟨.ref l, rfl, l, zs, rfl, gg.seq0 hl, fun z hz => ⟨.str z, by show 0 ≤ 60; decide⟩, alike_strs zs, sortable_strs zs, by have := bz.len; unfold sizeLine; omega, fun p1 n1 => ?_⟩⟩
  have g3 : Grow [] H (upd H2 p1 (.lst ((zs.mergeSort (PySem.W.dataLe false PyData.str)).map V.str))) := gg.trans (grow_new n1)
  refine ⟨.ref m, rfl, m, ws, rfl, g3.seq0 hm, fun z hz => ⟨.str z, by show 0 ≤ 60; decide⟩, alike_strs ws, sortable_strs ws, by have := bw.len; unfold sizeLine; omega, fun p2 n2 => ?_⟩
  have pz := List.mergeSort_perm zs (PySem.W.dataLe false PyData.str)
  have bs := bz.perm pz.symm
  rw [sort_same pm fun a b => toks_str] at g3 n2 ⊢
  have e1 : upd (upd H2 p1 (.lst ((ws.mergeSort (PySem.W.dataLe false PyData.str)).map V.str))) p2 (.lst ((ws.mergeSort (PySem.W.dataLe false PyData.str)).map V.str)) p1 = some (.lst ((ws.mergeSort (PySem.W.dataLe false PyData.str)).map V.str)) := by
    rw [upd_ne (ne_of_none upd_same n2)]
    exact upd_same
  have bq := bw.perm (List.mergeSort_perm ws (PySem.W.dataLe false PyData.str)).symm
  have f := fz _ bq
  refine ⟨_, _, dp_book (.inl (.inl e1)), dp_book (.inl (.inl upd_same)), f.shaped (by decide), f.shaped (by decide), ?_⟩
  rw [f.eqv]
  exact ⟨false, rfl, iteF (q _ (g3.trans (grow_new n2)))⟩
end

section
variable {P : Program} {w : World} {K : PySem.W.Frag} {mg : Str → Option Value} {base : Heap}
/-! ### places_of -/
def spPlaces (K : PySem.W.Frag) : Sp := fun vs H Q _ => ∃ (l : Addr) (zs : List Str), vs = [.ref l] ∧ SqL K H l (zs.map V.str) ∧ zs.Nodup ∧ zs.length ≤ 200 ∧
  ∀ D H' kvs, Fresh H D → Grow [] H H' → H' D = some (.dK kvs) → (∀ z ∈ zs, valV kvs (.inr z) = some (.int (zs.idxOf z : Nat))) → kvs.map Prod.fst = zs.map Sum.inr → Q (.ref D) H'
theorem ok_places_of {f c : Addr} {fd : FuncData} (B : Nb mg) (D : DefIs K "places_of" "places_of" st_places_of f fd (.ref c)) : FnG P w K mg base CX0 4 f fd ["book"] (spPlaces K) := by
  refine D.ok0 (k := 3) sc_places_of (fun vs H Q E h => ?_) (fun A outer s H vs Q E g hr h => ?_)
  · obtain ⟨l, zs, rfl, _⟩ := h
    rfl
  obtain ⟨l, zs, rfl, hl, nd, len, q⟩ := h
  refine ⟨_,
      (pss_one (ps_ret (pe_dc (own := [("place", 1), ("word", 2)]) (g := (gTup _ 2 (gCons (gName 1) (gCons (gName 2) gNil)))) (tt := tYes) rfl sc_places_of.nd (pi_enum rfl B.n_enumerate (pa_cons (pv 0) pa_nil)) (blkOk_by (N := N_places_of) (sc := defScope st_places_of) (by decide +kernel)) (fun _ _ _ _ _ => (pg_tup rfl (pgs_cons (pg_name (i := 1) sc_places_of.nd rfl (.inl rfl)) (pgs_cons (pg_name (i := 2) sc_places_of.nd rfl (.inl rfl)) pgs_nil)))) (fun _ _ _ _ _ => pts_nil) (fun _ _ _ _ _ => pe_to (pv 2)) (fun _ _ _ _ _ => pe_to (pv 1))))), ?_⟩
  refine ⟨.ref l, rfl, l, _, rfl, hl, fun D n => ?_⟩
  refine dc_it walk_enum (fun i H' => Grow [] H H' ∧ ∃ kvs, H' D = some (.dK kvs) ∧ kvs.length ≤ i ∧ kvs.map Prod.fst = (zs.take i).map Sum.inr ∧ ∀ (j : Nat) (z : Str), j < i → zs[j]? = some z → valV kvs (.inr z) = some (.int j)) ?_ (fun i H' _ h => h.1.seq0 hl) (fun i x H1 H2 hi hp hy => ?_) (fun H' hp => ?_)
  · exact ⟨grow_new n, [], upd_same, Nat.le_refl _, rfl, fun j z hj => absurd hj (Nat.not_lt_zero _)⟩
  · obtain ⟨gr, kvs, e, el, ek, hk⟩ := hp
    obtain ⟨T, x1, x2, rfl, nT, rfl, ei, ex⟩ := hy
    replace ex : (zs.map V.str)[i]? = some x2 := ex
    rw [List.getElem?_map] at ex
    cases ez : zs[i]? with
    | none => rw [ez] at ex; cases ex
    | some z =>
      rw [ez] at ex
      cases ex
      cases ei
      have gr2 : Grow [] H (upd H1 T (.tup [.int (i : Nat), .str z])) := gr.new nT
      have eD : upd H1 T (.tup [.int (i : Nat), .str z]) D = some (.dK kvs) := by rw [upd_ne (ne_of_none e nT)]; exact e
      refine ⟨T, _, rfl, .inl (.inl upd_same), rfl, _, _, rfl, _, _, rfl, rfl, rfl, ?_⟩
      refine ⟨.str z, rfl, .int i, rfl, kvs, .inr z, rfl, eD, by unfold sizeLine; rw [List.length_map] at hi; omega, gr2.put (fresh_none n) eD (fun ps z => by cases z), _, upd_same, ?_, ?_, fun j y hj hy => ?_⟩
      · have := put_len kvs (.inr z) (.int (i : Nat))
        omega
      · have nw : valV kvs (.inr z) = none := valV_none (by
          rw [ek]
          intro h
          obtain ⟨y, hy, e2⟩ := List.mem_map.mp h
          cases e2
          obtain ⟨j, hj⟩ := List.mem_iff_getElem?.mp hy
          rw [List.getElem?_take] at hj
          by_cases hji : j < i
          · rw [if_pos hji] at hj
            have := (List.getElem?_inj (List.getElem?_eq_some_iff.mp hj).1 nd).mp (hj.trans ez.symm)
            omega
          · rw [if_neg hji] at hj
            cases hj)
        rw [putK_new _ nw, List.map_append, ek, List.take_add_one, ez, List.map_append]
        rfl
      · rw [valV_put]
        by_cases hji : j = i
        · subst hji
          rw [ez] at hy
          cases hy
          rw [if_pos rfl]
        · have : y ≠ z := fun e2 => by
            subst e2
            exact hji ((List.getElem?_inj (List.getElem?_eq_some_iff.mp hy).1 nd).mp (hy.trans ez.symm))
          rw [if_neg (fun e2 => this (Sum.inr.inj e2))]
          exact hk j y (by omega) hy
  · obtain ⟨gr, kvs, e, el, ek, hk⟩ := hp
    refine q D H' kvs (fresh_none n) gr e (fun z hz => ?_) (by rw [ek, List.length_map, List.take_length])
    have h1 := List.idxOf_lt_length_of_mem hz
    exact hk _ z (by rw [List.length_map]; exact h1) (by rw [List.getElem?_eq_getElem h1, List.getElem_idxOf h1])
end

/-! ### pairs that stand otherwise -/
/-- the pairs whose first stands at k -/
def prsAt (lt : Str → Str → Bool) (zs : List Str) (a : Str) (k : Nat) : List (Str × Str) := ((zs.drop (k + 1)).filter (lt a)).map fun b => (a, b)
def prsTo (lt : Str → Str → Bool) (zs : List Str) : Nat → List (Str × Str)
  | 0 => []
  | k + 1 => prsTo lt zs k ++ prsAt lt zs (zs.getD k Str.empty) k
def later (ws : List Str) (a b : Str) : Bool := decide (ws.idxOf b < ws.idxOf a)
theorem prsAt_len (lt : Str → Str → Bool) (zs : List Str) (a : Str) (k : Nat) : (prsAt lt zs a k).length ≤ zs.length := by
  unfold prsAt
  rw [List.length_map]
  have h1 := List.length_filter_le (lt a) (zs.drop (k + 1))
  rw [List.length_drop] at h1
  omega
theorem prsTo_len (lt : Str → Str → Bool) (zs : List Str) : ∀ k, (prsTo lt zs k).length ≤ k * zs.length
  | 0 => Nat.zero_le _
  | k + 1 => by
    have h1 := prsTo_len lt zs k
    have h2 := prsAt_len lt zs (zs.getD k Str.empty) k
    rw [prsTo, List.length_append, Nat.succ_mul]
    omega

section
variable {P : Program} {w : World} {K : PySem.W.Frag} {mg : Str → Option Value} {base : Heap}
/-! ### pairs that stand otherwise -/
def spPairs (K : PySem.W.Frag) : Sp := fun vs H Q _ => ∃ (l m : Addr) (zs ws : List Str), vs = [.ref l, .ref m] ∧ SqL K H l (zs.map V.str) ∧ SqL K H m (ws.map V.str) ∧ Bk zs ∧ zs.Perm ws ∧
  ∀ D H', Fresh H D → Grow [] H H' → LstT K H' D ((prsTo (later ws) zs zs.length).map encP) → Q (.ref D) H'
theorem ok_pairs_turned {f c : Addr} {fd : FuncData} (B : Nb mg) (D : DefIs K "pairs_turned" "pairs_turned" st_pairs_turned f fd (.ref c))
    (c_places_of : Callee P w K mg base CX0 4 "places_of" ["book"] (spPlaces K)) : FnG P w K mg base CX0 5 f fd ["book", "other"] (spPairs K) := by
  refine D.ok0 (k := 4) sc_pairs_turned (fun vs H Q E h => ?_) (fun A outer s H vs Q E g hr h => ?_)
  · obtain ⟨l, m, zs, ws, rfl, _⟩ := h
    rfl
  obtain ⟨l, m, zs, ws, rfl, hl, hm, bz, pm, q⟩ := h
  have bw := bz.perm pm
  refine ⟨_,
      (pss_cons (ps_set (i := 2) sc_pairs_turned.nd rfl (.inr rfl) (pe_g c_places_of g (hr.mono (by decide)) pass0 (pa_cons (pv 1) pa_nil)))
      (pss_one (ps_ret (pe_lc2 (own := [("k", 3), ("a", 4), ("b", 5)]) (vs1 := [5]) (g := (gTup _ 2 (gCons (gName 3) (gCons (gName 4) gNil)))) (g1 := (gName 5)) (tt := tYes) rfl sc_pairs_turned.nd (pi_enum rfl B.n_enumerate (pa_cons (pv 0) pa_nil)) (blkOk_by (N := N_pairs_turned) (sc := defScope st_pairs_turned) (by decide +kernel)) (by decide) (fun _ _ _ _ _ => (pg_tup rfl (pgs_cons (pg_name (i := 3) sc_pairs_turned.nd rfl (.inl rfl)) (pgs_cons (pg_name (i := 4) sc_pairs_turned.nd rfl (.inl rfl)) pgs_nil)))) (fun _ _ _ _ _ => pts_nil) (fun _ _ _ _ _ => pi_to (pi_list (pe_slice sl_list (pv 0) (po_some (pe_op op_add (pv 3) pe_int)) po_none))) (fun _ _ _ _ _ => (pg_name (i := 5) sc_pairs_turned.nd rfl (.inl rfl))) (fun _ _ _ _ _ => pts_to (pts_one (pt_cmpR (op_gt) (pe_dget (hu_of hr) (pv 2) (pv 4) (fun _ _ => rfl)) (pe_dget (hu_of hr) (pv 2) (pv 5) (fun _ _ => rfl)) (nomark _)))) (fun _ _ _ _ _ => pe_to (pe_tup (pa_cons (pv 4) (pa_cons (pv 5) pa_nil)))))))), ?_⟩
  refine ⟨.ref m, rfl, m, ws, rfl, hm, bw.nd, bw.len, fun P0 H1 kvs nP g1 eP hP _ => ?_⟩
  refine ⟨.ref l, rfl, l, _, rfl, g1.seq0 hl, fun D n => ?_⟩
  refine lc2_it walk_enum (fun i H' => Grow [] H1 H' ∧ LstT K H' D ((prsTo (later ws) zs i).map encP)) ?_ (fun i H' _ h => h.1.seq0 (g1.seq0 hl)) (fun i x H2 H3 hi hp hy => ?_) (fun H' hp => ?_)
  · exact ⟨grow_new n, [], upd_same, .nil⟩
  · obtain ⟨gr, hD⟩ := hp
    obtain ⟨T, x1, x2, rfl, nT, rfl, ei, ex⟩ := hy
    replace ex : (zs.map V.str)[i]? = some x2 := ex
    rw [List.getElem?_map] at ex
    cases ez : zs[i]? with
    | none => rw [ez] at ex; cases ex
    | some a =>
      rw [ez] at ex
      cases ex
      cases ei
      refine ⟨T, _, rfl, .inl (.inl upd_same), rfl, _, _, rfl, _, _, rfl, rfl, rfl, ?_⟩
      have gr2 : Grow [] H1 (upd H2 T (.tup [.int (i : Nat), .str a])) := gr.new nT
      have hD2 : LstT K (upd H2 T (.tup [.int (i : Nat), .str a])) D ((prsTo (later ws) zs i).map encP) := hD.grow (grow_new nT) (lists_none _) (by simp)
      refine yes_if ⟨.ref l, rfl, .int i, rfl, _, _, rfl, rfl, _, rfl, l, _, rfl, gr2.seq0 (g1.seq0 hl), fun L nL => ⟨L, rfl, ⟨_, .inl (.inl upd_same)⟩, ?_⟩⟩
      have ec : cutV (zs.map V.str) (some ((i : Int) + 1)) none = (zs.drop (i + 1)).map V.str := by
        rw [cut_from, List.map_drop]
      rw [ec]
      have gr3 : Grow [] H1 (upd (upd H2 T (.tup [.int (i : Nat), .str a])) L (.lst ((zs.drop (i + 1)).map V.str))) := gr2.new nL
      refine in1_it (walk_list (xs := (zs.drop (i + 1)).map V.str)) (fun j H' => Grow [] H1 H' ∧ H' L = some (.lst ((zs.drop (i + 1)).map V.str)) ∧ LstT K H' D ((prsTo (later ws) zs i ++ (((zs.drop (i + 1)).take j).filter (later ws a)).map fun b => (a, b)).map encP)) ?_ (fun j H' _ h => .inl (.inl h.2.1)) (fun j x H4 H5 hj hp hy => ?_) (fun H' hp => ?_)
      · refine ⟨gr3, upd_same, ?_⟩
        rw [List.take_zero, List.filter_nil, List.map_nil, List.append_nil]
        exact hD2.grow (grow_new nL) (lists_none _) (by simp)
      · obtain ⟨gj, eL, hDj⟩ := hp
        obtain ⟨rfl, ex⟩ := hy
        rw [List.getElem?_map] at ex
        cases eb : (zs.drop (i + 1))[j]? with
        | none => rw [eb] at ex; cases ex
        | some b =>
          rw [eb] at ex
          cases ex
          have hb : b ∈ zs := List.mem_of_mem_drop (List.mem_of_getElem? eb)
          have ha : a ∈ zs := List.mem_of_getElem? ez
          refine ⟨rfl, ?_⟩
          have hDL : D ≠ L := by
            obtain ⟨_, e0, _⟩ := hD2
            exact ne_of_none e0 nL
          have eP5 := gj.keep P0 _ (by simp) eP fun ps z => by cases z
          have dg : ∀ z ∈ zs, DGet H5 P0 (.str z) (some (.int (ws.idxOf z : Nat))) := fun z hz => by
            rw [← hP z (pm.mem_iff.mp hz)]
            exact DGet.k (k := .inr z) eP5
          have ta : (zs.drop (i + 1)).take (j + 1) = (zs.drop (i + 1)).take j ++ [b] := by
            rw [List.take_add_one, eb]
            rfl
          refine ⟨.ref P0, rfl, .str a, rfl, P0, _, rfl, dg a ha, .ref P0, rfl, .str b, rfl, P0, _, rfl, dg b hb, _, _, rfl, rfl, _, rfl, ?_⟩
          rw [ta]
          by_cases hlt : ((ws.idxOf b : Nat) : Int) < (ws.idxOf a : Nat)
          · have lt : later ws a b = true := decide_eq_true (by omega)
            rw [decide_eq_true hlt]
            simp only [if_true]
            rw [show (prsTo (later ws) zs i ++ (((zs.drop (i + 1)).take j ++ [b]).filter (later ws a)).map fun b => (a, b)).map encP = (prsTo (later ws) zs i ++ (((zs.drop (i + 1)).take j).filter (later ws a)).map fun b => (a, b)).map encP ++ [encP (a, b)] by simp [List.filter_append, lt]]
            refine ⟨_, rfl, _, rfl, by show 2 ≤ sizeLine; decide, fun p np => ?_⟩
            have e5 : upd H5 p (.tup [.str a, .str b]) p = some (.tup [.str a, .str b]) := upd_same
            obtain ⟨acc, q1, q2, q3⟩ := hDj.push (grow_new np) (.tup e5 (.cons (dpT_str a) (.cons (dpT_str b) .nil)))
            refine ⟨acc, q1, ?_, (gj.new np).put (fresh_none n) q1 (fun ps z => by cases z), ?_, q3⟩
            · rw [q2, List.length_map, List.length_append, List.length_map]
              have h1 := prsTo_len (later ws) zs i
              have h2 := List.length_filter_le (later ws a) ((zs.drop (i + 1)).take j)
              have h3 : ((zs.drop (i + 1)).take j).length ≤ zs.length := by
                rw [List.length_take, List.length_drop]
                omega
              have h4 := bz.len
              have h5 : i * zs.length ≤ 200 * 200 := Nat.mul_le_mul (by rw [List.length_map] at hi; omega) h4
              unfold sizeLine
              omega
            · rw [upd_ne hDL.symm, upd_ne (ne_of_none eL np)]
              exact eL
          · have lt : ¬ later ws a b = true := fun z => hlt (by have := of_decide_eq_true z; omega)
            rw [decide_eq_false hlt]
            simp only [Bool.false_eq_true, if_false]
            rw [show ((zs.drop (i + 1)).take j ++ [b]).filter (later ws a) = ((zs.drop (i + 1)).take j).filter (later ws a) by simp [List.filter_append, lt]]
            exact ⟨gj, eL, hDj⟩
      · refine ⟨hp.1, ?_⟩
        have := hp.2.2
        rw [List.length_map, List.take_length] at this
        have e : zs.getD i Str.empty = a := by
          rw [List.getD_eq_getElem?_getD, ez]
          rfl
        rw [prsTo, e]
        exact this
  · obtain ⟨gr, hD⟩ := hp
    rw [List.length_map] at hD
    exact q D H' (g1.fresh0 n) (g1.trans gr) hD
end

section
variable {P : Program} {w : World} {K : PySem.W.Frag} {mg : Str → Option Value} {base : Heap}
/-! ### the drawing: _law_pot, _law_take -/
/-- what is drawn from: a number used up first, then a mixed one; no more than c turns of it -/
def Pot (H : Hp) (p : Addr) (c : Int) : Prop := ∃ a b k : Int, H p = some (.lst [.int a, .int b, .int k]) ∧ 0 ≤ b ∧ b < 2 ^ 90 ∧ 0 ≤ k ∧ k ≤ c
theorem Pot.mono {H : Hp} {p : Addr} {c c' : Int} (h : Pot H p c) (l : c ≤ c') : Pot H p c' := by
  obtain ⟨a, b, k, e, b1, b2, b3, b4⟩ := h
  exact ⟨a, b, k, e, b1, b2, b3, by omega⟩
theorem Pot.new {H : Hp} {p q : Addr} {o : HO} {c : Int} (h : Pot H p c) (n : H q = none) : Pot (upd H q o) p c := by
  obtain ⟨a, b, k, e, r⟩ := h
  exact ⟨a, b, k, by rw [upd_ne (ne_of_none e n)]; exact e, r⟩
theorem Pot.at {H : Hp} {p q : Addr} {o : HO} {c : Int} (h : Pot H p c) (n : p ≠ q) : Pot (upd H q o) p c := by
  obtain ⟨a, b, k, e, r⟩ := h
  exact ⟨a, b, k, by rw [upd_ne n]; exact e, r⟩
theorem Fresh.back {H H2 : Hp} {D p : Addr} {c : Int} (fr : Fresh H2 D) (g : Grow [p] H H2) (h : Pot H2 p c) : Fresh H D := by
  obtain ⟨a, b, k, e, _⟩ := h
  have n := fr.ne e (fun ps z => by cases z)
  exact g.fresh (by simpa using n.symm) fr
def spPot (K : PySem.W.Frag) : Sp := fun vs H Q _ => ∃ (s : Addr) (ns : List Int) (k : Nat), vs = [.ref s, .int k] ∧ SqL K H s (ns.map V.int) ∧ k ≤ 12 ∧ ∀ p H', Fresh H p → Grow [] H H' → Pot H' p 0 → Q (.ref p) H'
theorem ok_law_pot {f c : Addr} {fd : FuncData} (B : Nb mg) (D : DefIs K "_law_pot" "_law_pot" st_law_pot f fd (.ref c)) : FnG P w K mg base CX0 3 f fd ["script", "k"] (spPot K) := by
  refine D.ok0 (k := 2) sc_law_pot (fun vs H Q E h => ?_) (fun A outer s H vs Q E g hr h => ?_)
  · obtain ⟨s, ns, k, rfl, _⟩ := h
    rfl
  obtain ⟨l, ns, k, rfl, hl, hk, q⟩ := h
  refine ⟨_,
      (pss_cons (ps_set (i := 2) sc_law_pot.nd rfl (.inl rfl) pe_int)
      (pss_cons (ps_if (pt_cmpR (op_lt) (pv 1) (pe_callB call_len_seq rfl B.n_len PySem.boot_len (pa_cons (pv 0) pa_nil)) (nomark _)) (
        (pss_one (ps_set (i := 2) sc_law_pot.nd rfl (.inl rfl) (pe_ix ix_list (pv 0) (pv 1) (fun _ _ => rfl))))) pss_nil)
      (pss_one (ps_ret (pe_lst (pa_cons (pe_callB (call_max2 rfl) rfl B.n_max (by decide +kernel) (pa_cons pe_int (pa_cons (pe_op op_sub (pv 2) (pe_op op_powX pe_int pe_int)) pa_nil))) (pa_cons (pe_op op_add (pe_op op_mod (pv 2) pe_int) (pe_op op_mulX pe_int (pv 1))) (pa_cons pe_int pa_nil)))))))), ?_⟩
  have fq : ∀ (cell : Int) p, H p = none → Q (.ref p) (upd H p (.lst [.int (if cell - 10 ^ (18 : Int).toNat > 0 then cell - 10 ^ (18 : Int).toNat else 0), .int (cell % 618970019642690137449562111 + 7368787 * (k : Int)), .int 0])) := fun cell p np =>
    q p _ (fresh_none np) (grow_new np) ⟨_, _, _, upd_same, by
      have := Int.emod_nonneg cell (b := 618970019642690137449562111) (by decide)
      omega, by
      have := Int.emod_lt_of_pos cell (b := 618970019642690137449562111) (by decide)
      omega, Int.le_refl _, Int.le_refl _⟩
  have cp : CPowX 10 18 := ⟨by decide, by decide⟩
  have cm : CMulX 7368787 (k : Int) := by
    have h1 : Builtin.Int.intBits (k : Int) ≤ 4 := bits_le (by decide) (by omega)
    have h2 : Builtin.Int.intBits 7368787 ≤ 23 := bits_le (by decide) (by decide)
    unfold CMulX
    omega
  refine ⟨.int k, rfl, .ref l, rfl, l, _, rfl, .inl hl, _, _, rfl, rfl, _, rfl, ?_⟩
  by_cases hlt : (k : Int) < ((ns.map V.int).length : Nat)
  · rw [decide_eq_true hlt]
    have hi : k < ns.length := by rw [List.length_map] at hlt; omega
    refine iteT ⟨.ref l, rfl, .int k, rfl, l, _, _, .int (ns[k]), rfl, rfl, hl, ?_, ?_⟩
    · exact atI_nat (by rw [List.getElem?_map, List.getElem?_eq_getElem hi]; rfl)
    · exact ⟨.int (ns[k]), rfl, 10, 18, rfl, rfl, cp, _, _, rfl, rfl, _, _, rfl, .int (ns[k]), rfl, _, _, rfl, rfl, (by decide : (0 : Int) < 618970019642690137449562111), .int k, rfl, _, _, rfl, rfl, cm, _, _, rfl, rfl, by show 3 ≤ sizeLine; decide, fq _⟩
  · rw [decide_eq_false hlt]
    exact iteF ⟨.int 0, rfl, 10, 18, rfl, rfl, cp, _, _, rfl, rfl, _, _, rfl, .int 0, rfl, _, _, rfl, rfl, (by decide : (0 : Int) < 618970019642690137449562111), .int k, rfl, _, _, rfl, rfl, cm, _, _, rfl, rfl, by show 3 ≤ sizeLine; decide, fq _⟩
def spTake (K : PySem.W.Frag) : Sp := fun vs H Q _ => ∃ (p : Addr) (m c : Int), vs = [.ref p, .int m] ∧ 1 ≤ m ∧ m < 2 ^ 30 ∧ c ≤ 2 ^ 30 ∧ Pot H p c ∧ ∀ v H', 0 ≤ v → v < m → Grow [p] H H' → Pot H' p (c + 1) → Q (.int v) H'
theorem ok_law_take {f c : Addr} {fd : FuncData} (B : Nb mg) (D : DefIs K "_law_take" "_law_take" st_law_take f fd (.ref c)) : FnG P w K mg base CX0 3 f fd ["pot", "many"] (spTake K) := by
  refine D.ok0 (k := 2) sc_law_take (fun vs H Q E h => ?_) (fun A outer s H vs Q E g hr h => ?_)
  · obtain ⟨p, m, c, rfl, _⟩ := h
    rfl
  obtain ⟨p, m, c, rfl, m1, m2, c1, ⟨a, b, k, e, b1, b2, k1, k2⟩, q⟩ := h
  refine ⟨_,
      (pss_cons (ps_if (pt_cmpR (op_gt) (pe_ix ix_list (pv 0) pe_int (fun _ _ => rfl)) pe_int (nomark _)) (
        (pss_cons (ps_set (i := 2) sc_law_take.nd rfl (.inl rfl) (pe_op op_mod (pe_ix ix_list (pv 0) pe_int (fun _ _ => rfl)) (pv 1)))
        (pss_cons (ps_asg (pe_op op_fdiv (pe_ix ix_list (pv 0) pe_int (fun _ _ => rfl)) (pv 1)) (pg_sub (pv 0) pe_int set_list))
        (pss_one (ps_ret (pv 2)))))) pss_nil)
      (pss_cons (ps_asg (pe_op op_add (pe_ix ix_list (pv 0) pe_int (fun _ _ => rfl)) pe_int) (pg_sub (pv 0) pe_int set_list))
      (pss_cons (ps_set (i := 3) sc_law_take.nd rfl (.inl rfl) (pe_op op_mod (pe_op op_powX (pe_op op_add (pe_ix ix_list (pv 0) pe_int (fun _ _ => rfl)) (pe_op op_mulX pe_int (pe_ix ix_list (pv 0) pe_int (fun _ _ => rfl)))) pe_int) pe_int))
      (pss_cons (ps_set (i := 3) sc_law_take.nd rfl (.inl rfl) (pe_op op_mod (pe_op op_powX (pe_op op_add (pv 3) (pe_op op_mulX pe_int (pe_ix ix_list (pv 0) pe_int (fun _ _ => rfl)))) pe_int) pe_int))
      (pss_one (ps_ret (pe_op op_mod (pe_op op_fdiv (pv 3) pe_int) (pv 1)))))))), ?_⟩
  have sq : ∀ {H' : Hp} {x y z : Int}, H' p = some (.lst [.int x, .int y, .int z]) → SqL K H' p [.int x, .int y, .int z] := fun h => .inl (.inl h)
  refine ⟨.ref p, rfl, p, _, 0, .int a, rfl, rfl, sq e, rfl, _, _, rfl, rfl, _, rfl, ?_⟩
  by_cases ha : 0 < a
  · rw [decide_eq_true ha]
    refine iteT ⟨.ref p, rfl, p, _, 0, .int a, rfl, rfl, sq e, rfl, .int m, rfl, _, _, rfl, rfl, m1, .ref p, rfl, p, _, 0, .int a, rfl, rfl, sq e, rfl, .int m, rfl, _, _, rfl, rfl, ⟨m1, m2⟩, .ref p, rfl, p, _, 0, 0, rfl, rfl, e, rfl, .int (a % m), rfl, ?_⟩
    exact q _ _ (Int.emod_nonneg _ (by omega)) (Int.emod_lt_of_pos _ m1) (grow_at e (fun ps z => by cases z) (by simp)) ⟨_, _, _, upd_same, b1, b2, k1, by omega⟩
  · rw [decide_eq_false ha]
    refine iteF ⟨.ref p, rfl, p, _, 2, .int k, rfl, rfl, sq e, rfl, _, _, rfl, rfl, .ref p, rfl, p, _, 2, 2, rfl, rfl, e, rfl, ?_⟩
    have e2 : upd H p (.lst [.int a, .int b, .int (k + 1)]) p = some (.lst [.int a, .int b, .int (k + 1)]) := upd_same
    have fin : ∀ x : Int, Q (.int (x / 1048576 % m)) (upd H p (.lst [.int a, .int b, .int (k + 1)])) := fun x =>
      q _ _ (Int.emod_nonneg _ (by omega)) (Int.emod_lt_of_pos _ m1) (grow_at e (fun ps z => by cases z) (by simp)) ⟨_, _, _, e2, b1, b2, by omega, by omega⟩
    have bk : Builtin.Int.intBits (k + 1) ≤ 31 := bits_le (by decide) (by omega)
    have cm1 : CMulX 15485863 (k + 1) := by
      have : Builtin.Int.intBits 15485863 ≤ 24 := bits_le (by decide) (by decide)
      unfold CMulX
      omega
    have cm2 : CMulX 32452843 (k + 1) := by
      have : Builtin.Int.intBits 32452843 ≤ 25 := bits_le (by decide) (by decide)
      unfold CMulX
      omega
    have cp1 : CPowX (b + 15485863 * (k + 1)) 3 := by
      have : Builtin.Int.intBits (b + 15485863 * (k + 1)) ≤ 91 := bits_le (by decide) (by omega)
      exact ⟨by decide, by omega⟩
    have cp2 : ∀ y : Int, CPowX (y % 162259276829213363391578010288127 + 32452843 * (k + 1)) 5 := fun y => by
      have h1 := Int.emod_nonneg y (b := 162259276829213363391578010288127) (by decide)
      have h2 := Int.emod_lt_of_pos y (b := 162259276829213363391578010288127) (by decide)
      have : Builtin.Int.intBits (y % 162259276829213363391578010288127 + 32452843 * (k + 1)) ≤ 108 := bits_le (by decide) (by omega)
      exact ⟨by decide, by omega⟩
    refine ⟨.ref p, rfl, p, _, 1, .int b, rfl, rfl, sq e2, rfl, .ref p, rfl, p, _, 2, .int (k + 1), rfl, rfl, sq e2, rfl, _, _, rfl, rfl, cm1, _, _, rfl, rfl, _, _, rfl, rfl, cp1, _, _, rfl, rfl, (by decide : (0 : Int) < 162259276829213363391578010288127), ?_⟩
    exact ⟨.int _, rfl, .ref p, rfl, p, _, 2, .int (k + 1), rfl, rfl, sq e2, rfl, _, _, rfl, rfl, cm2, _, _, rfl, rfl, _, _, rfl, rfl, cp2 _, _, _, rfl, rfl, (by decide : (0 : Int) < 170141183460469231731687303715884105727), .int _, rfl, _, _, rfl, rfl, (⟨by decide, by decide⟩ : CDiv _ 1048576), .int m, rfl, _, _, rfl, rfl, m1, fin _⟩
end

section
variable {P : Program} {w : World} {K : PySem.W.Frag} {mg : Str → Option Value} {base : Heap}
/-! ### _law_some -/
def spSome (K : PySem.W.Frag) : Sp := fun vs H Q _ => ∃ (p t : Addr) (m : Nat) (c : Int) (zs : List Str), vs = [.ref p, .ref t, .int m] ∧ Pot H p c ∧ c ≤ 2 ^ 20 ∧ SqL K H t (zs.map V.str) ∧ zs.all isNm = true ∧ zs.length ≤ 200 ∧
  ∀ (D : Addr) (H' : Hp) (ys rest : List Str), Fresh H D → Grow [p] H H' → H' D = some (.lst (ys.map V.str)) → (ys ++ rest).Perm zs → ys.length = min m zs.length → Pot H' p (c + 200) → Q (.ref D) H'
theorem ok_law_some {f c : Addr} {fd : FuncData} (B : Nb mg) (D : DefIs K "_law_some" "_law_some" st_law_some f fd (.ref c))
    (c_law_take : Callee P w K mg base CX0 3 "_law_take" ["pot", "many"] (spTake K)) : FnG P w K mg base CX0 4 f fd ["pot", "things", "many"] (spSome K) := by
  refine D.ok0 (k := 3) sc_law_some (fun vs H Q E h => ?_) (fun A outer s H vs Q E g hr h => ?_)
  · obtain ⟨p, t, m, c, zs, rfl, _⟩ := h
    rfl
  obtain ⟨p, t, m, c, zs, rfl, hp, hc, ht, hn, hz, q⟩ := h
  refine ⟨_,
      (pss_cons (ps_set (i := 3) sc_law_some.nd rfl (.inl rfl) (pe_callTy call_list_of rfl B.n_list (by decide +kernel) (pa_cons (pv 1) pa_nil)))
      (pss_cons (ps_set (i := 4) sc_law_some.nd rfl (.inl rfl) (pe_lst pa_nil))
      (pss_cons (ps_while PassesOwn.never (PW.pt (pw_and (pt_cmpR (op_neD hr.units) (pv 3) (pe_lst pa_nil) (nomark _)) (pw_and1 (pt_cmpR (op_lt) (pe_callB call_len_seq rfl B.n_len PySem.boot_len (pa_cons (pv 4) pa_nil)) (pv 2) (nomark _))))) (
        (pss_one (ps_expr (pe_bm PySem.F.plainAttrs_list PySem.F.slot_list_append PySem.F.type_list_append mt_append (pv 4) (pa_cons (pe_bm PySem.F.plainAttrs_list PySem.F.slot_list_pop PySem.F.type_list_pop mt_popAt (pv 3) (pa_cons (pe_g c_law_take g (hr.mono (by decide)) pass0 (pa_cons (pv 0) (pa_cons (pe_callB call_len_seq rfl B.n_len PySem.boot_len (pa_cons (pv 3) pa_nil)) pa_nil))) pa_nil)) pa_nil))))))
      (pss_one (ps_ret (pv 4)))))), ?_⟩
  have np : ∀ {b : Addr} {o : HO} {H' : Hp}, H' b = none → H' p = some o → b ≠ p := fun h1 h2 z => by
    rw [z, h2] at h1
    cases h1
  obtain ⟨pa, pb, pk, ep, _⟩ := id hp
  refine ⟨.ref t, rfl, t, _, rfl, .inl ht, fun L nL => ?_⟩
  refine ⟨by show 0 ≤ sizeLine; decide, fun F nF => ?_⟩
  have eL : upd (upd H L (.lst (zs.map V.str))) F (.lst []) L = some (.lst (zs.map V.str)) := by
    rw [upd_ne (ne_of_none upd_same nF)]
    exact upd_same
  have LF : L ≠ F := ne_of_none (H := upd H L (.lst (zs.map V.str))) upd_same nF
  have Lp : L ≠ p := np nL ep
  have Fp : F ≠ p := fun z => by
    rw [z, upd_ne Lp.symm, ep] at nF
    cases nF
  have fF : Fresh H F := fresh_none (by rwa [upd_ne LF.symm] at nF)
  have g0 : Grow [p] H (upd (upd H L (.lst (zs.map V.str))) F (.lst [])) := ((grow_new nL).trans (grow_new nF)).any
  refine ⟨fun n σ H' => ∃ ls fs : List Str, n = ls.length ∧ σ = [some (.ref p), some (.ref t), some (.int m), some (.ref L), some (.ref F)] ∧ H' L = some (.lst (ls.map V.str)) ∧ H' F = some (.lst (fs.map V.str)) ∧ (fs ++ ls).Perm zs ∧ fs.length ≤ m ∧ Pot H' p (c + fs.length) ∧ Grow [p] H H',
    ⟨_, zs, [], rfl, rfl, eL, upd_same, .refl _, Nat.zero_le _, ?_, g0⟩, fun n σ H' hw => ?_⟩
  · obtain ⟨a, b, k, e, r⟩ := hp
    exact ⟨a, b, k, by rw [upd_ne Fp.symm, upd_ne Lp.symm]; exact e, r.1, r.2.1, r.2.2.1, by have := r.2.2.2; simp; omega⟩
  · obtain ⟨ls, fs, rfl, rfl, eL, eF, pm, hm, pot, gr⟩ := hw
    refine ⟨.ref L, rfl, by show 0 ≤ sizeLine; decide, fun W nW => ?_⟩
    have eL1 : upd H' W (.lst []) L = some (.lst (ls.map V.str)) := by rw [upd_ne (ne_of_none eL nW)]; exact eL
    have eF1 : upd H' W (.lst []) F = some (.lst (fs.map V.str)) := by rw [upd_ne (ne_of_none eF nW)]; exact eF
    have gr1 : Grow [p] H (upd H' W (.lst [])) := gr.new nW
    have pot1 : Pot (upd H' W (.lst [])) p (c + fs.length) := by
      obtain ⟨a, b, k, e, r⟩ := pot
      exact ⟨a, b, k, by rw [upd_ne (ne_of_none e nW)]; exact e, r⟩
    have hls : ls.length + fs.length = zs.length := by have := pm.length_eq; rw [List.length_append] at this; omega
    have f1 := fine_names (zs := ls) (List.all_eq_true.mpr fun x hx => List.all_eq_true.mp hn x (pm.mem_iff.mp (List.mem_append_right _ hx))) (by omega)
    have done_ : fs.length = min m zs.length → Q (.ref F) (upd H' W (.lst [])) := fun e => by
      obtain ⟨a, b, k, ep, b1, b2, b3, b4⟩ := pot1
      exact q F _ fs ls fF gr1 eF1 pm e ⟨a, b, k, ep, b1, b2, b3, by omega⟩
    refine ⟨_, _, dp_book (.inl (.inl eL1)), dp_book (xs := []) (.inl (.inl upd_same)), f1.shaped (by decide), (fine_names (zs := []) rfl (Nat.zero_le _)).shaped (by decide), ?_⟩
    cases ls with
    | nil =>
      refine ⟨false, rfl, ?_⟩
      exact iteF (iteF ⟨.ref F, rfl, done_ (by rw [List.length_nil] at hls; omega)⟩)
    | cons x r =>
      refine ⟨true, rfl, iteT ⟨.ref F, rfl, F, _, rfl, .inl (.inl (.inl eF1)), .int m, rfl, _, _, rfl, rfl, _, rfl, ?_⟩⟩
      rw [List.length_map]
      by_cases hlt : ((fs.length : Nat) : Int) < (m : Int)
      · rw [decide_eq_true hlt]
        refine iteT ⟨fun σ' H2 => ∃ ls' fs' : List Str, ls'.length < (x :: r).length ∧ σ' = [some (.ref p), some (.ref t), some (.int m), some (.ref L), some (.ref F)] ∧ H2 L = some (.lst (ls'.map V.str)) ∧ H2 F = some (.lst (fs'.map V.str)) ∧ (fs' ++ ls').Perm zs ∧ fs'.length ≤ m ∧ Pot H2 p (c + fs'.length) ∧ Grow [p] H H2,
          fun σ' H2 h2 => ?_, ?_⟩
        · obtain ⟨ls', fs', l1, r2⟩ := h2
          exact ⟨_, l1, ls', fs', rfl, r2⟩
        · have hrl : (x :: r).length = r.length + 1 := rfl
          refine ⟨.ref F, rfl, tyl eF1, .ref L, rfl, tyl eL1, .ref p, rfl, .ref L, rfl, L, _, rfl, .inl (.inl (.inl eL1)), p, _, _, rfl, ?_, ?_, ?_, pot1, fun v H2 v0 v1 g2 pot2 => ?_⟩
          · rw [List.length_map]; omega
          · rw [List.length_map]; omega
          · omega
          rw [List.length_map] at v1
          have eL2 : H2 L = some (.lst ((x :: r).map V.str)) := g2.lst (by simpa using Lp) eL1
          have eF2 : H2 F = some (.lst (fs.map V.str)) := g2.lst (by simpa using Fp) eF1
          have hv : v.toNat < (x :: r).length := by omega
          refine ⟨L, _, v, v.toNat, .str (x :: r)[v.toNat], rfl, rfl, eL2, by omega, by omega, seqIndex_nat v0 (by rw [List.length_map]; exact v1), ?_, ?_⟩
          · rw [List.getElem?_map, List.getElem?_eq_getElem hv]
            rfl
          · have g3 : Grow [p] H (upd H2 L (.lst (((x :: r).map V.str).eraseIdx v.toNat))) := (gr1.trans g2).put (fresh_none nL) eL2 (fun ps z => by cases z)
            have eF3 : upd H2 L (.lst (((x :: r).map V.str).eraseIdx v.toNat)) F = some (.lst (fs.map V.str)) := by rw [upd_ne LF.symm]; exact eF2
            have fl : fs.length + 1 ≤ 200 := by omega
            refine ⟨F, _, _, rfl, rfl, eF3, by rw [List.length_map]; unfold sizeLine; omega, (x :: r).eraseIdx v.toNat, fs ++ [(x :: r)[v.toNat]], ?_, rfl, ?_, ?_, ?_, ?_, ?_, g3.put fF eF3 (fun ps z => by cases z)⟩
            · rw [List.length_eraseIdx_of_lt hv]
              omega
            · rw [upd_ne LF, upd_same, erase_map]
            · rw [upd_same, List.map_append]
              rfl
            · refine List.Perm.trans ?_ pm
              rw [List.append_assoc]
              exact List.Perm.append_left fs (erase_perm (x :: r) v.toNat hv)
            · rw [List.length_append]
              show fs.length + 1 ≤ m
              omega
            · obtain ⟨a, b, k, e, b1, b2, b3, b4⟩ := pot2
              refine ⟨a, b, k, ?_, b1, b2, b3, ?_⟩
              · rw [upd_ne Fp.symm, upd_ne Lp.symm]
                exact e
              · rw [List.length_append]
                simp only [List.length_cons, List.length_nil]
                omega
      · rw [decide_eq_false hlt]
        exact iteF ⟨.ref F, rfl, done_ (by omega)⟩
end

section
variable {P : Program} {w : World} {K : PySem.W.Frag} {mg : Str → Option Value} {base : Heap}
/-! ### _law_names, _law_many -/
theorem bk_of {zs ys rest : List Str} (h : zs.all isNm = true) (nd : zs.Nodup) (hz : zs.length ≤ 200) (p : (ys ++ rest).Perm zs) : Bk ys :=
  ⟨List.all_eq_true.mpr fun x hx => List.all_eq_true.mp h x (p.mem_iff.mp (List.mem_append_left _ hx)), (List.nodup_append.mp (p.nodup_iff.mpr nd)).1, by
    have := p.length_eq
    rw [List.length_append] at this
    omega⟩
theorem len100 {zs ys rest : List Str} (hz : zs.length ≤ 100) (p : (ys ++ rest).Perm zs) : ys.length ≤ 100 := by
  have := p.length_eq
  rw [List.length_append] at this
  omega
def spDraw (K : PySem.W.Frag) : Sp := fun vs H Q _ => ∃ (p : Addr) (m : Nat) (c : Int), vs = [.ref p, .int m] ∧ Pot H p c ∧ c ≤ 2 ^ 20 ∧
  ∀ (D : Addr) (H' : Hp) (ys : List Str), Fresh H D → Grow [p] H H' → H' D = some (.lst (ys.map V.str)) → Bk ys → ys.length ≤ 100 → Pot H' p (c + 200) → Q (.ref D) H'
def names1 : List Str := ["an", "ana", "a", "bo", "cy", "di", "em", "fo", "gu", "ha", "net", "book", "hear", "open", "shout"]
def names2 : List Str := ["ok", "word", "hand", "join", "step", "rest", "lane", "way", "abcdefgh", "abcdefgi", "zzzzzzzz"]
theorem names_nm : (names1 ++ names2).all isNm = true := by decide +kernel
theorem names_nd : (names1 ++ names2).Nodup := by decide +kernel
theorem ok_law_names {f c : Addr} {fd : FuncData} (B : Nb mg) (D : DefIs K "_law_names" "_law_names" st_law_names f fd (.ref c))
    (c_law_some : Callee P w K mg base CX0 4 "_law_some" ["pot", "things", "many"] (spSome K)) : FnG P w K mg base CX0 5 f fd ["pot", "many"] (spDraw K) := by
  refine D.ok0 (k := 4) sc_law_names (fun vs H Q E h => ?_) (fun A outer s H vs Q E g hr h => ?_)
  · obtain ⟨p, m, c, rfl, _⟩ := h
    rfl
  obtain ⟨p, m, c, rfl, hp, hc, q⟩ := h
  refine ⟨_,
      (pss_cons (ps_set (i := 2) sc_law_names.nd rfl (.inl rfl) (pe_lst (pa_cons pe_str (pa_cons pe_str (pa_cons pe_str (pa_cons pe_str (pa_cons pe_str (pa_cons pe_str (pa_cons pe_str (pa_cons pe_str (pa_cons pe_str (pa_cons pe_str (pa_cons pe_str (pa_cons pe_str (pa_cons pe_str (pa_cons pe_str (pa_cons pe_str pa_nil)))))))))))))))))
      (pss_cons (ps_set (i := 2) sc_law_names.nd rfl (.inl rfl) (pe_op op_cat (pv 2) (pe_lst (pa_cons pe_str (pa_cons pe_str (pa_cons pe_str (pa_cons pe_str (pa_cons pe_str (pa_cons pe_str (pa_cons pe_str (pa_cons pe_str (pa_cons pe_str (pa_cons pe_str (pa_cons pe_str pa_nil))))))))))))))
      (pss_one (ps_ret (pe_g c_law_some g (hr.mono (by decide)) pass0 (pa_cons (pv 0) (pa_cons (pv 2) (pa_cons (pv 1) pa_nil)))))))), ?_⟩
  have go : ∀ (C : Addr) (H1 : Hp), Grow [] H H1 → H1 C = some (.lst ((names1 ++ names2).map V.str)) → spSome K [.ref p, .ref C, .int m] H1 Q E0 := fun C H1 g1 e1 => by
    obtain ⟨a, b, k, e, r⟩ := hp
    refine ⟨p, C, m, c, names1 ++ names2, rfl, ⟨a, b, k, g1.lst (by simp) e, r⟩, hc, .inl (.inl e1), names_nm, by decide, fun D H2 ys rest fr g2 e2 pm _ pot => ?_⟩
    exact q D H2 ys (g1.fresh (by simp) fr) (g1.any.trans g2) e2 (bk_of names_nm names_nd (by decide) pm) (len100 (by decide) pm) pot
  refine ⟨by show 15 ≤ sizeLine; decide, fun A1 n1 => ⟨.ref A1, rfl, by show 11 ≤ sizeLine; decide, fun A2 n2 => ?_⟩⟩
  have e1 : upd (upd H A1 (.lst (names1.map V.str))) A2 (.lst (names2.map V.str)) A1 = some (.lst (names1.map V.str)) := by
    rw [upd_ne (ne_of_none upd_same n2)]
    exact upd_same
  refine ⟨A1, A2, _, _, rfl, rfl, e1, upd_same, by decide, fun C nC => ?_⟩
  exact ⟨.ref p, rfl, .ref C, rfl, .int m, rfl, go C _ (((grow_new n1).new n2).new nC) upd_same⟩
end

section
variable {P : Program} {w : World} {K : PySem.W.Frag} {mg : Str → Option Value} {base : Heap}
/-! ### _law_many -/
def letter (k : Nat) : Str := ⟨#[97 + k]⟩
def nm3 (k : Nat) : Str := (("w" : Str) ++ letter (k / 10)) ++ letter (k % 10)
theorem nm3_nm : ((List.range 100).map nm3).all isNm = true := by decide +kernel
theorem nm3_nd : ((List.range 100).map nm3).Nodup := by decide +kernel
theorem letters_at : ∀ k : Nat, k < 26 → ("abcdefghijklmnopqrstuvwxyz" : Str).cps.toList[k]? = some (97 + k) := by decide +kernel
theorem ok_law_many {f c : Addr} {fd : FuncData} (B : Nb mg) (D : DefIs K "_law_many" "_law_many" st_law_many f fd (.ref c))
    (c_law_some : Callee P w K mg base CX0 4 "_law_some" ["pot", "things", "many"] (spSome K)) : FnG P w K mg base CX0 5 f fd ["pot", "many"] (spDraw K) := by
  refine D.ok0 (k := 4) sc_law_many (fun vs H Q E h => ?_) (fun A outer s H vs Q E g hr h => ?_)
  · obtain ⟨p, m, c, rfl, _⟩ := h
    rfl
  obtain ⟨p, m, c, rfl, hp, hc, q⟩ := h
  refine ⟨_,
      (pss_cons (ps_set (i := 2) sc_law_many.nd rfl (.inr rfl) pe_str)
      (pss_one (ps_ret (pe_g c_law_some g (hr.mono (by decide)) pass0 (pa_cons (pv 0) (pa_cons (pe_lc (own := [("k", 3)]) (tt := tYes) (g := (gName 3)) rfl sc_law_many.nd (pi_range1 rfl B.n_range (pa_cons pe_int pa_nil)) (blkOk_by (N := N_law_many) (sc := defScope st_law_many) (by decide +kernel)) (fun _ _ _ _ _ => (pg_name (i := 3) sc_law_many.nd rfl (.inl rfl))) (fun _ _ _ _ _ => pts_nil) (fun _ _ _ _ _ => pe_to (pe_op op_add_str (pe_op op_add_str pe_str (pe_ix ix_str (pv 2) (pe_op op_fdiv (pv 3) pe_int) (fun _ _ => rfl))) (pe_ix ix_str (pv 2) (pe_op op_mod (pv 3) pe_int) (fun _ _ => rfl))))) (pa_cons (pv 1) pa_nil))))))), ?_⟩
  refine ⟨.ref p, rfl, 100, rfl, by decide, by decide, fun D1 n1 => ?_⟩
  refine lc_it walk_range (fun i H' => Grow [] H H' ∧ H' D1 = some (.lst (((List.range i).map nm3).map V.str))) ⟨grow_new n1, upd_same⟩ (fun _ _ _ _ => trivial) (fun i x H1 H2 hi hw hy => ?_) (fun H1 hw => ?_)
  · obtain ⟨g1, e1⟩ := hw
    obtain ⟨rfl, rfl⟩ := hy
    have hi : i < 100 := hi
    refine ⟨rfl, yes_if ?_⟩
    have ci : ((0 : Int) + (i : Int)) / 10 = ((i / 10 : Nat) : Int) := by omega
    have cj : ((0 : Int) + (i : Int)) % 10 = ((i % 10 : Nat) : Int) := by omega
    refine ⟨.str "abcdefghijklmnopqrstuvwxyz", rfl, .int (0 + i), rfl, _, _, rfl, rfl, (⟨by decide, by decide⟩ : CDiv _ 10), _, _, 97 + i / 10, rfl, rfl, by decide, ?_, _, _, rfl, rfl, (by show 2 ≤ sizeLine; decide), .str "abcdefghijklmnopqrstuvwxyz", rfl, .int (0 + i), rfl, _, _, rfl, rfl, (by decide : (0 : Int) < 10), _, _, 97 + i % 10, rfl, rfl, by decide, ?_, _, _, rfl, rfl, (by show 3 ≤ sizeLine; decide), _, e1, ?_, g1.put (fresh_none n1) e1 (fun ps z => by cases z), ?_⟩
    · rw [ci]
      exact atI_nat (letters_at _ (by omega))
    · rw [cj]
      exact atI_nat (letters_at _ (by omega))
    · rw [List.length_map, List.length_map, List.length_range]
      unfold sizeLine
      omega
    · rw [upd_same, List.range_succ, List.map_append, List.map_append]
      rfl
  · obtain ⟨g1, e1⟩ := hw
    obtain ⟨a, b, k, e, r⟩ := hp
    refine ⟨.int m, rfl, p, D1, m, c, (List.range 100).map nm3, rfl, ⟨a, b, k, g1.lst (by simp) e, r⟩, hc, .inl (.inl e1), nm3_nm, by decide, fun D H2 ys rest fr g2 e2 pm _ pot => ?_⟩
    exact q D H2 ys (g1.fresh (by simp) fr) (g1.any.trans g2) e2 (bk_of nm3_nm nm3_nd (by decide) pm) (len100 (by decide) pm) pot
end

section
variable {P : Program} {w : World} {K : PySem.W.Frag} {mg : Str → Option Value} {base : Heap}
/-! ### _law_other -/
def spOther (K : PySem.W.Frag) : Sp := fun vs H Q _ => ∃ (p l : Addr) (c : Int) (zs : List Str), vs = [.ref p, .ref l] ∧ Pot H p c ∧ c ≤ 2 ^ 19 ∧ H l = some (.lst (zs.map V.str)) ∧ l ≠ p ∧ Bk zs ∧
  ∀ (D : Addr) (H' : Hp) (ws : List Str), Fresh H D → Grow [p] H H' → H' D = some (.lst (ws.map V.str)) → zs.Perm ws → Pot H' p (c + 1000) → Q (.ref D) H'
theorem ok_law_other {f c : Addr} {fd : FuncData} (B : Nb mg) (D : DefIs K "_law_other" "_law_other" st_law_other f fd (.ref c))
    (c_law_take : Callee P w K mg base CX0 3 "_law_take" ["pot", "many"] (spTake K)) (c_law_some : Callee P w K mg base CX0 4 "_law_some" ["pot", "things", "many"] (spSome K)) : FnG P w K mg base CX0 5 f fd ["pot", "book"] (spOther K) := by
  refine D.ok0 (k := 4) sc_law_other (fun vs H Q E h => ?_) (fun A outer s H vs Q E g hr h => ?_)
  · obtain ⟨p, l, c, zs, rfl, _⟩ := h
    rfl
  obtain ⟨p, l, c, zs, rfl, hp, hc, hl, lp, bz, q⟩ := h
  obtain ⟨I, hI⟩ : ∃ I : Int → L2.St → Hp → Prop, I = fun c1 σ H' => ∃ (O : Addr) (ws : List Str) (way : Int) (a b : Option V), σ = [some (.ref p), some (.ref l), some (.ref O), some (.int way), a, b] ∧ Fresh H O ∧ H' O = some (.lst (ws.map V.str)) ∧ zs.Perm ws ∧ Pot H' p (c + c1) ∧ Grow [p] H H' := ⟨_, rfl⟩
  refine ⟨_,
      (pss_cons (ps_set (i := 2) sc_law_other.nd rfl (.inl rfl) (pe_callTy call_list_of rfl B.n_list (by decide +kernel) (pa_cons (pv 1) pa_nil)))
      (pss_cons (ps_set (i := 3) sc_law_other.nd rfl (.inl rfl) (pe_g c_law_take g (hr.mono (by decide)) pass0 (pa_cons (pv 0) (pa_cons pe_int pa_nil))))
      (pss_cut (I 1) (ps_if (pt_cmpR (op_eq) (pv 3) pe_int (nomark _)) (
        (pss_one (ps_expr (pe_bm0 PySem.F.plainAttrs_list PySem.F.slot_list_reverse PySem.F.type_list_reverse mt_reverse (pv 2))))) pss_nil)
      (pss_cut (I 201) (ps_if (pt_cmpR (op_eq) (pv 3) pe_int (nomark _)) (
        (pss_one (ps_set (i := 2) sc_law_other.nd rfl (.inl rfl) (pe_g c_law_some g (hr.mono (by decide)) pass0 (pa_cons (pv 0) (pa_cons (pv 1) (pa_cons (pe_callB call_len_seq rfl B.n_len PySem.boot_len (pa_cons (pv 1) pa_nil)) pa_nil))))))) pss_nil)
      (pss_cut (I 802) (ps_if (PW.pt (pw_and (pt_cmpR (op_gt) (pv 3) pe_int (nomark _)) (pw_and1 (pt_cmpR (op_gt) (pe_callB call_len_seq rfl B.n_len PySem.boot_len (pa_cons (pv 1) pa_nil)) pe_int (nomark _))))) (
        (pss_one (ps_for PassesOwn.never rfl (pi_range1 rfl B.n_range (pa_cons (pe_g c_law_take g (hr.mono (by decide)) pass0 (pa_cons (pv 0) (pa_cons (pe_op op_mulX pe_int (pe_callB call_len_seq rfl B.n_len PySem.boot_len (pa_cons (pv 1) pa_nil))) pa_nil))) pa_nil)) (pg_name (i := 4) sc_law_other.nd rfl (.inl rfl)) (
          (pss_cons (ps_set (i := 5) sc_law_other.nd rfl (.inl rfl) (pe_g c_law_take g (hr.mono (by decide)) pass0 (pa_cons (pv 0) (pa_cons (pe_op op_sub (pe_callB call_len_seq rfl B.n_len PySem.boot_len (pa_cons (pv 1) pa_nil)) pe_int) pa_nil))))
          (pss_one (ps_set (i := 2) sc_law_other.nd rfl (.inl rfl) (pe_op op_cat (pe_op op_cat (pe_slice sl_list (pv 2) po_none (po_some (pv 5))) (pe_lst (pa_cons (pe_ix ix_list (pv 2) (pe_op op_add (pv 5) pe_int) (fun _ _ => rfl)) (pa_cons (pe_ix ix_list (pv 2) (pv 5) (fun _ _ => rfl)) pa_nil)))) (pe_slice sl_list (pv 2) (po_some (pe_op op_add (pv 5) pe_int)) po_none))))))))) pss_nil)
      (pss_cons (ps_set (i := 5) sc_law_other.nd rfl (.inl rfl) (pe_g c_law_take g (hr.mono (by decide)) pass0 (pa_cons (pv 0) (pa_cons (pe_op op_add (pe_callB call_len_seq rfl B.n_len PySem.boot_len (pa_cons (pv 1) pa_nil)) pe_int) pa_nil))))
      (pss_one (ps_ret (pe_ifExp (pt_cmpR (op_eq) (pv 3) pe_int (nomark _)) (pe_op op_cat (pe_slice sl_list (pv 2) (po_some (pv 5)) po_none) (pe_slice sl_list (pv 2) po_none (po_some (pv 5)))) (pv 2)))))))))), ?_⟩
  have mk : ∀ (c1 way : Int) (H' : Hp) (O : Addr) (ws : List Str) (a b : Option V), Fresh H O → H' O = some (.lst (ws.map V.str)) → zs.Perm ws → Pot H' p (c + c1) → Grow [p] H H' → I c1 [some (.ref p), some (.ref l), some (.ref O), some (.int way), a, b] H' := fun c1 way H' O ws a b h1 h2 h3 h4 h5 => by
    rw [hI]
    exact ⟨O, ws, way, a, b, rfl, h1, h2, h3, h4, h5⟩
  have ul : ∀ {H' : Hp}, Grow [p] H H' → H' l = some (.lst (zs.map V.str)) := fun g => g.lst (by simpa using lp) hl
  have zl := bz.len
  refine ⟨.ref l, rfl, l, _, rfl, .inl (.inl (.inl hl)), fun O nO => ?_⟩
  have Op : O ≠ p := by
    obtain ⟨a, b, k, e, _⟩ := hp
    intro z
    rw [z, e] at nO
    cases nO
  refine ⟨.ref p, rfl, p, 6, c, rfl, by decide, by decide, by omega, hp.new nO, fun way H1 w0 w1 g1 pot1 => ⟨?_, fun σ2 H2 h2 => ⟨?_, fun σ3 H3 h3 => ⟨?_, fun σ4 H4 h4 => ?_⟩⟩⟩⟩
  · have eO : H1 O = some (.lst (zs.map V.str)) := g1.lst (by simpa using Op) upd_same
    have gO : Grow [p] H H1 := (grow_new nO).any.trans g1
    refine ⟨.int way, rfl, rfl, _, rfl, ite2 (fun _ => ?_) fun _ => ?_⟩
    · refine ⟨.ref O, rfl, tyl eO, O, _, rfl, rfl, eO, ?_⟩
      exact mk 1 way _ O zs.reverse none none (fresh_none nO) (by rw [upd_same, List.map_reverse]) (List.reverse_perm zs).symm (pot1.at Op.symm) (gO.put (fresh_none nO) eO (fun ps z => by cases z))
    · exact mk 1 way H1 O zs none none (fresh_none nO) eO (.refl _) pot1 gO
  · rw [hI] at h2
    obtain ⟨O2, ws, way2, a, b, rfl, f2, e2, pm, pot2, gr2⟩ := h2
    refine ⟨.int way2, rfl, rfl, _, rfl, ite2 (fun _ => ?_) fun _ => ?_⟩
    · refine ⟨.ref p, rfl, .ref l, rfl, .ref l, rfl, l, _, rfl, .inl (.inl (.inl (ul gr2))), p, l, _, _, zs, rfl, pot2, by omega, .inl (.inl (ul gr2)), bz.nm, zl, fun D H5 ys rest fr g5 e5 pm5 ln pot5 => ?_⟩
      rw [List.length_map, Nat.min_self] at ln
      have hr : rest = [] := List.eq_nil_of_length_eq_zero (by have := pm5.length_eq; rw [List.length_append] at this; omega)
      rw [hr, List.append_nil] at pm5
      exact mk 201 way2 H5 D ys a b (Fresh.back fr gr2 pot2) e5 pm5.symm (pot5.mono (by omega)) (gr2.trans g5)
    · exact mk 201 way2 H2 O2 ws a b f2 e2 pm (pot2.mono (by omega)) gr2
  · rw [hI] at h3
    obtain ⟨O3, ws, way3, a, b, rfl, f3, e3, pm, pot3, gr3⟩ := h3
    refine ⟨.int way3, rfl, _, _, rfl, rfl, _, rfl, ite2 (fun _ => ?_) fun _ => iteF ?_⟩
    · refine ⟨.ref l, rfl, l, _, rfl, .inl (.inl (.inl (ul gr3))), _, _, rfl, rfl, _, rfl, ite2 (fun h1 => ?_) fun _ => ?_⟩
      · rw [List.length_map] at h1
        replace h1 := of_decide_eq_true h1
        have cm : CMulX 3 ((zs.map V.str).length : Nat) := by
          have q1 : Builtin.Int.intBits (((zs.map V.str).length : Nat) : Int) ≤ 8 := bits_le (by decide) (by rw [List.length_map]; omega)
          have q2 : Builtin.Int.intBits 3 ≤ 2 := bits_le (by decide) (by decide)
          unfold CMulX
          omega
        refine ⟨.ref p, rfl, .ref l, rfl, l, _, rfl, .inl (.inl (.inl (ul gr3))), _, _, rfl, rfl, cm, p, _, _, rfl, by rw [List.length_map]; omega, by rw [List.length_map]; omega, by omega, pot3, fun v H5 v0 v1 g5 pot5 => ⟨v, rfl, by omega, ?_, ?_⟩⟩
        · rw [List.length_map] at v1
          omega
        · rw [List.length_map] at v1
          have Op3 : O3 ≠ p := by
            obtain ⟨x, y, k, e, _⟩ := hp
            exact (f3.ne e (fun ps z => by cases z)).symm
          refine for_it walk_range (fun i σ H' => ∃ (O : Addr) (ws : List Str) (a b : Option V), σ = [some (.ref p), some (.ref l), some (.ref O), some (.int way3), a, b] ∧ Fresh H O ∧ H' O = some (.lst (ws.map V.str)) ∧ zs.Perm ws ∧ Pot H' p (c + 202 + i) ∧ Grow [p] H H')
            ⟨O3, ws, a, b, rfl, f3, g5.lst (by simpa using Op3) e3, pm, pot5.mono (by omega), gr3.trans g5⟩ (fun _ _ _ _ _ => trivial) (fun i x σ H6 H7 hi hw hy => ?_) (fun σ H6 hw => ?_)
          · obtain ⟨O, ws, a, b, rfl, fO, eO, pm, pot, gr⟩ := hw
            obtain ⟨rfl, rfl⟩ := hy
            have Op : O ≠ p := by
              obtain ⟨x, y, k, e, _⟩ := hp
              exact (fO.ne e (fun ps z => by cases z)).symm
            refine ⟨.ref p, rfl, .ref l, rfl, l, _, rfl, .inl (.inl (.inl (ul gr))), _, _, rfl, rfl, p, _, _, rfl, by rw [List.length_map]; omega, by rw [List.length_map]; omega, by omega, pot, fun v2 H8 u0 u1 g8 pot8 => ?_⟩
            rw [List.length_map] at u1
            obtain ⟨k, rfl⟩ : ∃ k : Nat, v2 = k := ⟨v2.toNat, (Int.toNat_of_nonneg u0).symm⟩
            have lw := pm.length_eq
            have eO8 : H8 O = some (.lst (ws.map V.str)) := g8.lst (by simpa using Op) eO
            have g9 := gr.trans g8
            have hk1 : k + 1 < ws.length := by omega
            have at1 : atI (ws.map V.str) ((k : Int) + 1) = some (.str ws[k + 1]) := by
              have := atI_nat (xs := ws.map V.str) (j := k + 1) (v := .str ws[k + 1]) (by rw [List.getElem?_map, List.getElem?_eq_getElem hk1]; rfl)
              rwa [Int.natCast_add] at this
            have at0 : atI (ws.map V.str) (k : Int) = some (.str ws[k]) := atI_nat (by rw [List.getElem?_map, List.getElem?_eq_getElem (by omega)]; rfl)
            refine ⟨.ref O, rfl, .int k, rfl, _, rfl, O, _, rfl, .inl (.inl eO8), fun S1 n1 => ?_⟩
            rw [cut_hi]
            have x1 : upd H8 S1 (.lst ((ws.map V.str).take k)) O = some (.lst (ws.map V.str)) := by rw [upd_ne (ne_of_none eO8 n1)]; exact eO8
            refine ⟨.ref O, rfl, .int k, rfl, _, _, rfl, rfl, O, _, _, _, rfl, rfl, .inl (.inl x1), at1, .ref O, rfl, .int k, rfl, O, _, _, _, rfl, rfl, .inl (.inl x1), at0, by show 2 ≤ sizeLine; decide, fun S2 n2 => ?_⟩
            have x2 : upd (upd H8 S1 (.lst ((ws.map V.str).take k))) S2 (.lst [.str ws[k + 1], .str ws[k]]) S1 = some (.lst ((ws.map V.str).take k)) := by
              rw [upd_ne (ne_of_none upd_same n2)]
              exact upd_same
            refine ⟨S1, S2, _, _, rfl, rfl, x2, upd_same, ?_, fun S3 n3 => ?_⟩
            · rw [List.length_take, List.length_map]
              simp only [List.length_cons, List.length_nil]
              unfold sizeLine
              omega
            have x3 : upd (upd (upd H8 S1 (.lst ((ws.map V.str).take k))) S2 (.lst [.str ws[k + 1], .str ws[k]])) S3 (.lst ((ws.map V.str).take k ++ [.str ws[k + 1], .str ws[k]])) O = some (.lst (ws.map V.str)) := by
              have y : upd (upd H8 S1 (.lst ((ws.map V.str).take k))) S2 (.lst [.str ws[k + 1], .str ws[k]]) O = some (.lst (ws.map V.str)) := by rw [upd_ne (ne_of_none x1 n2)]; exact x1
              rw [upd_ne (ne_of_none y n3)]
              exact y
            refine ⟨.ref O, rfl, .int k, rfl, _, _, rfl, rfl, _, rfl, O, _, rfl, .inl (.inl x3), fun S4 n4 => ?_⟩
            have ec : cutV (ws.map V.str) (some ((k : Int) + 2)) none = (ws.map V.str).drop (k + 2) := by
              have := cut_lo (ws.map V.str) (k + 2)
              rwa [Int.natCast_add] at this
            rw [ec]
            refine ⟨S3, S4, _, _, rfl, rfl, by rw [upd_ne (ne_of_none upd_same n4)]; exact upd_same, upd_same, ?_, fun S5 n5 => ?_⟩
            · rw [List.length_append, List.length_take, List.length_drop, List.length_map]
              simp only [List.length_cons, List.length_nil]
              unfold sizeLine
              omega
            have f5 : Fresh H8 S5 := by
              have m4 : S5 ≠ S4 := fun z => by rw [z, upd_same] at n5; cases n5
              rw [upd_ne m4] at n5
              have m3 : S5 ≠ S3 := fun z => by rw [z, upd_same] at n5; cases n5
              rw [upd_ne m3] at n5
              have m2 : S5 ≠ S2 := fun z => by rw [z, upd_same] at n5; cases n5
              rw [upd_ne m2] at n5
              have m1 : S5 ≠ S1 := fun z => by rw [z, upd_same] at n5; cases n5
              rw [upd_ne m1] at n5
              exact fresh_none n5
            refine ⟨S5, ws.take k ++ [ws[k + 1], ws[k]] ++ ws.drop (k + 2), _, _, rfl, Fresh.back f5 g9 pot8, ?_, pm.trans (swap_perm ws k hk1).symm, ?_, ((((g9.new n1).new n2).new n3).new n4).new n5⟩
            · rw [upd_same, List.map_append, List.map_append, List.map_take, List.map_drop]
              rfl
            · exact (((((pot8.new n1).new n2).new n3).new n4).new n5).mono (by omega)
          · obtain ⟨O, ws, a, b, rfl, fO, eO, pm, pot, gr⟩ := hw
            exact mk 802 way3 H6 O ws a b fO eO pm (pot.mono (by omega)) gr
      · exact mk 802 way3 H3 O3 ws a b f3 e3 pm (pot3.mono (by omega)) gr3
    · exact mk 802 way3 H3 O3 ws a b f3 e3 pm (pot3.mono (by omega)) gr3
  · rw [hI] at h4
    obtain ⟨O4, ws, way4, a, b, rfl, f4, e4, pm, pot4, gr4⟩ := h4
    refine ⟨.ref p, rfl, .ref l, rfl, l, _, rfl, .inl (.inl (.inl (ul gr4))), _, _, rfl, rfl, p, _, _, rfl, by omega, by rw [List.length_map]; omega, by omega, pot4, fun v H5 v0 v1 g5 pot5 => ?_⟩
    rw [List.length_map] at v1
    obtain ⟨i, rfl⟩ : ∃ i : Nat, v = i := ⟨v.toNat, (Int.toNat_of_nonneg v0).symm⟩
    have g6 := gr4.trans g5
    have Op : O4 ≠ p := by
      obtain ⟨x, y, k, e, _⟩ := hp
      exact (f4.ne e (fun ps z => by cases z)).symm
    have e5 : H5 O4 = some (.lst (ws.map V.str)) := g5.lst (by simpa using Op) e4
    refine ⟨.int way4, rfl, rfl, _, rfl, ite2 (fun _ => ?_) fun _ => ?_⟩
    · refine ⟨.ref O4, rfl, .int i, rfl, _, rfl, O4, _, rfl, .inl (.inl e5), fun S1 n1 => ?_⟩
      have e6 : upd H5 S1 (.lst (cutV (ws.map V.str) (some (i : Int)) none)) O4 = some (.lst (ws.map V.str)) := by rw [upd_ne (ne_of_none e5 n1)]; exact e5
      refine ⟨.ref O4, rfl, .int i, rfl, _, rfl, O4, _, rfl, .inl (.inl e6), fun S2 n2 => ?_⟩
      have e7 : upd (upd H5 S1 (.lst (cutV (ws.map V.str) (some (i : Int)) none))) S2 (.lst (cutV (ws.map V.str) none (some (i : Int)))) S1 = some (.lst (cutV (ws.map V.str) (some (i : Int)) none)) := by
        rw [upd_ne (ne_of_none upd_same n2)]
        exact upd_same
      refine ⟨S1, S2, _, _, rfl, rfl, e7, upd_same, ?_, fun S3 n3 => ?_⟩
      · have h1 := cutV_length (ws.map V.str) (some (i : Int)) none
        have h2 := cutV_length (ws.map V.str) none (some (i : Int))
        have h3 := pm.length_eq
        rw [List.length_map] at h1 h2
        unfold sizeLine
        omega
      · rw [cut_lo, cut_hi] at n3 ⊢
        rw [cut_lo] at n2
        have g7 := ((g6.new (o := .lst ((ws.map V.str).drop i)) (by assumption)).new (o := .lst ((ws.map V.str).take i)) n2).new (o := .lst ((ws.map V.str).drop i ++ (ws.map V.str).take i)) n3
        refine q S3 _ (ws.drop i ++ ws.take i) (Fresh.back (fresh_none (p := S3) (H := H5) ?_) g6 pot5) g7 ?_ (pm.trans (turn_perm ws i).symm) ?_
        · have m1 : S3 ≠ S2 := fun z => by rw [z, upd_same] at n3; cases n3
          rw [upd_ne m1] at n3
          have m2 : S3 ≠ S1 := fun z => by rw [z, upd_same] at n3; cases n3
          rwa [upd_ne m2] at n3
        · rw [upd_same, List.map_append, List.map_drop, List.map_take]
        · exact (((pot5.new n1).new n2).new n3).mono (by omega)
    · exact ⟨.ref O4, rfl, q O4 H5 ws f4 g6 e5 pm (pot5.mono (by omega))⟩
end

/-! ### the pairs of two books, either way -/
theorem mem_prsTo {lt : Str → Str → Bool} {zs : List Str} {x : Str × Str} : ∀ {k : Nat}, k ≤ zs.length → (x ∈ prsTo lt zs k ↔ ∃ i j : Nat, i < k ∧ i < j ∧ zs[i]? = some x.1 ∧ zs[j]? = some x.2 ∧ lt x.1 x.2 = true)
  | 0, _ => by
    constructor
    · intro h
      cases h
    · rintro ⟨i, j, h, _⟩
      omega
  | k + 1, hk => by
    have hz : zs[k]? = some (zs.getD k Str.empty) := by
      rw [List.getD_eq_getElem?_getD, List.getElem?_eq_getElem (by omega)]
      rfl
    rw [prsTo, List.mem_append, mem_prsTo (k := k) (by omega)]
    constructor
    · rintro (⟨i, j, h1, h2⟩ | h)
      · exact ⟨i, j, by omega, h2⟩
      · unfold prsAt at h
        obtain ⟨b, hb, rfl⟩ := List.mem_map.mp h
        obtain ⟨hb, hlt⟩ := List.mem_filter.mp hb
        obtain ⟨j, hj⟩ := List.mem_iff_getElem?.mp hb
        rw [List.getElem?_drop] at hj
        exact ⟨k, k + 1 + j, by omega, by omega, hz, hj, hlt⟩
    · rintro ⟨i, j, h1, h2, h3, h4, h5⟩
      by_cases hi : i < k
      · exact .inl ⟨i, j, hi, h2, h3, h4, h5⟩
      · have e : i = k := by omega
        subst e
        rw [hz] at h3
        refine .inr ?_
        unfold prsAt
        have e := Option.some.inj h3
        refine List.mem_map.mpr ⟨x.2, List.mem_filter.mpr ⟨List.mem_iff_getElem?.mpr ⟨j - (i + 1), ?_⟩, by rw [e]; exact h5⟩, by rw [e]⟩
        rw [List.getElem?_drop, show i + 1 + (j - (i + 1)) = j by omega]
        exact h4
theorem idx_at {zs : List Str} (nd : zs.Nodup) {i : Nat} {a : Str} (h : zs[i]? = some a) : i = zs.idxOf a := by
  have hi := (List.getElem?_eq_some_iff.mp h).1
  have hm : a ∈ zs := List.mem_of_getElem? h
  have h1 := List.idxOf_lt_length_of_mem hm
  refine (List.getElem?_inj hi nd).mp ?_
  rw [h, List.getElem?_eq_getElem h1, List.getElem_idxOf h1]
theorem mem_prs {zs ws : List Str} (nd : zs.Nodup) {a b : Str} : (a, b) ∈ prsTo (later ws) zs zs.length ↔ a ∈ zs ∧ b ∈ zs ∧ zs.idxOf a < zs.idxOf b ∧ ws.idxOf b < ws.idxOf a := by
  rw [mem_prsTo (Nat.le_refl _)]
  constructor
  · rintro ⟨i, j, h1, h2, h3, h4, h5⟩
    have e1 := idx_at nd h3
    have e2 := idx_at nd h4
    exact ⟨List.mem_of_getElem? h3, List.mem_of_getElem? h4, by rw [← e1, ← e2]; exact h2, of_decide_eq_true h5⟩
  · rintro ⟨h1, h2, h3, h4⟩
    have l1 := List.idxOf_lt_length_of_mem h1
    have l2 := List.idxOf_lt_length_of_mem h2
    exact ⟨_, _, l1, h3, by rw [List.getElem?_eq_getElem l1, List.getElem_idxOf l1], by rw [List.getElem?_eq_getElem l2, List.getElem_idxOf l2], decide_eq_true h4⟩
theorem nd_prsTo {lt : Str → Str → Bool} {zs : List Str} (nd : zs.Nodup) : ∀ {k : Nat}, k ≤ zs.length → (prsTo lt zs k).Nodup
  | 0, _ => List.nodup_nil
  | k + 1, hk => by
    rw [prsTo, List.nodup_append]
    refine ⟨nd_prsTo nd (by omega), ?_, fun x hx y hy e => ?_⟩
    · unfold prsAt
      exact List.pairwise_map.mpr (((nd.sublist (List.drop_sublist _ _)).filter _).imp fun q e => q (Prod.mk.inj e).2)
    · subst e
      obtain ⟨i, j, h1, h2, h3, _⟩ := (mem_prsTo (by omega)).mp hx
      unfold prsAt at hy
      obtain ⟨b, hb, rfl⟩ := List.mem_map.mp hy
      have hz : zs[k]? = some (zs.getD k Str.empty) := by
        rw [List.getD_eq_getElem?_getD, List.getElem?_eq_getElem (by omega)]
        rfl
      have := (List.getElem?_inj (by omega) nd).mp (h3.trans hz.symm)
      omega
theorem prs_swap {zs ws : List Str} (nd : zs.Nodup) (pm : zs.Perm ws) : ((prsTo (later zs) ws ws.length).map fun p => (p.2, p.1)).Perm (prsTo (later ws) zs zs.length) := by
  have nw := pm.nodup_iff.mp nd
  refine (List.perm_ext_iff_of_nodup (List.pairwise_map.mpr ((nd_prsTo nw (Nat.le_refl _)).imp fun q e => q (Prod.ext (Prod.mk.inj e).2 (Prod.mk.inj e).1))) (nd_prsTo nd (Nat.le_refl _))).mpr fun x => ?_
  obtain ⟨a, b⟩ := x
  rw [mem_prs nd, List.mem_map]
  constructor
  · rintro ⟨⟨u, v⟩, h, e⟩
    cases e
    obtain ⟨h1, h2, h3, h4⟩ := (mem_prs nw).mp h
    exact ⟨pm.mem_iff.mpr h2, pm.mem_iff.mpr h1, h4, h3⟩
  · rintro ⟨h1, h2, h3, h4⟩
    exact ⟨(b, a), (mem_prs nw).mpr ⟨pm.mem_iff.mp h2, pm.mem_iff.mp h1, h4, h3⟩, rfl⟩
theorem prs_self {zs : List Str} (nd : zs.Nodup) : prsTo (later zs) zs zs.length = [] := by
  refine List.eq_nil_iff_forall_not_mem.mpr fun x h => ?_
  obtain ⟨a, b⟩ := x
  obtain ⟨_, _, h3, h4⟩ := (mem_prs nd).mp h
  omega
theorem fine_pairs {qs : List (Str × Str)} (h : ∀ p ∈ qs, isNm p.1 = true ∧ isNm p.2 = true) (hl : qs.length ≤ 40000) : Fine (.list (qs.map encP)) 2 760000 := by
  refine Fine.list (n := 1) (m := 18) (fun d hd => ?_) ?_
  · obtain ⟨⟨a, b⟩, hp, rfl⟩ := List.mem_map.mp hd
    obtain ⟨h1, h2⟩ := h _ hp
    refine Fine.tuple (n := 0) (m := 8) (fun d hd => ?_) (Nat.le_refl _)
    rcases List.mem_cons.mp hd with rfl | hd
    · exact fine_name h1
    · rw [List.mem_singleton.mp hd]
      exact fine_name h2
  · rw [List.length_map]
    omega
theorem prs_nm {zs ws : List Str} (bz : Bk zs) : ∀ p ∈ prsTo (later ws) zs zs.length, isNm p.1 = true ∧ isNm p.2 = true := fun p hp => by
  obtain ⟨h1, h2, _⟩ := (mem_prs bz.nd).mp hp
  exact ⟨List.all_eq_true.mp bz.nm _ h1, List.all_eq_true.mp bz.nm _ h2⟩
theorem prs_len {zs ws : List Str} (bz : Bk zs) : (prsTo (later ws) zs zs.length).length ≤ 40000 := by
  have h1 := prsTo_len (later ws) zs zs.length
  have h2 : zs.length * zs.length ≤ 200 * 200 := Nat.mul_le_mul bz.len bz.len
  omega
theorem fine_prs {zs ws : List Str} (bz : Bk zs) : Fine (.list ((prsTo (later ws) zs zs.length).map encP)) 2 760000 := fine_pairs (prs_nm bz) (prs_len bz)

end Lw

namespace Lw
open PySem PySem.Spec PyProof.Rows L2 GxR Gx
/-! ### a dict that is walked -/
theorem truth_keys {P : Addr} {H1 : Hp} {sb : Bool} {g : TG} {te : TE} {vs : List Nat} {σ : L2.St} {Q : VK} {d : Addr} {o : Obj} {kvs : List (Key × V)} (Pv : Nat → Hp → Prop) (h0 : ∀ H2, Tabbed P H1 H2 → Pv 0 H2) (hl : ∀ i H, Pv i H → H d = some (.frz o (.dK kvs)))
    (step : ∀ i x H, (kvs.map fun q => kV q.1)[i]? = some x → Pv i H → g x (wipe σ vs) H fun σ2 H2 => wipe σ2 vs = wipe σ vs ∧ te σ2 H2 fun y H4 => ∃ b, y = .bl b ∧ if b = sb then Q (.bl sb) H4 else Pv (i + 1) H4)
    (fin : ∀ H, Pv kvs.length H → Q (.bl (!sb)) H) : rTruth P sb g te vs σ Q (Itk d o kvs) H1 := by
  have el : (kvs.map fun q => kV q.1).length = kvs.length := List.length_map _
  refine truth_by (items := kvs.map fun q => kV q.1) Pv h0 (fun i H x H' hp hy => ?_) (fun i H hi hp => ?_) (fun H hp => ?_) step fun H hp => fin H (by rw [← el]; exact hp)
  · obtain ⟨e, k, v, hk, rfl⟩ := hy
    exact ⟨e, by rw [List.getElem?_map, hk]; rfl⟩
  · exact ⟨hl i H hp, by rw [← el]; exact hi⟩
  · exact ⟨hl _ H hp, by rw [el]; exact Nat.le_refl _⟩
theorem truth_vals {P : Addr} {H1 : Hp} {sb : Bool} {g : TG} {te : TE} {vs : List Nat} {σ : L2.St} {Q : VK} {d : Addr} {o : Obj} {kvs : List (Key × V)} (Pv : Nat → Hp → Prop) (h0 : ∀ H2, Tabbed P H1 H2 → Pv 0 H2) (hl : ∀ i H, Pv i H → H d = some (.frz o (.dK kvs)))
    (step : ∀ i x H, (kvs.map fun q => q.2)[i]? = some x → Pv i H → g x (wipe σ vs) H fun σ2 H2 => wipe σ2 vs = wipe σ vs ∧ te σ2 H2 fun y H4 => ∃ b, y = .bl b ∧ if b = sb then Q (.bl sb) H4 else Pv (i + 1) H4)
    (fin : ∀ H, Pv kvs.length H → Q (.bl (!sb)) H) : rTruth P sb g te vs σ Q (Itd d o kvs) H1 := by
  have el : (kvs.map fun q => q.2).length = kvs.length := List.length_map _
  refine truth_by (items := kvs.map fun q => q.2) Pv h0 (fun i H x H' hp hy => ?_) (fun i H hi hp => ?_) (fun H hp => ?_) step fun H hp => fin H (by rw [← el]; exact hp)
  · obtain ⟨e, k, hk⟩ := hy
    exact ⟨e, by rw [List.getElem?_map, hk]; rfl⟩
  · exact ⟨hl i H hp, by rw [← el]; exact hi⟩
  · exact ⟨hl _ H hp, by rw [el]; exact Nat.le_refl _⟩
theorem tab_lock {H : Hp} {p T : Addr} {u o : HO} (t : TabG H T) (e : H p = some u) (hu : ∀ ps, u ≠ .tbl ps) : TabG (upd H p o) T := (grow_at (ex := [p]) e hu (by simp)).tabs T t
theorem grow_unlock {H H' : Hp} {p : Addr} {u : HO} {od : Obj} (e : H p = some u) (hu : ∀ ps, u ≠ .tbl ps) (g : Grow [] (upd H p (.frz od u)) H') (h' : H' p = some (.frz od u)) : Grow [] H (upd H' p u) := by
  refine ⟨fun b o n eb t => ?_, fun b t => ?_⟩
  · by_cases hb : b = p
    · rw [hb, e] at eb
      rw [hb, upd_same]
      exact eb
    · rw [upd_ne hb]
      exact g.keep b o n (by rw [upd_ne hb]; exact eb) t
  · exact (grow_at (ex := [p]) h' (fun ps z => by cases z) (by simp)).tabs b (g.tabs b (tab_lock t e hu))

/-! ### whole numbers, asked of any value of a numbering -/
/-- a value of a numbering -/
inductive Nv (K : PySem.W.Frag) (H : Hp) : V → Prop
  | int (i : Int) (b : i.natAbs ≤ 1099511627776) : Nv K H (.int i)
  | non : Nv K H .non
  | bl (b : Bool) : Nv K H (.bl b)
  | str : Nv K H (.str "0")
  | lst {a : Addr} (e : H a = some (.lst [.int 0])) : Nv K H (.ref a)
def intOf (p : Int → Bool) : V → Bool
  | .int i => p i
  | _ => false
/-- what is asked of a value: its type -/
def Nt (K : PySem.W.Frag) (H : Hp) (v : V) : Prop := ∃ T : String, TyB K H v T ∧ TyX K H v (.type T) ∧ PySem.W.kitOne K (.type T) (.type "int") = some (decide (T = "int") || decide (T = "bool")) ∧ PySem.W.kitOne K (.type T) (.type "bool") = some (decide (T = "bool")) ∧
  (T = "int" → ∃ i, v = .int i) ∧ (T ≠ "int" → ∀ p, intOf p v = false)
theorem Nv.nt {K : PySem.W.Frag} {H : Hp} {v : V} (h : Nv K H v) : Nt K H v := by
  cases h with
  | int i _ => exact ⟨"int", .int i, .base (.int i), rfl, rfl, fun _ => ⟨i, rfl⟩, fun z => absurd rfl z⟩
  | non => exact ⟨"NoneType", .non, .base .non, rfl, rfl, fun z => absurd z (by decide), fun _ _ => rfl⟩
  | bl b => exact ⟨"bool", .bl b, .base (.bl b), rfl, rfl, fun z => absurd z (by decide), fun _ _ => rfl⟩
  | str => exact ⟨"str", .str _, .base (.str _), rfl, rfl, fun z => absurd z (by decide), fun _ _ => rfl⟩
  | lst e => exact ⟨"list", .lst (.inl (.inl e)), .base (.lst e), rfl, rfl, fun z => absurd z (by decide), fun _ _ => rfl⟩
theorem Nv.grow0 {K : PySem.W.Frag} {H H' : Hp} {v : V} (h : Nv K H v) (g : Grow [] H H') : Nv K H' v := by
  cases h with
  | int i b => exact .int i b
  | non => exact .non
  | bl b => exact .bl b
  | str => exact .str
  | lst e => exact .lst (g.lst (by simp) e)
section
variable {P : Program} {w : World} {K : PySem.W.Frag} {mg : Str → Option Value} {base : Heap}
def spWholeV (K : PySem.W.Frag) : Sp := fun vs H Q _ => ∃ (v : V) (k : Int), vs = [v, .int k] ∧ Nt K H v ∧ Q (.bl (intOf (fun i => decide (k ≤ i)) v)) H
theorem ok_is_whole {f c : Addr} {fd : FuncData} (B : Nb mg) (D : DefIs K "is_whole" "is_whole" st_is_whole f fd (.ref c)) : FnG P w K mg base CX0 1 f fd ["thing", "least"] (spWholeV K) := by
  refine D.ok0 (k := 0) sc_is_whole (fun vs H Q E h => ?_) (fun A outer s H vs Q E g hr h => ?_)
  · obtain ⟨v, k, rfl, _⟩ := h
    rfl
  obtain ⟨v, k, rfl, ⟨T, tb, _, _, _, t1, t2⟩, q⟩ := h
  refine ⟨_,
      (pss_one (ps_ret (pe_and (pe_cmpR (op_isTyB) (pe_callTy call_type1 rfl B.n_type (by decide +kernel) (pa_cons (pv 0) pa_nil)) (pe_bltn (v := .ty "int") rfl B.n_int (by decide +kernel) rfl) (nomark _)) (pe_one (pe_cmpR (op_ge) (pv 0) (pv 1) (nomark _)))))), ?_⟩
  refine ⟨v, rfl, _, T, rfl, tb, T, "int", rfl, rfl, _, rfl, ?_⟩
  by_cases hT : T = "int"
  · obtain ⟨i, rfl⟩ := t1 hT
    rw [decide_eq_true hT]
    exact iteT ⟨.int i, rfl, .int k, rfl, _, _, rfl, rfl, q⟩
  · rw [decide_eq_false hT]
    rw [t2 hT] at q
    exact iteF q
def spSpotV (K : PySem.W.Frag) : Sp := fun vs H Q _ => ∃ (v : V) (r : Int), vs = [v, .int r] ∧ Nt K H v ∧ Q (.bl (intOf (fun i => decide (0 ≤ i ∧ i ≤ r)) v)) H
theorem ok_is_spot {f c : Addr} {fd : FuncData} (B : Nb mg) (D : DefIs K "is_spot" "is_spot" st_is_spot f fd (.ref c))
    (c_is_whole : Callee P w K mg base CX0 1 "is_whole" ["thing", "least"] (spWholeV K)) : FnG P w K mg base CX0 2 f fd ["thing", "roads"] (spSpotV K) := by
  refine D.ok0 (k := 1) sc_is_spot (fun vs H Q E h => ?_) (fun A outer s H vs Q E g hr h => ?_)
  · obtain ⟨v, k, rfl, _⟩ := h
    rfl
  obtain ⟨v, k, rfl, nt, q⟩ := h
  obtain ⟨T, tb, _, _, _, t1, t2⟩ := id nt
  refine ⟨_,
      (pss_one (ps_ret (pe_and (pe_g c_is_whole g (hr.mono (by decide)) pass0 (pa_cons (pv 0) (pa_cons pe_int pa_nil))) (pe_one (pe_cmpR (op_le) (pv 0) (pv 1) (nomark _)))))), ?_⟩
  refine ⟨v, rfl, v, 0, rfl, nt, _, rfl, ?_⟩
  by_cases hT : T = "int"
  · obtain ⟨i, rfl⟩ := t1 hT
    have q : Q (.bl (decide (0 ≤ i ∧ i ≤ k))) H := q
    show if decide (0 ≤ i) = true then _ else _
    by_cases h0 : 0 ≤ i
    · rw [decide_eq_true h0]
      rw [show decide (0 ≤ i ∧ i ≤ k) = decide (i ≤ k) from decide_eq_decide.mpr ⟨fun h => h.2, fun h => ⟨h0, h⟩⟩] at q
      exact iteT ⟨.int i, rfl, .int k, rfl, _, _, rfl, rfl, q⟩
    · rw [decide_eq_false h0]
      rw [show decide (0 ≤ i ∧ i ≤ k) = false from decide_eq_false fun h => h0 h.1] at q
      exact iteF q
  · rw [t2 hT] at q ⊢
    exact iteF q
def spRoadsNo (K : PySem.W.Frag) : Sp := fun vs H Q _ => ∃ i : Int, vs = [.int i] ∧ 0 ≤ i ∧ Q .non H
theorem ok_check_roads {f c : Addr} {fd : FuncData} (B : Nb mg) (D : DefIs K "check_roads" "check_roads" st_check_roads f fd (.ref c))
    (c_is_whole : Callee P w K mg base CX0 1 "is_whole" ["thing", "least"] (spWholeV K)) : FnG P w K mg base CX0 2 f fd ["thing"] (spRoadsNo K) := by
  refine D.ok0 (k := 1) sc_check_roads (fun vs H Q E h => ?_) (fun A outer s H vs Q E g hr h => ?_)
  · obtain ⟨i, rfl, _⟩ := h
    rfl
  obtain ⟨i, rfl, i0, q⟩ := h
  refine ⟨_,
      (pss_one (ps_if (pt_not (pt_val (pe_g c_is_whole g (hr.mono (by decide)) pass0 (pa_cons (pv 0) (pa_cons pe_int pa_nil))))) (
        (pss_one ps_dead)) pss_nil)), ?_⟩
  refine ⟨.int i, rfl, .int i, 0, rfl, ⟨"int", .int i, .base (.int i), rfl, rfl, fun _ => ⟨i, rfl⟩, fun z => absurd rfl z⟩, true, ?_, iteF q⟩
  show V.bl (decide (0 ≤ i)) = _
  rw [decide_eq_true i0]
end

/-! ### what is due of a numbering, as data -/
def valOf (kvs : List (Key × V)) (z : Str) : V := (valV kvs (.inr z)).getD .non
def ltV : V → V → Bool
  | .int a, .int b => decide (a < b)
  | _, _ => false
def countV (r : Int) (v : V) : Bool := intOf (fun i => decide (0 ≤ i ∧ i ≤ r)) v
def keyIn (zs : List Str) (k : Key) : Bool := zs.any fun z => decide (k = Sum.inr z)
def dueD (zs ws : List Str) (r : Int) (kvs : List (Key × V)) : Bool :=
  decide (kvs.length = zs.length) && (kvs.all fun kv => keyIn zs kv.1) && (zs.all fun z => countV r (valOf kvs z)) && (prsTo (later ws) zs zs.length).all fun p => ltV (valOf kvs p.1) (valOf kvs p.2)
theorem keyIn_iff {zs : List Str} {k : Key} : keyIn zs k = true ↔ ∃ z ∈ zs, k = Sum.inr z := by
  unfold keyIn
  rw [List.any_eq_true]
  exact ⟨fun ⟨z, hz, e⟩ => ⟨z, hz, of_decide_eq_true e⟩, fun ⟨z, hz, e⟩ => ⟨z, hz, decide_eq_true e⟩⟩
theorem sub_all {α : Type} [DecidableEq α] {xs ys : List α} (nx : xs.Nodup) (l : ys.length ≤ xs.length) (h : ∀ x ∈ xs, x ∈ ys) : ∀ y ∈ ys, y ∈ xs := by
  induction xs generalizing ys with
  | nil =>
    intro y hy
    rw [List.length_nil] at l
    rw [List.length_eq_zero_iff.mp (Nat.le_zero.mp l)] at hy
    cases hy
  | cons x xs ih =>
    intro y hy
    by_cases e : y = x
    · rw [e]; exact List.mem_cons_self
    · obtain ⟨n1, n2⟩ := List.nodup_cons.mp nx
      have hx := h x List.mem_cons_self
      refine List.mem_cons_of_mem _ (ih n2 (ys := ys.erase x) ?_ (fun z hz => ?_) y ((List.mem_erase_of_ne e).mpr hy))
      · rw [List.length_erase_of_mem hx]
        rw [List.length_cons] at l
        omega
      · have ne : z ≠ x := fun q => n1 (by rw [← q]; exact hz)
        exact (List.mem_erase_of_ne ne).mpr (h z (List.mem_cons_of_mem _ hz))
theorem valV_key {kvs : List (Key × V)} {k : Key} : (∃ v, valV kvs k = some v) ↔ k ∈ kvs.map Prod.fst := by
  constructor
  · rintro ⟨v, h⟩
    exact valV_in h
  · intro h
    cases e : valV kvs k with
    | some v => exact ⟨v, rfl⟩
    | none => exact absurd h (valV_not e)
theorem valV_val {kvs : List (Key × V)} {k : Key} {v : V} (h : valV kvs k = some v) : (k, v) ∈ kvs := by
  unfold valV at h
  cases e : kvs.find? (fun kv => decide (kv.1 = k)) with
  | none => rw [e] at h; cases h
  | some p =>
    rw [e] at h
    have h1 := List.mem_of_find?_eq_some e
    have h2 := List.find?_some e
    cases h
    have h3 : p.1 = k := of_decide_eq_true h2
    rw [← h3]
    exact h1
/-- as many keys as words, every key a word: every word has a number -/
theorem keys_all {zs : List Str} {kvs : List (Key × V)} (nk : (kvs.map Prod.fst).Nodup) (l : kvs.length = zs.length) (h : (kvs.all fun kv => keyIn zs kv.1) = true) {z : Str} (hz : z ∈ zs) : ∃ v, valV kvs (.inr z) = some v := by
  rw [valV_key]
  refine sub_all (ys := zs.map Sum.inr) nk (by rw [List.length_map, List.length_map, l]; exact Nat.le_refl _) (fun k hk => ?_) _ (List.mem_map.mpr ⟨z, hz, rfl⟩)
  obtain ⟨kv, hkv, rfl⟩ := List.mem_map.mp hk
  obtain ⟨y, hy, e⟩ := keyIn_iff.mp (List.all_eq_true.mp h kv hkv)
  rw [e]
  exact List.mem_map.mpr ⟨y, hy, rfl⟩
/-- as many keys as words, every word has a number: every key is a word -/
theorem all_keys {zs : List Str} {kvs : List (Key × V)} (nz : zs.Nodup) (l : kvs.length = zs.length) (h : ∀ z ∈ zs, ∃ v, valV kvs (.inr z) = some v) : (kvs.all fun kv => keyIn zs kv.1) = true := by
  rw [List.all_eq_true]
  intro kv hkv
  have n2 : (zs.map (Sum.inr : Str → Key)).Nodup := by
    rw [List.Nodup, List.pairwise_map]
    exact nz.imp fun q e => q (Sum.inr.inj e)
  have := sub_all (ys := kvs.map Prod.fst) n2 (by rw [List.length_map, List.length_map, l]; exact Nat.le_refl _) (fun k hk => by
    obtain ⟨z, hz, rfl⟩ := List.mem_map.mp hk
    exact valV_key.mp (h z hz)) kv.1 (List.mem_map.mpr ⟨kv, hkv, rfl⟩)
  obtain ⟨z, hz, e⟩ := List.mem_map.mp this
  exact keyIn_iff.mpr ⟨z, hz, e.symm⟩
theorem valOf_some {kvs : List (Key × V)} {z : Str} {v : V} (h : valV kvs (.inr z) = some v) : valOf kvs z = v := by
  unfold valOf
  rw [h]
  rfl
theorem valOf_none {kvs : List (Key × V)} {z : Str} (h : valV kvs (.inr z) = none) : valOf kvs z = .non := by
  unfold valOf
  rw [h]
  rfl
theorem countV_int {r : Int} {v : V} (h : countV r v = true) : ∃ i : Int, v = .int i := by
  cases v with
  | int i => exact ⟨i, rfl⟩
  | _ => exact absurd (show false = true from h) Bool.false_ne_true
theorem dueD_len {zs ws : List Str} {r : Int} {kvs : List (Key × V)} (h : kvs.length ≠ zs.length) : dueD zs ws r kvs = false := by
  unfold dueD
  rw [decide_eq_false h]
  rfl
theorem dueD_key {zs ws : List Str} {r : Int} {kvs : List (Key × V)} (h : (kvs.all fun kv => keyIn zs kv.1) = false) : dueD zs ws r kvs = false := by
  unfold dueD
  rw [h, Bool.and_false]
  rfl
theorem dueD_val {zs ws : List Str} {r : Int} {kvs : List (Key × V)} (h : (zs.all fun z => countV r (valOf kvs z)) = false) : dueD zs ws r kvs = false := by
  unfold dueD
  rw [h, Bool.and_false]
  rfl
theorem dueD_pairs {zs ws : List Str} {r : Int} {kvs : List (Key × V)} (l : kvs.length = zs.length) (h1 : (kvs.all fun kv => keyIn zs kv.1) = true) (h2 : (zs.all fun z => countV r (valOf kvs z)) = true) :
    dueD zs ws r kvs = (prsTo (later ws) zs zs.length).all fun p => ltV (valOf kvs p.1) (valOf kvs p.2) := by
  unfold dueD
  rw [decide_eq_true l, h1, h2]
  rfl

end Lw

namespace Lw
open PySem PySem.Spec PyProof.Rows L2 GxR Gx
/-! ### numbers_all, is_numbering of any thing -/
/-- no dict -/
inductive NoD (K : PySem.W.Frag) (H : Hp) : V → Prop
  | non : NoD K H .non
  | int (i : Int) : NoD K H (.int i)
  | str (x : Str) : NoD K H (.str x)
  | lst {a : Addr} {xs : List V} (e : H a = some (.lst xs)) : NoD K H (.ref a)
  | tup {a : Addr} {xs : List V} (e : H a = some (.tup xs)) : NoD K H (.ref a)
theorem NoD.ty {K : PySem.W.Frag} {H : Hp} {v : V} (h : NoD K H v) : ∃ T : String, T ≠ "dict" ∧ TyB K H v T ∧ TyX K H v (.type T) ∧ PySem.W.kitOne K (.type T) (.type "dict") = some false := by
  cases h with
  | non => exact ⟨"NoneType", by decide, .non, .base .non, rfl⟩
  | int i => exact ⟨"int", by decide, .int i, .base (.int i), rfl⟩
  | str x => exact ⟨"str", by decide, .str x, .base (.str x), rfl⟩
  | lst e => exact ⟨"list", by decide, .lst (.inl (.inl e)), .base (.lst e), rfl⟩
  | tup e => exact ⟨"tuple", by decide, .tup (.inl (.inl e)), .base (.tup e), rfl⟩
theorem NoD.grow0 {K : PySem.W.Frag} {H H' : Hp} {v : V} (h : NoD K H v) (g : Grow [] H H') : NoD K H' v := by
  cases h with
  | non => exact .non
  | int i => exact .int i
  | str x => exact .str x
  | lst e => exact .lst (g.lst (by simp) e)
  | tup e => exact .tup (g.tup (by simp) e)
/-- a thing that is asked whether it is a numbering -/
inductive Td
  | odd | nd | dic (kvs : List (Key × V))
inductive Tg (K : PySem.W.Frag) (H : Hp) : V → Td → Prop
  | odd {v : V} : NoD K H v → Tg K H v .odd
  | nd {a : Addr} : H a = some (ndo a) → Tg K H (.ref a) .nd
  | dic {a : Addr} {kvs : List (Key × V)} : H a = some (.dK kvs) → (kvs.map Prod.fst).Nodup → kvs.length ≤ 300 → (∀ kv ∈ kvs, Nv K H kv.2) → Tg K H (.ref a) (.dic kvs)
theorem Tg.grow0 {K : PySem.W.Frag} {H H' : Hp} {v : V} {t : Td} (h : Tg K H v t) (g : Grow [] H H') : Tg K H' v t := by
  cases h with
  | odd h => exact .odd (h.grow0 g)
  | nd e => exact .nd (g.keep _ _ (by simp) e fun ps z => by cases z)
  | dic e n l h => exact .dic (g.keep _ _ (by simp) e fun ps z => by cases z) n l fun kv hk => (h kv hk).grow0 g
def dueT (zs ws : List Str) (r : Int) : Td → Bool
  | .dic kvs => dueD zs ws r kvs
  | _ => false
section
variable {P : Program} {w : World} {K : PySem.W.Frag} {mg : Str → Option Value} {base : Heap}
def spNumsV (K : PySem.W.Frag) (T : Addr) : Sp := fun vs H Q _ => TabG H T ∧ ∃ (l m : Addr) (v : V) (zs ws : List Str) (r : Int) (t : Td), vs = [.ref l, .ref m, .int r, v] ∧ H l = some (.lst (zs.map V.str)) ∧ H m = some (.lst (ws.map V.str)) ∧ Bk zs ∧ zs.Perm ws ∧
  Tg K H v t ∧ ∀ H', Grow [] H H' → Q (.bl (dueT zs ws r t)) H'
theorem truth_none {P : Addr} {H1 : Hp} {sb : Bool} {g : TG} {te : TE} {vs : List Nat} {σ : L2.St} {Q : VK} {d : Addr} {o : Obj} (Pv : Hp → Prop) (hP : ∀ H2, Tabbed P H1 H2 → H2 d = some (.frz o (ndo d))) (hE : ∀ H2, Pv H2 → H2 d = some (.frz o (ndo d)))
    (step : ∀ H, Tabbed P H1 H → g .non (wipe σ vs) H fun σ2 H2 => wipe σ2 vs = wipe σ vs ∧ te σ2 H2 fun y H4 => ∃ b, y = .bl b ∧ if b = sb then Q (.bl sb) H4 else Pv H4) (fin : ∀ H, Pv H → Q (.bl (!sb)) H) : rTruth P sb g te vs σ Q (ItN d o) H1 := by
  refine truth_by (items := [V.non]) (fun i H => match i with | 0 => Tabbed P H1 H | _ + 1 => Pv H) (fun H2 t => t) (fun i H x H' hp hy => ?_) (fun i H hi hp => ?_) (fun H hp => ?_) (fun i x H hx hp => ?_) fun H hp => fin H hp
  · obtain ⟨e, rfl, hi⟩ := hy
    obtain rfl : i = 0 := by omega
    exact ⟨e, rfl⟩
  · cases i with
    | zero => exact ⟨hP H hp, by decide⟩
    | succ i => exact absurd hi (by show ¬ i + 1 < 1; omega)
  · exact ⟨hE H hp, by decide⟩
  · cases i with
    | zero =>
      cases hx
      exact step H hp
    | succ i => cases hx
theorem ok_numbers_all {f c T : Addr} {fd : FuncData} (B : Nb mg) (D : DefIs K "numbers_all" "numbers_all" st_numbers_all f fd (.ref c)) (x_numbers_all : TabB base mg c T)
    (c_is_spot : Callee P w K mg base CX0 2 "is_spot" ["thing", "roads"] (spSpotV K)) (c_pairs_turned : Callee P w K mg base CX0 5 "pairs_turned" ["book", "other"] (spPairs K)) :
    FnG P w K mg base CX0 6 f fd ["book", "other", "roads", "thing"] (spNumsV K T) := by
  refine D.ok0 (k := 5) sc_numbers_all (fun vs H Q E h => ?_) (fun A outer s H vs Q E g hr h => ?_)
  · obtain ⟨_, l, m, v, zs, ws, r, t, rfl, _⟩ := h
    rfl
  obtain ⟨tT, l, m, v, zs, ws, r, t, rfl, hl, hm, bz, pm, hv, q⟩ := h
  refine ⟨_,
      (pss_cons (ps_if (PW.pt (pw_or (pt_cmpR (op_notTyB) (pe_callTy call_typN rfl B.n_type (by decide +kernel) (pa_cons (pv 3) pa_nil)) (pe_bltn (v := .ty "dict") rfl B.n_dict (by decide +kernel) rfl) (nomark _)) (pw_or1 (pt_cmpR (op_ne) (pe_callB (call_lenN (hu_of hr)) rfl B.n_len (by decide +kernel) (pa_cons (pv 3) pa_nil)) (pe_callB call_len_seq rfl B.n_len PySem.boot_len (pa_cons (pv 0) pa_nil)) (nomark _))))) (
        (pss_one (ps_ret pe_bl))) pss_nil)
      (pss_cons (ps_if (pt_not (pt_val (pe_lock (pe_allG (own := [("word", 4)]) hr (gx_ok (N := N_numbers_all) (dsc := defScope st_numbers_all) x_numbers_all sc_numbers_all.nd (by decide +kernel) (by decide +kernel)) rfl B.n_all (by decide +kernel) (pi_keysN (pv 3)) (fun _ _ _ _ _ => (pg_name (i := 4) sc_numbers_all.nd rfl (.inl rfl))) (fun _ _ _ _ _ => pe_to (pe_cmpR (op_isTyB) (pe_callTy call_type1 rfl B.n_type (by decide +kernel) (pa_cons (pv 4) pa_nil)) (pe_bltn (v := .ty "str") rfl B.n_str (by decide +kernel) rfl) (nomark _))))))) (
        (pss_one (ps_ret pe_bl))) pss_nil)
      (pss_cons (ps_if (pt_not (pt_val (pe_allG (own := [("word", 4)]) hr (gx_ok (N := N_numbers_all) (dsc := defScope st_numbers_all) x_numbers_all sc_numbers_all.nd (by decide +kernel) (by decide +kernel)) rfl B.n_all (by decide +kernel) (pi_list (pv 0)) (fun _ _ _ _ _ => (pg_name (i := 4) sc_numbers_all.nd rfl (.inl rfl))) (fun _ _ _ _ _ => pe_to (pe_and (pe_cmp (pc_din (hu_of (room_gx hr)) (pv 4) (pv 3))) (pe_one (pe_g c_is_spot g ((room_gx hr).mono (by decide)) pass0 (pa_cons (pe_dget (hu_of (room_gx hr)) (pv 3) (pv 4) (fun _ _ => rfl)) (pa_cons (pv 2) pa_nil))))))))) (
        (pss_one (ps_ret pe_bl))) pss_nil)
      (pss_one (ps_ret (pe_callB (cr_all rfl) rfl B.n_all (by decide +kernel) (pa_cons (pe_lc (own := [("a", 5), ("b", 6)]) (tt := tYes) (g := (gTup _ 2 (gCons (gName 5) (gCons (gName 6) gNil)))) rfl sc_numbers_all.nd (pi_list (pe_g c_pairs_turned g (hr.mono (by decide)) pass0 (pa_cons (pv 0) (pa_cons (pv 1) pa_nil)))) (blkOk_by (N := N_numbers_all) (sc := defScope st_numbers_all) (by decide +kernel)) (fun _ _ _ _ _ => (pg_tup rfl (pgs_cons (pg_name (i := 5) sc_numbers_all.nd rfl (.inl rfl)) (pgs_cons (pg_name (i := 6) sc_numbers_all.nd rfl (.inl rfl)) pgs_nil)))) (fun _ _ _ _ _ => pts_nil) (fun _ _ _ _ _ => pe_to (pe_cmpR (op_lt) (pe_dget (hu_of hr) (pv 3) (pv 5) (fun _ _ => rfl)) (pe_dget (hu_of hr) (pv 3) (pv 6) (fun _ _ => rfl)) (nomark _)))) pa_nil))))))), ?_⟩
  cases hv with
  | odd h =>
    obtain ⟨Ty, n1, tb, _, _⟩ := h.ty
    refine ⟨v, rfl, .inl ⟨_, Ty, rfl, tb, Ty, "dict", rfl, rfl, _, rfl, ?_⟩⟩
    rw [decide_eq_false n1]
    exact iteT (q H (Grow.refl _ _))
  | @nd N eN =>
    refine ⟨.ref N, rfl, .inr ⟨N, rfl, eN, "dict", "dict", rfl, rfl, _, rfl, iteNS rfl ?_⟩⟩
    refine ⟨.ref N, rfl, N, rfl, .inr ⟨eN, .ref l, rfl, l, _, rfl, .inl (.inl (.inl hl)), rfl, ?_⟩⟩
    refine ⟨_, rfl, ite2 (fun _ => q H (Grow.refl _ _)) fun _ => ?_⟩
    refine ⟨N, ndo N, eN, trivial, fun od => ⟨.ref N, rfl, N, od, rfl, .inr ⟨upd_same, tab_lock tT eN (fun ps z => by cases z), ?_⟩⟩⟩
    have stay : ∀ {H2 : Hp}, Grow [] (upd H N (.frz od (ndo N))) H2 → H2 N = some (.frz od (ndo N)) := fun g => g.keep N _ (by simp) upd_same fun ps z => by cases z
    refine truth_none (fun _ => False) (fun H2 t => stay (grow_tab (tab_lock tT eN (fun ps z => by cases z)) t)) (fun _ z => z.elim) (fun H2 t => ?_) fun _ z => z.elim
    have g2 := grow_tab (ex := []) (tab_lock tT eN (fun ps z => by cases z)) t
    have g3 := grow_unlock eN (fun ps z => by cases z) g2 (stay g2)
    exact ⟨rfl, .non, rfl, _, "NoneType", rfl, .non, "NoneType", "str", rfl, rfl, false, rfl, ite2 (fun _ => ⟨stay g2, false, rfl, iteT (q _ g3)⟩) fun e => absurd rfl e⟩
  | @dic N kvs eN nk kl kv =>
    refine ⟨.ref N, rfl, .inl ⟨_, "dict", rfl, .dK eN, "dict", "dict", rfl, rfl, _, rfl, iteNS rfl ?_⟩⟩
    refine ⟨.ref N, rfl, N, rfl, .inl ⟨kvs, eN, .ref l, rfl, l, _, rfl, .inl (.inl (.inl hl)), rfl, ?_⟩⟩
    have ne : kvs.length ≠ zs.length → dueT zs ws r (.dic kvs) = false := fun n => dueD_len n
    refine ⟨_, rfl, ite2 (fun e => ?_) fun e => ?_⟩
    · have n : kvs.length ≠ zs.length := fun z => by
        rw [decide_eq_true (show V.int ((kvs.length : Nat) : Int) = V.int (((zs.map V.str).length : Nat) : Int) by rw [List.length_map, z])] at e
        cases e
      have q := q H (Grow.refl _ _)
      rw [ne n] at q
      exact q
    have lk : kvs.length = zs.length := by
      refine Classical.byContradiction fun n => e ?_
      rw [decide_eq_false (fun z : V.int ((kvs.length : Nat) : Int) = V.int (((zs.map V.str).length : Nat) : Int) => n (by rw [List.length_map] at z; exact Int.ofNat.inj (V.int.inj z)))]
      rfl
    refine ⟨N, .dK kvs, eN, trivial, fun od => ⟨.ref N, rfl, N, od, rfl, .inl ⟨kvs, upd_same, tab_lock tT eN (fun ps z => by cases z), ?_⟩⟩⟩
    have stay : ∀ {H2 : Hp}, Grow [] (upd H N (.frz od (.dK kvs))) H2 → H2 N = some (.frz od (.dK kvs)) := fun g => g.keep N _ (by simp) upd_same fun ps z => by cases z
    refine truth_keys (kvs := kvs) (fun i H' => Grow [] (upd H N (.frz od (.dK kvs))) H') (fun H2 t => grow_tab (tab_lock tT eN (fun ps z => by cases z)) t) (fun i H' hp => stay hp) (fun i x H' hx hp => ?_) fun H' hp => ?_
    · rw [List.getElem?_map] at hx
      cases ek : kvs[i]? with
      | none => rw [ek] at hx; cases hx
      | some kv =>
        rw [ek] at hx
        cases hx
        obtain ⟨k, u⟩ := kv
        have mk := List.mem_of_getElem? ek
        have g3 := grow_unlock eN (fun ps z => by cases z) hp (stay hp)
        cases k with
        | inl i =>
          have q := q _ g3
          rw [show dueT zs ws r (.dic kvs) = false from dueD_key (List.all_eq_false.mpr ⟨_, mk, fun z => by
            obtain ⟨y, _, e⟩ := keyIn_iff.mp z
            cases e⟩)] at q
          exact ⟨rfl, .int i, rfl, _, "int", rfl, .int i, "int", "str", rfl, rfl, false, rfl, ite2 (fun _ => ⟨stay hp, false, rfl, iteT q⟩) fun e => absurd rfl e⟩
        | inr z => exact ⟨rfl, .str z, rfl, _, "str", rfl, .str z, "str", "str", rfl, rfl, true, rfl, ite2 (fun e => absurd e (by decide)) fun _ => hp⟩
    have g3 := grow_unlock eN (fun ps z => by cases z) hp (stay hp)
    refine ⟨stay hp, true, rfl, iteF ?_⟩
    generalize upd H' N (.dK kvs) = H3 at g3 ⊢
    have eN3 : ∀ {H4 : Hp}, Grow [] H3 H4 → H4 N = some (.dK kvs) := fun g => (g3.trans g).keep N _ (by simp) eN fun ps z => by cases z
    have dg : ∀ {H4 : Hp}, Grow [] H3 H4 → ∀ z : Str, DGet H4 N (.str z) (valV kvs (.inr z)) := fun g z => DGet.k (k := .inr z) (eN3 g)
    refine ⟨.ref l, rfl, l, rfl, ⟨_, .inl (.inl (g3.lst (by simp) hl))⟩, g3.tabs _ tT, ?_⟩
    refine truth_list (xs := zs.map V.str) (fun i H' => Grow [] H3 H' ∧ ∀ j z, j < i → zs[j]? = some z → ∃ v, valV kvs (.inr z) = some v ∧ countV r v = true) (fun H2 t => ⟨grow_tab (g3.tabs _ tT) t, fun j z h => by cases h⟩) (fun i H' hp => .inl (.inl ((g3.trans hp.1).lst (by simp) hl))) (fun i x H' hx hp => ?_) fun H4 hp => ?_
    · rw [List.getElem?_map] at hx
      cases ez : zs[i]? with
      | none => rw [ez] at hx; cases hx
      | some z =>
        rw [ez] at hx
        cases hx
        obtain ⟨gp, hp⟩ := hp
        have mz := List.mem_of_getElem? ez
        have d := dg gp z
        have bad : countV r (valOf kvs z) = false → Q (.bl false) H' := fun c => by
          have q := q _ (g3.trans gp)
          rw [show dueT zs ws r (.dic kvs) = false from dueD_val (List.all_eq_false.mpr ⟨z, mz, by rw [c]; exact Bool.false_ne_true⟩)] at q
          exact q
        cases ev : valV kvs (.inr z) with
        | none =>
          rw [ev] at d
          exact ⟨rfl, .str z, rfl, .ref N, rfl, N, _, rfl, d, _, rfl, iteF ⟨false, rfl, ite2 (fun _ => ⟨false, rfl, iteT (bad (by rw [valOf_none ev]; rfl))⟩) fun e => absurd rfl e⟩⟩
        | some u =>
          rw [ev] at d
          have nt := (kv _ (valV_val ev)).nt
          have nt : Nt K H' u := ((kv _ (valV_val ev)).grow0 (g3.trans gp)).nt
          refine ⟨rfl, .str z, rfl, .ref N, rfl, N, _, rfl, d, _, rfl, iteT ⟨.ref N, rfl, .str z, rfl, N, _, rfl, d, .int r, rfl, u, r, rfl, nt, ?_⟩⟩
          refine ⟨_, rfl, ite2 (fun e => ⟨false, rfl, iteT (bad (by rw [valOf_some ev]; exact e))⟩) fun e => ⟨gp, fun j y hj hy => ?_⟩⟩
          rcases Nat.lt_succ_iff_lt_or_eq.mp hj with hj | rfl
          · exact hp j y hj hy
          · rw [ez] at hy
            cases hy
            exact ⟨u, ev, by
              cases c : countV r u with
              | true => rfl
              | false => exact absurd c e⟩
    · obtain ⟨hp, all⟩ := hp
      have ok : ∀ z ∈ zs, ∃ v, valV kvs (.inr z) = some v ∧ countV r v = true := fun z hz => by
        obtain ⟨j, hj⟩ := List.mem_iff_getElem?.mp hz
        exact all j z (by rw [List.length_map]; exact (List.getElem?_eq_some_iff.mp hj).1) hj
      have due : dueT zs ws r (.dic kvs) = (prsTo (later ws) zs zs.length).all fun p => ltV (valOf kvs p.1) (valOf kvs p.2) :=
        dueD_pairs lk (all_keys bz.nd lk fun z hz => let ⟨v, e, _⟩ := ok z hz; ⟨v, e⟩) (List.all_eq_true.mpr fun z hz => by
          obtain ⟨v, e, c⟩ := ok z hz
          rw [valOf_some e]
          exact c)
      refine ⟨true, rfl, iteF ?_⟩
      have g4 := g3.trans hp
      refine ⟨.ref l, rfl, .ref m, rfl, l, m, zs, ws, rfl, .inl (.inl (g4.lst (by simp) hl)), .inl (.inl (g4.lst (by simp) hm)), bz, pm, fun R H5 fR g5 hR => ?_⟩
      obtain ⟨xs, e5, t5⟩ := id hR
      refine ⟨R, rfl, ⟨xs, .inl (.inl e5)⟩, fun D1 n1 => ?_⟩
      refine lc_it (walk_list (xs := xs)) (fun j H' => Grow [] H5 H' ∧ ∃ bs : List Bool, H' D1 = some (.lst (bs.map V.bl)) ∧ bs = ((prsTo (later ws) zs zs.length).take j).map fun p => ltV (valOf kvs p.1) (valOf kvs p.2)) ⟨grow_new n1, [], upd_same, rfl⟩
        (fun j H' _ h => .inl (.inl (h.1.lst (by simp) e5))) (fun j x H6 H7 hj hp2 hy => ?_) (fun H6 hp2 => ?_)
      · obtain ⟨gj, bs, eD, eb⟩ := hp2
        obtain ⟨rfl, ex⟩ := hy
        obtain ⟨d, hd, td⟩ := t5.get ex
        rw [List.getElem?_map] at hd
        cases ep : (prsTo (later ws) zs zs.length)[j]? with
        | none => rw [ep] at hd; cases hd
        | some p =>
          rw [ep] at hd
          cases hd
          have mp := List.mem_of_getElem? ep
          obtain ⟨r1, rfl, hr1⟩ := pair_inv (td.grow gj (lists_none _))
          have m1 := (mem_prs bz.nd).mp mp
          have gg := (hp.trans g5).trans gj
          obtain ⟨v1, e1, c1⟩ := ok _ m1.1
          obtain ⟨v2, e2, c2⟩ := ok _ m1.2.1
          obtain ⟨i1, rfl⟩ := countV_int c1
          obtain ⟨i2, rfl⟩ := countV_int c2
          have d1 := dg gg p.1
          have d2 := dg gg p.2
          rw [e1] at d1
          rw [e2] at d2
          refine ⟨r1, _, rfl, .inl (.inl hr1), rfl, _, _, rfl, _, _, rfl, rfl, rfl, yes_if ⟨.ref N, rfl, .str p.1, rfl, N, _, rfl, d1, .ref N, rfl, .str p.2, rfl, N, _, rfl, d2, _, _, rfl, rfl, _, eD, ?_, gj.put (fresh_none n1) eD (fun ps z => by cases z), bs ++ [decide (i1 < i2)], ?_, ?_⟩⟩
          · have := prs_len (ws := ws) bz
            rw [eb, List.length_map, List.length_map, List.length_take]
            unfold sizeLine
            omega
          · rw [upd_same, List.map_append]
            rfl
          · rw [List.take_add_one, List.map_append, ← eb, ep]
            show _ = bs ++ [ltV (valOf kvs p.1) (valOf kvs p.2)]
            rw [valOf_some e1, valOf_some e2]
            rfl
      · obtain ⟨gj, bs, eD, eb⟩ := hp2
        dsimp only [tNil]
        refine ⟨D1, bs, rfl, .inl (.inl eD), ?_⟩
        have q := q _ ((g4.trans g5).trans gj)
        rw [due] at q
        rw [List.take_of_length_le (by have := t5.length; rw [List.length_map] at this; omega)] at eb
        rw [eb, List.all_map]
        exact q
def spIsNumV (K : PySem.W.Frag) (T1 T T2 : Addr) : Sp := fun vs H Q _ => ∃ (l m : Addr) (v : V) (zs ws : List Str) (r : Int) (t : Td), vs = [.ref l, .ref m, .int r, v] ∧ TabG H T1 ∧ TabG H T ∧ TabG H T2 ∧ H l = some (.lst (zs.map V.str)) ∧ H m = some (.lst (ws.map V.str)) ∧
  Bk zs ∧ zs.Perm ws ∧ Tg K H v t ∧ 0 ≤ r ∧ ∀ H', Grow [] H H' → Q (.bl (dueT zs ws r t)) H'
theorem ok_is_numbering {f c T1 T T2 : Addr} {fd : FuncData} (B : Nb mg) (D : DefIs K "is_numbering" "is_numbering" st_is_numbering f fd (.ref c))
    (c_check_books : Callee P w K mg base CX0 10 "check_books" ["book", "other"] (spCheck K T1 T)) (c_check_roads : Callee P w K mg base CX0 2 "check_roads" ["thing"] (spRoadsNo K)) (c_numbers_all : Callee P w K mg base CX0 6 "numbers_all" ["book", "other", "roads", "thing"] (spNumsV K T2)) :
    FnG P w K mg base CX0 11 f fd ["book", "other", "roads", "thing"] (spIsNumV K T1 T T2) := by
  refine D.ok0 (k := 10) sc_is_numbering (fun vs H Q E h => ?_) (fun A outer s H vs Q E g hr h => ?_)
  · obtain ⟨l, m, v, zs, ws, r, t, rfl, _⟩ := h
    rfl
  obtain ⟨l, m, v, zs, ws, r, t, rfl, t1, tT, t2, el, em, bz, pm, hv, r0, q⟩ := h
  refine ⟨_,
      (pss_cons (ps_expr (pe_g c_check_books g (hr.mono (by decide)) pass0 (pa_cons (pv 0) (pa_cons (pv 1) pa_nil))))
      (pss_cons (ps_expr (pe_g c_check_roads g (hr.mono (by decide)) pass0 (pa_cons (pv 2) pa_nil)))
      (pss_one (ps_ret (pe_g c_numbers_all g (hr.mono (by decide)) pass0 (pa_cons (pv 0) (pa_cons (pv 1) (pa_cons (pv 2) (pa_cons (pv 3) pa_nil))))))))), ?_⟩
  refine ⟨.ref l, rfl, .ref m, rfl, l, m, zs, ws, rfl, t1, tT, .inl (.inl el), .inl (.inl em), bz, pm, fun H1 g1 => ?_⟩
  refine ⟨.int r, rfl, r, rfl, r0, ?_⟩
  refine ⟨.ref l, rfl, .ref m, rfl, .int r, rfl, v, rfl, g1.tabs _ t2, l, m, v, zs, ws, r, t, rfl, g1.lst (by simp) el, g1.lst (by simp) em, bz, pm, hv.grow0 g1, fun H2 g2 => ?_⟩
  exact q H2 (g1.trans g2)
end

end Lw

namespace Lw
open PySem PySem.Spec PyProof.Rows L2 GxR Gx
section
variable {P : Program} {w : World} {K : PySem.W.Frag} {mg : Str → Option Value} {base : Heap}
/-! ### _law_turned -/
def spDue (K : PySem.W.Frag) : Sp := fun vs H Q _ => ∃ (l m : Addr) (zs ws : List Str), vs = [.ref l, .ref m] ∧ H l = some (.lst (zs.map V.str)) ∧ H m = some (.lst (ws.map V.str)) ∧ Bk zs ∧ zs.Perm ws ∧
  ∀ (D : Addr) (H' : Hp), Fresh H D → Grow [] H H' → LstT K H' D ((prsTo (later ws) zs zs.length).map encP) → Q (.ref D) H'
theorem ok_law_turned {f c : Addr} {fd : FuncData} (B : Nb mg) (D : DefIs K "_law_turned" "_law_turned" st_law_turned f fd (.ref c)) : FnG P w K mg base CX0 4 f fd ["book", "other"] (spDue K) := by
  refine D.ok0 (k := 3) sc_law_turned (fun vs H Q E h => ?_) (fun A outer s H vs Q E g hr h => ?_)
  · obtain ⟨l, m, zs, ws, rfl, _⟩ := h
    rfl
  obtain ⟨l, m, zs, ws, rfl, hl, hm, bz, pm, q⟩ := h
  have bw := bz.perm pm
  refine ⟨_,
      (pss_cons (ps_set (i := 2) sc_law_turned.nd rfl (.inl rfl) (pe_lst pa_nil))
      (pss_cons (ps_for PassesOwn.never rfl (pi_enum rfl B.n_enumerate (pa_cons (pv 0) pa_nil)) (pg_tup rfl (pgs_cons (pg_name (i := 3) sc_law_turned.nd rfl (.inl rfl)) (pgs_cons (pg_name (i := 4) sc_law_turned.nd rfl (.inr rfl)) pgs_nil))) (
        (pss_one (ps_expr (pe_bm PySem.F.plainAttrs_list PySem.F.slot_list_extend PySem.F.type_list_extend mt_extend (pv 2) (pa_cons (pe_lc (own := [("b", 5)]) (g := (gName 5)) rfl sc_law_turned.nd (pi_list (pe_slice sl_list (pv 0) (po_some (pe_op op_add (pv 3) pe_int)) po_none)) (blkOk_by (N := N_law_turned) (sc := defScope st_law_turned) (by decide +kernel)) (fun _ _ _ _ _ => (pg_name (i := 5) sc_law_turned.nd rfl (.inl rfl))) (fun _ _ _ _ _ => pts_to (pts_one (pt_cmpR (op_lt) (pe_bm PySem.F.plainAttrs_list PySem.F.slot_list_index PySem.F.type_list_index mt_index (pv 1) (pa_cons (pv 5) pa_nil)) (pe_bm PySem.F.plainAttrs_list PySem.F.slot_list_index PySem.F.type_list_index mt_index (pv 1) (pa_cons (pv 4) pa_nil)) (nomark _)))) (fun _ _ _ _ _ => pe_to (pe_tup (pa_cons (pv 4) (pa_cons (pv 5) pa_nil))))) pa_nil))))))
      (pss_one (ps_ret (pv 2))))), ?_⟩
  refine ⟨by show 0 ≤ sizeLine; decide, fun F nF => ?_⟩
  refine ⟨.ref l, rfl, l, _, rfl, .inl (.inl ((grow_new (ex := []) nF).lst (by simp) hl)), ?_⟩
  refine for_it walk_enum (fun i σ H' => ∃ a b c : Option V, σ = [some (.ref l), some (.ref m), some (.ref F), a, b, c] ∧ Grow [] H H' ∧ LstT K H' F ((prsTo (later ws) zs i).map encP)) ⟨none, none, none, rfl, grow_new nF, [], upd_same, .nil⟩
    (fun i σ H' _ h => by
      obtain ⟨_, _, _, _, g, _⟩ := h
      exact g.seq0 (.inl (.inl hl))) (fun i x σ H2 H3 hi hp hy => ?_) (fun σ H' hp => ?_)
  · obtain ⟨a0, b0, c0, rfl, gr, hF⟩ := hp
    obtain ⟨T, x1, x2, rfl, nT, rfl, ei, ex⟩ := hy
    replace ex : (zs.map V.str)[i]? = some x2 := ex
    rw [List.getElem?_map] at ex
    cases ez : zs[i]? with
    | none => rw [ez] at ex; cases ex
    | some a =>
      rw [ez] at ex
      cases ex
      cases ei
      have gr2 : Grow [] H (upd H2 T (.tup [.int (i : Nat), .str a])) := gr.new nT
      have hF2 : LstT K (upd H2 T (.tup [.int (i : Nat), .str a])) F ((prsTo (later ws) zs i).map encP) := hF.grow (grow_new nT) (lists_none _) (by simp)
      have tF : tyV K "list" (.ref F) (upd H2 T (.tup [.int (i : Nat), .str a])) := by
        obtain ⟨_, e, _⟩ := hF2
        exact tyl e
      refine ⟨T, _, rfl, .inl (.inl upd_same), rfl, _, _, rfl, _, _, rfl, rfl, .ref F, rfl, tF, .ref l, rfl, .int i, rfl, _, _, rfl, rfl, _, rfl, l, _, rfl, gr2.seq0 (.inl (.inl hl)), fun L nL => ⟨L, rfl, ⟨_, .inl (.inl upd_same)⟩, fun D1 n1 => ?_⟩⟩
      rw [show cutV (zs.map V.str) (some ((i : Int) + 1)) none = (zs.drop (i + 1)).map V.str by rw [cut_from, List.map_drop]] at n1 ⊢
      have gL := gr2.new (o := .lst ((zs.drop (i + 1)).map V.str)) nL
      have eL : upd (upd H2 T (.tup [.int (i : Nat), .str a])) L (.lst ((zs.drop (i + 1)).map V.str)) L = some (.lst ((zs.drop (i + 1)).map V.str)) := upd_same
      have hF3 := hF2.grow (grow_new (ex := []) (o := .lst ((zs.drop (i + 1)).map V.str)) nL) (lists_none _) (by simp)
      refine lc_it (walk_list (xs := (zs.drop (i + 1)).map V.str)) (fun j H' => Grow [] (upd (upd H2 T (.tup [.int (i : Nat), .str a])) L (.lst ((zs.drop (i + 1)).map V.str))) H' ∧ LstT K H' D1 (((((zs.drop (i + 1)).take j).filter (later ws a)).map fun b => (a, b)).map encP))
        ⟨grow_new n1, [], upd_same, .nil⟩ (fun j H' _ h => h.1.seq0 (.inl (.inl eL))) (fun j x H4 H5 hj hp hy => ?_) (fun H' hp => ?_)
      · obtain ⟨gj, hDj⟩ := hp
        obtain ⟨rfl, ex⟩ := hy
        rw [List.getElem?_map] at ex
        cases eb : (zs.drop (i + 1))[j]? with
        | none => rw [eb] at ex; cases ex
        | some b =>
          rw [eb] at ex
          cases ex
          have hb : b ∈ zs := List.mem_of_mem_drop (List.mem_of_getElem? eb)
          have ha : a ∈ zs := List.mem_of_getElem? ez
          have ta : (zs.drop (i + 1)).take (j + 1) = (zs.drop (i + 1)).take j ++ [b] := by
            rw [List.take_add_one, eb]
            rfl
          have em := (gL.trans gj).lst (by simp) hm
          refine ⟨rfl, .ref m, rfl, tyl em, .str b, rfl, ?_⟩
          dsimp only [tNil]
          refine index_str (.inl (.inl em)) (pm.mem_iff.mp hb) ⟨.ref m, rfl, tyl em, .str a, rfl, ?_⟩
          dsimp only [tNil]
          refine index_str (.inl (.inl em)) (pm.mem_iff.mp ha) ⟨_, _, rfl, rfl, _, rfl, ?_⟩
          rw [ta]
          refine ite2 (fun hlt => ?_) fun hlt => ?_
          · have lt : later ws a b = true := decide_eq_true (by have := of_decide_eq_true hlt; omega)
            rw [show ((((zs.drop (i + 1)).take j ++ [b]).filter (later ws a)).map fun b => (a, b)).map encP = ((((zs.drop (i + 1)).take j).filter (later ws a)).map fun b => (a, b)).map encP ++ [encP (a, b)] by simp [List.filter_append, lt]]
            refine ⟨_, rfl, _, rfl, by show 2 ≤ sizeLine; decide, fun p np => ?_⟩
            have e5 : upd H5 p (.tup [.str a, .str b]) p = some (.tup [.str a, .str b]) := upd_same
            obtain ⟨acc, q1, q2, q3⟩ := hDj.push (grow_new np) (.tup e5 (.cons (dpT_str a) (.cons (dpT_str b) .nil)))
            refine ⟨acc, q1, ?_, (gj.new np).put (fresh_none n1) q1 (fun ps z => by cases z), q3⟩
            rw [q2, List.length_map, List.length_map]
            have h2 := List.length_filter_le (later ws a) ((zs.drop (i + 1)).take j)
            have h3 : ((zs.drop (i + 1)).take j).length ≤ zs.length := by
              rw [List.length_take, List.length_drop]
              omega
            have h4 := bz.len
            unfold sizeLine
            omega
          · have lt : ¬ later ws a b = true := fun z => by
              have h1 := of_decide_eq_true z
              exact hlt (decide_eq_true (by omega))
            rw [show ((zs.drop (i + 1)).take j ++ [b]).filter (later ws a) = ((zs.drop (i + 1)).take j).filter (later ws a) by simp [List.filter_append, lt]]
            exact ⟨gj, hDj⟩
      · obtain ⟨gj, hDj⟩ := hp
        rw [List.length_map, List.take_length] at hDj
        have hF4 := hF3.grow gj (lists_none _) (by simp)
        obtain ⟨xs, ys, q1, q2, q3, q4, q5⟩ := hF4.ext hDj
        have e : zs.getD i Str.empty = a := by
          rw [List.getD_eq_getElem?_getD, ez]
          rfl
        refine ⟨F, D1, xs, ys, rfl, rfl, q1, q2, ?_, _, _, _, rfl, (gL.trans gj).put (fresh_none nF) q1 (fun ps z => by cases z), ?_⟩
        · rw [q3, q4, List.length_map, List.length_map, List.length_map]
          have h1 := prsTo_len (later ws) zs i
          have h2 := List.length_filter_le (later ws a) (zs.drop (i + 1))
          rw [List.length_drop] at h2
          have h4 := bz.len
          have h5 : i * zs.length ≤ 200 * 200 := Nat.mul_le_mul (by rw [List.length_map] at hi; omega) h4
          unfold sizeLine
          omega
        · rw [prsTo, e, List.map_append]
          exact q5
  · obtain ⟨a0, b0, c0, rfl, gr, hF⟩ := hp
    rw [List.length_map] at hF
    exact ⟨.ref F, rfl, q F H' (fresh_none nF) gr hF⟩
end

end Lw

namespace Lw
open PySem PySem.Spec PyProof.Rows L2 GxR Gx
/-! ### _law_is_count, _law_due of any thing -/
section
variable {P : Program} {w : World} {K : PySem.W.Frag} {mg : Str → Option Value} {base : Heap}
def spCountV (K : PySem.W.Frag) : Sp := fun vs H Q _ => ∃ (v : V) (r : Int), vs = [v, .int r] ∧ Nt K H v ∧ Q (.bl (countV r v)) H
theorem ok_law_is_count {f c : Addr} {fd : FuncData} (B : Nb mg) (D : DefIs K "_law_is_count" "_law_is_count" st_law_is_count f fd (.ref c)) : FnG P w K mg base CX0 1 f fd ["thing", "most"] (spCountV K) := by
  refine D.ok0 (k := 0) sc_law_is_count (fun vs H Q E h => ?_) (fun A outer s H vs Q E g hr h => ?_)
  · obtain ⟨v, r, rfl, _⟩ := h
    rfl
  obtain ⟨v, r, rfl, ⟨T, tb, ty, k1, k2, t1, t2⟩, q⟩ := h
  refine ⟨_,
      (pss_one (ps_ret (pe_and (pe_callB call_isi rfl B.n_isinstance (by decide +kernel) (pa_cons (pv 0) (pa_cons (pe_bltn (v := .ty "int") rfl B.n_int (by decide +kernel) rfl) pa_nil))) (pe_and (pe_not (pe_callB call_isi rfl B.n_isinstance (by decide +kernel) (pa_cons (pv 0) (pa_cons (pe_bltn (v := .ty "bool") rfl B.n_bool (by decide +kernel) rfl) pa_nil)))) (pe_one (pe_chain (op_le) (op_le) pe_int (pv 0) (pv 1))))))), ?_⟩
  have no : T ≠ "int" → Q (.bl false) H := fun n => by
    have e := t2 n fun i => decide (0 ≤ i ∧ i ≤ r)
    unfold countV at q
    rw [e] at q
    exact q
  refine ⟨v, rfl, v, .ty "int", .type T, .type "int", _, rfl, .ty "int", ty, k1, _, rfl, ?_⟩
  by_cases hT : T = "int"
  · obtain ⟨i, rfl⟩ := t1 hT
    have q : Q (.bl (decide (0 ≤ i ∧ i ≤ r))) H := q
    subst hT
    refine iteT ⟨.int i, rfl, .int i, .ty "bool", .type "int", .type "bool", false, rfl, .ty "bool", .base (.int i), rfl, false, rfl, ?_⟩
    refine ⟨true, rfl, iteT ?_⟩
    refine ⟨.int i, rfl, 0, i, rfl, rfl, _, rfl, ?_⟩
    by_cases c : 0 ≤ i
    · rw [decide_eq_true c]
      rw [show decide (0 ≤ i ∧ i ≤ r) = decide (i ≤ r) from decide_eq_decide.mpr ⟨fun h => h.2, fun h => ⟨c, h⟩⟩] at q
      exact iteT ⟨.int r, rfl, i, r, rfl, rfl, q⟩
    · rw [decide_eq_false c]
      rw [show decide (0 ≤ i ∧ i ≤ r) = false from decide_eq_false fun h => c h.1] at q
      exact iteF q
  · rw [decide_eq_false hT]
    by_cases hB : T = "bool"
    · rw [decide_eq_true hB]
      have nb : PySem.W.kitOne K (.type T) (.type "bool") = some true := by rw [k2, decide_eq_true hB]
      refine iteT ⟨v, rfl, v, .ty "bool", .type T, .type "bool", true, rfl, .ty "bool", ty, nb, true, rfl, false, rfl, ?_⟩
      exact iteF (no hT)
    · rw [decide_eq_false hB]
      exact iteF (no hT)
theorem walk_none {d : Addr} {o : Obj} : Walk (ItN d o) 1 (fun H => H d = some (.frz o (ndo d))) (fun i H x H' => H' = H ∧ x = .non ∧ i < 1) :=
  ⟨fun _ _ hi q => ⟨q, hi⟩, fun _ q => ⟨q, Nat.le_refl _⟩, fun _ _ _ _ _ _ y => y⟩
theorem in_key {k : Key} : ∀ {zs : List Str}, inV (kV k) (zs.map V.str) = keyIn zs k
  | [] => rfl
  | z :: zs => by
    have ih := in_key (k := k) (zs := zs)
    unfold inV keyIn at ih ⊢
    rw [List.map_cons, List.any_cons, List.any_cons, ih]
    congr 1
    cases k with
    | inl i => rfl
    | inr y =>
      show decide (z = y) = decide (Sum.inr y = Sum.inr z)
      exact decide_eq_decide.mpr ⟨fun e => by rw [e], fun e => (Sum.inr.inj e).symm⟩
theorem in_none : ∀ {zs : List Str}, inV .non (zs.map V.str) = false
  | [] => rfl
  | z :: zs => by
    have ih := in_none (zs := zs)
    unfold inV at ih ⊢
    rw [List.map_cons, List.any_cons, ih]
    rfl
theorem flat_key (k : Key) : flatV (kV k) = true := by cases k <;> rfl
/-- a filtered list is empty -/
theorem filt_nil {α β : Type} {f : α → β} [DecidableEq β] {p : α → Bool} {xs : List α} : decide ((xs.filter fun x => !p x).map f = []) = xs.all p := by
  rw [Bool.eq_iff_iff, decide_eq_true_iff, List.map_eq_nil_iff, List.filter_eq_nil_iff, List.all_eq_true]
  refine forall_congr' fun x => forall_congr' fun _ => ?_
  cases p x <;> simp
theorem flat_strs (zs : List Str) : (zs.map V.str).all flatV = true := by
  rw [List.all_map]
  exact List.all_eq_true.mpr fun _ _ => rfl
def spDueV (K : PySem.W.Frag) : Sp := fun vs H Q _ => ∃ (l m : Addr) (v : V) (zs ws : List Str) (r : Int) (t : Td), vs = [.ref l, .ref m, .int r, v] ∧ H l = some (.lst (zs.map V.str)) ∧ H m = some (.lst (ws.map V.str)) ∧ Bk zs ∧ zs.Perm ws ∧
  Tg K H v t ∧ ∀ H', Grow [] H H' → Q (.bl (dueT zs ws r t)) H'
theorem ok_law_due {f c : Addr} {fd : FuncData} (B : Nb mg) (D : DefIs K "_law_due" "_law_due" st_law_due f fd (.ref c))
    (c_law_is_count : Callee P w K mg base CX0 1 "_law_is_count" ["thing", "most"] (spCountV K)) (c_law_turned : Callee P w K mg base CX0 4 "_law_turned" ["book", "other"] (spDue K)) :
    FnG P w K mg base CX0 5 f fd ["book", "other", "roads", "thing"] (spDueV K) := by
  refine D.ok0 (k := 4) sc_law_due (fun vs H Q E h => ?_) (fun A outer s H vs Q E g hr h => ?_)
  · obtain ⟨l, m, v, zs, ws, r, t, rfl, _⟩ := h
    rfl
  obtain ⟨l, m, v, zs, ws, r, t, rfl, hl, hm, bz, pm, hv, q⟩ := h
  refine ⟨_,
      (pss_cons (ps_if (PW.pt (pw_or (pt_not (pt_val (pe_callB call_isiN rfl B.n_isinstance (by decide +kernel) (pa_cons (pv 3) (pa_cons (pe_bltn (v := .ty "dict") rfl B.n_dict (by decide +kernel) rfl) pa_nil))))) (pw_or1 (pt_cmpR (op_ne) (pe_callB (call_lenN (hu_of hr)) rfl B.n_len (by decide +kernel) (pa_cons (pv 3) pa_nil)) (pe_callB call_len_seq rfl B.n_len PySem.boot_len (pa_cons (pv 0) pa_nil)) (nomark _))))) (
        (pss_one (ps_ret pe_bl))) pss_nil)
      (pss_cons (ps_if (pt_cmpR (op_neE hr.units) (pe_lock (pe_lc (own := [("word", 4)]) (g := (gName 4)) rfl sc_law_due.nd (pi_keysN (pv 3)) (blkOk_by (N := N_law_due) (sc := defScope st_law_due) (by decide +kernel)) (fun _ _ _ _ _ => (pg_name (i := 4) sc_law_due.nd rfl (.inl rfl))) (fun _ _ _ _ _ => pts_to (pts_one (pt_cmpR (op_notIn_seq) (pv 4) (pv 0) rfl))) (fun _ _ _ _ _ => pe_to (pv 4)))) (pe_lst pa_nil) (nomark _)) (
        (pss_one (ps_ret pe_bl))) pss_nil)
      (pss_cons (ps_if (pt_cmpR (op_neE hr.units) (pe_lc (own := [("word", 4)]) (g := (gName 4)) rfl sc_law_due.nd (pi_list (pv 0)) (blkOk_by (N := N_law_due) (sc := defScope st_law_due) (by decide +kernel)) (fun _ _ _ _ _ => (pg_name (i := 4) sc_law_due.nd rfl (.inl rfl))) (fun _ _ _ _ _ => pts_to (pts_one (pt_not (pt_val (pe_g c_law_is_count g (hr.mono (by decide)) pass0 (pa_cons (pe_dget (hu_of hr) (pv 3) (pv 4) (fun _ _ => rfl)) (pa_cons (pv 2) pa_nil))))))) (fun _ _ _ _ _ => pe_to (pv 4))) (pe_lst pa_nil) (nomark _)) (
        (pss_one (ps_ret pe_bl))) pss_nil)
      (pss_one (ps_ret (pe_cmpR (op_eqE hr.units) (pe_lc (own := [("a", 5), ("b", 6)]) (g := (gTup _ 2 (gCons (gName 5) (gCons (gName 6) gNil)))) rfl sc_law_due.nd (pi_list (pe_g c_law_turned g (hr.mono (by decide)) pass0 (pa_cons (pv 0) (pa_cons (pv 1) pa_nil)))) (blkOk_by (N := N_law_due) (sc := defScope st_law_due) (by decide +kernel)) (fun _ _ _ _ _ => (pg_tup rfl (pgs_cons (pg_name (i := 5) sc_law_due.nd rfl (.inl rfl)) (pgs_cons (pg_name (i := 6) sc_law_due.nd rfl (.inl rfl)) pgs_nil)))) (fun _ _ _ _ _ => pts_to (pts_one (pt_cmpR (op_ge) (pe_dget (hu_of hr) (pv 3) (pv 5) (fun _ _ => rfl)) (pe_dget (hu_of hr) (pv 3) (pv 6) (fun _ _ => rfl)) (nomark _)))) (fun _ _ _ _ _ => pe_to pe_int)) (pe_lst pa_nil) (nomark _))))))), ?_⟩
  cases hv with
  | odd h =>
    obtain ⟨Ty, n1, tb, ty, kit⟩ := h.ty
    exact ⟨v, rfl, .inl ⟨v, .ty "dict", .type Ty, .type "dict", false, rfl, .ty "dict", ty, kit, false, rfl, iteT (q H (Grow.refl _ _))⟩⟩
  | @nd N eN =>
    refine ⟨.ref N, rfl, .inr ⟨N, "dict", true, rfl, eN, rfl, true, rfl, iteF ?_⟩⟩
    refine ⟨.ref N, rfl, N, rfl, .inr ⟨eN, .ref l, rfl, l, _, rfl, .inl (.inl (.inl hl)), rfl, ?_⟩⟩
    refine ⟨_, rfl, ite2 (fun _ => q H (Grow.refl _ _)) fun _ => ?_⟩
    refine ⟨N, ndo N, eN, trivial, fun od => ⟨.ref N, rfl, N, od, rfl, .inr ⟨upd_same, fun D1 nD => ?_⟩⟩⟩
    have fg : Grow [N] H (upd H N (.frz od (ndo N))) := grow_at eN (fun ps z => by cases z) (by simp)
    have stay : ∀ {H2 : Hp}, Grow [] (upd H N (.frz od (ndo N))) H2 → H2 N = some (.frz od (ndo N)) := fun g => g.keep N _ (by simp) upd_same fun ps z => by cases z
    have lN : l ∉ [N] := by simp; exact ne_of hl eN (by simp [ndo])
    refine lc_filt walk_none [()] (fun _ => true) (fun _ => V.non) nD rfl (by simp) (fun H' g => stay g) (fun i z x Ha Hb Pu Pn ez ga hy ku kn => ?_) (fun H2 g2 e2 => ?_)
    · obtain ⟨rfl, rfl, _⟩ := hy
      refine ⟨rfl, .non, rfl, .ref l, rfl, l, _, rfl, .inl (.inl (.inl (ga.lst (by simp) (fg.lst lN hl)))), rfl, flat_strs zs, ?_⟩
      refine ⟨_, rfl, ?_⟩
      rw [in_none]
      exact iteT ⟨.non, rfl, ku _ (Grow.refl _ _) rfl⟩
    · refine ⟨stay g2, ?_⟩
      have g3 := grow_unlock eN (fun ps z => by cases z) g2 (stay g2)
      have nN : D1 ≠ N := fun z => by rw [z, upd_same] at nD; cases nD
      have e3 : upd H2 N (ndo N) D1 = some (.lst [V.non]) := by rw [upd_ne nN]; exact e2
      generalize upd H2 N (ndo N) = H3 at g3 e3 ⊢
      refine ⟨by show 0 ≤ sizeLine; decide, fun E0 nE => ?_⟩
      refine ⟨D1, E0, _, rfl, rfl, (grow_new (ex := []) nE).lst (by simp) e3, upd_same, _, rfl, ?_⟩
      exact iteT (q _ (g3.trans (grow_new nE)))
  | @dic N kvs eN nk kl kv =>
    refine ⟨.ref N, rfl, .inl ⟨.ref N, .ty "dict", .type "dict", .type "dict", true, rfl, .ty "dict", .base (.dK eN), rfl, true, rfl, iteF ?_⟩⟩
    refine ⟨.ref N, rfl, N, rfl, .inl ⟨kvs, eN, .ref l, rfl, l, _, rfl, .inl (.inl (.inl hl)), rfl, ?_⟩⟩
    have ne : kvs.length ≠ zs.length → dueT zs ws r (.dic kvs) = false := fun n => dueD_len n
    refine ⟨_, rfl, ite2 (fun e => ?_) fun e => ?_⟩
    · have n : kvs.length ≠ zs.length := fun z => by
        rw [decide_eq_true (show V.int ((kvs.length : Nat) : Int) = V.int (((zs.map V.str).length : Nat) : Int) by rw [List.length_map, z])] at e
        cases e
      have q := q H (Grow.refl _ _)
      rw [ne n] at q
      exact q
    have lk : kvs.length = zs.length := by
      refine Classical.byContradiction fun n => e ?_
      rw [decide_eq_false (fun z : V.int ((kvs.length : Nat) : Int) = V.int (((zs.map V.str).length : Nat) : Int) => n (by rw [List.length_map] at z; exact Int.ofNat.inj (V.int.inj z)))]
      rfl
    refine ⟨N, .dK kvs, eN, trivial, fun od => ⟨.ref N, rfl, N, od, rfl, .inl ⟨kvs, upd_same, fun D1 nD => ?_⟩⟩⟩
    have fg : Grow [N] H (upd H N (.frz od (.dK kvs))) := grow_at eN (fun ps z => by cases z) (by simp)
    have stay : ∀ {H2 : Hp}, Grow [] (upd H N (.frz od (.dK kvs))) H2 → H2 N = some (.frz od (.dK kvs)) := fun g => g.keep N _ (by simp) upd_same fun ps z => by cases z
    have lN : l ∉ [N] := by simp; exact ne_of hl eN (by simp)
    refine lc_filt walk_keys kvs (fun kv => !keyIn zs kv.1) (fun kv => kV kv.1) nD rfl (by omega) (fun H' g => stay g) (fun i z x Ha Hb Pu Pn ez ga hy ku kn => ?_) (fun H2 g2 e2 => ?_)
    · obtain ⟨rfl, k, u, ex, rfl⟩ := hy
      rw [ez] at ex
      cases ex
      refine ⟨rfl, _, rfl, .ref l, rfl, l, _, rfl, .inl (.inl (.inl (ga.lst (by simp) (fg.lst lN hl)))), flat_key k, flat_strs zs, ?_⟩
      refine ⟨_, rfl, ?_⟩
      rw [in_key]
      cases c : keyIn zs k with
      | true => exact iteF (kn _ (Grow.refl _ _) (by show (!keyIn zs k) = false; rw [c]; rfl))
      | false => exact iteT ⟨_, rfl, ku _ (Grow.refl _ _) (by show (!keyIn zs k) = true; rw [c]; rfl)⟩
    refine ⟨stay g2, ?_⟩
    have g3 := grow_unlock eN (fun ps z => by cases z) g2 (stay g2)
    have nN : D1 ≠ N := fun z => by rw [z, upd_same] at nD; cases nD
    have e3 : upd H2 N (.dK kvs) D1 = some (.lst ((kvs.filter fun kv => !keyIn zs kv.1).map fun kv => kV kv.1)) := by rw [upd_ne nN]; exact e2
    generalize upd H2 N (.dK kvs) = H3 at g3 e3 ⊢
    refine ⟨by show 0 ≤ sizeLine; decide, fun E0 nE => ?_⟩
    refine ⟨D1, E0, _, rfl, rfl, (grow_new (ex := []) nE).lst (by simp) e3, upd_same, _, rfl, ?_⟩
    have g4 := g3.trans (grow_new (ex := []) (o := .lst []) nE)
    generalize upd H3 E0 (.lst []) = H4 at g4 ⊢
    rw [filt_nil (p := fun kv : Key × V => keyIn zs kv.1)]
    cases ak : kvs.all fun kv => keyIn zs kv.1 with
    | false =>
      have q := q H4 g4
      rw [show dueT zs ws r (.dic kvs) = false from dueD_key ak] at q
      exact iteT q
    | true =>
      refine iteF ?_
      have eN4 : ∀ {H5 : Hp}, Grow [] H4 H5 → H5 N = some (.dK kvs) := fun g => (g4.trans g).keep N _ (by simp) eN fun ps z => by cases z
      have dg : ∀ {H5 : Hp}, Grow [] H4 H5 → ∀ z : Str, DGet H5 N (.str z) (valV kvs (.inr z)) := fun g z => DGet.k (k := .inr z) (eN4 g)
      have has := fun z (hz : z ∈ zs) => keys_all nk lk ak hz
      refine ⟨.ref l, rfl, l, rfl, ⟨_, .inl (.inl (g4.lst (by simp) hl))⟩, fun D2 nD2 => ?_⟩
      refine lc_filt (walk_list (xs := zs.map V.str)) zs (fun z => !countV r (valOf kvs z)) V.str nD2 (by rw [List.length_map]) (by have := bz.len; omega) (fun H' g => .inl (.inl ((g4.trans g).lst (by simp) hl))) (fun i z x Ha Hb Pu Pn ez ga hy ku kn => ?_) (fun H5 g5 e5 => ?_)
      · obtain ⟨rfl, ex⟩ := hy
        rw [List.getElem?_map, ez] at ex
        cases ex
        obtain ⟨u, eu⟩ := has z (List.mem_of_getElem? ez)
        have d := dg ga z
        rw [eu] at d
        have nt : Nt K Hb u := ((kv _ (valV_val eu)).grow0 (g4.trans ga)).nt
        refine ⟨rfl, .ref N, rfl, .str z, rfl, N, _, rfl, d, .int r, rfl, u, r, rfl, nt, _, rfl, ?_⟩
        have ev := valOf_some eu
        cases c : countV r u with
        | true => exact iteF (kn _ (Grow.refl _ _) (by show (!countV r (valOf kvs z)) = false; rw [ev, c]; rfl))
        | false => exact iteT ⟨.str z, rfl, ku _ (Grow.refl _ _) (by show (!countV r (valOf kvs z)) = true; rw [ev, c]; rfl)⟩
      refine ⟨by show 0 ≤ sizeLine; decide, fun E1 nE1 => ?_⟩
      refine ⟨D2, E1, _, rfl, rfl, (grow_new (ex := []) nE1).lst (by simp) e5, upd_same, _, rfl, ?_⟩
      have g6 := (g4.trans g5).trans (grow_new (ex := []) (o := .lst []) nE1)
      have g46 := g5.trans (grow_new (ex := []) (o := .lst []) nE1)
      generalize upd H5 E1 (.lst []) = H6 at g6 g46 ⊢
      rw [filt_nil (p := fun z => countV r (valOf kvs z))]
      cases av : zs.all fun z => countV r (valOf kvs z) with
      | false =>
        have q := q H6 g6
        rw [show dueT zs ws r (.dic kvs) = false from dueD_val av] at q
        exact iteT q
      | true =>
        refine iteF ?_
        have due : dueT zs ws r (.dic kvs) = (prsTo (later ws) zs zs.length).all fun p => ltV (valOf kvs p.1) (valOf kvs p.2) := dueD_pairs lk ak av
        refine ⟨.ref l, rfl, .ref m, rfl, l, m, zs, ws, rfl, g6.lst (by simp) hl, g6.lst (by simp) hm, bz, pm, fun R H7 fR g7 hR => ?_⟩
        obtain ⟨xs, e7, t7⟩ := id hR
        refine ⟨R, rfl, ⟨xs, .inl (.inl e7)⟩, fun D3 nD3 => ?_⟩
        have lx : xs.length = (prsTo (later ws) zs zs.length).length := by have := t7.length; rw [List.length_map] at this; omega
        refine lc_filt (walk_list (xs := xs)) (prsTo (later ws) zs zs.length) (fun p => !ltV (valOf kvs p.1) (valOf kvs p.2)) (fun _ => V.int 1) nD3 lx (by have := prs_len (ws := ws) bz; omega) (fun H' g => .inl (.inl (g.lst (by simp) e7))) (fun i p x Ha Hb Pu Pn ep ga hy ku kn => ?_) (fun H8 g8 e8 => ?_)
        · obtain ⟨rfl, ex⟩ := hy
          obtain ⟨d, hd, td⟩ := t7.get ex
          rw [List.getElem?_map, ep] at hd
          cases hd
          have mp := List.mem_of_getElem? ep
          obtain ⟨r1, rfl, hr1⟩ := pair_inv (td.grow ga (lists_none _))
          have m1 := (mem_prs bz.nd).mp mp
          have gg := (g46.trans g7).trans ga
          have cz : ∀ z ∈ zs, ∃ j : Int, valV kvs (.inr z) = some (.int j) := fun z hz => by
            obtain ⟨u, eu⟩ := has z hz
            have c := List.all_eq_true.mp av z hz
            rw [valOf_some eu] at c
            obtain ⟨j, rfl⟩ := countV_int c
            exact ⟨j, eu⟩
          obtain ⟨i1, c1⟩ := cz _ m1.1
          obtain ⟨i2, c2⟩ := cz _ m1.2.1
          have d1 := dg gg p.1
          have d2 := dg gg p.2
          rw [c1] at d1
          rw [c2] at d2
          refine ⟨r1, _, rfl, .inl (.inl hr1), rfl, _, _, rfl, _, _, rfl, rfl, rfl, .ref N, rfl, .str p.1, rfl, N, _, rfl, d1, .ref N, rfl, .str p.2, rfl, N, _, rfl, d2, _, _, rfl, rfl, _, rfl, ?_⟩
          have ev : ltV (valOf kvs p.1) (valOf kvs p.2) = decide (i1 < i2) := by rw [valOf_some c1, valOf_some c2]; rfl
          by_cases c : i2 ≤ i1
          · rw [decide_eq_true c]
            exact iteT (ku _ (Grow.refl _ _) (by show (!ltV (valOf kvs p.1) (valOf kvs p.2)) = true; rw [ev, decide_eq_false (by omega)]; rfl))
          · rw [decide_eq_false c]
            exact iteF (kn _ (Grow.refl _ _) (by show (!ltV (valOf kvs p.1) (valOf kvs p.2)) = false; rw [ev, decide_eq_true (by omega)]; rfl))
        refine ⟨by show 0 ≤ sizeLine; decide, fun E2 nE2 => ?_⟩
        refine ⟨D3, E2, _, rfl, rfl, (grow_new (ex := []) nE2).lst (by simp) e8, upd_same, ?_⟩
        rw [filt_nil (p := fun p : Str × Str => ltV (valOf kvs p.1) (valOf kvs p.2))]
        have q := q _ (((g6.trans g7).trans g8).trans (grow_new (ex := []) (o := .lst []) nE2))
        rw [due] at q
        exact q
end

end Lw

namespace Lw
open PySem PySem.Spec PyProof.Rows L2 GxR Gx
/-! ### ranks -/
def topI : List Int → Int
  | [] => 0
  | x :: r => r.foldl max x
theorem topI_le : ∀ (r : List Int) (x : Int), x ≤ r.foldl max x ∧ (∀ y ∈ r, y ≤ r.foldl max x) ∧ (r.foldl max x = x ∨ r.foldl max x ∈ r)
  | [], x => ⟨Int.le_refl _, fun y h => (by cases h), .inl rfl⟩
  | z :: r, x => by
    obtain ⟨h1, h2, h3⟩ := topI_le r (max x z)
    refine ⟨by show x ≤ r.foldl max (max x z); omega, fun y hy => ?_, ?_⟩
    · show y ≤ r.foldl max (max x z)
      rcases List.mem_cons.mp hy with rfl | hy
      · omega
      · exact h2 y hy
    · show r.foldl max (max x z) = x ∨ r.foldl max (max x z) ∈ z :: r
      rcases h3 with h | h
      · rw [h]
        by_cases hxz : x ≤ z
        · exact .inr (by rw [show max x z = z by omega]; exact List.mem_cons_self)
        · exact .inl (by omega)
      · exact .inr (List.mem_cons_of_mem _ h)
theorem topI_of {ns : List Int} {m : Int} (h : TopOf 0 ns m) : m = topI ns := by
  cases ns with
  | nil =>
    rcases h with ⟨_, h⟩ | ⟨h, _⟩
    · exact h
    · cases h
  | cons x r =>
    obtain ⟨h1, h2, h3⟩ := topI_le r x
    rcases h with ⟨h, _⟩ | ⟨h, hm⟩
    · cases h
    · show m = r.foldl max x
      have a1 : m ≤ r.foldl max x := by
        rcases List.mem_cons.mp h with rfl | h
        · exact h1
        · exact h2 m h
      have a2 : r.foldl max x ≤ m := by
        rcases h3 with e | e
        · rw [e]
          exact hm x List.mem_cons_self
        · exact hm _ (List.mem_cons_of_mem _ e)
      omega
/-- the ranks of those that stand ahead of w turned -/
def aheadR (lt : Str → Str → Bool) (acc : List (Str × Int)) (w : Str) : List Int := (acc.filter fun p => lt p.1 w).map Prod.snd
def ranksTo (lt : Str → Str → Bool) (zs : List Str) : Nat → List (Str × Int)
  | 0 => []
  | i + 1 => ranksTo lt zs i ++ [(zs.getD i Str.empty, 1 + topI (aheadR lt (ranksTo lt zs i) (zs.getD i Str.empty)))]
def kvR (ps : List (Str × Int)) : List (Key × V) := ps.map fun p => (Sum.inr p.1, V.int p.2)
theorem ranksTo_len (lt : Str → Str → Bool) (zs : List Str) : ∀ i, (ranksTo lt zs i).length = i
  | 0 => rfl
  | i + 1 => by rw [ranksTo, List.length_append, ranksTo_len lt zs i]; rfl
theorem ranksTo_keys (lt : Str → Str → Bool) (zs : List Str) : ∀ i, i ≤ zs.length → (ranksTo lt zs i).map Prod.fst = zs.take i
  | 0, _ => rfl
  | i + 1, h => by
    have hz : zs[i]? = some (zs.getD i Str.empty) := by
      rw [List.getD_eq_getElem?_getD, List.getElem?_eq_getElem (by omega)]
      rfl
    rw [ranksTo, List.map_append, ranksTo_keys lt zs i (by omega), List.take_add_one, hz]
    rfl

/-! ### the longest rank -/
def topD (d : Int) (ns : List Int) : Int := if ns = [] then d else topI ns
theorem topD_of {d : Int} {ns : List Int} {m : Int} (h : TopOf d ns m) : m = topD d ns := by
  unfold topD
  rcases h with ⟨h, e⟩ | ⟨h, hm⟩
  · rw [if_pos h]
    exact e
  · rw [if_neg (fun z => by rw [z] at h; cases h)]
    exact topI_of (.inr ⟨h, hm⟩)
def ranksOf (ws zs : List Str) : List Int := (ranksTo (later ws) zs zs.length).map Prod.snd

/-! ### what the ranks are -/
def rkAt (lt : Str → Str → Bool) (zs : List Str) (i : Nat) : Int := 1 + topI (aheadR lt (ranksTo lt zs i) (zs.getD i Str.empty))
theorem ranksTo_at (lt : Str → Str → Bool) (zs : List Str) : ∀ {n i : Nat}, i < n → (ranksTo lt zs n)[i]? = some (zs.getD i Str.empty, rkAt lt zs i)
  | n + 1, i, h => by
    rw [ranksTo]
    by_cases hi : i < n
    · rw [List.getElem?_append_left (by rw [ranksTo_len]; exact hi)]
      exact ranksTo_at lt zs hi
    · have e : i = n := by omega
      subst e
      rw [List.getElem?_append_right (by rw [ranksTo_len]; exact Nat.le_refl _), ranksTo_len, Nat.sub_self]
      rfl
theorem mem_ahead {lt : Str → Str → Bool} {zs : List Str} {i : Nat} {r : Int} : r ∈ aheadR lt (ranksTo lt zs i) (zs.getD i Str.empty) ↔ ∃ a, a < i ∧ lt (zs.getD a Str.empty) (zs.getD i Str.empty) = true ∧ rkAt lt zs a = r := by
  unfold aheadR
  rw [List.mem_map]
  constructor
  · rintro ⟨p, hp, rfl⟩
    obtain ⟨h1, h2⟩ := List.mem_filter.mp hp
    obtain ⟨a, ha⟩ := List.mem_iff_getElem?.mp h1
    have hai : a < i := by
      have := (List.getElem?_eq_some_iff.mp ha).1
      rwa [ranksTo_len] at this
    rw [ranksTo_at lt zs hai] at ha
    cases ha
    exact ⟨a, hai, h2, rfl⟩
  · rintro ⟨a, h1, h2, rfl⟩
    exact ⟨(zs.getD a Str.empty, rkAt lt zs a), List.mem_filter.mpr ⟨List.mem_iff_getElem?.mpr ⟨a, ranksTo_at lt zs h1⟩, h2⟩, rfl⟩
theorem topI_ge {ns : List Int} {y : Int} (h : y ∈ ns) : y ≤ topI ns := by
  cases ns with
  | nil => cases h
  | cons x r =>
    obtain ⟨h1, h2, _⟩ := topI_le r x
    rcases List.mem_cons.mp h with rfl | h
    · exact h1
    · exact h2 y h
theorem topI_mem {ns : List Int} (h : ns ≠ []) : topI ns ∈ ns := by
  cases ns with
  | nil => exact absurd rfl h
  | cons x r =>
    obtain ⟨_, _, h3⟩ := topI_le r x
    rcases h3 with e | e
    · show r.foldl max x ∈ x :: r
      rw [e]
      exact List.mem_cons_self
    · exact List.mem_cons_of_mem _ e
theorem rk_pos (lt : Str → Str → Bool) (zs : List Str) : ∀ (n i : Nat), i < n → 1 ≤ rkAt lt zs i
  | n + 1, i, h => by
    unfold rkAt
    by_cases e : aheadR lt (ranksTo lt zs i) (zs.getD i Str.empty) = []
    · rw [e]
      exact Int.le_refl _
    · obtain ⟨a, h1, _, h3⟩ := mem_ahead.mp (topI_mem e)
      have := rk_pos lt zs n a (by omega)
      omega
theorem rk_up {lt : Str → Str → Bool} {zs : List Str} {a i : Nat} (h : a < i) (hl : lt (zs.getD a Str.empty) (zs.getD i Str.empty) = true) : rkAt lt zs a + 1 ≤ rkAt lt zs i := by
  have := topI_ge (mem_ahead.mpr ⟨a, h, hl, rfl⟩)
  show _ ≤ 1 + topI _
  omega
theorem rk_down {lt : Str → Str → Bool} {zs : List Str} {i : Nat} (h : 2 ≤ rkAt lt zs i) : ∃ a, a < i ∧ lt (zs.getD a Str.empty) (zs.getD i Str.empty) = true ∧ rkAt lt zs a = rkAt lt zs i - 1 := by
  have e : aheadR lt (ranksTo lt zs i) (zs.getD i Str.empty) ≠ [] := fun z => by
    unfold rkAt at h
    rw [z] at h
    exact absurd h (by decide)
  obtain ⟨a, h1, h2, h3⟩ := mem_ahead.mp (topI_mem e)
  refine ⟨a, h1, h2, ?_⟩
  rw [h3]
  show _ = 1 + topI _ - 1
  omega
theorem mem_ranksOf {ws zs : List Str} {r : Int} : r ∈ ranksOf ws zs ↔ ∃ i, i < zs.length ∧ rkAt (later ws) zs i = r := by
  unfold ranksOf
  rw [List.mem_map]
  constructor
  · rintro ⟨p, hp, rfl⟩
    obtain ⟨a, ha⟩ := List.mem_iff_getElem?.mp hp
    have hai := (List.getElem?_eq_some_iff.mp ha).1
    rw [ranksTo_len] at hai
    rw [ranksTo_at _ _ hai] at ha
    cases ha
    exact ⟨a, hai, rfl⟩
  · rintro ⟨i, h, rfl⟩
    exact ⟨_, List.mem_iff_getElem?.mpr ⟨i, ranksTo_at _ _ h⟩, rfl⟩
/-- turned, of two that stand in both books -/
theorem later_not {ws : List Str} {a b : Str} (ha : a ∈ ws) (hb : b ∈ ws) (ne : a ≠ b) (h : later ws a b = false) : later ws b a = true := by
  have h1 := of_decide_eq_false h
  refine decide_eq_true ?_
  have l1 := List.idxOf_lt_length_of_mem ha
  have l2 := List.idxOf_lt_length_of_mem hb
  have : ws.idxOf a ≠ ws.idxOf b := fun e => ne (by rw [← List.getElem_idxOf l1, ← List.getElem_idxOf l2]; congr 1)
  omega
theorem later_trans {ws : List Str} {a b c : Str} (h : later ws a b = true) (k : later ws b c = true) : later ws a c = true := by
  have h1 := of_decide_eq_true h
  have h2 := of_decide_eq_true k
  exact decide_eq_true (by omega)

/-! ### _law_levels -/
theorem max_zero {ns : List Int} {m : Int} (pos : ∀ y ∈ ns, 0 ≤ y) (h1 : m ∈ ns ++ [0]) (h2 : ∀ y, y ∈ ns ++ [0] → y ≤ m) : m = topI ns := by
  cases ns with
  | nil => exact List.mem_singleton.mp h1
  | cons x r =>
    have t1 := topI_mem (ns := x :: r) (by simp)
    have h3 := h2 _ (List.mem_append_left [0] t1)
    rcases List.mem_append.mp h1 with h | h
    · have := topI_ge h
      omega
    · have e := List.mem_singleton.mp h
      have := pos _ t1
      omega
def aheadN (lt : Str → Str → Bool) (acc : List (Str × Int)) (w : Str) : List Str := (acc.filter fun p => lt p.1 w).map Prod.fst
section
variable {P : Program} {w : World} {K : PySem.W.Frag} {mg : Str → Option Value} {base : Heap}
def spLevels (K : PySem.W.Frag) : Sp := fun vs H Q _ => ∃ (l m : Addr) (zs ws : List Str), vs = [.ref l, .ref m] ∧ H l = some (.lst (zs.map V.str)) ∧ H m = some (.lst (ws.map V.str)) ∧ Bk zs ∧ zs.Perm ws ∧
  ∀ (D : Addr) (H' : Hp), Fresh H D → Grow [] H H' → H' D = some (.dK (kvR (ranksTo (later ws) zs zs.length))) → Q (.ref D) H'
theorem ok_law_levels {f c : Addr} {fd : FuncData} (B : Nb mg) (D : DefIs K "_law_levels" "_law_levels" st_law_levels f fd (.ref c)) : FnG P w K mg base CX0 4 f fd ["book", "other"] (spLevels K) := by
  refine D.ok0 (k := 3) sc_law_levels (fun vs H Q E h => ?_) (fun A outer s H vs Q E g hr h => ?_)
  · obtain ⟨l, m, zs, ws, rfl, _⟩ := h
    rfl
  obtain ⟨l, m, zs, ws, rfl, hl, hm, bz, pm, q⟩ := h
  have bw := bz.perm pm
  refine ⟨_,
      (pss_cons (ps_set (i := 2) sc_law_levels.nd rfl (.inr rfl) pe_dnewK)
      (pss_cons (ps_for PassesOwn.never rfl (pi_list (pv 0)) (pg_name (i := 3) sc_law_levels.nd rfl (.inr rfl)) (
        (pss_cons (ps_lock (ps_setLc (i := 4) (own := [("a", 5)]) (g := (gName 5)) rfl sc_law_levels.nd rfl rfl (sw_true rfl rfl rfl (by decide +kernel)) (pi_keys (pv 2)) (blkOk_by (N := N_law_levels) (sc := defScope st_law_levels) (by decide +kernel)) (fun _ _ _ _ _ => (pg_name (i := 5) sc_law_levels.nd rfl (.inl rfl))) (fun _ _ _ _ _ => pts_to (pts_one (pt_cmpR (op_lt) (pe_bm PySem.F.plainAttrs_list PySem.F.slot_list_index PySem.F.type_list_index mt_index (pv 1) (pa_cons (pv 3) pa_nil)) (pe_bm PySem.F.plainAttrs_list PySem.F.slot_list_index PySem.F.type_list_index mt_index (pv 1) (pa_cons (pv 5) pa_nil)) (nomark _)))) (fun _ _ _ _ _ => pe_to (pv 5))))
        (pss_one (ps_asg (pe_op op_add pe_int (pe_callB (cr_max rfl) rfl B.n_max (by decide +kernel) (pa_cons (pe_op op_cat (pe_lc (own := [("a", 5)]) (tt := tYes) (g := (gName 5)) rfl sc_law_levels.nd (pi_list (pv 4)) (blkOk_by (N := N_law_levels) (sc := defScope st_law_levels) (by decide +kernel)) (fun _ _ _ _ _ => (pg_name (i := 5) sc_law_levels.nd rfl (.inl rfl))) (fun _ _ _ _ _ => pts_nil) (fun _ _ _ _ _ => pe_to (pe_dget (hu_of hr) (pv 2) (pv 5) (fun _ _ => rfl)))) (pe_lst (pa_cons pe_int pa_nil))) pa_nil))) (pg_sub (pv 2) (pv 3) (set_dict (hu_of hr))))))))
      (pss_one (ps_ret (pv 2))))), ?_⟩
  refine fun R nR => ⟨.ref l, rfl, l, rfl, ⟨_, .inl (.inl ((grow_new (ex := []) nR).lst (by simp) hl))⟩, ?_⟩
  have fR : Fresh H R := fresh_none nR
  refine for_it (walk_list (xs := zs.map V.str)) (fun i σ H' => ∃ a b c : Option V, σ = [some (.ref l), some (.ref m), some (.ref R), a, b, c] ∧ Grow [] H H' ∧ H' R = some (.dK (kvR (ranksTo (later ws) zs i)))) ⟨none, none, none, rfl, grow_new nR, upd_same⟩
    (fun i σ H' _ h => by
      obtain ⟨_, _, _, _, g, _⟩ := h
      exact .inl (.inl (g.lst (by simp) hl))) (fun i x σ H2 H3 hi hp hy => ?_) (fun σ H' hp => ?_)
  · obtain ⟨a0, b0, c0, rfl, gr, hR⟩ := hp
    obtain ⟨rfl, ex⟩ := hy
    rw [List.getElem?_map] at ex
    rw [List.length_map] at hi
    have ez : zs[i]? = some (zs.getD i Str.empty) := by
      rw [List.getD_eq_getElem?_getD, List.getElem?_eq_getElem hi]
      rfl
    rw [ez] at ex
    cases ex
    obtain ⟨wd, ewd⟩ : ∃ wd, zs.getD i Str.empty = wd := ⟨_, rfl⟩
    rw [ewd] at ez ⊢
    obtain ⟨acc, hacc⟩ : ∃ acc, ranksTo (later ws) zs i = acc := ⟨_, rfl⟩
    have hnext : ranksTo (later ws) zs (i + 1) = acc ++ [(wd, 1 + topI (aheadR (later ws) acc wd))] := by rw [ranksTo, hacc, ewd]
    have hkeys : acc.map Prod.fst = zs.take i := by rw [← hacc, ranksTo_keys _ _ _ (by omega)]
    have hlen : acc.length = i := by rw [← hacc, ranksTo_len]
    have hpos : ∀ y ∈ aheadR (later ws) acc wd, 0 ≤ y := fun y hy => by
      rw [← hacc, ← ewd] at hy
      obtain ⟨a, a1, _, rfl⟩ := mem_ahead.mp hy
      have := rk_pos (later ws) zs _ a a1
      omega
    rw [hacc] at hR
    rw [hnext]
    have hwd : wd ∈ zs := List.mem_of_getElem? ez
    have lk : (kvR acc).length = acc.length := by unfold kvR; rw [List.length_map]
    have mk : (kvR acc).map Prod.fst = (acc.map Prod.fst).map Sum.inr := by unfold kvR; rw [List.map_map, List.map_map]; rfl
    have ndK : ((kvR acc).map Prod.fst).Nodup := by
      rw [mk, hkeys]
      exact List.pairwise_map.mpr ((bz.nd.sublist (List.take_sublist _ _)).imp fun q e => q (Sum.inr.inj e))
    have new : valV (kvR acc) (.inr wd) = none := valV_none (by
      rw [mk, hkeys]
      intro h
      obtain ⟨z, hz, e⟩ := List.mem_map.mp h
      cases e
      obtain ⟨j, hj⟩ := List.mem_iff_getElem?.mp hz
      rw [List.getElem?_take] at hj
      by_cases hji : j < i
      · rw [if_pos hji] at hj
        have := (List.getElem?_inj (List.getElem?_eq_some_iff.mp hj).1 bz.nd).mp (hj.trans ez.symm)
        omega
      · rw [if_neg hji] at hj
        cases hj)
    have inz : ∀ {a r}, (a, r) ∈ acc → a ∈ zs := fun {a r} h => by
      have : a ∈ acc.map Prod.fst := List.mem_map.mpr ⟨(a, r), h, rfl⟩
      rw [hkeys] at this
      exact List.mem_of_mem_take this
    refine ⟨R, .dK (kvR acc), hR, trivial, fun od => ⟨.ref R, rfl, R, od, rfl, .inl ⟨kvR acc, upd_same, fun D1 n1 => ?_⟩⟩⟩
    have g5 : Grow [] H (upd H3 R (.frz od (.dK (kvR acc)))) := gr.put fR hR (fun ps z => by cases z)
    have e5 : upd H3 R (.frz od (.dK (kvR acc))) R = some (.frz od (.dK (kvR acc))) := upd_same
    refine lc_it walk_keys (fun j H' => Grow [] (upd H3 R (.frz od (.dK (kvR acc)))) H' ∧ H' D1 = some (.lst ((aheadN (later ws) (acc.take j) wd).map V.str))) ⟨grow_new n1, upd_same⟩
      (fun j H' _ h => h.1.keep R _ (by simp) e5 fun ps z => by cases z) (fun j x H6 H7 hj hp hy => ?_) (fun H6 hp => ?_)
    · obtain ⟨gj, eD⟩ := hp
      obtain ⟨rfl, key, v, hkv, rfl⟩ := hy
      unfold kvR at hkv
      rw [List.getElem?_map] at hkv
      cases ea : acc[j]? with
      | none => rw [ea] at hkv; cases hkv
      | some ar =>
        rw [ea] at hkv
        cases hkv
        obtain ⟨a, r⟩ := ar
        have ha : a ∈ zs := inz (List.mem_of_getElem? ea)
        have em := (g5.trans gj).lst (by simp) hm
        have ta : acc.take (j + 1) = acc.take j ++ [(a, r)] := by
          rw [List.take_add_one, ea]
          rfl
        refine ⟨rfl, .ref m, rfl, tyl em, .str wd, rfl, ?_⟩
        dsimp only [tNil]
        refine index_str (.inl (.inl em)) (pm.mem_iff.mp hwd) ⟨.ref m, rfl, tyl em, .str a, rfl, ?_⟩
        dsimp only [tNil]
        refine index_str (.inl (.inl em)) (pm.mem_iff.mp ha) ⟨_, _, rfl, rfl, _, rfl, ite2 (fun hlt => ?_) fun hlt => ?_⟩
        · have lt : later ws a wd = true := decide_eq_true (by have := of_decide_eq_true hlt; omega)
          refine ⟨.str a, rfl, _, eD, ?_, gj.put (fresh_none n1) eD (fun ps z => by cases z), ?_⟩
          · rw [List.length_map]
            unfold aheadN
            rw [List.length_map]
            have h2 := List.length_filter_le (fun p : Str × Int => later ws p.1 wd) (acc.take j)
            rw [List.length_take] at h2
            have := bz.len
            unfold sizeLine
            omega
          · rw [upd_same, ta]
            unfold aheadN
            rw [List.filter_append, List.filter_cons_of_pos (by exact lt), List.filter_nil, List.map_append, List.map_append]
            rfl
        · have lt : ¬ later ws a wd = true := fun z => by
            have h1 := of_decide_eq_true z
            exact hlt (decide_eq_true (by omega))
          refine ⟨gj, ?_⟩
          rw [ta]
          unfold aheadN at eD ⊢
          rw [List.filter_append, List.filter_cons_of_neg (by exact lt), List.filter_nil, List.append_nil]
          exact eD
    · obtain ⟨gj, eD⟩ := hp
      have eR6 : H6 R = some (.frz od (.dK (kvR acc))) := gj.keep R _ (by simp) e5 fun ps z => by cases z
      rw [lk, List.take_length] at eD
      have DR : D1 ≠ R := fun z => by
        rw [z, e5] at n1
        cases n1
      have g6 : Grow [] H (upd H6 R (.dK (kvR acc))) := (g5.trans gj).put fR eR6 (fun ps z => by cases z)
      have eD6 : upd H6 R (.dK (kvR acc)) D1 = some (.lst ((aheadN (later ws) acc wd).map V.str)) := by rw [upd_ne DR]; exact eD
      have eK6 : upd H6 R (.dK (kvR acc)) R = some (.dK (kvR acc)) := upd_same
      refine ⟨eR6, ?_⟩
      refine ⟨.ref D1, rfl, D1, rfl, ⟨_, .inl (.inl eD6)⟩, fun D2 n2 => ?_⟩
      have l1 : (aheadN (later ws) acc wd).length = (aheadR (later ws) acc wd).length := by unfold aheadN aheadR; rw [List.length_map, List.length_map]
      have lr : (aheadR (later ws) acc wd).length ≤ 200 := by
        unfold aheadR
        rw [List.length_map]
        have h2 := List.length_filter_le (fun p : Str × Int => later ws p.1 wd) acc
        have := bz.len
        omega
      refine lc_it (walk_list (xs := (aheadN (later ws) acc wd).map V.str)) (fun j H' => Grow [] (upd H6 R (.dK (kvR acc))) H' ∧ H' D2 = some (.lst (((aheadR (later ws) acc wd).take j).map V.int))) ⟨grow_new n2, upd_same⟩
        (fun j H' _ h => .inl (.inl (h.1.lst (by simp) eD6))) (fun j x H7 H8 hj hp hy => ?_) (fun H7 hp => ?_)
      · obtain ⟨gj, eV⟩ := hp
        obtain ⟨rfl, ex⟩ := hy
        rw [List.getElem?_map] at ex
        have hjl : j < (acc.filter fun p => later ws p.1 wd).length := by
          rw [List.length_map] at hj
          unfold aheadN at hj
          rwa [List.length_map] at hj
        obtain ⟨⟨a, r⟩, har⟩ : ∃ q, (acc.filter fun p => later ws p.1 wd)[j]? = some q := ⟨_, List.getElem?_eq_getElem hjl⟩
        have hN : (aheadN (later ws) acc wd)[j]? = some a := by unfold aheadN; rw [List.getElem?_map, har]; rfl
        have hV : (aheadR (later ws) acc wd)[j]? = some r := by unfold aheadR; rw [List.getElem?_map, har]; rfl
        rw [hN] at ex
        cases ex
        have hm2 := (List.mem_filter.mp (List.mem_of_getElem? har)).1
        obtain ⟨jj, hjj⟩ := List.mem_iff_getElem?.mp hm2
        have eK8 : H8 R = some (.dK (kvR acc)) := gj.keep R _ (by simp) eK6 fun ps z => by cases z
        have dr : DGet H8 R (.str a) (some (.int r)) := by
          have e1 : valV (kvR acc) (.inr a) = some (.int r) := valV_some (j := jj) ndK (by unfold kvR; rw [List.getElem?_map, hjj]; rfl)
          rw [← e1]
          exact DGet.k (k := .inr a) eK8
        refine ⟨rfl, yes_if ⟨.ref R, rfl, .str a, rfl, R, _, rfl, dr, _, eV, ?_, gj.put (fresh_none n2) eV (fun ps z => by cases z), ?_⟩⟩
        · rw [List.length_map, List.length_take]
          unfold sizeLine
          omega
        · rw [upd_same, List.take_add_one, hV, List.map_append]
          rfl
      · obtain ⟨gj, eV⟩ := hp
        rw [List.length_map, l1, List.take_length] at eV
        refine ⟨by show 1 ≤ sizeLine; decide, fun D3 n3 => ?_⟩
        have eV3 : upd H7 D3 (.lst [.int 0]) D2 = some (.lst ((aheadR (later ws) acc wd).map V.int)) := by rw [upd_ne (ne_of_none eV n3)]; exact eV
        refine ⟨D2, D3, _, _, rfl, rfl, eV3, upd_same, ?_, fun D4 n4 => ?_⟩
        · rw [List.length_map]
          show _ + 1 ≤ sizeLine
          unfold sizeLine
          omega
        have g9 : Grow [] (upd H6 R (.dK (kvR acc))) (upd (upd H7 D3 (.lst [.int 0])) D4 (.lst ((aheadR (later ws) acc wd).map V.int ++ [.int 0]))) := (gj.new n3).new n4
        have eK9 := g9.keep R _ (by simp) eK6 fun ps z => by cases z
        dsimp only [tNil]
        refine ⟨D4, aheadR (later ws) acc wd ++ [0], rfl, .inl (.inl (by rw [upd_same, List.map_append]; rfl)), by rw [List.length_append]; exact Nat.succ_pos _, fun mx h1 h2 => ?_⟩
        have et := max_zero hpos h1 h2
        subst et
        refine ⟨_, _, rfl, rfl, .ref R, rfl, .str wd, rfl, R, _, rfl, .inl ⟨kvR acc, .inr wd, eK9, rfl, ?_, rfl⟩, _, _, _, rfl, ?_, ?_⟩
        · have := bz.len
          unfold sizeLine
          omega
        · exact (g6.trans g9).put fR eK9 (fun ps z => by cases z)
        · rw [upd_same, putK_new _ new]
          unfold kvR
          rw [List.map_append]
          rfl
  · obtain ⟨a0, b0, c0, rfl, gr, hR⟩ := hp
    rw [List.length_map] at hR
    exact ⟨.ref R, rfl, q R H' fR gr hR⟩
end

end Lw

namespace Lw
open PySem PySem.Spec PyProof.Rows L2 GxR Gx
/-! ### numbers by a list of words and numbers -/
/-- told as a function -/
theorem num_of : ∀ {acc : List (Str × Int)}, (acc.map Prod.fst).Nodup → ∃ num : Str → Int, kvR acc = (acc.map Prod.fst).map (fun k => ((Sum.inr k : Key), V.int (num k))) ∧ ∀ p ∈ acc, num p.1 = p.2
  | [], _ => ⟨fun _ => 0, rfl, fun _ h => (by cases h)⟩
  | q :: r, h => by
    rw [List.map_cons, List.nodup_cons] at h
    obtain ⟨num, e, hn⟩ := num_of h.2
    refine ⟨fun z => if z = q.1 then q.2 else num z, ?_, fun p hp => ?_⟩
    · unfold kvR at e ⊢
      rw [List.map_cons, List.map_cons, List.map_cons]
      dsimp only
      rw [if_pos rfl, e]
      congr 1
      refine List.map_congr_left fun z hz => ?_
      rw [if_neg (fun w => h.1 (by rw [← w]; exact hz))]
    · rcases List.mem_cons.mp hp with rfl | hp
      · exact if_pos rfl
      · show (if p.1 = q.1 then q.2 else num p.1) = p.2
        rw [if_neg (fun w => h.1 (by rw [← w]; exact List.mem_map.mpr ⟨p, hp, rfl⟩))]
        exact hn p hp
/-- a numbering as it grows: numbers from 0, the lesser one for the first of a turned pair -/
structure Rise (ws : List Str) (acc : List (Str × Int)) (m : Int) : Prop where
  low : ∀ p ∈ acc, 0 ≤ p.2 ∧ p.2 ≤ m
  up : ∀ (i j : Nat) (p q : Str × Int), i < j → acc[i]? = some p → acc[j]? = some q → later ws p.1 q.1 = true → p.2 < q.2
theorem rise_nil (ws : List Str) (m : Int) : Rise ws [] m := ⟨fun p h => (by cases h), fun i j p q _ h => (by cases h)⟩
theorem Rise.app {ws : List Str} {acc : List (Str × Int)} {m m' : Int} {w : Str} {x : Int} (h : Rise ws acc m) (hm : m ≤ m') (x0 : 0 ≤ x) (x1 : x ≤ m') (hx : ∀ y ∈ aheadR (later ws) acc w, y < x) : Rise ws (acc ++ [(w, x)]) m' := by
  refine ⟨fun p hp => ?_, fun i j p q hij hi hj hl => ?_⟩
  · rcases List.mem_append.mp hp with hp | hp
    · have := h.low p hp
      omega
    · rw [List.mem_singleton.mp hp]
      exact ⟨x0, x1⟩
  · by_cases hja : j < acc.length
    · rw [List.getElem?_append_left hja] at hj
      rw [List.getElem?_append_left (by omega)] at hi
      exact h.up i j p q hij hi hj hl
    · have lj := (List.getElem?_eq_some_iff.mp hj).1
      rw [List.length_append] at lj
      have ej : j = acc.length := by simp only [List.length_cons, List.length_nil] at lj; omega
      subst ej
      rw [List.getElem?_append_right (Nat.le_refl _), Nat.sub_self] at hj
      rw [List.getElem?_append_left hij] at hi
      cases hj
      exact hx _ (List.mem_map.mpr ⟨p, List.mem_filter.mpr ⟨List.mem_of_getElem? hi, hl⟩, rfl⟩)
/-- what a whole one tells -/
theorem Rise.num {ws zs : List Str} {acc : List (Str × Int)} {m : Int} {num : Str → Int} (nd : zs.Nodup) (h : Rise ws acc m) (hk : acc.map Prod.fst = zs) (hn : ∀ p ∈ acc, num p.1 = p.2) :
    (∀ z ∈ zs, 0 ≤ num z ∧ num z ≤ m) ∧ ∀ p ∈ prsTo (later ws) zs zs.length, num p.1 < num p.2 := by
  have at_ : ∀ (i : Nat) (z : Str), zs[i]? = some z → acc[i]? = some (z, num z) := fun i z hz => by
    rw [← hk, List.getElem?_map] at hz
    cases e : acc[i]? with
    | none => rw [e] at hz; cases hz
    | some p =>
      rw [e] at hz
      cases hz
      rw [hn p (List.mem_of_getElem? e)]
  refine ⟨fun z hz => ?_, fun p hp => ?_⟩
  · obtain ⟨i, hi⟩ := List.mem_iff_getElem?.mp hz
    exact h.low _ (List.mem_of_getElem? (at_ i z hi))
  · obtain ⟨i, j, _, hij, hi, hj, hl⟩ := (mem_prsTo (Nat.le_refl _)).mp hp
    exact h.up i j _ _ hij (at_ _ _ hi) (at_ _ _ hj) hl

/-! ### sorted numbers; ranks as a function -/
theorem int_le {p q : Int} (h : PySem.W.dataLe false PyData.int p q = true) : p ≤ q := by
  replace h : (!(listOrd itemOrd).blt (PySem.W.keyToks (PyData.int q)) (PySem.W.keyToks (PyData.int p))) = true := h
  have e : (listOrd itemOrd).blt (PySem.W.keyToks (PyData.int q)) (PySem.W.keyToks (PyData.int p)) = false := by
    cases hb : (listOrd itemOrd).blt (PySem.W.keyToks (PyData.int q)) (PySem.W.keyToks (PyData.int p)) with
    | true => rw [hb] at h; cases h
    | false => rfl
  simp only [PySem.W.keyToks] at e
  obtain ⟨a, _⟩ := lex_false.mp (show PyProof.Rows.lexLt itemOrd [Sum.inl q] [Sum.inl p] = false from e)
  replace a : decide (q < p) = false := a
  have := of_decide_eq_false a
  omega
def sortI (ns : List Int) : List Int := ns.mergeSort (PySem.W.dataLe false PyData.int)
theorem sortI_at {ns : List Int} {i j : Nat} {x y : Int} (h : i ≤ j) (hi : (sortI ns)[i]? = some x) (hj : (sortI ns)[j]? = some y) : x ≤ y := by
  have pw : (sortI ns).Pairwise fun x y => PySem.W.dataLe false PyData.int x y = true :=
    PySem.W.sort_pairwise (PySem.W.sortLe_total (listOrd itemOrd) false fun b : Int => PySem.W.keyToks (PyData.int b)) ns
  obtain ⟨li, ei⟩ := List.getElem?_eq_some_iff.mp hi
  obtain ⟨lj, ej⟩ := List.getElem?_eq_some_iff.mp hj
  by_cases e : i = j
  · subst e
    rw [hi] at hj
    cases hj
    exact Int.le_refl _
  · have := List.pairwise_iff_getElem.mp pw i j li lj (by omega)
    rw [ei, ej] at this
    exact int_le this
theorem mem_sortI {ns : List Int} {x : Int} : x ∈ sortI ns ↔ x ∈ ns := (List.mergeSort_perm _ _).mem_iff
theorem len_sortI (ns : List Int) : (sortI ns).length = ns.length := (List.mergeSort_perm _ _).length_eq
theorem rk_le (lt : Str → Str → Bool) (zs : List Str) : ∀ (n i : Nat), i < n → rkAt lt zs i ≤ (i : Int) + 1
  | 0, i, h => by omega
  | n + 1, i, h => by
    unfold rkAt
    by_cases hn : aheadR lt (ranksTo lt zs i) (zs.getD i Str.empty) = []
    · rw [hn]
      show 1 + (0 : Int) ≤ (i : Int) + 1
      omega
    · obtain ⟨a, ha, _, e⟩ := mem_ahead.mp (topI_mem hn)
      have := rk_le lt zs n a (by omega)
      omega
theorem rank_num {zs ws : List Str} (nd : zs.Nodup) : ∃ rnk : Str → Int, kvR (ranksTo (later ws) zs zs.length) = zs.map (fun k => ((Sum.inr k : Key), V.int (rnk k))) ∧ (∀ z ∈ zs, 1 ≤ rnk z ∧ rnk z ≤ (zs.length : Int)) ∧
    (ranksTo (later ws) zs zs.length).map Prod.snd = zs.map rnk ∧ ∀ p ∈ prsTo (later ws) zs zs.length, rnk p.1 + 1 ≤ rnk p.2 := by
  have hk : (ranksTo (later ws) zs zs.length).map Prod.fst = zs := by
    have := ranksTo_keys (later ws) zs zs.length (Nat.le_refl _)
    rwa [List.take_length] at this
  obtain ⟨rnk, e, hn⟩ := num_of (acc := ranksTo (later ws) zs zs.length) (by rw [hk]; exact nd)
  rw [hk] at e
  have at_ : ∀ (i : Nat) (z : Str), zs[i]? = some z → rnk z = rkAt (later ws) zs i ∧ zs.getD i Str.empty = z ∧ i < zs.length := fun i z hz => by
    have hi := (List.getElem?_eq_some_iff.mp hz).1
    have ed : zs.getD i Str.empty = z := by rw [List.getD_eq_getElem?_getD, hz]; rfl
    have := hn _ (List.mem_of_getElem? (ranksTo_at (later ws) zs hi))
    dsimp only at this
    rw [ed] at this
    exact ⟨this, ed, hi⟩
  refine ⟨rnk, e, fun z hz => ?_, ?_, fun p hp => ?_⟩
  · obtain ⟨i, hi⟩ := List.mem_iff_getElem?.mp hz
    obtain ⟨e1, _, hl⟩ := at_ i z hi
    rw [e1]
    refine ⟨rk_pos _ _ _ _ hl, ?_⟩
    have := rk_le (later ws) zs zs.length i hl
    omega
  · have : (ranksTo (later ws) zs zs.length).map Prod.snd = ((ranksTo (later ws) zs zs.length).map Prod.fst).map rnk := by
      rw [List.map_map]
      exact List.map_congr_left fun q hq => (hn q hq).symm
    rw [this, hk]
  · obtain ⟨i, j, _, hij, hi, hj, hl⟩ := (mem_prsTo (Nat.le_refl _)).mp hp
    obtain ⟨e1, d1, _⟩ := at_ i _ hi
    obtain ⟨e2, d2, _⟩ := at_ j _ hj
    rw [e1, e2]
    exact rk_up hij (by rw [d1, d2]; exact hl)

end Lw

namespace Lw
open PySem PySem.Spec PyProof.Rows L2 GxR Gx
/-! ### _law_numbers: texts to whole numbers, and other values among them -/
/-- the numbering num of the words zs stands at N -/
def NumAt (H : Hp) (N : Addr) (zs : List Str) (num : Str → Int) : Prop := ∃ ks : List Str, ks.Perm zs ∧ H N = some (.dK (ks.map fun k => (Sum.inr k, .int (num k))))
theorem NumAt.get {H : Hp} {N : Addr} {zs : List Str} {num : Str → Int} (h : NumAt H N zs num) (nd : zs.Nodup) {z : Str} (hz : z ∈ zs) : DGet H N (.str z) (some (.int (num z))) := by
  obtain ⟨ks, p, e⟩ := h
  have nk : ks.Nodup := p.nodup_iff.mpr nd
  obtain ⟨j, hj⟩ := List.mem_iff_getElem?.mp (p.mem_iff.mpr hz)
  have v : valV (ks.map fun k => ((Sum.inr k : Key), V.int (num k))) (.inr z) = some (.int (num z)) := valV_some (j := j) (by
    rw [List.map_map]
    exact List.pairwise_map.mpr (nk.imp fun q e => q (Sum.inr.inj e))) (by rw [List.getElem?_map, hj]; rfl)
  rw [← v]
  exact DGet.k (k := .inr z) e
theorem NumAt.grow {ex : List Addr} {H H' : Hp} {N : Addr} {zs : List Str} {num : Str → Int} (h : NumAt H N zs num) (g : Grow ex H H') (n : N ∉ ex) : NumAt H' N zs num := by
  obtain ⟨ks, p, e⟩ := h
  exact ⟨ks, p, g.keep N _ n e fun ps z => by cases z⟩
def Keeps (H H' : Hp) : Prop := ∀ a, H a = some (.lst [.int 0]) → H' a = some (.lst [.int 0])
theorem Keeps.trans {H H1 H2 : Hp} (a : Keeps H H1) (b : Keeps H1 H2) : Keeps H H2 := fun x h => b x (a x h)
theorem keeps_grow {H H' : Hp} (g : Grow [] H H') : Keeps H H' := fun a h => g.lst (by simp) h
theorem keeps_pot {H H' : Hp} {p : Addr} {c : Int} (g : Grow [p] H H') (pt : Pot H p c) : Keeps H H' := fun a h => by
  obtain ⟨x, y, z, e, _⟩ := pt
  exact g.lst (by simpa using ne_of h e (by simp)) h
theorem keeps_dict {H : Hp} {F : Addr} {kvs kvs' : List (Key × V)} (e : H F = some (.dK kvs)) : Keeps H (upd H F (.dK kvs')) := fun a h => by
  rw [upd_ne (ne_of h e (by simp))]
  exact h
theorem Nv.move {K : PySem.W.Frag} {H H' : Hp} {v : V} (h : Nv K H v) (k : Keeps H H') : Nv K H' v := by
  cases h with
  | int i b => exact .int i b
  | non => exact .non
  | bl b => exact .bl b
  | str => exact .str
  | lst e => exact .lst (k _ e)
theorem putK_fst (kvs : List (Key × V)) (k : Key) (v : V) : (putK kvs k v).map Prod.fst = kvs.map Prod.fst ∨ (k ∉ kvs.map Prod.fst ∧ (putK kvs k v).map Prod.fst = kvs.map Prod.fst ++ [k]) := by
  unfold putK
  by_cases c : (kvs.any fun kv => decide (kv.1 = k)) = true
  · rw [if_pos c]
    left
    rw [List.map_map]
    refine List.map_congr_left fun kv _ => ?_
    show (if kv.1 = k then (kv.1, v) else kv).1 = kv.1
    split <;> rfl
  · rw [if_neg c]
    right
    refine ⟨fun h => c ?_, by rw [List.map_append]; rfl⟩
    obtain ⟨kv, hk, e⟩ := List.mem_map.mp h
    exact List.any_eq_true.mpr ⟨kv, hk, decide_eq_true e⟩
theorem putK_val {kvs : List (Key × V)} {k : Key} {v : V} {kv : Key × V} (h : kv ∈ putK kvs k v) : kv ∈ kvs ∨ kv.2 = v := by
  unfold putK at h
  split at h
  · obtain ⟨q, hq, e⟩ := List.mem_map.mp h
    by_cases c : q.1 = k
    · rw [if_pos c] at e
      right
      rw [← e]
    · rw [if_neg c] at e
      left
      rw [← e]
      exact hq
  · rcases List.mem_append.mp h with h | h
    · exact .inl h
    · rw [List.mem_singleton.mp h]
      exact .inr rfl
/-- a dict of texts to values -/
structure FD (K : PySem.W.Frag) (H : Hp) (F : Addr) (kvs : List (Key × V)) (b : Nat) : Prop where
  e : H F = some (.dK kvs)
  ks : ∃ ns : List Str, kvs.map Prod.fst = ns.map Sum.inr ∧ ∀ n ∈ ns, isNm n = true
  nd : (kvs.map Prod.fst).Nodup
  vals : ∀ kv ∈ kvs, Nv K H kv.2
  len : kvs.length ≤ b
theorem FD.go {K : PySem.W.Frag} {H H' : Hp} {F : Addr} {kvs : List (Key × V)} {b : Nat} (h : FD K H F kvs b) (e : H' F = some (.dK kvs)) (k : Keeps H H') : FD K H' F kvs b := ⟨e, h.ks, h.nd, fun kv hk => (h.vals kv hk).move k, h.len⟩
theorem FD.more {K : PySem.W.Frag} {H : Hp} {F : Addr} {kvs : List (Key × V)} {b b' : Nat} (h : FD K H F kvs b) (l : b ≤ b') : FD K H F kvs b' := ⟨h.e, h.ks, h.nd, h.vals, Nat.le_trans h.len l⟩
theorem FD.put {K : PySem.W.Frag} {H : Hp} {F : Addr} {kvs : List (Key × V)} {b : Nat} (h : FD K H F kvs b) {v : V} (hv : Nv K H v) {k : Str} (hk0 : isNm k = true) : FD K (upd H F (.dK (putK kvs (.inr k) v))) F (putK kvs (.inr k) v) (b + 1) := by
  obtain ⟨ns, en, hn⟩ := h.ks
  refine ⟨upd_same, ?_, ?_, fun kv hk => ?_, ?_⟩
  · rcases putK_fst kvs (.inr k) v with e | ⟨_, e⟩
    · exact ⟨ns, by rw [e, en], hn⟩
    · refine ⟨ns ++ [k], by rw [e, en, List.map_append]; rfl, fun n h => ?_⟩
      rcases List.mem_append.mp h with h | h
      · exact hn n h
      · rw [List.mem_singleton.mp h]; exact hk0
  · rcases putK_fst kvs (.inr k) v with e | ⟨n, e⟩
    · rw [e]; exact h.nd
    · rw [e]
      exact List.nodup_append.mpr ⟨h.nd, by simp, fun a ha b hb z => n (by rw [List.mem_singleton.mp hb] at z; rw [← z]; exact ha)⟩
  · rcases putK_val hk with hk | e
    · exact (h.vals kv hk).move (keeps_dict h.e)
    · rw [e]
      exact hv.move (keeps_dict h.e)
  · have := length_putK kvs (.inr k) v
    have := h.len
    omega
theorem FD.drop {K : PySem.W.Frag} {H : Hp} {F : Addr} {kvs : List (Key × V)} {b : Nat} (h : FD K H F kvs b) (k : Key) : FD K (upd H F (.dK (dropK kvs k))) F (dropK kvs k) b := by
  obtain ⟨ns, en, hn⟩ := h.ks
  have sub : (dropK kvs k).Sublist kvs := List.filter_sublist
  refine ⟨upd_same, ?_, h.nd.sublist (sub.map _), fun kv hk => (h.vals kv (sub.mem hk)).move (keeps_dict h.e), Nat.le_trans sub.length_le h.len⟩
  have : ∀ q ∈ (dropK kvs k).map Prod.fst, ∃ n : Str, q = Sum.inr n ∧ isNm n = true := fun q hq => by
    have := (sub.map Prod.fst).mem hq
    rw [en] at this
    obtain ⟨n, m, e⟩ := List.mem_map.mp this
    exact ⟨n, e.symm, hn n m⟩
  generalize (dropK kvs k).map Prod.fst = L at this
  induction L with
  | nil => exact ⟨[], rfl, fun _ z => nomatch z⟩
  | cons x L ih =>
    obtain ⟨n, rfl, n1⟩ := this x List.mem_cons_self
    obtain ⟨ms, e, m1⟩ := ih fun q hq => this q (List.mem_cons_of_mem _ hq)
    refine ⟨n :: ms, by rw [e]; rfl, fun y hy => ?_⟩
    rcases List.mem_cons.mp hy with rfl | hy
    · exact n1
    · exact m1 y hy
section
variable {P : Program} {w : World} {K : PySem.W.Frag} {mg : Str → Option Value} {base : Heap}
def spNumbersV (K : PySem.W.Frag) : Sp := fun vs H Q _ => ∃ (p l m : Addr) (c r : Int) (zs ws : List Str), vs = [.ref p, .ref l, .ref m, .int r] ∧ Pot H p c ∧ c ≤ 2 ^ 19 ∧ H l = some (.lst (zs.map V.str)) ∧ H m = some (.lst (ws.map V.str)) ∧ l ≠ p ∧ m ≠ p ∧
  Bk zs ∧ zs.Perm ws ∧ zs.length ≤ 100 ∧ 0 ≤ r ∧ r < 1000000000 ∧ ∀ (N : Addr) (H' : Hp) (kvs : List (Key × V)), Fresh H N → Grow [p] H H' → FD K H' N kvs 300 → Pot H' p (c + 1000) → Q (.ref N) H'
theorem ok_law_numbers {f c : Addr} {fd : FuncData} (B : Nb mg) (D : DefIs K "_law_numbers" "_law_numbers" st_law_numbers f fd (.ref c))
    (c_law_take : Callee P w K mg base CX0 3 "_law_take" ["pot", "many"] (spTake K)) (c_law_some : Callee P w K mg base CX0 4 "_law_some" ["pot", "things", "many"] (spSome K))
    (c_law_levels : Callee P w K mg base CX0 4 "_law_levels" ["book", "other"] (spLevels K)) :
    FnG P w K mg base CX0 6 f fd ["pot", "book", "other", "roads"] (spNumbersV K) := by
  refine D.ok0 (k := 5) sc_law_numbers (fun vs H Q E h => ?_) (fun A outer s H vs Q E g hr h => ?_)
  · obtain ⟨p, l, m, c, r, zs, ws, rfl, _⟩ := h
    rfl
  obtain ⟨p, l, m, c, r, zs, ws, rfl, pot, hc, hl, hm, lp, mp, bz, pm, z100, r0, r9, q⟩ := h
  obtain ⟨I, hI⟩ : ∃ I : L2.St → Hp → Prop, I = fun σ H' => ∃ (F : Addr) (kvs : List (Key × V)) (x4 x5 x6 x7 x8 x10 x11 x12 x13 : Option V), σ = [some (.ref p), some (.ref l), some (.ref m), some (.int r), x4, x5, x6, x7, x8, some (.ref F), x10, x11, x12, x13] ∧
      Fresh H F ∧ Grow [p] H H' ∧ FD K H' F kvs 200 ∧ Pot H' p (c + 900) := ⟨_, rfl⟩
  refine ⟨_,
      (pss_cons (ps_set (i := 4) sc_law_numbers.nd rfl (.inl rfl) (pe_g c_law_levels g (hr.mono (by decide)) pass0 (pa_cons (pv 1) (pa_cons (pv 2) pa_nil))))
      (pss_cons (ps_set (i := 5) sc_law_numbers.nd rfl (.inl rfl) (pe_callB (cr_max rfl) rfl B.n_max (by decide +kernel) (pa_cons (pe_op op_cat (pe_listVals rfl rfl B.n_list (pv 4)) (pe_lst (pa_cons pe_int pa_nil))) pa_nil)))
      (pss_cons (ps_set (i := 6) sc_law_numbers.nd rfl (.inr rfl) (pe_callB (call_max2 rfl) rfl B.n_max (by decide +kernel) (pa_cons pe_int (pa_cons (pe_op op_sub (pe_op op_add (pv 3) pe_int) (pv 5)) pa_nil))))
      (pss_cons (ps_set (i := 7) sc_law_numbers.nd rfl (.inl rfl) (pe_callB (cr_sortG (val := V.int) (enc := PyData.int) hr.units) rfl B.n_sorted (by decide +kernel) (pa_cons (pe_lc (own := [("level", 8)]) (tt := tYes) (g := (gName 8)) rfl sc_law_numbers.nd (pi_range1 rfl B.n_range (pa_cons (pv 5) pa_nil)) (blkOk_by (N := N_law_numbers) (sc := defScope st_law_numbers) (by decide +kernel)) (fun _ _ _ _ _ => (pg_name (i := 8) sc_law_numbers.nd rfl (.inl rfl))) (fun _ _ _ _ _ => pts_nil) (fun _ _ _ _ _ => pe_to (pe_g c_law_take g (hr.mono (by decide)) pass0 (pa_cons (pv 0) (pa_cons (pe_op op_add (pv 6) pe_int) pa_nil))))) pa_nil)))
      (pss_cons (ps_set (i := 9) sc_law_numbers.nd rfl (.inl rfl) pe_dnewK)
      (pss_cons (ps_for PassesOwn.never rfl (pi_list (pe_g c_law_some g (hr.mono (by decide)) pass0 (pa_cons (pv 0) (pa_cons (pv 1) (pa_cons pe_int pa_nil))))) (pg_name (i := 10) sc_law_numbers.nd rfl (.inl rfl)) (
        (pss_one (ps_asg (pe_op op_add (pe_op op_sub (pe_dget (hu_of hr) (pv 4) (pv 10) (fun _ _ => rfl)) pe_int) (pe_ix ix_list (pv 7) (pe_op op_sub (pe_dget (hu_of hr) (pv 4) (pv 10) (fun _ _ => rfl)) pe_int) (fun _ _ => rfl))) (pg_sub (pv 9) (pv 10) (set_dict (hu_of hr)))))))
      (pss_cons (ps_for PassesOwn.never rfl (pi_range1 rfl B.n_range (pa_cons (pe_op op_mulX (pe_ix ix_list (pe_lst (pa_cons pe_int (pa_cons pe_int (pa_cons pe_int (pa_cons pe_int (pa_cons pe_int pa_nil)))))) (pe_g c_law_take g (hr.mono (by decide)) pass0 (pa_cons (pv 0) (pa_cons pe_int pa_nil))) (fun _ _ => rfl)) (pe_callB (call_min2 rfl) rfl B.n_min (by decide +kernel) (pa_cons pe_int (pa_cons (pe_callB call_len_seq rfl B.n_len PySem.boot_len (pa_cons (pv 1) pa_nil)) pa_nil)))) pa_nil)) (pg_name (i := 11) sc_law_numbers.nd rfl (.inl rfl)) (
        (pss_cons (ps_set (i := 10) sc_law_numbers.nd rfl (.inl rfl) (pe_ix ix_list (pv 1) (pe_g c_law_take g (hr.mono (by decide)) pass0 (pa_cons (pv 0) (pa_cons (pe_callB call_len_seq rfl B.n_len PySem.boot_len (pa_cons (pv 1) pa_nil)) pa_nil))) (fun _ _ => rfl)))
        (pss_cons (ps_set (i := 12) sc_law_numbers.nd rfl (.inl rfl) (pe_op op_add (pe_op op_sub (pe_dget (hu_of hr) (pv 4) (pv 10) (fun _ _ => rfl)) pe_int) (pe_ix ix_list (pv 7) (pe_op op_sub (pe_dget (hu_of hr) (pv 4) (pv 10) (fun _ _ => rfl)) pe_int) (fun _ _ => rfl))))
        (pss_cons (ps_set (i := 13) sc_law_numbers.nd rfl (.inl rfl) (pe_lst (pa_cons (pe_op op_add (pv 12) pe_int) (pa_cons (pe_op op_sub (pv 12) pe_int) (pa_cons (pe_g c_law_take g (hr.mono (by decide)) pass0 (pa_cons (pv 0) (pa_cons (pe_op op_add (pv 3) pe_int) pa_nil))) (pa_cons (pe_op op_add (pv 3) pe_int) (pa_cons (pe_un un_neg pe_int) (pa_cons pe_non (pa_cons pe_bl (pa_cons pe_str (pa_cons (pe_lst (pa_cons pe_int pa_nil)) pa_nil)))))))))))
        (pss_one (ps_asg (pe_ix ix_list (pv 13) (pe_g c_law_take g (hr.mono (by decide)) pass0 (pa_cons (pv 0) (pa_cons (pe_ix ix_list (pe_lst (pa_cons pe_int (pa_cons pe_int pa_nil))) (pe_g c_law_take g (hr.mono (by decide)) pass0 (pa_cons (pv 0) (pa_cons pe_int pa_nil))) (fun _ _ => rfl)) pa_nil))) (fun _ _ => rfl)) (pg_sub (pv 9) (pv 10) (set_dict (hu_of hr))))))))))
      (pss_cut I (ps_if (pt_cmpR (op_eq) (pe_g c_law_take g (hr.mono (by decide)) pass0 (pa_cons (pv 0) (pa_cons pe_int pa_nil))) pe_int (nomark _)) (
        (pss_one (ps_asg pe_int (pg_sub (pv 9) pe_str (set_dict (hu_of hr)))))) pss_nil)
      (pss_cons (ps_if (PW.pt (pw_and (pt_cmpR (op_eq) (pe_g c_law_take g (hr.mono (by decide)) pass0 (pa_cons (pv 0) (pa_cons pe_int pa_nil))) pe_int (nomark _)) (pw_and1 (pt_cmpR (op_neD0 (Nat.lt_of_succ_lt (hu_of hr))) (pv 9) pe_dnewK (nomark _))))) (
        (pss_one (ps_expr (pe_dpop1 (pv 9) (pe_ix ix_list (pe_callB (cr_sortD rfl hr.units) rfl B.n_sorted (by decide +kernel) (pa_cons (pv 9) pa_nil)) (pe_g c_law_take g (hr.mono (by decide)) pass0 (pa_cons (pv 0) (pa_cons (pe_callB call_lenD rfl B.n_len PySem.boot_len (pa_cons (pv 9) pa_nil)) pa_nil))) (fun _ _ => rfl)) ⟨rfl, rfl, rfl, rfl⟩)))) pss_nil)
      (pss_one (ps_ret (pv 9)))))))))))), ?_⟩
  have zl := bz.len
  obtain ⟨rnk, ek, rb, rv, rup⟩ := rank_num (ws := ws) bz.nd
  have ul : ∀ {H' : Hp}, Grow [p] H H' → H' l = some (.lst (zs.map V.str)) := fun g => g.lst (by simpa using lp) hl
  have um : ∀ {H' : Hp}, Grow [p] H H' → H' m = some (.lst (ws.map V.str)) := fun g => g.lst (by simpa using mp) hm
  have pne : ∀ {H' : Hp} {D : Addr} {k : Int}, H' D = none → Pot H' p k → D ≠ p := fun n pt z => by
    obtain ⟨a, b, d, e, _⟩ := pt
    rw [z, e] at n
    cases n
  have pgo : ∀ {H1 H2 : Hp} {k : Int}, Pot H1 p k → Grow [] H1 H2 → Pot H2 p k := fun ⟨a, b, d, e, r⟩ g => ⟨a, b, d, g.lst (by simp) e, r⟩
  refine ⟨.ref l, rfl, .ref m, rfl, l, m, zs, ws, rfl, hl, hm, bz, pm, fun D1 H1 f1 g1 e1 => ?_⟩
  have pot1 := pgo pot g1
  have D1p : D1 ≠ p := by
    obtain ⟨a, b, d, e, _⟩ := pot
    exact (f1.ne e (fun ps z => by cases z)).symm
  rw [ek] at e1
  refine ⟨.ref D1, rfl, D1, _, rfl, e1, fun D2 n2 => ?_⟩
  rw [show (zs.map (fun k => ((Sum.inr k : Key), V.int (rnk k)))).map Prod.snd = (zs.map rnk).map V.int by rw [List.map_map, List.map_map]; rfl]
  refine ⟨by show 1 ≤ sizeLine; decide, fun D3 n3 => ?_⟩
  refine ⟨D2, D3, _, _, rfl, rfl, by rw [upd_ne (ne_of_none upd_same n3)]; exact upd_same, upd_same, by rw [List.length_map, List.length_map]; show _ + 1 ≤ sizeLine; unfold sizeLine; omega, fun D4 n4 => ?_⟩
  have g9 := ((grow_new (ex := []) (o := .lst ((zs.map rnk).map V.int)) n2).new (o := .lst [.int 1]) n3).new (o := .lst ((zs.map rnk).map V.int ++ [.int 1])) n4
  dsimp only [tNil]
  refine ⟨D4, zs.map rnk ++ [1], rfl, .inl (.inl (by rw [upd_same, List.map_append]; rfl)), by rw [List.length_append]; exact Nat.succ_pos _, fun mx h1 h2 => ?_⟩
  generalize upd (upd (upd H1 D2 (HO.lst ((zs.map rnk).map V.int))) D3 (HO.lst [V.int 1])) D4 (HO.lst ((zs.map rnk).map V.int ++ [V.int 1])) = H5 at g9 ⊢
  have g5 := g1.trans g9
  have pot5 := pgo pot1 g9
  have e5 := g9.keep D1 _ (by simp) e1 fun ps z => by cases z
  have mx1 : 1 ≤ mx := h2 _ (List.mem_append_right _ (List.mem_singleton.mpr rfl))
  have mx2 : mx ≤ 101 := by
    rcases List.mem_append.mp h1 with h | h
    · obtain ⟨z, hz, rfl⟩ := List.mem_map.mp h
      have := rb z hz
      omega
    · rw [List.mem_singleton.mp h]
      omega
  have rmx : ∀ z ∈ zs, rnk z ≤ mx := fun z hz => h2 _ (List.mem_append_left _ (List.mem_map.mpr ⟨z, hz, rfl⟩))
  refine ⟨.int r, rfl, _, _, rfl, rfl, .int mx, rfl, _, _, rfl, rfl, 0, _, rfl, ?_⟩
  have g5r : Grow [p] H H5 := g5.any
  obtain ⟨room, hroom, room0, room1⟩ : ∃ room : Int, (if r + 1 - mx > 0 then r + 1 - mx else 0) = room ∧ 0 ≤ room ∧ room < 1000000001 := ⟨_, rfl, by split <;> omega, by split <;> omega⟩
  rw [hroom]
  obtain ⟨nx, rfl⟩ : ∃ nx : Nat, mx = (nx : Int) := ⟨mx.toNat, by omega⟩
  refine ⟨.int nx, rfl, nx, rfl, by omega, by omega, fun D6 n6 => ?_⟩
  have D6p := pne n6 pot5
  have ne56 : D1 ≠ D6 := ne_of_none e5 n6
  refine lc_it walk_range (fun i H' => ∃ ns : List Int, Grow [p] H5 H' ∧ H' D6 = some (.lst (ns.map V.int)) ∧ ns.length = i ∧ (∀ x ∈ ns, 0 ≤ x ∧ x ≤ room) ∧ Pot H' p (c + i)) ⟨[], grow_new n6, upd_same, rfl, fun x h => (by cases h), (pot5.new n6).mono (by omega)⟩
    (fun _ _ _ _ => trivial) (fun i x H9 H10 hi hp hy => ?_) (fun H9 hp => ?_)
  · obtain ⟨ns, gj, eD, hlen, hns, potj⟩ := hp
    obtain ⟨rfl, rfl⟩ := hy
    have hi : i < nx := hi
    refine ⟨rfl, yes_if ⟨.ref p, rfl, .int room, rfl, _, _, rfl, rfl, p, room + 1, _, rfl, by omega, by omega, by omega, potj, fun v H11 w0 w1 g11 pot11 => ?_⟩⟩
    have eD11 : H11 D6 = some (.lst (ns.map V.int)) := g11.lst (by simpa using D6p) eD
    refine ⟨_, eD11, by rw [List.length_map]; unfold sizeLine; omega, ns ++ [v], (gj.trans g11).put (fresh_none n6) eD11 (fun ps z => by cases z), ?_, ?_, ?_, ?_⟩
    · rw [upd_same, List.map_append]
      rfl
    · rw [List.length_append, hlen]
      rfl
    · intro x hx
      rcases List.mem_append.mp hx with h | h
      · exact hns x h
      · rw [List.mem_singleton.mp h]
        omega
    · exact (pot11.at D6p.symm).mono (by omega)
  · obtain ⟨ns, g59, eD, hlen, hns, pot9⟩ := hp
    have hlen : ns.length = nx := hlen
    replace pot9 : Pot H9 p (c + (nx : Nat)) := pot9
    have gr9 := g5r.trans g59
    have e9 : H9 D1 = some (.dK (zs.map (fun k => ((Sum.inr k : Key), V.int (rnk k))))) := g59.keep D1 _ (by simpa using D1p) e5 fun ps z => by cases z
    dsimp only [tNil]
    refine ⟨D6, ns, rfl, .inl (.inl eD), fun b hb => ⟨Dp.int b, by simp [PyData.depth]⟩, PySem.W.AllAlike.of fun b b' => by simp [PySem.W.alike], PySem.W.Sortable.others (enc := PyData.int) fun b => ⟨(nomatch ·), fun xs => (nomatch ·)⟩, by rw [hlen]; unfold sizeLine; omega, fun S nS => ?_⟩
    have Sp := pne nS pot9
    have g10 : Grow [p] H (upd H9 S (.lst ((sortI ns).map V.int))) := gr9.new nS
    have eS : upd H9 S (.lst ((sortI ns).map V.int)) S = some (.lst ((sortI ns).map V.int)) := upd_same
    have e10 : upd H9 S (.lst ((sortI ns).map V.int)) D1 = some (.dK (zs.map (fun k => ((Sum.inr k : Key), V.int (rnk k))))) := by rw [upd_ne (ne_of_none e9 nS)]; exact e9
    have pot10 := pot9.new (o := .lst ((sortI ns).map V.int)) nS
    rw [show ns.mergeSort (PySem.W.dataLe false PyData.int) = sortI ns from rfl]
    generalize upd H9 S (HO.lst ((sortI ns).map V.int)) = H10 at g10 eS e10 pot10 ⊢
    have SI := len_sortI ns
    refine fun F nF => ?_
    have Fp := pne nF pot10
    have g11 : Grow [p] H (upd H10 F (.dK [])) := g10.new nF
    have pot11 := pot10.new (o := .dK []) nF
    have eS11 : upd H10 F (.dK []) S = some (.lst ((sortI ns).map V.int)) := by rw [upd_ne (ne_of_none eS nF)]; exact eS
    have e11 : upd H10 F (.dK []) D1 = some (.dK (zs.map (fun k => ((Sum.inr k : Key), V.int (rnk k))))) := by rw [upd_ne (ne_of_none e10 nF)]; exact e10
    have eF11 : upd H10 F (.dK []) F = some (.dK []) := upd_same
    have fF : Fresh H F := by
      exact g10.fresh (by simpa using Fp) (fresh_none nF)
    generalize upd H10 F (.dK []) = H11 at g11 pot11 eS11 e11 eF11 ⊢
    refine ⟨.ref p, rfl, .ref l, rfl, p, l, 100, _, zs, rfl, pot11, by omega, .inl (.inl (ul g11)), bz.nm, zl, fun W H12 ys rest fW g12 eW pmW lnW pot12 => ?_⟩
    have hr : rest = [] := List.eq_nil_of_length_eq_zero (by have := pmW.length_eq; rw [List.length_append] at this; omega)
    rw [hr, List.append_nil] at pmW
    have by_ : Bk ys := bz.perm pmW.symm
    have ly := pmW.length_eq
    have gr12 := g11.trans g12
    have eS12 := g12.lst (by simpa using Sp) eS11
    have e12 : H12 D1 = some (.dK (zs.map (fun k => ((Sum.inr k : Key), V.int (rnk k))))) := g12.keep D1 _ (by simpa using D1p) e11 fun ps z => by cases z
    have eF12 : H12 F = some (.dK []) := g12.keep F _ (by simpa using Fp) eF11 fun ps z => by cases z
    have SF : S ≠ F := ne_of eS12 eF12 (fun z => by cases z)
    have num1 : NumAt H12 D1 zs rnk := ⟨zs, .refl _, e12⟩
    obtain ⟨num, hnum⟩ : ∃ num : Str → Int, num = fun z => rnk z - 1 + (sortI ns).getD (rnk z - 1).toNat 0 := ⟨_, rfl⟩
    have at_ : ∀ z ∈ zs, (sortI ns)[(rnk z - 1).toNat]? = some ((sortI ns).getD (rnk z - 1).toNat 0) := fun z hz => by
      have h1 := rb z hz
      have h2 := rmx z hz
      rw [List.getD_eq_getElem?_getD, List.getElem?_eq_getElem (by omega)]
      rfl
    refine ⟨W, rfl, ⟨_, .inl (.inl eW)⟩, ?_⟩
    refine for_it (walk_list (xs := ys.map V.str)) (fun i σ H' => ∃ (a b : Option V), σ = [some (.ref p), some (.ref l), some (.ref m), some (.int r), some (.ref D1), some (.int nx), some (.int room), some (.ref S), a, some (.ref F), b, none, none, none] ∧ Grow [F] H12 H' ∧ H' F = some (.dK ((ys.take i).map fun k => ((Sum.inr k : Key), V.int (num k)))))
      ⟨none, none, rfl, Grow.refl _ _, eF12⟩
      (fun i σ H' _ h => by
        obtain ⟨_, _, _, g, _⟩ := h
        exact .inl (.inl (g.lst (by simpa using ne_of eW eF12 (fun z => by cases z)) eW))) (fun i x σ H13 H14 hi hp hy => ?_) (fun σ H' hp => ?_)
    · obtain ⟨a0, b0, rfl, gj, eF⟩ := hp
      obtain ⟨rfl, ex⟩ := hy
      rw [List.getElem?_map] at ex
      rw [List.length_map] at hi
      cases ez : ys[i]? with
      | none => rw [ez] at ex; cases ex
      | some wd =>
        rw [ez] at ex
        cases ex
        have hwd : wd ∈ zs := pmW.mem_iff.mp (List.mem_of_getElem? ez)
        have D1F : D1 ≠ F := ne_of_none e10 nF
        have dg := (num1.grow gj (by simpa using D1F)).get bz.nd hwd
        have eS14 := gj.lst (by simpa using SF) eS12
        have hb := rb wd hwd
        have ha : atI ((sortI ns).map V.int) (rnk wd - 1) = some (.int ((sortI ns).getD (rnk wd - 1).toNat 0)) := by
          have := atI_nat (xs := (sortI ns).map V.int) (j := (rnk wd - 1).toNat) (v := .int ((sortI ns).getD (rnk wd - 1).toNat 0)) (by rw [List.getElem?_map, at_ wd hwd]; rfl)
          rwa [Int.toNat_of_nonneg (by omega)] at this
        have new : valV ((ys.take i).map fun k => ((Sum.inr k : Key), V.int (num k))) (.inr wd) = none := valV_none (by
          rw [List.map_map]
          intro h
          obtain ⟨z, hz, e⟩ := List.mem_map.mp h
          cases e
          obtain ⟨j, hj⟩ := List.mem_iff_getElem?.mp hz
          rw [List.getElem?_take] at hj
          by_cases hji : j < i
          · rw [if_pos hji] at hj
            have := (List.getElem?_inj (List.getElem?_eq_some_iff.mp hj).1 by_.nd).mp (hj.trans ez.symm)
            omega
          · rw [if_neg hji] at hj
            cases hj)
        refine ⟨.ref D1, rfl, .str wd, rfl, D1, _, rfl, dg, _, _, rfl, rfl, .ref S, rfl, .ref D1, rfl, .str wd, rfl, D1, _, rfl, dg, _, _, rfl, rfl, S, _, _, _, rfl, rfl, .inl (.inl eS14), ha, _, _, rfl, rfl, .ref F, rfl, .str wd, rfl, F, _, rfl, .inl ⟨_, .inr wd, eF, rfl, ?_, rfl⟩, _, _, rfl, ?_, ?_⟩
        · rw [List.length_map, List.length_take]
          unfold sizeLine
          omega
        · exact gj.trans (grow_at eF (fun ps z => by cases z) (by simp))
        · rw [upd_same, putK_new _ new, List.take_add_one, ez, List.map_append, hnum]
          rfl
    · obtain ⟨a0, b0, rfl, gj, eF⟩ := hp
      rw [List.length_map, List.take_length] at eF
      have grF : Grow [p] H H' := ((gr12.mono (ex' := [F, p]) (by simp)).trans (gj.mono (by simp))).drop fF
      have potF : Pot H' p (c + (nx : Nat) + 200) := by
        obtain ⟨a, b, d, e, r⟩ := pot12
        exact ⟨a, b, d, gj.lst (by simpa using Fp.symm) e, r⟩
      have eD1 : H' D1 = some (.dK (zs.map (fun k => ((Sum.inr k : Key), V.int (rnk k))))) := gj.keep D1 _ (by simpa using ne_of_none e10 nF) e12 fun ps z => by cases z
      have eS : H' S = some (.lst ((sortI ns).map V.int)) := gj.lst (by simpa using SF) eS12
      have rb0 : ∀ z ∈ zs, 0 ≤ rnk z - 1 ∧ rnk z - 1 < nx := fun z hz => by
        have h1 := rb z hz
        have h2 := rmx z hz
        omega
      have nb : ∀ z ∈ zs, 0 ≤ num z ∧ num z ≤ 2000000000 := fun z hz => by
        have h1 := rb z hz
        have h3 := hns _ (mem_sortI.mp (List.mem_of_getElem? (at_ z hz)))
        rw [hnum]
        dsimp only
        omega
      have fd0 : FD K H' F (ys.map fun k => ((Sum.inr k : Key), V.int (num k))) 100 := by
        refine ⟨eF, ⟨ys, by rw [List.map_map]; rfl, List.all_eq_true.mp by_.nm⟩, ?_, fun kv hk => ?_, by rw [List.length_map]; omega⟩
        · rw [List.map_map, List.Nodup, List.pairwise_map]
          exact by_.nd.imp fun q e => q (Sum.inr.inj e)
        · obtain ⟨z, hz, rfl⟩ := List.mem_map.mp hk
          have := nb z (pmW.mem_iff.mp hz)
          exact .int _ (by omega)
      refine ⟨by show 5 ≤ sizeLine; decide, fun L nL => ?_⟩
      have potL := potF.new (o := .lst [.int 0, .int 0, .int 1, .int 1, .int 3]) nL
      have Lp := pne nL potF
      have kpL : Keeps H' (upd H' L (.lst [.int 0, .int 0, .int 1, .int 1, .int 3])) := keeps_grow (grow_new nL)
      have gL : Grow [p] H' (upd H' L (.lst [.int 0, .int 0, .int 1, .int 1, .int 3])) := grow_new nL
      refine ⟨.ref p, rfl, p, 5, _, rfl, by decide, by decide, by omega, potL, fun v1 H15 v10 v11 g15 pot15 => ?_⟩
      have eL : H15 L = some (.lst [.int 0, .int 0, .int 1, .int 1, .int 3]) := g15.lst (by simpa using Lp) upd_same
      have kp15 : Keeps H' H15 := kpL.trans (keeps_pot g15 potL)
      have gF15 : Grow [p] H' H15 := gL.trans g15
      have gr15 : Grow [p] H H15 := grF.trans gF15
      have fd15 := fd0.go (gF15.keep F _ (by simpa using Fp) eF fun ps z => by cases z) kp15
      have eD15 := gF15.keep D1 _ (by simpa using D1p) eD1 fun ps z => by cases z
      have eS15 := gF15.lst (by simpa using Sp) eS
      obtain ⟨x1, hx, x10, x13⟩ : ∃ x1 : Int, atI [V.int 0, .int 0, .int 1, .int 1, .int 3] v1 = some (.int x1) ∧ 0 ≤ x1 ∧ x1 ≤ 3 := by
        obtain h | h | h | h | h : v1 = 0 ∨ v1 = 1 ∨ v1 = 2 ∨ v1 = 3 ∨ v1 = 4 := by omega
        all_goals (subst h; exact ⟨_, rfl, by decide, by decide⟩)
      refine ⟨L, _, _, .int x1, rfl, rfl, .inl (.inl eL), hx, .ref l, rfl, l, _, rfl, .inl (.inl (.inl (ul gr15))), 1, _, rfl, x1, _, rfl, rfl, ?_⟩
      obtain ⟨y, hy, y0, y1, yz⟩ : ∃ y : Int, (if (((zs.map V.str).length : Nat) : Int) < 1 then (((zs.map V.str).length : Nat) : Int) else 1) = y ∧ 0 ≤ y ∧ y ≤ 1 ∧ (zs = [] → y = 0) := by
        rw [List.length_map]
        refine ⟨_, rfl, by split <;> omega, by split <;> omega, fun e => by rw [e]; rfl⟩
      rw [hy]
      have xy0 : 0 ≤ x1 * y := Int.mul_nonneg x10 y0
      have xy3 : x1 * y ≤ 3 := by
        obtain h | h : y = 0 ∨ y = 1 := by omega
        · rw [h, Int.mul_zero]; omega
        · rw [h, Int.mul_one]; exact x13
      obtain ⟨k, hk⟩ : ∃ k : Nat, x1 * y = (k : Int) := ⟨(x1 * y).toNat, by omega⟩
      have zk : 0 < k → zs ≠ [] := fun k0 e => by
        rw [yz e, Int.mul_zero] at hk
        omega
      have cm : CMulX x1 y := by
        obtain h | h : y = 0 ∨ y = 1 := by omega
        all_goals obtain h2 | h2 | h2 | h2 : x1 = 0 ∨ x1 = 1 ∨ x1 = 2 ∨ x1 = 3 := by omega
        all_goals (subst h h2; unfold CMulX; decide)
      refine ⟨cm, x1 * y, rfl, by omega, by omega, ?_⟩
      have k3 : k ≤ 3 := by omega
      rw [show (x1 * y).toNat = k by omega]
      refine for_it walk_range (fun i σ H2 => ∃ (kvs : List (Key × V)) (x8 x10 x11 x12 x13 : Option V), σ = [some (.ref p), some (.ref l), some (.ref m), some (.int r), some (.ref D1), some (.int nx), some (.int room), some (.ref S), x8, some (.ref F), x10, x11, x12, x13] ∧
          Grow [p] H H2 ∧ H2 D1 = some (.dK (zs.map (fun k => ((Sum.inr k : Key), V.int (rnk k))))) ∧ H2 S = some (.lst ((sortI ns).map V.int)) ∧ FD K H2 F kvs (100 + i) ∧ Pot H2 p (c + (nx : Nat) + 201 + 4 * (i : Nat)))
        ⟨_, _, _, _, _, _, rfl, gr15, eD15, eS15, fd15, pot15.mono (by omega)⟩ (fun _ _ _ _ _ => trivial) (fun i x σ H16 H17 hi hp hy => ?_) (fun σ H16 hp => ?_)
      · obtain ⟨kvs, x8, x10, x11, x12, x13, rfl, gr16, eD16, eS16, fd16, pot16⟩ := hp
        obtain ⟨rfl, rfl⟩ := hy
        have hi : i < k := hi
        have zn := zk (by omega)
        have zl1 : 1 ≤ zs.length := by
          cases zs with
          | nil => exact absurd rfl zn
          | cons _ _ => rw [List.length_cons]; omega
        refine ⟨.ref l, rfl, .ref p, rfl, .ref l, rfl, l, _, rfl, .inl (.inl (.inl (ul gr16))), p, _, _, rfl, by rw [List.length_map]; omega, by rw [List.length_map]; omega, by omega, pot16, fun v H18 w0 w1 g18 pot18 => ?_⟩
        rw [List.length_map] at w1
        obtain ⟨j, rfl⟩ : ∃ j : Nat, v = (j : Int) := ⟨v.toNat, by omega⟩
        have jz : j < zs.length := by omega
        obtain ⟨wd, ew⟩ : ∃ wd, zs[j]? = some wd := ⟨_, List.getElem?_eq_getElem jz⟩
        have gr18 := gr16.trans g18
        have hwd := List.mem_of_getElem? ew
        have aw : atI (zs.map V.str) (j : Int) = some (.str wd) := atI_nat (xs := zs.map V.str) (by rw [List.getElem?_map, ew]; rfl)
        have eD18 := g18.keep D1 _ (by simpa using D1p) eD16 fun ps z => by cases z
        have eS18 := g18.lst (by simpa using Sp) eS16
        have fd18 := fd16.go (g18.keep F _ (by simpa using Fp) fd16.e fun ps z => by cases z) (keeps_pot g18 pot16)
        have num1 : NumAt H18 D1 zs rnk := ⟨zs, .refl _, eD18⟩
        have dg := num1.get bz.nd hwd
        have hb := rb wd hwd
        have ha : atI ((sortI ns).map V.int) (rnk wd - 1) = some (.int ((sortI ns).getD (rnk wd - 1).toNat 0)) := by
          have := atI_nat (xs := (sortI ns).map V.int) (j := (rnk wd - 1).toNat) (v := .int ((sortI ns).getD (rnk wd - 1).toNat 0)) (by rw [List.getElem?_map, at_ wd hwd]; rfl)
          rwa [Int.toNat_of_nonneg (by omega)] at this
        refine ⟨l, _, _, .str wd, rfl, rfl, .inl (.inl (ul gr18)), aw, ?_⟩
        refine ⟨.ref D1, rfl, .str wd, rfl, D1, _, rfl, dg, _, _, rfl, rfl, .ref S, rfl, .ref D1, rfl, .str wd, rfl, D1, _, rfl, dg, _, _, rfl, rfl, S, _, _, _, rfl, rfl, .inl (.inl eS18), ha, _, _, rfl, rfl, ?_⟩
        have nbw := nb wd hwd
        rw [hnum] at nbw
        dsimp only at nbw
        obtain ⟨nm, enm⟩ : ∃ nm : Int, nm = rnk wd - 1 + (sortI ns).getD (rnk wd - 1).toNat 0 := ⟨_, rfl⟩
        rw [← enm] at nbw
        refine ⟨.int nm, by rw [enm]; rfl, _, _, rfl, rfl, .int nm, by rw [enm]; rfl, _, _, rfl, rfl, .ref p, rfl, .int r, rfl, _, _, rfl, rfl, p, r + 1, _, rfl, by omega, by omega, by omega, pot18, fun u H19 u0 u1 g19 pot19 => ?_⟩
        refine ⟨.int r, rfl, _, _, rfl, rfl, _, rfl, by show 1 ≤ sizeLine; decide, fun Z nZ => ⟨by show 9 ≤ sizeLine; decide, fun S2 nS2 => ?_⟩⟩
        have gr19 := gr18.trans g19
        have g20 : Grow [] H19 (upd (upd H19 Z (.lst [.int 0])) S2 (.lst [.int (nm + 1), .int (nm - 1), .int u, .int (r + 1), .int (-1), .non, .bl true, .str "0", .ref Z])) := (grow_new nZ).trans (grow_new nS2)
        have eS20 : (upd (upd H19 Z (.lst [.int 0])) S2 (.lst [.int (nm + 1), .int (nm - 1), .int u, .int (r + 1), .int (-1), .non, .bl true, .str "0", .ref Z])) S2 = some (.lst [.int (nm + 1), .int (nm - 1), .int u, .int (r + 1), .int (-1), .non, .bl true, .str "0", .ref Z]) := upd_same
        have eZ20 : (upd (upd H19 Z (.lst [.int 0])) S2 (.lst [.int (nm + 1), .int (nm - 1), .int u, .int (r + 1), .int (-1), .non, .bl true, .str "0", .ref Z])) Z = some (.lst [.int 0]) := (grow_new (ex := []) nS2).lst (by simp) upd_same
        have pot20 : Pot (upd (upd H19 Z (.lst [.int 0])) S2 (.lst [.int (nm + 1), .int (nm - 1), .int u, .int (r + 1), .int (-1), .non, .bl true, .str "0", .ref Z])) p _ := (pot19.new nZ).new nS2
        have S2p := pne nS2 (pot19.new nZ)
        refine ⟨.ref S2, rfl, .ref p, rfl, by show 2 ≤ sizeLine; decide, fun T2 nT2 => ?_⟩
        have gT : Grow [] (upd (upd H19 Z (.lst [.int 0])) S2 (.lst [.int (nm + 1), .int (nm - 1), .int u, .int (r + 1), .int (-1), .non, .bl true, .str "0", .ref Z])) (upd (upd (upd H19 Z (.lst [.int 0])) S2 (.lst [.int (nm + 1), .int (nm - 1), .int u, .int (r + 1), .int (-1), .non, .bl true, .str "0", .ref Z])) T2 (.lst [.int 4, .int 9])) := grow_new nT2
        have potT := pot20.new (o := .lst [.int 4, .int 9]) nT2
        have T2p := pne nT2 pot20
        refine ⟨.ref p, rfl, p, 2, _, rfl, by decide, by decide, by omega, potT, fun w2 H21 w20 w21 g21 pot21 => ?_⟩
        have eT21 : H21 T2 = some (.lst [.int 4, .int 9]) := g21.lst (by simpa using T2p) upd_same
        have eS21 := g21.lst (by simpa using S2p) (gT.lst (by simp) eS20)
        have kp1 : Keeps (upd (upd H19 Z (.lst [.int 0])) S2 (.lst [.int (nm + 1), .int (nm - 1), .int u, .int (r + 1), .int (-1), .non, .bl true, .str "0", .ref Z])) H21 := (keeps_grow gT).trans (keeps_pot g21 potT)
        have kp2 : Keeps H18 H21 := ((keeps_pot g19 pot18).trans (keeps_grow g20)).trans kp1
        have gr21 : Grow [p] H18 H21 := (g19.trans ((g20.trans gT).any)).trans g21
        have eZ21 := kp1 Z eZ20
        obtain ⟨y4, hy4, y40, y49⟩ : ∃ y4 : Int, atI [V.int 4, .int 9] w2 = some (.int y4) ∧ 1 ≤ y4 ∧ y4 ≤ 9 := by
          obtain h | h : w2 = 0 ∨ w2 = 1 := by omega
          all_goals (subst h; exact ⟨_, rfl, by decide, by decide⟩)
        refine ⟨T2, _, _, .int y4, rfl, rfl, .inl (.inl eT21), hy4, p, y4, _, rfl, by omega, by omega, by omega, pot21, fun t H22 t0 t1 g22 pot22 => ?_⟩
        have eS22 := g22.lst (by simpa using S2p) eS21
        have kp3 := kp2.trans (keeps_pot g22 pot21)
        have gr22 := gr21.trans g22
        have eZ22 := keeps_pot g22 pot21 Z eZ21
        obtain ⟨val, hval, nv⟩ : ∃ val, atI [.int (nm + 1), .int (nm - 1), .int u, .int (r + 1), .int (-1), .non, .bl true, .str "0", .ref Z] t = some val ∧ Nv K H22 val := by
          obtain h | h | h | h | h | h | h | h | h : t = 0 ∨ t = 1 ∨ t = 2 ∨ t = 3 ∨ t = 4 ∨ t = 5 ∨ t = 6 ∨ t = 7 ∨ t = 8 := by omega
          · subst h; exact ⟨_, rfl, .int _ (by omega)⟩
          · subst h; exact ⟨_, rfl, .int _ (by omega)⟩
          · subst h; exact ⟨_, rfl, .int _ (by omega)⟩
          · subst h; exact ⟨_, rfl, .int _ (by omega)⟩
          · subst h; exact ⟨_, rfl, .int _ (by decide)⟩
          · subst h; exact ⟨_, rfl, .non⟩
          · subst h; exact ⟨_, rfl, .bl _⟩
          · subst h; exact ⟨_, rfl, .str⟩
          · subst h; exact ⟨_, rfl, .lst eZ22⟩
        have fd22 := fd18.go (gr22.keep F _ (by simpa using Fp) fd18.e fun ps z => by cases z) kp3
        have eD22 := gr22.keep D1 _ (by simpa using D1p) eD18 fun ps z => by cases z
        have eS22' := gr22.lst (by simpa using Sp) eS18
        have D1F : D1 ≠ F := ne_of_none e10 nF
        have lF := fd22.len
        refine ⟨S2, _, _, val, rfl, rfl, .inl (.inl eS22), hval, .ref F, rfl, .str wd, rfl, F, _, rfl, .inl ⟨_, .inr wd, fd22.e, rfl, by unfold sizeLine; omega, rfl⟩, ?_⟩
        refine ⟨_, _, _, _, _, _, rfl, (gr18.trans gr22).put fF fd22.e (fun ps z => by cases z), by rw [upd_ne D1F]; exact eD22, by rw [upd_ne SF]; exact eS22', (fd22.put nv (List.all_eq_true.mp bz.nm wd hwd)).more (by omega), ((pot22.at (o := .dK (putK kvs (.inr wd) val)) Fp.symm).mono (by omega))⟩
      · obtain ⟨kvs, x8, x10, x11, x12, x13, rfl, gr16, eD16, eS16, fd16, pot16⟩ := hp
        have lF := fd16.len
        refine ⟨?_, fun σ2 H2 hi => ?_⟩
        · refine ⟨.ref p, rfl, p, 9, _, rfl, by decide, by decide, by omega, pot16, fun v H18 w0 w1 g18 pot18 => ⟨rfl, _, rfl, ite2 (fun _ => ?_) fun _ => ?_⟩⟩
          · have fd18 := fd16.go (g18.keep F _ (by simpa using Fp) fd16.e fun ps z => by cases z) (keeps_pot g18 pot16)
            refine ⟨.ref F, rfl, F, _, rfl, .inl ⟨_, .inr "qu", fd18.e, rfl, by unfold sizeLine; omega, rfl⟩, ?_⟩
            rw [hI]
            exact ⟨F, _, _, _, _, _, _, _, _, _, _, rfl, fF, (gr16.trans g18).put fF fd18.e (fun ps z => by cases z), (fd18.put (.int 0 (by decide)) (k := "qu") (by decide +kernel)).more (by omega), ((pot18.at (o := .dK (putK kvs (.inr "qu") (.int 0))) Fp.symm).mono (by omega))⟩
          · have fd18 := fd16.go (g18.keep F _ (by simpa using Fp) fd16.e fun ps z => by cases z) (keeps_pot g18 pot16)
            rw [hI]
            exact ⟨F, _, _, _, _, _, _, _, _, _, _, rfl, fF, gr16.trans g18, fd18.more (by omega), pot18.mono (by omega)⟩
        rw [hI] at hi
        obtain ⟨F2, kvs2, x4, x5, x6, x7, y8, y10, y11, y12, y13, rfl, fF2, gr2, fd2, pot2⟩ := hi
        have F2p : F2 ≠ p := by
          obtain ⟨a, b, d, e, _⟩ := pot2
          exact (ne_of e fd2.e (by simp)).symm
        refine ⟨.ref p, rfl, p, 9, _, rfl, by decide, by decide, by omega, pot2, fun v H18 w0 w1 g18 pot18 => ⟨rfl, _, rfl, ite2 (fun _ => ?_) fun _ => ?_⟩⟩
        · have fd18 := fd2.go (g18.keep F2 _ (by simpa using F2p) fd2.e fun ps z => by cases z) (keeps_pot g18 pot2)
          refine ⟨.ref F2, rfl, fun Y nY => ?_⟩
          have gY : Grow [] H18 (upd H18 Y (.dK [])) := grow_new nY
          have fdY := fd18.go (gY.keep F2 _ (by simp) fd18.e fun ps z => by cases z) (keeps_grow gY)
          have potY := pot18.new (o := .dK []) nY
          have grY : Grow [p] H (upd H18 Y (.dK [])) := (gr2.trans g18).trans gY.any
          have eY : upd H18 Y (.dK []) Y = some (.dK []) := upd_same
          generalize upd H18 Y (.dK []) = H19 at gY fdY potY grY eY ⊢
          refine ⟨F2, Y, kvs2, rfl, rfl, fdY.e, eY, _, rfl, ite2 (fun e => ?_) fun _ => ?_⟩
          · have ne0 : kvs2 ≠ [] := of_decide_eq_true e
            obtain ⟨ns2, en, _⟩ := fdY.ks
            have ln2 : ns2.length = kvs2.length := by
              have := congrArg List.length en
              rw [List.length_map, List.length_map] at this
              exact this.symm
            have l1 : 1 ≤ kvs2.length := by
              cases kvs2 with
              | nil => exact absurd rfl ne0
              | cons _ _ => rw [List.length_cons]; omega
            have lF2 := fdY.len
            refine ⟨.ref F2, rfl, F2, rfl, .inl ⟨_, .inl fdY.e⟩, .ref F2, rfl, F2, kvs2, ns2, rfl, .inl fdY.e, en, by unfold sizeLine; omega, fun S3 nS3 => ?_⟩
            have lS : (ns2.mergeSort (PySem.W.dataLe false PyData.str)).length = ns2.length := List.length_mergeSort _
            have pS : ∀ x, x ∈ ns2.mergeSort (PySem.W.dataLe false PyData.str) → x ∈ ns2 := fun x hx => List.mem_mergeSort.mp hx
            generalize ns2.mergeSort (PySem.W.dataLe false PyData.str) = srt at lS pS ⊢
            have gS3 : Grow [] H19 (upd H19 S3 (.lst (srt.map V.str))) := grow_new nS3
            have potS := potY.new (o := .lst (srt.map V.str)) nS3
            have S3p := pne nS3 potY
            have eS3 : upd H19 S3 (.lst (srt.map V.str)) S3 = some (.lst (srt.map V.str)) := upd_same
            have fdS := fdY.go (gS3.keep F2 _ (by simp) fdY.e fun ps z => by cases z) (keeps_grow gS3)
            have grS : Grow [p] H (upd H19 S3 (.lst (srt.map V.str))) := grY.trans gS3.any
            generalize upd H19 S3 (.lst (srt.map V.str)) = H20 at gS3 potS eS3 fdS grS ⊢
            refine ⟨.ref p, rfl, .ref F2, rfl, F2, kvs2, rfl, fdS.e, p, _, _, rfl, by omega, by omega, by omega, potS, fun t H21 t0 t1 g21 pot21 => ?_⟩
            obtain ⟨j, rfl⟩ : ∃ j : Nat, t = (j : Int) := ⟨t.toNat, by omega⟩
            obtain ⟨nm, en2⟩ : ∃ nm, srt[j]? = some nm := ⟨_, List.getElem?_eq_getElem (by omega)⟩
            have mn : (Sum.inr nm : Key) ∈ kvs2.map Prod.fst := by
              rw [en]
              exact List.mem_map.mpr ⟨nm, pS _ (List.mem_of_getElem? en2), rfl⟩
            obtain ⟨v2, ev2⟩ := valV_key.mpr mn
            have fd21 := fdS.go (g21.keep F2 _ (by simpa using F2p) fdS.e fun ps z => by cases z) (keeps_pot g21 potS)
            refine ⟨S3, _, _, .str nm, rfl, rfl, .inl (.inl (g21.lst (by simpa using S3p) eS3)), atI_nat (xs := srt.map V.str) (by rw [List.getElem?_map, en2]; rfl), kvs2, .inr nm, v2, fd21.e, rfl, ev2, ?_⟩
            exact ⟨.ref F2, rfl, q F2 _ _ fF2 ((grS.trans g21).put fF2 fd21.e (fun ps z => by cases z)) ((fd21.drop (.inr nm)).more (by omega)) ((pot21.at (o := .dK (dropK kvs2 (.inr nm))) F2p.symm).mono (by omega))⟩
          · exact ⟨.ref F2, rfl, q F2 _ _ fF2 grY (fdY.more (by omega)) (potY.mono (by omega))⟩
        · have fd18 := fd2.go (g18.keep F2 _ (by simpa using F2p) fd2.e fun ps z => by cases z) (keeps_pot g18 pot2)
          exact ⟨.ref F2, rfl, q F2 _ _ fF2 (gr2.trans g18) (fd18.more (by omega)) (pot18.mono (by omega))⟩
end

end Lw

namespace Lw
open PySem PySem.Spec PyProof.Rows L2 GxR Gx
/-! ### the things of the law: shown, kept -/
structure Sh (d : PyData) (n m : Nat) : Prop where
  show_ : d.showable = true
  leaves : d.leavesShort 20 = true
  deep : d.depth ≤ n
  bulk : d.bulk ≤ m
theorem Sh.mono {d : PyData} {n m n' m' : Nat} (f : Sh d n m) (h1 : n ≤ n') (h2 : m ≤ m') : Sh d n' m' := ⟨f.show_, f.leaves, Nat.le_trans f.deep h1, Nat.le_trans f.bulk h2⟩
structure Shs (ds : List PyData) (n m : Nat) : Prop where
  show_ : PyData.showableAll ds = true
  leaves : PyData.leavesShortAll 20 ds = true
  deep : PyData.depthAll ds ≤ n
  bulk : PyData.bulkAll ds ≤ ds.length * (m + 1)
theorem shs {n m : Nat} : ∀ {ds : List PyData}, (∀ d ∈ ds, Sh d n m) → Shs ds n m
  | [], _ => ⟨rfl, rfl, Nat.zero_le _, by simp [PyData.bulkAll]⟩
  | d :: r, h => by
    have h1 := h d List.mem_cons_self
    have h2 := shs (ds := r) fun d q => h d (List.mem_cons_of_mem _ q)
    refine ⟨?_, ?_, ?_, ?_⟩
    · rw [PyData.showableAll, h1.show_, h2.show_]; rfl
    · rw [PyData.leavesShortAll, h1.leaves, h2.leaves]; rfl
    · rw [PyData.depthAll]
      exact Nat.max_le.mpr ⟨h1.deep, h2.deep⟩
    · rw [PyData.bulkAll, List.length_cons, Nat.succ_mul]
      have := h1.bulk
      have := h2.bulk
      omega
theorem Sh.list {n m k : Nat} {ds : List PyData} (h : ∀ d ∈ ds, Sh d n m) (hk : ds.length * (m + 1) ≤ k) : Sh (.list ds) (n + 1) k := by
  have f := shs h
  exact ⟨by rw [PyData.showable]; exact f.show_, by rw [PyData.leavesShort]; exact f.leaves, by rw [PyData.depth]; exact Nat.succ_le_succ f.deep, by rw [PyData.bulk]; exact Nat.le_trans f.bulk hk⟩
theorem Sh.tuple {n m k : Nat} {ds : List PyData} (h : ∀ d ∈ ds, Sh d n m) (hk : ds.length * (m + 1) ≤ k) : Sh (.tuple ds) (n + 1) k := by
  have f := shs h
  exact ⟨by rw [PyData.showable]; exact f.show_, by rw [PyData.leavesShort]; exact f.leaves, by rw [PyData.depth]; exact Nat.succ_le_succ f.deep, by rw [PyData.bulk]; exact Nat.le_trans f.bulk hk⟩
theorem sh_kv {n m : Nat} : ∀ {D : List (PyData × PyData)}, (∀ p ∈ D, Sh p.1 n m ∧ Sh p.2 n m) → PyData.showableKv D = true ∧ PyData.leavesShortKv 20 D = true ∧ PyData.depthKv D ≤ n ∧ PyData.bulkKv D ≤ D.length * (2 * m + 2)
  | [], _ => ⟨rfl, rfl, Nat.zero_le _, by simp [PyData.bulkKv]⟩
  | p :: r, h => by
    obtain ⟨f1, f2⟩ := h p List.mem_cons_self
    obtain ⟨i1, i2, i3, i4⟩ := sh_kv (D := r) fun q hq => h q (List.mem_cons_of_mem _ hq)
    refine ⟨?_, ?_, ?_, ?_⟩
    · rw [PyData.showableKv, f1.show_, f2.show_, i1]; rfl
    · rw [PyData.leavesShortKv, f1.leaves, f2.leaves, i2]; rfl
    · rw [PyData.depthKv]
      exact Nat.max_le.mpr ⟨Nat.max_le.mpr ⟨f1.deep, f2.deep⟩, i3⟩
    · rw [PyData.bulkKv, List.length_cons, Nat.succ_mul]
      have := f1.bulk
      have := f2.bulk
      omega
theorem Sh.dict {n m k : Nat} {D : List (PyData × PyData)} (h : ∀ p ∈ D, Sh p.1 n m ∧ Sh p.2 n m) (hk : D.length * (2 * m + 2) ≤ k) : Sh (.dict D) (n + 1) k := by
  obtain ⟨i1, i2, i3, i4⟩ := sh_kv h
  exact ⟨by rw [PyData.showable]; exact i1, by rw [PyData.leavesShort]; exact i2, by rw [PyData.depth]; exact Nat.succ_le_succ i3, by rw [PyData.bulk]; exact Nat.le_trans i4 hk⟩
theorem sh_int {i : Int} (h : i.natAbs ≤ 1099511627776) : Sh (.int i) 0 8 := by
  refine ⟨?_, ?_, Nat.le_refl _, Nat.zero_le _⟩
  · show decide (i.natAbs.log2 < 1920) = true
    exact decide_eq_true (PySem.Flt.log2_lt_of (by decide) (Nat.lt_of_le_of_lt h (by decide)))
  · show decide ((PyData.shown (.int i)).length ≤ 20) = true
    refine decide_eq_true ?_
    have t7 := int_text_length_le10 (a := i) (k := 13) (by decide) (Nat.lt_of_le_of_lt h (by decide))
    have e8 : (PyData.shown (.int i)).length = (toString i).length := PySem.ofString_length (toString i)
    omega
theorem sh_name {z : Str} (h : isNm z = true) : Sh (.str z) 0 8 := by
  have f := fine_name h
  refine ⟨f.show_, ?_, f.deep, f.bulk⟩
  rw [PyData.leavesShort]
  rw [List.all_eq_true]
  exact fun c hc => decide_eq_true (Nat.lt_of_lt_of_le (nm_lt h c hc) (by decide))
def nvD : V → PyData
  | .int i => .int i
  | .bl b => .bool b
  | .str x => .str x
  | .ref _ => .list [.int 0]
  | _ => .none
theorem nv_sh {K : PySem.W.Frag} {H : Hp} {v : V} (h : Nv K H v) : Dp K H v (nvD v) ∧ (nvD v).hasDict = false ∧ Sh (nvD v) 1 20 := by
  cases h with
  | int i b => exact ⟨.int i, rfl, (sh_int b).mono (by decide) (by decide)⟩
  | non => exact ⟨.non, rfl, ⟨rfl, rfl, by decide, by decide⟩⟩
  | bl b => exact ⟨.bl b, rfl, ⟨rfl, by cases b <;> rfl, by cases b <;> decide, by cases b <;> decide⟩⟩
  | str => exact ⟨.str _, rfl, ⟨by decide +kernel, by decide +kernel, by decide, by decide⟩⟩
  | lst e => exact ⟨.lst (.inl (.inl e)) (.cons (.int 0) .nil), rfl, Sh.list (n := 0) (m := 8) (fun d hd => by rw [List.mem_singleton.mp hd]; exact sh_int (by decide)) (by decide)⟩
/-- what the law asks that is no dict -/
inductive Oq (H : Hp) : V → Prop
  | non : Oq H .non
  | zero : Oq H (.int 0)
  | str : Oq H (.str "an")
  | nil {a : Addr} (e : H a = some (.lst [])) : Oq H (.ref a)
  | tnil {a : Addr} (e : H a = some (.tup [])) : Oq H (.ref a)
  | pr {a q : Addr} (e : H a = some (.lst [.ref q])) (e2 : H q = some (.tup [.str "an", .int 0])) : Oq H (.ref a)
theorem Oq.nod {K : PySem.W.Frag} {H : Hp} {v : V} (h : Oq H v) : NoD K H v := by
  cases h with
  | non => exact .non
  | zero => exact .int 0
  | str => exact .str _
  | nil e => exact .lst e
  | tnil e => exact .tup e
  | pr e _ => exact .lst e
/-- lists and tuples stay -/
def Seqs (H H' : Hp) : Prop := (∀ a xs, H a = some (.lst xs) → H' a = some (.lst xs)) ∧ ∀ a xs, H a = some (.tup xs) → H' a = some (.tup xs)
theorem seqs_grow {H H' : Hp} (g : Grow [] H H') : Seqs H H' := ⟨fun _ _ h => g.lst (by simp) h, fun _ _ h => g.tup (by simp) h⟩
theorem seqs_dict {H : Hp} {F : Addr} {kvs kvs' : List (Key × V)} (e : H F = some (.dK kvs)) : Seqs H (upd H F (.dK kvs')) :=
  ⟨fun a xs h => by rw [upd_ne (ne_of h e (by simp))]; exact h, fun a xs h => by rw [upd_ne (ne_of h e (by simp))]; exact h⟩
theorem Seqs.keeps {H H' : Hp} (s : Seqs H H') : Keeps H H' := fun a h => s.1 a _ h
theorem Oq.move {H H' : Hp} {v : V} (h : Oq H v) (s : Seqs H H') : Oq H' v := by
  cases h with
  | non => exact .non
  | zero => exact .zero
  | str => exact .str
  | nil e => exact .nil (s.1 _ _ e)
  | tnil e => exact .tnil (s.2 _ _ e)
  | pr e e2 => exact .pr (s.1 _ _ e) (s.2 _ _ e2)
/-- a thing of the law: no dict, {None: 0}, a dict of names (or 0) to values -/
inductive Tw (K : PySem.W.Frag) (H0 H : Hp) : V → Td → Prop
  | odd {v : V} : Oq H v → Tw K H0 H v .odd
  | nd {a : Addr} : H a = some (ndo a) → Tw K H0 H (.ref a) .nd
  | dic {a : Addr} {kvs : List (Key × V)} : H a = some (.dK kvs) → Fresh H0 a → (kvs.map Prod.fst).Nodup → kvs.length ≤ 300 → (∀ kv ∈ kvs, Nv K H kv.2) → (∀ kv ∈ kvs, kv.1 = Sum.inl 0 ∨ ∃ n, kv.1 = Sum.inr n ∧ isNm n = true) → Tw K H0 H (.ref a) (.dic kvs)
theorem Tw.tg {K : PySem.W.Frag} {H0 H : Hp} {v : V} {t : Td} (h : Tw K H0 H v t) : Tg K H v t := by
  cases h with
  | odd h => exact .odd h.nod
  | nd e => exact .nd e
  | dic e _ n l h _ => exact .dic e n l h
theorem Tw.grow0 {K : PySem.W.Frag} {H0 H H' : Hp} {v : V} {t : Td} (h : Tw K H0 H v t) (g : Grow [] H H') : Tw K H0 H' v t := by
  cases h with
  | odd h => exact .odd (h.move (seqs_grow g))
  | nd e => exact .nd (g.keep _ _ (by simp) e fun ps z => by cases z)
  | dic e f n l h k => exact .dic (g.keep _ _ (by simp) e fun ps z => by cases z) f n l (fun kv hk => (h kv hk).grow0 g) k
/-- a thing stays a thing where a dict gets another number -/
theorem Tw.put {K : PySem.W.Frag} {H0 H : Hp} {v : V} {t : Td} (h : Tw K H0 H v t) {N : Addr} {kvs kvs' : List (Key × V)} (e : H N = some (.dK kvs)) (h' : Tw K H0 (upd H N (.dK kvs')) (.ref N) (.dic kvs')) : ∃ t', Tw K H0 (upd H N (.dK kvs')) v t' := by
  cases h with
  | odd h => exact ⟨_, .odd (h.move (seqs_dict e))⟩
  | nd e2 => exact ⟨_, .nd (by rw [upd_ne (ne_of e2 e (by simp [ndo]))]; exact e2)⟩
  | @dic a ks e2 f n l hv k =>
    by_cases c : a = N
    · rw [c]
      exact ⟨_, h'⟩
    · exact ⟨_, .dic (by rw [upd_ne c]; exact e2) f n l (fun kv hk => (hv kv hk).move (seqs_dict e).keeps) k⟩
theorem kvsD_sh {K : PySem.W.Frag} {H : Hp} {kvs : List (Key × V)} (hv : ∀ kv ∈ kvs, Nv K H kv.2) (hk : ∀ kv ∈ kvs, kv.1 = Sum.inl 0 ∨ ∃ n, kv.1 = Sum.inr n ∧ isNm n = true) (l : kvs.length ≤ 300) : Sh (.dict (kvsD nvD kvs)) 2 12600 := by
  refine Sh.dict (n := 1) (m := 20) (fun p hp => ?_) (by unfold kvsD; rw [List.length_map]; omega)
  obtain ⟨kv, h, rfl⟩ := List.mem_map.mp hp
  refine ⟨?_, (nv_sh (hv kv h)).2.2⟩
  rcases hk kv h with e | ⟨n, e, hn⟩
  · show Sh (keyD kv.1) 1 20
    rw [e]
    exact (sh_int (by decide)).mono (by decide) (by decide)
  · show Sh (keyD kv.1) 1 20
    rw [e]
    exact (sh_name hn).mono (by decide) (by decide)
theorem Tw.shown {K : PySem.W.Frag} {H0 H : Hp} {v : V} {t : Td} (h : Tw K H0 H v t) : ∃ d, Sh d 2 12600 ∧ ∀ H', Grow [] H H' → Sq K H' v d := by
  have an : isNm "an" = true := by decide +kernel
  cases h with
  | odd h =>
    cases h with
    | non => exact ⟨.none, ⟨rfl, rfl, by decide, by decide⟩, fun H' g => Dn.sq (.d (.p .non rfl))⟩
    | zero => exact ⟨.int 0, (sh_int (by decide)).mono (by decide) (by decide), fun H' g => Dn.sq (.d (.p (.int 0) rfl))⟩
    | str => exact ⟨.str "an", (sh_name an).mono (by decide) (by decide), fun H' g => Dn.sq (.d (.p (.str _) rfl))⟩
    | nil e => exact ⟨.list [], ⟨rfl, rfl, by decide, by decide⟩, fun H' g => Dn.sq (.d (.p (.lst (.inl (.inl (g.lst (by simp) e))) .nil) rfl))⟩
    | tnil e => exact ⟨.tuple [], ⟨rfl, rfl, by decide, by decide⟩, fun H' g => Dn.sq (.d (.p (.tup (.inl (.inl (g.tup (by simp) e))) .nil) rfl))⟩
    | pr e e2 =>
      refine ⟨.list [.tuple [.str "an", .int 0]], ?_, fun H' g => Dn.sq (.d (.p (.lst (.inl (.inl (g.lst (by simp) e))) (.cons (.tup (.inl (.inl (g.tup (by simp) e2))) (.cons (.str _) (.cons (.int 0) .nil))) .nil)) rfl))⟩
      refine Sh.list (n := 1) (m := 18) (fun d hd => ?_) (by decide)
      rw [List.mem_singleton.mp hd]
      refine Sh.tuple (n := 0) (m := 8) (fun d hd => ?_) (by decide)
      rcases List.mem_cons.mp hd with rfl | hd
      · exact sh_name an
      · rw [List.mem_singleton.mp hd]; exact sh_int (by decide)
  | nd e => exact ⟨.dict [(.none, .int 0)], (Sh.dict (n := 1) (m := 20) (fun p hp => by rw [List.mem_singleton.mp hp]; exact ⟨⟨rfl, rfl, by decide, by decide⟩, (sh_int (by decide)).mono (by decide) (by decide)⟩) (by decide)).mono (by decide) (Nat.le_refl 12600), fun H' g => nd_sq (g.keep _ _ (by simp) e fun ps z => by cases z)⟩
  | @dic a kvs e _ n l hv k =>
    exact ⟨.dict (kvsD nvD kvs), kvsD_sh hv k l, fun H' g => dk_sq (g.keep _ _ (by simp) e fun ps z => by cases z) fun kv hk => ⟨(nv_sh ((hv kv hk).grow0 g)).1, (nv_sh (hv kv hk)).2.1⟩⟩
theorem sh_names {zs : List Str} (h : zs.all isNm = true) (l : zs.length ≤ 200) : Sh (.list (zs.map PyData.str)) 1 1800 := by
  refine Sh.list (n := 0) (m := 8) (fun d hd => ?_) (by rw [List.length_map]; omega)
  obtain ⟨z, hz, rfl⟩ := List.mem_map.mp hd
  exact sh_name (List.all_eq_true.mp h z hz)
theorem no_dict0 (zs : List Str) : PyData.hasDictAll (zs.map PyData.str) = false := by
  induction zs with
  | nil => rfl
  | cons z r ih =>
    rw [List.map_cons, PyData.hasDictAll, ih]
    rfl
/-- book, other, thing: shown -/
theorem three_sq {K : PySem.W.Frag} {H0 H : Hp} {l m : Addr} {v : V} {t : Td} {zs ws : List Str} (hl : H l = some (.lst (zs.map V.str))) (hm : H m = some (.lst (ws.map V.str))) (bz : Bk zs) (bw : Bk ws) (h : Tw K H0 H v t) :
    ∃ ds : List PyData, (∀ H', Grow [] H H' → Paired (Sq K H') [.ref l, .ref m, v] ds) ∧ PyData.showableAll ds = true ∧ PyData.depthAll ds ≤ 60 ∧ (PyData.list ds).shown.length ≤ sizeLine := by
  obtain ⟨d, h1, h2⟩ := h.shown
  have hs : ∀ e ∈ [PyData.list (zs.map PyData.str), .list (ws.map PyData.str), d], Sh e 2 12600 := fun e he => by
    rcases List.mem_cons.mp he with q | he
    · rw [q]; exact (sh_names bz.nm bz.len).mono (by decide) (by decide)
    · rcases List.mem_cons.mp he with q | he
      · rw [q]; exact (sh_names bw.nm bw.len).mono (by decide) (by decide)
      · rw [List.mem_singleton.mp he]; exact h1
  have f := shs hs
  have fl := Sh.list (k := 37803) hs (by show 3 * (12600 + 1) ≤ 37803; decide)
  refine ⟨_, fun H' g => .cons (Dn.sq (.d (.p (dp_book (.inl (.inl (g.lst (by simp) hl)))) (by rw [PyData.hasDict]; exact no_dict0 zs)))) (.cons (Dn.sq (.d (.p (dp_book (.inl (.inl (g.lst (by simp) hm)))) (by rw [PyData.hasDict]; exact no_dict0 ws)))) (.cons (h2 H' g) .nil)), f.show_, Nat.le_trans f.deep (by decide), ?_⟩
  have h3 := PyData.shown_le_bulk 20 (by decide) _ fl.leaves
  have h4 := fl.bulk
  rw [sizeLine_eq]
  omega

end Lw

namespace Lw
open PySem PySem.Spec PyProof.Rows L2 GxR Gx
theorem Tw.lst {K : PySem.W.Frag} {H0 H : Hp} {v : V} {kvs : List (Key × V)} (h : Tw K H0 H v (.dic kvs)) {D : Addr} {xs ys : List V} (e : H D = some (.lst xs)) (n : xs ≠ [.int 0]) : Tw K H0 (upd H D (.lst ys)) v (.dic kvs) := by
  cases h with
  | dic e2 f nd l h k =>
    exact .dic (by rw [upd_ne (ne_of e2 e (by simp))]; exact e2) f nd l (fun kv hk => (h kv hk).move fun a q => by rw [upd_ne (ne_of q e (by simpa using n.symm))]; exact q) k
theorem bb_show (d : Bool) : (PyData.list [.bool d, .bool d]).showable = true ∧ (PyData.list [.bool d, .bool d]).hasDict = false ∧ (PyData.list [.bool d, .bool d]).depth ≤ 60 ∧ (PyData.list [.bool d, .bool d]).shown.length ≤ sizeLine := by
  rw [sizeLine_eq]
  cases d <;> exact ⟨by decide +kernel, by decide +kernel, by decide +kernel, by decide +kernel⟩
theorem merge_keys {zs : List Str} (nd : zs.Nodup) : mergeK [] (zs.map fun z => ((Sum.inr z : Key), V.int 0)) = zs.map fun z => ((Sum.inr z : Key), V.int 0) := by
  have h : ∀ (l acc : List Str), (acc ++ l).Nodup → mergeK (acc.map fun z => ((Sum.inr z : Key), V.int 0)) (l.map fun z => ((Sum.inr z : Key), V.int 0)) = (acc ++ l).map fun z => ((Sum.inr z : Key), V.int 0) := by
    intro l
    induction l with
    | nil => intro acc _; rw [List.append_nil]; rfl
    | cons z l ih =>
      intro acc n
      have nz : valV (acc.map fun z => ((Sum.inr z : Key), V.int 0)) (.inr z) = none := valV_none (by
        rw [List.map_map]
        intro hm
        obtain ⟨y, hy, e⟩ := List.mem_map.mp hm
        cases e
        exact (List.nodup_append.mp n).2.2 z hy z List.mem_cons_self rfl)
      have e := ih (acc ++ [z]) (by rw [List.append_assoc]; exact n)
      rw [List.append_assoc, List.map_append] at e
      show mergeK (putK (acc.map fun z => ((Sum.inr z : Key), V.int 0)) (.inr z) (.int 0)) _ = _
      rw [putK_new _ nz]
      exact e
  exact h zs [] nd
theorem Tw.growp {K : PySem.W.Frag} {H0 H H' : Hp} {v : V} {t : Td} (h : Tw K H0 H v t) {p : Addr} {c : Int} (g : Grow [p] H H') (pt : Pot H p c) : Tw K H0 H' v t := by
  have kp := keeps_pot g pt
  obtain ⟨x, y, z, ep, _⟩ := pt
  have ne : ∀ {b : Addr} {o : HO}, H b = some o → o ≠ .lst [.int x, .int y, .int z] → b ∉ [p] := fun e n => by simpa using ne_of e ep n
  cases h with
  | odd h =>
    cases h with
    | non => exact .odd .non
    | zero => exact .odd .zero
    | str => exact .odd .str
    | nil e => exact .odd (.nil (g.lst (ne e (by simp)) e))
    | tnil e => exact .odd (.tnil (g.tup (ne e (by simp)) e))
    | pr e e2 => exact .odd (.pr (g.lst (ne e (by simp)) e) (g.tup (ne e2 (by simp)) e2))
  | nd e => exact .nd (g.keep _ _ (ne e (by simp [ndo])) e fun ps z => by cases z)
  | dic e f n l h k => exact .dic (g.keep _ _ (ne e (by simp)) e fun ps z => by cases z) f n l (fun kv hk => (h kv hk).move kp) k
section
variable {P : Program} {w : World} {K : PySem.W.Frag} {mg : Str → Option Value} {base : Heap}
/-! ### law -/
def spLaw (K : PySem.W.Frag) (T1 T T4 : Addr) : Sp := fun vs H Q _ => ∃ (a : Addr) (ns : List Int), vs = [.ref a] ∧ TabG H T1 ∧ TabG H T ∧ TabG H T4 ∧ SqL K H a (ns.map V.int) ∧ ∀ (H' : Hp), Grow [] H H' → Q (.bl true) H'
theorem ok_law {f c T1 T T4 : Addr} {fd : FuncData} (B : Nb mg) (D : DefIs K "law" "law" st_law f fd (.ref c))
    (c_law_pot : Callee P w K mg base CX0 3 "_law_pot" ["script", "k"] (spPot K)) (c_law_take : Callee P w K mg base CX0 3 "_law_take" ["pot", "many"] (spTake K))
    (c_law_names : Callee P w K mg base CX0 5 "_law_names" ["pot", "many"] (spDraw K)) (c_law_many : Callee P w K mg base CX0 5 "_law_many" ["pot", "many"] (spDraw K))
    (c_law_other : Callee P w K mg base CX0 5 "_law_other" ["pot", "book"] (spOther K)) (c_law_numbers : Callee P w K mg base CX0 6 "_law_numbers" ["pot", "book", "other", "roads"] (spNumbersV K))
    (c_law_due : Callee P w K mg base CX0 5 "_law_due" ["book", "other", "roads", "thing"] (spDueV K))
    (c_is_numbering : Callee P w K mg base CX0 11 "is_numbering" ["book", "other", "roads", "thing"] (spIsNumV K T1 T T4)) :
    FnG P w K mg base CX0 12 f fd ["script"] (spLaw K T1 T T4) := by
  refine D.ok0 (k := 11) sc_law (fun vs H Q E h => ?_) (fun A outer s H vs Q E g hr h => ?_)
  · obtain ⟨a, ns, rfl, _⟩ := h
    rfl
  obtain ⟨a, ns, rfl, t1, tT, t4, ha, q⟩ := h
  obtain ⟨I, hI⟩ : ∃ I : L2.St → Hp → Prop, I = fun σ H' => ∃ (p b : Addr) (zs : List Str) (x y1 y2 y3 y4 y5 y6 y7 y8 y9 : Option V), σ = [some (.ref a), x, some (.ref p), some (.ref b), y1, y2, y3, y4, y5, y6, y7, y8, y9] ∧ Fresh H p ∧ Fresh H b ∧ b ≠ p ∧ H' b = some (.lst (zs.map V.str)) ∧ Bk zs ∧ zs.length ≤ 100 ∧ Pot H' p 1000 ∧ Grow [] H H' := ⟨_, rfl⟩
  obtain ⟨I2, hI2⟩ : ∃ I : L2.St → Hp → Prop, I = fun σ H' => ∃ (p b O Od : Addr) (r : Int) (zs ws : List Str) (vs : List V) (x y4 y5 y6 y7 y8 y9 : Option V), σ = [some (.ref a), x, some (.ref p), some (.ref b), some (.ref O), some (.int r), some (.ref Od), y4, y5, y6, y7, y8, y9] ∧ Fresh H p ∧ b ≠ p ∧ O ≠ p ∧ Od ≠ p ∧ H' b = some (.lst (zs.map V.str)) ∧ H' O = some (.lst (ws.map V.str)) ∧
      Bk zs ∧ zs.Perm ws ∧ zs.length ≤ 100 ∧ 0 ≤ r ∧ r < 1000000000 ∧ Pot H' p 4000 ∧ Grow [] H H' ∧ H' Od = some (.lst vs) ∧ vs.length = 10 ∧ ∀ v ∈ vs, ∃ t, Tw K H H' v t := ⟨_, rfl⟩
  refine ⟨_,
      (pss_cons (ps_for PassesOwn.never rfl (pi_range1 rfl B.n_range (pa_cons (pe_callB (call_max2 rfl) rfl B.n_max (by decide +kernel) (pa_cons pe_int (pa_cons (pe_callB (call_min2 rfl) rfl B.n_min (by decide +kernel) (pa_cons pe_int (pa_cons (pe_callB call_len_seq rfl B.n_len PySem.boot_len (pa_cons (pv 0) pa_nil)) pa_nil))) pa_nil))) pa_nil)) (pg_name (i := 1) sc_law.nd rfl (.inl rfl)) (
        (pss_cons (ps_set (i := 2) sc_law.nd rfl (.inr rfl) (pe_g c_law_pot g (hr.mono (by decide)) pass0 (pa_cons (pv 0) (pa_cons (pv 1) pa_nil))))
        (pss_cons (ps_set (i := 3) sc_law.nd rfl (.inr rfl) (pe_g c_law_names g (hr.mono (by decide)) pass0 (pa_cons (pv 2) (pa_cons (pe_g c_law_take g (hr.mono (by decide)) pass0 (pa_cons (pv 2) (pa_cons pe_int pa_nil))) pa_nil))))
        (pss_cut I (ps_if (PW.pt (pw_and (pt_cmpR (op_eq) (pv 1) pe_int (nomark _)) (pw_and1 (pt_cmpR (op_eq) (pe_g c_law_take g (hr.mono (by decide)) pass0 (pa_cons (pv 2) (pa_cons pe_int pa_nil))) pe_int (nomark _))))) (
          (pss_one (ps_set (i := 3) sc_law.nd rfl (.inr rfl) (pe_g c_law_many g (hr.mono (by decide)) pass0 (pa_cons (pv 2) (pa_cons (pe_op op_add pe_int (pe_g c_law_take g (hr.mono (by decide)) pass0 (pa_cons (pv 2) (pa_cons pe_int pa_nil)))) pa_nil)))))) pss_nil)
        (pss_cons (ps_set (i := 4) sc_law.nd rfl (.inr rfl) (pe_g c_law_other g (hr.mono (by decide)) pass0 (pa_cons (pv 2) (pa_cons (pv 3) pa_nil))))
        (pss_cons (ps_set (i := 5) sc_law.nd rfl (.inr rfl) (pe_ix ix_list (pe_lst (pa_cons (pe_g c_law_take g (hr.mono (by decide)) pass0 (pa_cons (pv 2) (pa_cons pe_int pa_nil))) (pa_cons (pe_g c_law_take g (hr.mono (by decide)) pass0 (pa_cons (pv 2) (pa_cons pe_int pa_nil))) (pa_cons (pe_op op_sub (pe_op op_powX pe_int pe_int) pe_int) pa_nil)))) (pe_g c_law_take g (hr.mono (by decide)) pass0 (pa_cons (pv 2) (pa_cons pe_int pa_nil))) (fun _ _ => rfl)))
        (pss_cut I2 (ps_set (i := 6) sc_law.nd rfl (.inl rfl) (pe_lst (pa_cons pe_non (pa_cons pe_int (pa_cons (pe_lst pa_nil) (pa_cons (pe_tup pa_nil) (pa_cons pe_str (pa_cons (pe_disp (pps_cons pe_int pe_int pps_nil) rfl rfl (List.cons_ne_nil _ _) (by decide)) (pa_cons (pe_nd pe_non pe_int) (pa_cons (pe_lst (pa_cons (pe_tup (pa_cons pe_str (pa_cons pe_int pa_nil))) pa_nil)) (pa_cons (pe_callTy (call_dictP rfl) rfl B.n_dict (by decide +kernel) (pa_cons (pe_lc (own := [("word", 7)]) (tt := tYes) (g := (gName 7)) rfl sc_law.nd (pi_list (pv 3)) (blkOk_by (N := N_law) (sc := defScope st_law) (by decide +kernel)) (fun _ _ _ _ _ => (pg_name (i := 7) sc_law.nd rfl (.inl rfl))) (fun _ _ _ _ _ => pts_nil) (fun _ _ _ _ _ => pe_to (pe_tup (pa_cons (pv 7) (pa_cons pe_int pa_nil))))) pa_nil)) (pa_cons pe_dnewK pa_nil))))))))))))
        (pss_one (ps_for PassesOwn.never rfl (pi_list (pe_op op_cat (pv 6) (pe_lc (own := [("turn", 9)]) (tt := tYes) (g := (gName 9)) rfl sc_law.nd (pi_range1 rfl B.n_range (pa_cons pe_int pa_nil)) (blkOk_by (N := N_law) (sc := defScope st_law) (by decide +kernel)) (fun _ _ _ _ _ => (pg_name (i := 9) sc_law.nd rfl (.inl rfl))) (fun _ _ _ _ _ => pts_nil) (fun _ _ _ _ _ => pe_to (pe_g c_law_numbers g (hr.mono (by decide)) pass0 (pa_cons (pv 2) (pa_cons (pv 3) (pa_cons (pv 4) (pa_cons (pv 5) pa_nil))))))))) (pg_name (i := 8) sc_law.nd rfl (.inl rfl)) (
          (pss_cons (ps_set (i := 10) sc_law.nd rfl (.inl rfl) (pe_callB (cr_reprQ g hr.units) rfl B.n_repr (by decide +kernel) (pa_cons (pe_lst (pa_cons (pv 3) (pa_cons (pv 4) (pa_cons (pv 8) pa_nil)))) pa_nil)))
          (pss_cons (ps_set (i := 11) sc_law.nd rfl (.inl rfl) (pe_g c_law_due g (hr.mono (by decide)) pass0 (pa_cons (pv 3) (pa_cons (pv 4) (pa_cons (pv 5) (pa_cons (pv 8) pa_nil))))))
          (pss_cons (ps_set (i := 12) sc_law.nd rfl (.inl rfl) (pe_lst (pa_cons (pe_g c_is_numbering g (hr.mono (by decide)) pass0 (pa_cons (pv 3) (pa_cons (pv 4) (pa_cons (pv 5) (pa_cons (pv 8) pa_nil))))) (pa_cons (pe_g c_is_numbering g (hr.mono (by decide)) pass0 (pa_cons (pv 3) (pa_cons (pv 4) (pa_cons (pv 5) (pa_cons (pv 8) pa_nil))))) pa_nil))))
          (pss_cons (ps_if (PW.pt (pw_or (pt_cmpR (op_ne) (pe_callB (cr_repr g hr.units) rfl B.n_repr (by decide +kernel) (pa_cons (pv 12) pa_nil)) (pe_callB (cr_repr g hr.units) rfl B.n_repr (by decide +kernel) (pa_cons (pe_lst (pa_cons (pv 11) (pa_cons (pv 11) pa_nil))) pa_nil)) (nomark _)) (pw_or1 (pt_cmpR (op_ne) (pe_callB (cr_reprQ g hr.units) rfl B.n_repr (by decide +kernel) (pa_cons (pe_lst (pa_cons (pv 3) (pa_cons (pv 4) (pa_cons (pv 8) pa_nil)))) pa_nil)) (pv 10) (nomark _))))) (
            (pss_one (ps_ret pe_bl))) pss_nil)
          (pss_one (ps_if (PW.pt (pw_and (pt_val (pe_callB call_isiN rfl B.n_isinstance (by decide +kernel) (pa_cons (pv 8) (pa_cons (pe_bltn (v := .ty "dict") rfl B.n_dict (by decide +kernel) rfl) pa_nil)))) (pw_and (pt_cmpR (op_gt) (pe_callB (call_lenN (hu_of hr)) rfl B.n_len (by decide +kernel) (pa_cons (pv 8) pa_nil)) pe_int (nomark _)) (pw_and1 (pt_val (pv 11)))))) (
            (pss_cons (ps_asg (pe_un un_neg pe_int) (pg_sub (pv 8) (pe_ix ix_list (pv 3) (pe_un un_neg pe_int) (fun _ _ => rfl)) (set_dict (hu_of hr))))
            (pss_one (ps_if (pt_cmpR (op_isnot_bl) (pe_g c_is_numbering g (hr.mono (by decide)) pass0 (pa_cons (pv 3) (pa_cons (pv 4) (pa_cons (pv 5) (pa_cons (pv 8) pa_nil))))) pe_bl (nomark _)) (
              (pss_one (ps_ret pe_bl))) pss_nil)))) pss_nil)))))))))))))))))
      (pss_one (ps_ret (pe_cmpR (op_is_bl) (pe_g c_is_numbering g (hr.mono (by decide)) pass0 (pa_cons (pe_lst pa_nil) (pa_cons (pe_lst pa_nil) (pa_cons pe_int (pa_cons pe_dnewK pa_nil))))) pe_bl (nomark _))))), ?_⟩
  have mk : ∀ {H' : Hp} (p b : Addr) (zs : List Str) (x y1 y2 y3 y4 y5 y6 y7 y8 y9 : Option V), Fresh H p → Fresh H b → b ≠ p → H' b = some (.lst (zs.map V.str)) → Bk zs → zs.length ≤ 100 → Pot H' p 1000 → Grow [] H H' → I [some (.ref a), x, some (.ref p), some (.ref b), y1, y2, y3, y4, y5, y6, y7, y8, y9] H' := fun p b zs x y1 y2 y3 y4 y5 y6 y7 y8 y9 h1 h2 h3 h4 h5 h8 h6 h7 => by
    rw [hI]
    exact ⟨p, b, zs, x, y1, y2, y3, y4, y5, y6, y7, y8, y9, rfl, h1, h2, h3, h4, h5, h8, h6, h7⟩
  have npot : ∀ {H' : Hp} {p D : Addr} {c : Int}, Fresh H' D → Pot H' p c → D ≠ p := fun f h => by
    obtain ⟨x, y, z, e, _⟩ := h
    exact (f.ne e (fun ps z => by cases z)).symm
  have pgo : ∀ {p : Addr} {H1 H2 : Hp} {k : Int}, Pot H1 p k → Grow [] H1 H2 → Pot H2 p k := fun ⟨a, b, d, e, r⟩ g => ⟨a, b, d, g.lst (by simp) e, r⟩
  refine ⟨.ref a, rfl, a, _, rfl, .inl ha, _, _, rfl, _, _, rfl, ?_⟩
  obtain ⟨n, hn, n12⟩ : ∃ n : Int, (if (if ((ns.map V.int).length : Int) < 12 then ((ns.map V.int).length : Int) else 12) > 1 then (if ((ns.map V.int).length : Int) < 12 then ((ns.map V.int).length : Int) else 12) else 1) = n ∧ 0 ≤ n ∧ n ≤ 12 := ⟨_, rfl, by omega⟩
  rw [hn]
  refine ⟨n, rfl, by omega, by omega, ?_⟩
  refine for_it walk_range (fun i σ H' => ∃ x1 x2 x3 x4 x5 x6 x7 x8 x9 xa xb xc : Option V, σ = [some (.ref a), x1, x2, x3, x4, x5, x6, x7, x8, x9, xa, xb, xc] ∧ Grow [] H H') ⟨none, none, none, none, none, none, none, none, none, none, none, none, rfl, Grow.refl _ _⟩ (fun _ _ _ _ _ => trivial) (fun i x σ H2 H3 hi hp hy => ?_) (fun σ H2 hp => ?_)
  · obtain ⟨x1, x2, x3, x4, x5, x6, x7, x8, x9, xa, xb, xc, rfl, gr⟩ := hp
    obtain ⟨rfl, rfl⟩ := hy
    refine ⟨.ref a, rfl, .int (0 + i), rfl, a, ns, i, by show [V.ref a, V.int (0 + (i : Int))] = [V.ref a, V.int (i : Int)]; rw [Int.zero_add], gr.seq0 ha, by omega, fun p H4 fp g4 pot4 => ?_⟩
    have gr4 := gr.trans g4
    have fpH := gr.fresh (by simp) fp
    refine ⟨.ref p, rfl, .ref p, rfl, p, 10, 0, rfl, by decide, by decide, by decide, pot4, fun v H5 v0 v1 g5 pot5 => ?_⟩
    have gr5 : Grow [] H H5 := ((gr4.any (ex := [p])).trans g5).drop fpH
    refine ⟨p, v.toNat, 1, by show [V.ref p, V.int v] = [V.ref p, V.int (v.toNat : Int)]; rw [Int.toNat_of_nonneg v0], pot5, by decide, fun b H6 zs fb g6 eb bz z100 pot6 => ⟨?_, fun σ7 H7 h7 => ?_⟩⟩
    · have gr6 : Grow [] H H6 := ((gr5.any (ex := [p])).trans g6).drop fpH
      have fbH := gr5.fresh (by simp) fb
      have bp := npot fb pot5
      refine ⟨.int (0 + i), rfl, rfl, _, rfl, ite2 (fun _ => ?_) fun _ => iteF ?_⟩
      · refine ⟨.ref p, rfl, p, 8, _, rfl, by decide, by decide, by decide, pot6, fun v2 H8 u0 u1 g8 pot8 => ⟨rfl, _, rfl, ite2 (fun _ => ?_) fun _ => ?_⟩⟩
        · have gr8 : Grow [] H H8 := ((gr6.any (ex := [p])).trans g8).drop fpH
          refine ⟨.ref p, rfl, .ref p, rfl, p, 41, _, rfl, by decide, by decide, by decide, pot8, fun v3 H9 w0 w1 g9 pot9 => ⟨_, _, rfl, rfl, ?_⟩⟩
          have gr9 : Grow [] H H9 := ((gr8.any (ex := [p])).trans g9).drop fpH
          refine ⟨p, (60 + v3).toNat, _, by show [V.ref p, V.int (60 + v3)] = [V.ref p, V.int ((60 + v3).toNat : Int)]; rw [Int.toNat_of_nonneg (by omega)], pot9, by decide, fun b2 H10 zs2 fb2 g10 eb2 bz2 z2 pot10 => ?_⟩
          exact mk p b2 zs2 _ _ _ _ _ _ _ _ _ _ fpH (gr9.fresh (by simp) fb2) (npot fb2 pot9) eb2 bz2 z2 (pot10.mono (by decide)) (((gr9.any (ex := [p])).trans g10).drop fpH)
        · exact mk p b zs _ _ _ _ _ _ _ _ _ _ fpH fbH bp (g8.lst (by simpa using bp) eb) bz z100 (pot8.mono (by decide)) (((gr6.any (ex := [p])).trans g8).drop fpH)
      · exact mk p b zs _ _ _ _ _ _ _ _ _ _ fpH fbH bp eb bz z100 (pot6.mono (by decide)) gr6
    · rw [hI] at h7
      obtain ⟨p, b, zs, x, y1, y2, y3, y4, y5, y6, y7, y8, y9, rfl, fp, fb, bp, eb, bz, z100, pot, gr7⟩ := h7
      refine ⟨.ref p, rfl, .ref b, rfl, p, b, _, zs, rfl, pot, by decide, eb, bp, bz, fun O H10 ws fO g10 eO pm pot10 => ?_⟩
      have gr10 : Grow [] H H10 := ((gr7.any (ex := [p])).trans g10).drop fp
      have eb10 := g10.lst (by simpa using bp) eb
      have Op := npot fO pot
      have bw := bz.perm pm
      have bw := bz.perm pm
      refine ⟨.ref p, rfl, p, 12, _, rfl, by decide, by decide, by decide, pot10, fun v1 H11 v10 v11 g11 pot11 => ?_⟩
      refine ⟨.ref p, rfl, p, 99, _, rfl, by decide, by decide, by decide, pot11, fun v2 H12 v20 v21 g12 pot12 => ?_⟩
      have cp9 : CPowX 10 9 := ⟨by decide, by decide⟩
      refine ⟨_, _, rfl, rfl, cp9, _, _, rfl, rfl, by show 3 ≤ sizeLine; decide, fun L nL => ?_⟩
      have potL := pot12.new (o := .lst [.int v1, .int v2, .int 999999999]) nL
      have gL : Grow [p] H12 (upd H12 L (.lst [.int v1, .int v2, .int 999999999])) := grow_new nL
      have Lp := npot (fresh_none nL) pot12
      refine ⟨.ref p, rfl, p, 3, _, rfl, by decide, by decide, by decide, potL, fun v3 H13 v30 v31 g13 pot13 => ?_⟩
      have eL : H13 L = some (.lst [.int v1, .int v2, .int 999999999]) := g13.lst (by simpa using Lp) upd_same
      obtain ⟨r, hr0, r0, r9⟩ : ∃ r, atI [V.int v1, .int v2, .int 999999999] v3 = some (.int r) ∧ 0 ≤ r ∧ r < 1000000000 := by
        obtain h | h | h : v3 = 0 ∨ v3 = 1 ∨ v3 = 2 := by omega
        · subst h; exact ⟨v1, rfl, by omega, by omega⟩
        · subst h; exact ⟨v2, rfl, by omega, by omega⟩
        · subst h; exact ⟨999999999, rfl, by omega, by omega⟩
      have g1013 : Grow [p] H10 H13 := ((g11.trans g12).trans gL).trans g13
      have gr13 : Grow [] H H13 := ((gr10.any (ex := [p])).trans g1013).drop fp
      have eb13 := g1013.lst (by simpa using bp) eb10
      have eO13 := g1013.lst (by simpa using Op) eO
      refine ⟨L, _, _, .int r, rfl, rfl, .inl (.inl eL), hr0, ⟨?_, fun σ8 H8 h8 => ?_⟩⟩
      · have S0 : ∀ v ∈ [V.non, V.int 0], ∃ t, Tw K H H13 v t := fun v hv => by
          simp only [List.mem_cons, List.not_mem_nil, or_false] at hv
          rcases hv with rfl | rfl
          · exact ⟨_, .odd .non⟩
          · exact ⟨_, .odd .zero⟩
        have keepS : ∀ {vs : List V} {Hi Hj : Hp}, (∀ v ∈ vs, ∃ t, Tw K H Hi v t) → Grow [] Hi Hj → ∀ v ∈ vs, ∃ t, Tw K H Hj v t := fun S g v hv => let ⟨t, h⟩ := S v hv; ⟨t, h.grow0 g⟩
        have addS : ∀ {vs : List V} {Hi : Hp} {v : V} {t : Td}, (∀ v ∈ vs, ∃ t, Tw K H Hi v t) → Tw K H Hi v t → ∀ x ∈ vs ++ [v], ∃ t, Tw K H Hi x t := fun S h x hx => by
          rcases List.mem_append.mp hx with hx | hx
          · exact S x hx
          · rw [List.mem_singleton.mp hx]; exact ⟨_, h⟩
        have nw : ∀ {Hi : Hp} {A0 : Addr} {o : HO}, Grow [] H13 Hi → Hi A0 = none → Grow [] H13 (upd Hi A0 o) ∧ Fresh H A0 ∧ upd Hi A0 o A0 = some o ∧ Grow [] Hi (upd Hi A0 o) := fun {Hi A0 o} g n =>
          ⟨g.new n, (gr13.trans g).fresh0 n, upd_same, grow_new n⟩
        refine ⟨by show 0 ≤ sizeLine; decide, fun A1 n1 => ?_⟩
        obtain ⟨g1, f1, e1, k1⟩ := nw (o := .lst []) (Grow.refl _ _) n1
        have S1 := addS (keepS S0 k1) (.odd (.nil e1))
        generalize upd H13 A1 (.lst []) = H1 at g1 S1 ⊢
        clear S0 k1 e1 n1
        refine ⟨by show 0 ≤ sizeLine; decide, fun A2 n2 => ?_⟩
        obtain ⟨g2, f2, e2, k2⟩ := nw (o := .tup []) g1 n2
        have S2 := addS (addS (keepS S1 k2) (.odd (.tnil e2))) (.odd .str)
        generalize upd H1 A2 (.tup []) = H2 at g2 S2 ⊢
        clear S1 k2 e2 n2 g1
        refine fun A3 n3 => ⟨upd_same, [(Sum.inl 0, .int 0)], rfl, by decide, ?_⟩
        rw [upd_upd]
        obtain ⟨g3, f3, e3, k3⟩ := nw (o := .dK (mergeK [] [(Sum.inl 0, .int 0)])) g2 n3
        have S3 := addS (keepS S2 k3) (.dic e3 f3 (by decide) (by decide) (fun kv hk => by
          have : kv = (Sum.inl 0, V.int 0) := by simpa [mergeK, putK] using hk
          rw [this]; exact .int 0 (by decide)) fun kv hk => by
          have : kv = (Sum.inl 0, V.int 0) := by simpa [mergeK, putK] using hk
          rw [this]; exact .inl rfl)
        generalize upd H2 A3 (.dK (mergeK [] [(Sum.inl 0, V.int 0)])) = H3 at g3 S3 ⊢
        clear S2 k3 e3 n3 g2
        refine ⟨rfl, rfl, fun A4 n4 => ?_⟩
        obtain ⟨g4, f4, e4, k4⟩ := nw (o := ndo A4) g3 n4
        have S4 := addS (keepS S3 k4) (.nd e4)
        generalize upd H3 A4 (ndo A4) = H4 at g4 S4 ⊢
        clear S3 k4 e4 n4 g3
        refine ⟨by show 2 ≤ sizeLine; decide, fun A5 n5 => ?_⟩
        obtain ⟨g5, f5, e5, k5⟩ := nw (o := .tup [.str "an", .int 0]) g4 n5
        have S5 := keepS S4 k5
        generalize upd H4 A5 (.tup [.str "an", .int 0]) = H5 at g5 S5 e5 ⊢
        clear S4 k5 n5 g4
        refine ⟨by show 1 ≤ sizeLine; decide, fun A6 n6 => ?_⟩
        obtain ⟨g6, f6, e6, k6⟩ := nw (o := .lst [.ref A5]) g5 n6
        have S6 := addS (keepS S5 k6) (.odd (.pr e6 (k6.tup (by simp) e5)))
        generalize upd H5 A6 (.lst [.ref A5]) = H6 at g6 S6 ⊢
        clear S5 k6 n6 g5 e5 e6
        have eb6 := g6.lst (by simp) eb13
        refine ⟨.ref b, rfl, b, rfl, ⟨_, .inl (.inl eb6)⟩, fun D1 nD => ?_⟩
        refine lc_it (walk_list (xs := zs.map V.str)) (fun j H' => Grow [] H6 H' ∧ ∃ ps : List Addr, H' D1 = some (.lst (ps.map V.ref)) ∧ Paired (fun p kv => H' p = some (.tup [kV kv.1, kv.2])) ps ((zs.take j).map fun z => ((Sum.inr z : Key), V.int 0))) ⟨grow_new nD, [], upd_same, .nil⟩
          (fun j H' _ h => .inl (.inl (h.1.lst (by simp) eb6))) (fun j x Ha Hb hj hp2 hy => ?_) (fun H7 hp2 => ?_)
        · obtain ⟨gj, ps, eD, pr⟩ := hp2
          obtain ⟨rfl, ex⟩ := hy
          rw [List.getElem?_map] at ex
          rw [List.length_map] at hj
          cases ez : zs[j]? with
          | none => rw [ez] at ex; cases ex
          | some z =>
            rw [ez] at ex
            cases ex
            refine ⟨rfl, yes_if ⟨.str z, rfl, by show 2 ≤ sizeLine; decide, fun U nU => ?_⟩⟩
            have gU : Grow [] Hb (upd Hb U (.tup [.str z, .int 0])) := grow_new nU
            have eDU := gU.lst (by simp) eD
            have lp : ps.length = j := by
              have := Paired.length pr
              rw [List.length_map, List.length_take] at this
              omega
            have gV : Grow [] H6 (upd (upd Hb U (.tup [.str z, .int 0])) D1 (.lst ((ps ++ [U]).map V.ref))) := (gj.trans gU).put (fresh_none nD) eDU (fun ps z => by cases z)
            have tup : ∀ {A0 : Addr} {xs : List V}, upd Hb U (.tup [.str z, .int 0]) A0 = some (.tup xs) → upd (upd Hb U (.tup [.str z, .int 0])) D1 (.lst ((ps ++ [U]).map V.ref)) A0 = some (.tup xs) := fun {A0 xs} e => by
              rw [upd_ne (ne_of e eDU (by simp))]
              exact e
            refine ⟨_, eDU, by rw [List.length_map, lp]; unfold sizeLine; omega, ?_⟩
            rw [show ps.map V.ref ++ [V.ref U] = (ps ++ [U]).map V.ref by rw [List.map_append]; rfl]
            refine ⟨gV, ps ++ [U], upd_same, ?_⟩
            have et : ((zs.take (j + 1)).map fun z => ((Sum.inr z : Key), V.int 0)) = ((zs.take j).map fun z => ((Sum.inr z : Key), V.int 0)) ++ [((Sum.inr z : Key), V.int 0)] := by
              rw [List.take_add_one, ez, List.map_append]
              rfl
            rw [et]
            exact Paired.snoc (a := U) (b := ((Sum.inr z : Key), V.int 0)) (Paired.mapP pr fun _ _ h => tup (gU.tup (by simp) h)) (tup (A0 := U) (xs := [.str z, .int 0]) upd_same)
        · obtain ⟨g7, ps, eD, pr⟩ := hp2
          dsimp only [tNil]
          rw [List.length_map, List.take_length] at pr
          refine ⟨D1, ps, _, rfl, .inl (.inl eD), Paired.mapP pr fun _ _ h => .inl (.inl h), fun A8 n8 => ?_⟩
          rw [merge_keys bz.nd]
          have fA8 := (gr13.trans (g6.trans g7)).fresh0 n8
          have S8 := addS (keepS (keepS S6 g7) (grow_new (o := .dK (zs.map fun z => ((Sum.inr z : Key), V.int 0))) n8)) (.dic upd_same fA8 (by
            rw [List.map_map, List.Nodup, List.pairwise_map]
            exact bz.nd.imp fun q e => q (Sum.inr.inj e)) (by rw [List.length_map]; omega) (fun kv hk => by
            obtain ⟨z, _, rfl⟩ := List.mem_map.mp hk
            exact .int 0 (by decide)) fun kv hk => by
            obtain ⟨z, hz, rfl⟩ := List.mem_map.mp hk
            exact .inr ⟨z, rfl, List.all_eq_true.mp bz.nm z hz⟩)
          have g8 := (g6.trans g7).new (o := .dK (zs.map fun z => ((Sum.inr z : Key), V.int 0))) n8
          generalize upd H7 A8 (.dK (zs.map fun z => ((Sum.inr z : Key), V.int 0))) = H8 at g8 S8 ⊢
          refine fun A9 n9 => ?_
          obtain ⟨g9, f9, e9, k9⟩ := nw (o := .dK []) g8 n9
          have S9 := addS (keepS S8 k9) (.dic e9 f9 List.nodup_nil (Nat.zero_le _) (fun kv hk => nomatch hk) fun kv hk => nomatch hk)
          generalize upd H8 A9 (.dK []) = H9 at g9 S9 ⊢
          refine ⟨by show 10 ≤ sizeLine; decide, fun Od nO => ?_⟩
          have gO := g9.new (o := .lst [.non, .int 0, .ref A1, .ref A2, .str "an", .ref A3, .ref A4, .ref A6, .ref A8, .ref A9]) nO
          have SO := keepS S9 (grow_new (o := .lst [.non, .int 0, .ref A1, .ref A2, .str "an", .ref A3, .ref A4, .ref A6, .ref A8, .ref A9]) nO)
          rw [hI2]
          exact ⟨p, b, O, Od, r, zs, ws, _, _, _, _, _, _, _, _, rfl, fp, bp, Op, npot (fresh_none nO) (pgo pot13 g9), gO.lst (by simp) eb13, gO.lst (by simp) eO13, bz, pm, z100, r0, r9, (pgo pot13 gO).mono (by decide), gr13.trans gO, upd_same, rfl, SO⟩
      · rw [hI2] at h8
        obtain ⟨p, b, O, Od, r, zs, ws, vs, x, y4, y5, y6, y7, y8, y9, rfl, fp, bp, Op, Odp, eb, eO, bz, pm, z100, r0, r9, pot, gr8, eOd, l10, S⟩ := h8
        have bw := bz.perm pm
        refine ⟨.ref Od, rfl, 8, rfl, by decide, by decide, fun D2 nD2 => ?_⟩
        have D2p : D2 ≠ p := npot (fresh_none nD2) pot
        refine lc_it walk_range (fun i H' => ∃ ns : List V, Grow [p] H8 H' ∧ H' D2 = some (.lst ns) ∧ ns.length = i ∧ (∀ v ∈ ns, ∃ kvs, Tw K H H' v (.dic kvs)) ∧ Pot H' p (4000 + 1000 * (i : Nat))) ⟨[], grow_new nD2, upd_same, rfl, (fun v h => nomatch h), (pot.new nD2).mono (by decide)⟩
          (fun _ _ _ _ => trivial) (fun i2 x2 Ha Hb hi2 hp2 hy2 => ?_) (fun H9 hp2 => ?_)
        · obtain ⟨ns, gj, eD, hlen, hns, potj⟩ := hp2
          obtain ⟨rfl, rfl⟩ := hy2
          have hi2 : i2 < 8 := hi2
          refine ⟨rfl, yes_if ⟨.ref p, rfl, .ref b, rfl, .ref O, rfl, .int r, rfl, p, b, O, _, r, zs, ws, rfl, potj, by omega, gj.lst (by simpa using bp) eb, gj.lst (by simpa using Op) eO, bp, Op, bz, pm, z100, r0, r9, fun N Hn kvs fN gN fd potN => ?_⟩⟩
          have eDn := gN.lst (by simpa using D2p) eD
          have ne0 : ns ≠ [.int 0] := fun z => by
            obtain ⟨kv, t⟩ := hns (.int 0) (by rw [z]; exact List.mem_cons_self)
            cases t
          have fNH : Fresh H N := Fresh.back fN ((gr8.any (ex := [p])).trans gj) potj
          refine ⟨_, eDn, by rw [hlen]; unfold sizeLine; omega, ns ++ [.ref N], (gj.trans gN).put (fresh_none nD2) eDn (fun ps z => by cases z), upd_same, by rw [List.length_append, hlen]; rfl, fun v hv => ?_, (potN.at D2p.symm).mono (by omega)⟩
          rcases List.mem_append.mp hv with hv | hv
          · obtain ⟨kv, t⟩ := hns v hv
            exact ⟨kv, (t.growp gN potj).lst eDn ne0⟩
          · rw [List.mem_singleton.mp hv]
            obtain ⟨ks, ek, hk⟩ := fd.ks
            refine ⟨kvs, Tw.lst (.dic fd.e fNH fd.nd fd.len fd.vals fun kv h => ?_) eDn ne0⟩
            have : kv.1 ∈ ks.map Sum.inr := by rw [← ek]; exact List.mem_map.mpr ⟨kv, h, rfl⟩
            obtain ⟨n, hn, e⟩ := List.mem_map.mp this
            exact .inr ⟨n, e.symm, hk n hn⟩
        · obtain ⟨ns, g9, eD2, ln, hns, pot9⟩ := hp2
          have ln : ns.length = 8 := ln
          dsimp only [tNil]
          have eOd9 := g9.lst (by simpa using Odp) eOd
          refine ⟨Od, D2, _, _, rfl, rfl, eOd9, eD2, by rw [l10, ln]; decide, fun G nG => ?_⟩
          have gr9 : Grow [] H H9 := ((gr8.any (ex := [p])).trans g9).drop fp
          have gr10 := gr9.new (o := .lst (vs ++ ns)) nG
          have gG : Grow [] H9 (upd H9 G (.lst (vs ++ ns))) := grow_new nG
          have eG : upd H9 G (.lst (vs ++ ns)) G = some (.lst (vs ++ ns)) := upd_same
          have eb10 := gG.lst (by simp) (g9.lst (by simpa using bp) eb)
          have eO10 := gG.lst (by simp) (g9.lst (by simpa using Op) eO)
          have T0 : ∀ v ∈ vs ++ ns, ∃ t, Tw K H (upd H9 G (.lst (vs ++ ns))) v t := fun v hv => by
            rcases List.mem_append.mp hv with hv | hv
            · obtain ⟨t, h⟩ := S v hv
              exact ⟨t, (h.growp g9 pot).grow0 gG⟩
            · obtain ⟨kv, h⟩ := hns v hv
              exact ⟨_, h.grow0 gG⟩
          generalize upd H9 G (.lst (vs ++ ns)) = H10 at gr10 eG eb10 eO10 T0 ⊢
          have lth : (vs ++ ns).length = 18 := by rw [List.length_append, l10, ln]
          generalize vs ++ ns = th at eG T0 lth ⊢
          refine ⟨G, rfl, ⟨_, .inl (.inl eG)⟩, ?_⟩
          refine for_it (D := ⟨fun σ H1 => ∃ x1 x2 x3 x4 x5 x6 x7 x8 x9 xa xb xc : Option V, σ = [some (.ref a), x1, x2, x3, x4, x5, x6, x7, x8, x9, xa, xb, xc] ∧ Grow [] H H1, Q, fun _ _ => False, fun _ _ => False⟩) (walk_list (xs := th)) (fun i σ H' => ∃ (x1 x7 x8 x9 xa xb xc : Option V), σ = [some (.ref a), x1, some (.ref p), some (.ref b), some (.ref O), some (.int r), some (.ref Od), x7, x8, x9, xa, xb, xc] ∧ Grow [] H H' ∧ H' G = some (.lst th) ∧ H' b = some (.lst (zs.map V.str)) ∧
              H' O = some (.lst (ws.map V.str)) ∧ ∀ v ∈ th, ∃ t, Tw K H H' v t) ⟨_, _, _, _, _, _, _, rfl, gr10, eG, eb10, eO10, T0⟩ (fun i σ H' _ h => by
              obtain ⟨_, _, _, _, _, _, _, _, _, e, _⟩ := h
              exact .inl (.inl e)) (fun i y σ Ha Hb hi hp hy => ?_) (fun σ H' hp => ?_)
          · obtain ⟨x1, x7, x8, x9, xa, xb, xc, rfl, gra, eGa, eba, eOa, Ta⟩ := hp
            obtain ⟨rfl, ey⟩ := hy
            obtain ⟨t, tw⟩ := Ta y (List.mem_of_getElem? ey)
            obtain ⟨ds, hP, hs, hd, hz⟩ := three_sq eba eOa bz bw tw
            refine ⟨.ref b, rfl, .ref O, rfl, y, rfl, by show 3 ≤ sizeLine; decide, fun L nL => ⟨L, _, _, ds, rfl, upd_same, hP _ (grow_new nL), hs, hd, hz, ?_⟩⟩
            have gL : Grow [] Hb (upd Hb L (.lst [.ref b, .ref O, y])) := grow_new nL
            generalize upd Hb L (.lst [.ref b, .ref O, y]) = H11 at gL ⊢
            refine ⟨.ref b, rfl, .ref O, rfl, .int r, rfl, y, rfl, b, O, y, zs, ws, r, t, rfl, gL.lst (by simp) eba, gL.lst (by simp) eOa, bz, pm, (tw.grow0 gL).tg, fun H12 g12 => ?_⟩
            have g12 := gL.trans g12
            have tb : ∀ {Hx : Hp}, Grow [] Hb Hx → TabG Hx T1 ∧ TabG Hx T ∧ TabG Hx T4 := fun g => ⟨(gra.trans g).tabs _ t1, (gra.trans g).tabs _ tT, (gra.trans g).tabs _ t4⟩
            obtain ⟨u1, u2, u3⟩ := tb g12
            refine ⟨.ref b, rfl, .ref O, rfl, .int r, rfl, y, rfl, b, O, y, zs, ws, r, t, rfl, u1, u2, u3, g12.lst (by simp) eba, g12.lst (by simp) eOa, bz, pm, (tw.grow0 g12).tg, r0, fun H13 g13 => ?_⟩
            have g13 := g12.trans g13
            obtain ⟨u1, u2, u3⟩ := tb g13
            refine ⟨.ref b, rfl, .ref O, rfl, .int r, rfl, y, rfl, b, O, y, zs, ws, r, t, rfl, u1, u2, u3, g13.lst (by simp) eba, g13.lst (by simp) eOa, bz, pm, (tw.grow0 g13).tg, r0, fun H14 g14 => ⟨by show 2 ≤ sizeLine; decide, fun To nTo => ?_⟩⟩
            have g14 := g13.trans g14
            have gT : Grow [] Hb (upd H14 To (.lst [.bl (dueT zs ws r t), .bl (dueT zs ws r t)])) := g14.new nTo
            have eT : upd H14 To (.lst [.bl (dueT zs ws r t), .bl (dueT zs ws r t)]) To = some (.lst [.bl (dueT zs ws r t), .bl (dueT zs ws r t)]) := upd_same
            generalize upd H14 To (.lst [.bl (dueT zs ws r t), .bl (dueT zs ws r t)]) = H15 at gT eT ⊢
            obtain ⟨b1, b2, b3, b4⟩ := bb_show (dueT zs ws r t)
            refine ⟨.ref To, rfl, .ref To, .list [.bool (dueT zs ws r t), .bool (dueT zs ws r t)], rfl, .lst (.inl (.inl eT)) (.cons (.bl _) (.cons (.bl _) .nil)), b1, b2, b3, b4, ?_⟩
            refine ⟨.bl (dueT zs ws r t), rfl, .bl (dueT zs ws r t), rfl, by show 2 ≤ sizeLine; decide, fun Tb nTb => ?_⟩
            have gB := gT.new (o := .lst [.bl (dueT zs ws r t), .bl (dueT zs ws r t)]) nTb
            have eB : upd H15 Tb (.lst [.bl (dueT zs ws r t), .bl (dueT zs ws r t)]) Tb = some (.lst [.bl (dueT zs ws r t), .bl (dueT zs ws r t)]) := upd_same
            generalize upd H15 Tb (.lst [.bl (dueT zs ws r t), .bl (dueT zs ws r t)]) = H16 at gB eB ⊢
            refine ⟨.ref Tb, .list [.bool (dueT zs ws r t), .bool (dueT zs ws r t)], rfl, .lst (.inl (.inl eB)) (.cons (.bl _) (.cons (.bl _) .nil)), b1, b2, b3, b4, rfl, _, rfl, ite2 (fun e => by simp at e) fun _ => ?_⟩
            refine ⟨.ref b, rfl, .ref O, rfl, y, rfl, by show 3 ≤ sizeLine; decide, fun L2 nL2 => ⟨L2, _, _, ds, rfl, upd_same, hP _ (gB.new nL2), hs, hd, hz, .str _, rfl, rfl, _, rfl, ite2 (fun e => by simp at e) fun _ => ?_⟩⟩
            have gC := gB.new (o := .lst [.ref b, .ref O, y]) nL2
            generalize upd H16 L2 (.lst [.ref b, .ref O, y]) = H17 at gC ⊢
            have tw7 := tw.grow0 gC
            have eb7 := gC.lst (by simp) eba
            have eO7 := gC.lst (by simp) eOa
            have eG7 := gC.lst (by simp) eGa
            have gr7 := gra.trans gC
            have T7 : ∀ v ∈ th, ∃ t, Tw K H H17 v t := fun v hv => let ⟨t, h⟩ := Ta v hv; ⟨t, h.grow0 gC⟩
            cases tw7 with
            | odd h =>
              obtain ⟨Ty, n1, tb2, ty, kit⟩ := (h.nod (K := K)).ty
              exact ⟨y, rfl, .inl ⟨y, .ty "dict", .type Ty, .type "dict", false, rfl, .ty "dict", ty, kit, false, rfl, iteF ⟨_, _, _, _, _, _, _, rfl, gr7, eG7, eb7, eO7, T7⟩⟩⟩
            | @nd N eN =>
              refine ⟨.ref N, rfl, .inr ⟨N, "dict", true, rfl, eN, rfl, true, rfl, iteT ⟨.ref N, rfl, N, rfl, .inr ⟨eN, _, _, rfl, rfl, _, rfl, ite2 (fun _ => ?_) fun _ => ?_⟩⟩⟩⟩
              · exact ⟨.bl false, rfl, false, rfl, iteF ⟨_, _, _, _, _, _, _, rfl, gr7, eG7, eb7, eO7, T7⟩⟩
              · exact ⟨_, _, _, _, _, _, _, rfl, gr7, eG7, eb7, eO7, T7⟩
            | @dic N kvs eN fN nk kl kv kk =>
              refine ⟨.ref N, rfl, .inl ⟨.ref N, .ty "dict", .type "dict", .type "dict", true, rfl, .ty "dict", .base (.dK eN), rfl, true, rfl, iteT ⟨.ref N, rfl, N, rfl, .inl ⟨kvs, eN, _, _, rfl, rfl, _, rfl, ite2 (fun l0 => ?_) fun _ => ?_⟩⟩⟩⟩
              rotate_left
              · exact ⟨_, _, _, _, _, _, _, rfl, gr7, eG7, eb7, eO7, T7⟩
              have l0 : 0 < kvs.length := by
                have := of_decide_eq_true l0
                omega
              refine ⟨.bl (dueD zs ws r kvs), rfl, dueD zs ws r kvs, rfl, ite2 (fun e => ?_) fun _ => ?_⟩
              rotate_left
              · exact ⟨_, _, _, _, _, _, _, rfl, gr7, eG7, eb7, eO7, T7⟩
              have lk : kvs.length = zs.length := Classical.byContradiction fun n => by
                rw [dueD_len n] at e
                cases e
              have zne : zs ≠ [] := fun z => by rw [z] at lk; rw [List.length_nil] at lk; omega
              obtain ⟨ys, lw, ezs⟩ : ∃ (ys : List Str) (lw : Str), zs = ys ++ [lw] := ⟨zs.dropLast, zs.getLast zne, (List.dropLast_concat_getLast zne).symm⟩
              have mlw : lw ∈ zs := by rw [ezs]; exact List.mem_append_right _ List.mem_cons_self
              have al : atI (zs.map V.str) (-1) = some (.str lw) := by rw [ezs, List.map_append]; exact atI_last _ _
              refine ⟨1, rfl, .ref N, rfl, .ref b, rfl, 1, rfl, b, _, _, .str lw, rfl, rfl, .inl (.inl eb7), al, N, _, rfl, .inl ⟨_, .inr lw, eN, rfl, by unfold sizeLine; omega, rfl⟩, ?_⟩
              have gP : Grow [] H (upd H17 N (.dK (putK kvs (.inr lw) (.int (-1))))) := gr7.put fN eN (fun ps z => by cases z)
              have tP : Tw K H (upd H17 N (.dK (putK kvs (.inr lw) (.int (-1))))) (.ref N) (.dic (putK kvs (.inr lw) (.int (-1)))) := by
                refine .dic upd_same fN ?_ (by have := length_putK kvs (.inr lw) (.int (-1)); omega) (fun q hq => ?_) fun q hq => ?_
                · rcases putK_fst kvs (.inr lw) (.int (-1)) with e | ⟨n, e⟩
                  · rw [e]; exact nk
                  · rw [e]
                    exact List.nodup_append.mpr ⟨nk, by simp, fun a ha b hb z => n (by rw [List.mem_singleton.mp hb] at z; rw [← z]; exact ha)⟩
                · rcases putK_val hq with hq | e
                  · exact (kv q hq).move (keeps_dict eN)
                  · rw [e]
                    exact .int _ (by decide)
                · have mq : q.1 ∈ (putK kvs (.inr lw) (.int (-1))).map Prod.fst := List.mem_map.mpr ⟨q, hq, rfl⟩
                  have old : q.1 ∈ kvs.map Prod.fst → q.1 = Sum.inl 0 ∨ ∃ n, q.1 = Sum.inr n ∧ isNm n = true := fun m => by
                    obtain ⟨q2, h2, e⟩ := List.mem_map.mp m
                    rw [← e]
                    exact kk q2 h2
                  rcases putK_fst kvs (.inr lw) (.int (-1)) with e | ⟨_, e⟩
                  · rw [e] at mq
                    exact old mq
                  · rw [e] at mq
                    rcases List.mem_append.mp mq with m | m
                    · exact old m
                    · exact .inr ⟨lw, List.mem_singleton.mp m, List.all_eq_true.mp bz.nm lw mlw⟩
              have TP : ∀ v ∈ th, ∃ t, Tw K H (upd H17 N (.dK (putK kvs (.inr lw) (.int (-1))))) v t := fun v hv => let ⟨t, h⟩ := T7 v hv; h.put eN tP
              have ls : ∀ {A0 : Addr} {xs : List V}, H17 A0 = some (.lst xs) → upd H17 N (.dK (putK kvs (.inr lw) (.int (-1)))) A0 = some (.lst xs) := fun {A0 xs} h => by
                rw [upd_ne (ne_of h eN (by simp))]
                exact h
              have bad : dueT zs ws r (.dic (putK kvs (.inr lw) (.int (-1)))) = false := dueD_val (List.all_eq_false.mpr ⟨lw, mlw, by
                rw [valOf_some (by rw [valV_put, if_pos rfl])]
                intro z
                have := of_decide_eq_true (show decide ((0 : Int) ≤ -1 ∧ (-1 : Int) ≤ r) = true from z)
                omega⟩)
              have eb8 := ls eb7
              have eO8 := ls eO7
              have eG8 := ls eG7
              generalize upd H17 N (.dK (putK kvs (.inr lw) (.int (-1)))) = H18 at gP tP TP eb8 eO8 eG8 ⊢
              refine ⟨.ref b, rfl, .ref O, rfl, .int r, rfl, .ref N, rfl, b, O, .ref N, zs, ws, r, _, rfl, gP.tabs _ t1, gP.tabs _ tT, gP.tabs _ t4, eb8, eO8, bz, pm, tP.tg, r0, fun H19 g19 => ?_⟩
              rw [bad]
              refine ⟨_, _, rfl, rfl, _, rfl, ite2 (fun e => by cases e) fun _ => ?_⟩
              exact ⟨_, _, _, _, _, _, _, rfl, gP.trans g19, g19.lst (by simp) eG8, g19.lst (by simp) eb8, g19.lst (by simp) eO8, fun v hv => let ⟨t, h⟩ := TP v hv; ⟨t, h.grow0 g19⟩⟩
          · obtain ⟨x1, x7, x8, x9, xa, xb, xc, rfl, gra, _⟩ := hp
            exact ⟨_, _, _, _, _, _, _, _, _, _, _, _, rfl, gra⟩
  · obtain ⟨x1, x2, x3, x4, x5, x6, x7, x8, x9, xa, xb, xc, rfl, gr⟩ := hp
    refine ⟨by show 0 ≤ sizeLine; decide, fun A1 n1 => ⟨by show 0 ≤ sizeLine; decide, fun A2 n2 => fun A3 n3 => ?_⟩⟩
    have g1 := gr.new (o := .lst []) n1
    have g2 := g1.new (o := .lst []) n2
    have g3 := g2.new (o := .dK []) n3
    have e1 := ((grow_new (ex := []) n2).lst (by simp) upd_same : upd (upd H2 A1 (.lst [])) A2 (.lst []) A1 = some (.lst []))
    have e1 := (grow_new (ex := []) (o := .dK []) n3).lst (by simp) e1
    have e2 := (grow_new (ex := []) (o := .dK []) n3).lst (by simp) (upd_same : upd (upd H2 A1 (.lst [])) A2 (.lst []) A2 = some (.lst []))
    refine ⟨A1, A2, .ref A3, [], [], 0, .dic [], rfl, g3.tabs _ t1, g3.tabs _ tT, g3.tabs _ t4, e1, e2, ⟨rfl, List.nodup_nil, by decide⟩, .refl _, .dic upd_same List.nodup_nil (Nat.zero_le _) (fun kv hk => nomatch hk), by decide, fun H' g => ⟨_, _, rfl, rfl, ?_⟩⟩
    exact q _ (g3.trans g)
end
theorem law_start {K : PySem.W.Frag} {H : Hp} {a : Addr} {ns : List Int} {c1 c2 c4 : Addr × Addr} (t : ∀ p ∈ [c1, c2, c4], TabG H p.2) (_ : ns.length ≤ 63) (_ : ∀ z ∈ ns, Builtin.Int.intBits z ≤ 1048576) (h : SqL K H a (ns.map V.int)) :
    spLaw K c1.2 c2.2 c4.2 [.ref a] H (fun v _ => v = .bl true) E0 := ⟨a, ns, rfl, t _ (by simp), t _ (by simp), t _ (by simp), h, fun _ _ => rfl⟩

end Lw
namespace Lw
open PySem PySem.Spec PyProof.Rows L2 GxR Gx
/-! ### the head -/
def d_is_name : He.DefD := ⟨("is_name", none), "is_name", "is_name", defArgs st_is_name, defBody st_is_name, defScope st_is_name, [], []⟩
def d_are_unlike_names : He.DefD := ⟨("are_unlike_names", none), "are_unlike_names", "are_unlike_names", defArgs st_are_unlike_names, defBody st_are_unlike_names, defScope st_are_unlike_names, [], []⟩
def d_is_book : He.DefD := ⟨("is_book", none), "is_book", "is_book", defArgs st_is_book, defBody st_is_book, defScope st_is_book, [], []⟩
def d_is_numbering : He.DefD := ⟨("is_numbering", none), "is_numbering", "is_numbering", defArgs st_is_numbering, defBody st_is_numbering, defScope st_is_numbering, [], []⟩
def d_is_whole : He.DefD := ⟨("is_whole", none), "is_whole", "is_whole", defArgs st_is_whole, defBody st_is_whole, defScope st_is_whole, [], []⟩
def d_is_spot : He.DefD := ⟨("is_spot", none), "is_spot", "is_spot", defArgs st_is_spot, defBody st_is_spot, defScope st_is_spot, [], []⟩
def d_check_books : He.DefD := ⟨("check_books", none), "check_books", "check_books", defArgs st_check_books, defBody st_check_books, defScope st_check_books, [], []⟩
def d_check_roads : He.DefD := ⟨("check_roads", none), "check_roads", "check_roads", defArgs st_check_roads, defBody st_check_roads, defScope st_check_roads, [], []⟩
def d_places_of : He.DefD := ⟨("places_of", none), "places_of", "places_of", defArgs st_places_of, defBody st_places_of, defScope st_places_of, [], []⟩
def d_pairs_turned : He.DefD := ⟨("pairs_turned", none), "pairs_turned", "pairs_turned", defArgs st_pairs_turned, defBody st_pairs_turned, defScope st_pairs_turned, [], []⟩
def d_numbers_all : He.DefD := ⟨("numbers_all", none), "numbers_all", "numbers_all", defArgs st_numbers_all, defBody st_numbers_all, defScope st_numbers_all, [], []⟩
def d_law_pot : He.DefD := ⟨("_law_pot", none), "_law_pot", "_law_pot", defArgs st_law_pot, defBody st_law_pot, defScope st_law_pot, [], []⟩
def d_law_take : He.DefD := ⟨("_law_take", none), "_law_take", "_law_take", defArgs st_law_take, defBody st_law_take, defScope st_law_take, [], []⟩
def d_law_some : He.DefD := ⟨("_law_some", none), "_law_some", "_law_some", defArgs st_law_some, defBody st_law_some, defScope st_law_some, [], []⟩
def d_law_names : He.DefD := ⟨("_law_names", none), "_law_names", "_law_names", defArgs st_law_names, defBody st_law_names, defScope st_law_names, [], []⟩
def d_law_many : He.DefD := ⟨("_law_many", none), "_law_many", "_law_many", defArgs st_law_many, defBody st_law_many, defScope st_law_many, [], []⟩
def d_law_other : He.DefD := ⟨("_law_other", none), "_law_other", "_law_other", defArgs st_law_other, defBody st_law_other, defScope st_law_other, [], []⟩
def d_law_turned : He.DefD := ⟨("_law_turned", none), "_law_turned", "_law_turned", defArgs st_law_turned, defBody st_law_turned, defScope st_law_turned, [], []⟩
def d_law_levels : He.DefD := ⟨("_law_levels", none), "_law_levels", "_law_levels", defArgs st_law_levels, defBody st_law_levels, defScope st_law_levels, [], []⟩
def d_law_is_count : He.DefD := ⟨("_law_is_count", none), "_law_is_count", "_law_is_count", defArgs st_law_is_count, defBody st_law_is_count, defScope st_law_is_count, [], []⟩
def d_law_due : He.DefD := ⟨("_law_due", none), "_law_due", "_law_due", defArgs st_law_due, defBody st_law_due, defScope st_law_due, [], []⟩
def d_law_numbers : He.DefD := ⟨("_law_numbers", none), "_law_numbers", "_law_numbers", defArgs st_law_numbers, defBody st_law_numbers, defScope st_law_numbers, [], []⟩
def d_law : He.DefD := ⟨("law", none), "law", "law", defArgs st_law, defBody st_law, defScope st_law, [], []⟩
def hdDefs : List He.DefD := [d_is_name, d_are_unlike_names, d_is_book, d_is_numbering, d_is_whole, d_is_spot, d_check_books, d_check_roads, d_places_of, d_pairs_turned, d_numbers_all, d_law_pot, d_law_take, d_law_some, d_law_names, d_law_many, d_law_other, d_law_turned, d_law_levels, d_law_is_count, d_law_due, d_law_numbers, d_law]
def hdFacts : List He.Fa := [.glo "is_name", .glo "are_unlike_names", .glo "is_book", .glo "is_numbering", .glo "is_whole", .glo "is_spot", .glo "check_books", .glo "check_roads", .glo "places_of", .glo "pairs_turned", .glo "numbers_all", .glo "_law_pot", .glo "_law_take", .glo "_law_some", .glo "_law_names", .glo "_law_many", .glo "_law_other", .glo "_law_turned", .glo "_law_levels", .glo "_law_is_count", .glo "_law_due", .glo "_law_numbers", .glo "law", .free "all", .free "bool", .free "dict", .free "enumerate", .free "int", .free "isinstance", .free "len", .free "list", .free "max", .free "min", .free "range", .free "repr", .free "set", .free "sorted", .free "str", .free "type", .int "MOST_LETTERS" 8]
def hdTabs : List He.Defn := [("is_name", none), ("are_unlike_names", none), ("numbers_all", none)]
def hdLoose : List Str := (["ApartError", "NoBook", "Unlike", "NoNumber", "MOST_LETTERS", "is_name", "are_unlike_names", "is_book", "is_numbering", "is_whole", "is_spot", "check_books", "check_roads", "places_of", "pairs_turned", "numbers_all", "_law_pot", "_law_take", "_law_some", "_law_names"] : List Str) ++ (["_law_many", "_law_other", "_law_turned", "_law_levels", "_law_is_count", "_law_due", "_law_numbers"] : List Str)
abbrev hdRow : PySem.W.OpenRow := PySem.W.OpenLaw.row PySem.Challenge.rw_heardapart_k11_numberings_judged
abbrev hdView : Program := PySem.W.view hdRow.prog [31]
abbrev hdTop : DefRec := HandSHeadRun.topDef hdRow.prog 31
def hdTs : List He.Tab := []
abbrev hdHook : PySem.W.Hook := He.hookX 4 hdFacts hdDefs hdTs hdTabs (fun _ => true)
def hdOb (s : PySem.W.SharedT) : He.AlX := He.obsX 4 hdFacts hdDefs hdTs hdTabs (fun _ => true) (HandSHeadRun.getT s)
theorem hdOb_eq (s : PySem.W.SharedT) : hdOb s = hdHook.obs s.abs := He.obsX_eq (HandSHeadRun.getT_eq s)
theorem hdRun (w : World) : HandSHeadRun.RunEq hdRow hdView hdHook hdOb 4000 hdLoose w := by
  intro os
  kernel_rfl
theorem triples_none : TriplesOk (#[] : Array Value).toList := trivial
/-- the law's promise, from the head's word -/
theorem hd_all {w : World} {K : PySem.W.Frag} {h : Heap} {mg : Str → Option Value} {f : Addr} (X : K.In h) (G : h.Ns mainGlobals mg) (hfa : mg ("law" : Str) = some (.ref f)) (c : He.SaysX hdFacts hdDefs hdTs hdTabs (fun _ => true) w h K) :
    LawG PySem.Challenge.rw_heardapart_k11_numberings_judged w K 12 63 "script" mg f h := by
  have glo : ∀ x : Str, He.Fa.glo x ∈ hdFacts → mg x = some (.ref (He.ga K x)) := fun x hx => He.glo_ok X G (c.t.d.facts hx)
  have free : ∀ x : Str, He.Fa.free x ∈ hdFacts → mg x = none := fun x hx => He.free_ok X G (c.t.d.facts hx)
  have e := hfa.symm.trans (glo "law" (by simp [hdFacts]))
  cases e
  obtain ⟨fd_is_name, F_is_name⟩ := c.t.d.def_ 0 (d := d_is_name) rfl
  have D_is_name : DefIs K "is_name" "is_name" st_is_name _ fd_is_name _ := DefIs.of (p := ("is_name", none)) F_is_name
  have b_is_name : Binds K fd_is_name ["thing"] [] := D_is_name.binds fun _ _ _ _ _ us hl => match us, hl with | [_], _ => rfl
  have g_is_name := glo "is_name" (by simp [hdFacts])
  obtain ⟨fd_are_unlike_names, F_are_unlike_names⟩ := c.t.d.def_ 1 (d := d_are_unlike_names) rfl
  have D_are_unlike_names : DefIs K "are_unlike_names" "are_unlike_names" st_are_unlike_names _ fd_are_unlike_names _ := DefIs.of (p := ("are_unlike_names", none)) F_are_unlike_names
  have b_are_unlike_names : Binds K fd_are_unlike_names ["thing"] [] := D_are_unlike_names.binds fun _ _ _ _ _ us hl => match us, hl with | [_], _ => rfl
  have g_are_unlike_names := glo "are_unlike_names" (by simp [hdFacts])
  obtain ⟨fd_is_book, F_is_book⟩ := c.t.d.def_ 2 (d := d_is_book) rfl
  have D_is_book : DefIs K "is_book" "is_book" st_is_book _ fd_is_book _ := DefIs.of (p := ("is_book", none)) F_is_book
  have b_is_book : Binds K fd_is_book ["thing"] [] := D_is_book.binds fun _ _ _ _ _ us hl => match us, hl with | [_], _ => rfl
  have g_is_book := glo "is_book" (by simp [hdFacts])
  obtain ⟨fd_is_numbering, F_is_numbering⟩ := c.t.d.def_ 3 (d := d_is_numbering) rfl
  have D_is_numbering : DefIs K "is_numbering" "is_numbering" st_is_numbering _ fd_is_numbering _ := DefIs.of (p := ("is_numbering", none)) F_is_numbering
  have b_is_numbering : Binds K fd_is_numbering ["book", "other", "roads", "thing"] [] := D_is_numbering.binds fun _ _ _ _ _ us hl => match us, hl with | [_, _, _, _], _ => rfl
  have g_is_numbering := glo "is_numbering" (by simp [hdFacts])
  obtain ⟨fd_is_whole, F_is_whole⟩ := c.t.d.def_ 4 (d := d_is_whole) rfl
  have D_is_whole : DefIs K "is_whole" "is_whole" st_is_whole _ fd_is_whole _ := DefIs.of (p := ("is_whole", none)) F_is_whole
  have b_is_whole : Binds K fd_is_whole ["thing", "least"] [] := D_is_whole.binds fun _ _ _ _ _ us hl => match us, hl with | [_, _], _ => rfl
  have g_is_whole := glo "is_whole" (by simp [hdFacts])
  obtain ⟨fd_is_spot, F_is_spot⟩ := c.t.d.def_ 5 (d := d_is_spot) rfl
  have D_is_spot : DefIs K "is_spot" "is_spot" st_is_spot _ fd_is_spot _ := DefIs.of (p := ("is_spot", none)) F_is_spot
  have b_is_spot : Binds K fd_is_spot ["thing", "roads"] [] := D_is_spot.binds fun _ _ _ _ _ us hl => match us, hl with | [_, _], _ => rfl
  have g_is_spot := glo "is_spot" (by simp [hdFacts])
  obtain ⟨fd_check_books, F_check_books⟩ := c.t.d.def_ 6 (d := d_check_books) rfl
  have D_check_books : DefIs K "check_books" "check_books" st_check_books _ fd_check_books _ := DefIs.of (p := ("check_books", none)) F_check_books
  have b_check_books : Binds K fd_check_books ["book", "other"] [] := D_check_books.binds fun _ _ _ _ _ us hl => match us, hl with | [_, _], _ => rfl
  have g_check_books := glo "check_books" (by simp [hdFacts])
  obtain ⟨fd_check_roads, F_check_roads⟩ := c.t.d.def_ 7 (d := d_check_roads) rfl
  have D_check_roads : DefIs K "check_roads" "check_roads" st_check_roads _ fd_check_roads _ := DefIs.of (p := ("check_roads", none)) F_check_roads
  have b_check_roads : Binds K fd_check_roads ["thing"] [] := D_check_roads.binds fun _ _ _ _ _ us hl => match us, hl with | [_], _ => rfl
  have g_check_roads := glo "check_roads" (by simp [hdFacts])
  obtain ⟨fd_places_of, F_places_of⟩ := c.t.d.def_ 8 (d := d_places_of) rfl
  have D_places_of : DefIs K "places_of" "places_of" st_places_of _ fd_places_of _ := DefIs.of (p := ("places_of", none)) F_places_of
  have b_places_of : Binds K fd_places_of ["book"] [] := D_places_of.binds fun _ _ _ _ _ us hl => match us, hl with | [_], _ => rfl
  have g_places_of := glo "places_of" (by simp [hdFacts])
  obtain ⟨fd_pairs_turned, F_pairs_turned⟩ := c.t.d.def_ 9 (d := d_pairs_turned) rfl
  have D_pairs_turned : DefIs K "pairs_turned" "pairs_turned" st_pairs_turned _ fd_pairs_turned _ := DefIs.of (p := ("pairs_turned", none)) F_pairs_turned
  have b_pairs_turned : Binds K fd_pairs_turned ["book", "other"] [] := D_pairs_turned.binds fun _ _ _ _ _ us hl => match us, hl with | [_, _], _ => rfl
  have g_pairs_turned := glo "pairs_turned" (by simp [hdFacts])
  obtain ⟨fd_numbers_all, F_numbers_all⟩ := c.t.d.def_ 10 (d := d_numbers_all) rfl
  have D_numbers_all : DefIs K "numbers_all" "numbers_all" st_numbers_all _ fd_numbers_all _ := DefIs.of (p := ("numbers_all", none)) F_numbers_all
  have b_numbers_all : Binds K fd_numbers_all ["book", "other", "roads", "thing"] [] := D_numbers_all.binds fun _ _ _ _ _ us hl => match us, hl with | [_, _, _, _], _ => rfl
  have g_numbers_all := glo "numbers_all" (by simp [hdFacts])
  obtain ⟨fd_law_pot, F_law_pot⟩ := c.t.d.def_ 11 (d := d_law_pot) rfl
  have D_law_pot : DefIs K "_law_pot" "_law_pot" st_law_pot _ fd_law_pot _ := DefIs.of (p := ("_law_pot", none)) F_law_pot
  have b_law_pot : Binds K fd_law_pot ["script", "k"] [] := D_law_pot.binds fun _ _ _ _ _ us hl => match us, hl with | [_, _], _ => rfl
  have g_law_pot := glo "_law_pot" (by simp [hdFacts])
  obtain ⟨fd_law_take, F_law_take⟩ := c.t.d.def_ 12 (d := d_law_take) rfl
  have D_law_take : DefIs K "_law_take" "_law_take" st_law_take _ fd_law_take _ := DefIs.of (p := ("_law_take", none)) F_law_take
  have b_law_take : Binds K fd_law_take ["pot", "many"] [] := D_law_take.binds fun _ _ _ _ _ us hl => match us, hl with | [_, _], _ => rfl
  have g_law_take := glo "_law_take" (by simp [hdFacts])
  obtain ⟨fd_law_some, F_law_some⟩ := c.t.d.def_ 13 (d := d_law_some) rfl
  have D_law_some : DefIs K "_law_some" "_law_some" st_law_some _ fd_law_some _ := DefIs.of (p := ("_law_some", none)) F_law_some
  have b_law_some : Binds K fd_law_some ["pot", "things", "many"] [] := D_law_some.binds fun _ _ _ _ _ us hl => match us, hl with | [_, _, _], _ => rfl
  have g_law_some := glo "_law_some" (by simp [hdFacts])
  obtain ⟨fd_law_names, F_law_names⟩ := c.t.d.def_ 14 (d := d_law_names) rfl
  have D_law_names : DefIs K "_law_names" "_law_names" st_law_names _ fd_law_names _ := DefIs.of (p := ("_law_names", none)) F_law_names
  have b_law_names : Binds K fd_law_names ["pot", "many"] [] := D_law_names.binds fun _ _ _ _ _ us hl => match us, hl with | [_, _], _ => rfl
  have g_law_names := glo "_law_names" (by simp [hdFacts])
  obtain ⟨fd_law_many, F_law_many⟩ := c.t.d.def_ 15 (d := d_law_many) rfl
  have D_law_many : DefIs K "_law_many" "_law_many" st_law_many _ fd_law_many _ := DefIs.of (p := ("_law_many", none)) F_law_many
  have b_law_many : Binds K fd_law_many ["pot", "many"] [] := D_law_many.binds fun _ _ _ _ _ us hl => match us, hl with | [_, _], _ => rfl
  have g_law_many := glo "_law_many" (by simp [hdFacts])
  obtain ⟨fd_law_other, F_law_other⟩ := c.t.d.def_ 16 (d := d_law_other) rfl
  have D_law_other : DefIs K "_law_other" "_law_other" st_law_other _ fd_law_other _ := DefIs.of (p := ("_law_other", none)) F_law_other
  have b_law_other : Binds K fd_law_other ["pot", "book"] [] := D_law_other.binds fun _ _ _ _ _ us hl => match us, hl with | [_, _], _ => rfl
  have g_law_other := glo "_law_other" (by simp [hdFacts])
  obtain ⟨fd_law_turned, F_law_turned⟩ := c.t.d.def_ 17 (d := d_law_turned) rfl
  have D_law_turned : DefIs K "_law_turned" "_law_turned" st_law_turned _ fd_law_turned _ := DefIs.of (p := ("_law_turned", none)) F_law_turned
  have b_law_turned : Binds K fd_law_turned ["book", "other"] [] := D_law_turned.binds fun _ _ _ _ _ us hl => match us, hl with | [_, _], _ => rfl
  have g_law_turned := glo "_law_turned" (by simp [hdFacts])
  obtain ⟨fd_law_levels, F_law_levels⟩ := c.t.d.def_ 18 (d := d_law_levels) rfl
  have D_law_levels : DefIs K "_law_levels" "_law_levels" st_law_levels _ fd_law_levels _ := DefIs.of (p := ("_law_levels", none)) F_law_levels
  have b_law_levels : Binds K fd_law_levels ["book", "other"] [] := D_law_levels.binds fun _ _ _ _ _ us hl => match us, hl with | [_, _], _ => rfl
  have g_law_levels := glo "_law_levels" (by simp [hdFacts])
  obtain ⟨fd_law_is_count, F_law_is_count⟩ := c.t.d.def_ 19 (d := d_law_is_count) rfl
  have D_law_is_count : DefIs K "_law_is_count" "_law_is_count" st_law_is_count _ fd_law_is_count _ := DefIs.of (p := ("_law_is_count", none)) F_law_is_count
  have b_law_is_count : Binds K fd_law_is_count ["thing", "most"] [] := D_law_is_count.binds fun _ _ _ _ _ us hl => match us, hl with | [_, _], _ => rfl
  have g_law_is_count := glo "_law_is_count" (by simp [hdFacts])
  obtain ⟨fd_law_due, F_law_due⟩ := c.t.d.def_ 20 (d := d_law_due) rfl
  have D_law_due : DefIs K "_law_due" "_law_due" st_law_due _ fd_law_due _ := DefIs.of (p := ("_law_due", none)) F_law_due
  have b_law_due : Binds K fd_law_due ["book", "other", "roads", "thing"] [] := D_law_due.binds fun _ _ _ _ _ us hl => match us, hl with | [_, _, _, _], _ => rfl
  have g_law_due := glo "_law_due" (by simp [hdFacts])
  obtain ⟨fd_law_numbers, F_law_numbers⟩ := c.t.d.def_ 21 (d := d_law_numbers) rfl
  have D_law_numbers : DefIs K "_law_numbers" "_law_numbers" st_law_numbers _ fd_law_numbers _ := DefIs.of (p := ("_law_numbers", none)) F_law_numbers
  have b_law_numbers : Binds K fd_law_numbers ["pot", "book", "other", "roads"] [] := D_law_numbers.binds fun _ _ _ _ _ us hl => match us, hl with | [_, _, _, _], _ => rfl
  have g_law_numbers := glo "_law_numbers" (by simp [hdFacts])
  obtain ⟨fd_law, F_law⟩ := c.t.d.def_ 22 (d := d_law) rfl
  have D_law : DefIs K "law" "law" st_law _ fd_law _ := DefIs.of (p := ("law", none)) F_law
  have b_law : Binds K fd_law ["script"] [] := D_law.binds fun _ _ _ _ _ us hl => match us, hl with | [_], _ => rfl
  have g_law := glo "law" (by simp [hdFacts])
  have B : Nb mg := ⟨free "all" (by simp [hdFacts]), free "bool" (by simp [hdFacts]), free "dict" (by simp [hdFacts]), free "enumerate" (by simp [hdFacts]), free "int" (by simp [hdFacts]), free "isinstance" (by simp [hdFacts]), free "len" (by simp [hdFacts]), free "list" (by simp [hdFacts]), free "max" (by simp [hdFacts]), free "min" (by simp [hdFacts]), free "range" (by simp [hdFacts]), free "repr" (by simp [hdFacts]), free "set" (by simp [hdFacts]), free "sorted" (by simp [hdFacts]), free "str" (by simp [hdFacts]), free "type" (by simp [hdFacts])⟩
  obtain ⟨tk_MOST_LETTERS, k_MOST_LETTERS⟩ := He.int_ok X G (c.t.d.facts (f := .int "MOST_LETTERS" 8) (by simp [hdFacts]))
  refine ⟨fd_law, [He.cT K ("is_name", none), He.cT K ("are_unlike_names", none), He.cT K ("numbers_all", none)], (spLaw K (He.cT K ("is_name", none)).2 (He.cT K ("are_unlike_names", none)).2 (He.cT K ("numbers_all", none)).2), fun p hp => ?_, fun s u => ?_, fun H a ns hl hbits hT hS => law_start (fun p hp => ⟨#[], hT p hp, triples_none⟩) hl hbits hS, fun base KX GX TB => ?_⟩
  · obtain ⟨q, hq, rfl⟩ := List.mem_map.mp (show p ∈ hdTabs.map (He.cT K) from hp)
    exact ⟨c.empty q hq, c.out q hq, PySem.W.codeHd_of_K X (c.hd q hq)⟩
  · exact FunD.bindsA (ps := ["script"]) F_law (fun _ _ _ _ _ _ us hl => match us, hl with | [_], _ => rfl) s [u] rfl
  · have X_is_name := TB _ List.mem_cons_self
    have X_are_unlike_names := TB _ (List.mem_cons_of_mem _ List.mem_cons_self)
    have X_numbers_all := TB _ (List.mem_cons_of_mem _ (List.mem_cons_of_mem _ List.mem_cons_self))
    have c_is_name : Callee PySem.Challenge.rw_heardapart_k11_numberings_judged.prog w K mg base CX0 4 "is_name" ["thing"] (spIsName K (He.cT K ("is_name", none)).2) := ⟨_, fd_is_name, ok_is_name B D_is_name X_is_name k_MOST_LETTERS, g_is_name, F_is_name.kp, b_is_name⟩
    have c_are_unlike_names : Callee PySem.Challenge.rw_heardapart_k11_numberings_judged.prog w K mg base CX0 8 "are_unlike_names" ["thing"] (spUnlike K (He.cT K ("is_name", none)).2 (He.cT K ("are_unlike_names", none)).2) := ⟨_, fd_are_unlike_names, ok_are_unlike_names B D_are_unlike_names X_are_unlike_names c_is_name, g_are_unlike_names, F_are_unlike_names.kp, b_are_unlike_names⟩
    have c_is_book : Callee PySem.Challenge.rw_heardapart_k11_numberings_judged.prog w K mg base CX0 9 "is_book" ["thing"] (spUnlike K (He.cT K ("is_name", none)).2 (He.cT K ("are_unlike_names", none)).2) := ⟨_, fd_is_book, ok_is_book D_is_book c_are_unlike_names, g_is_book, F_is_book.kp, b_is_book⟩
    have c_check_books : Callee PySem.Challenge.rw_heardapart_k11_numberings_judged.prog w K mg base CX0 10 "check_books" ["book", "other"] (spCheck K (He.cT K ("is_name", none)).2 (He.cT K ("are_unlike_names", none)).2) := ⟨_, fd_check_books, ok_check_books B D_check_books c_is_book, g_check_books, F_check_books.kp, b_check_books⟩
    have c_places_of : Callee PySem.Challenge.rw_heardapart_k11_numberings_judged.prog w K mg base CX0 4 "places_of" ["book"] (spPlaces K) := ⟨_, fd_places_of, ok_places_of B D_places_of, g_places_of, F_places_of.kp, b_places_of⟩
    have c_pairs_turned : Callee PySem.Challenge.rw_heardapart_k11_numberings_judged.prog w K mg base CX0 5 "pairs_turned" ["book", "other"] (spPairs K) := ⟨_, fd_pairs_turned, ok_pairs_turned B D_pairs_turned c_places_of, g_pairs_turned, F_pairs_turned.kp, b_pairs_turned⟩
    have c_law_pot : Callee PySem.Challenge.rw_heardapart_k11_numberings_judged.prog w K mg base CX0 3 "_law_pot" ["script", "k"] (spPot K) := ⟨_, fd_law_pot, ok_law_pot B D_law_pot, g_law_pot, F_law_pot.kp, b_law_pot⟩
    have c_law_take : Callee PySem.Challenge.rw_heardapart_k11_numberings_judged.prog w K mg base CX0 3 "_law_take" ["pot", "many"] (spTake K) := ⟨_, fd_law_take, ok_law_take B D_law_take, g_law_take, F_law_take.kp, b_law_take⟩
    have c_law_some : Callee PySem.Challenge.rw_heardapart_k11_numberings_judged.prog w K mg base CX0 4 "_law_some" ["pot", "things", "many"] (spSome K) := ⟨_, fd_law_some, ok_law_some B D_law_some c_law_take, g_law_some, F_law_some.kp, b_law_some⟩
    have c_law_names : Callee PySem.Challenge.rw_heardapart_k11_numberings_judged.prog w K mg base CX0 5 "_law_names" ["pot", "many"] (spDraw K) := ⟨_, fd_law_names, ok_law_names B D_law_names c_law_some, g_law_names, F_law_names.kp, b_law_names⟩
    have c_law_many : Callee PySem.Challenge.rw_heardapart_k11_numberings_judged.prog w K mg base CX0 5 "_law_many" ["pot", "many"] (spDraw K) := ⟨_, fd_law_many, ok_law_many B D_law_many c_law_some, g_law_many, F_law_many.kp, b_law_many⟩
    have c_law_other : Callee PySem.Challenge.rw_heardapart_k11_numberings_judged.prog w K mg base CX0 5 "_law_other" ["pot", "book"] (spOther K) := ⟨_, fd_law_other, ok_law_other B D_law_other c_law_take c_law_some, g_law_other, F_law_other.kp, b_law_other⟩
    have c_is_whole : Callee PySem.Challenge.rw_heardapart_k11_numberings_judged.prog w K mg base CX0 1 "is_whole" ["thing", "least"] (spWholeV K) := ⟨_, fd_is_whole, ok_is_whole B D_is_whole, g_is_whole, F_is_whole.kp, b_is_whole⟩
    have c_is_spot : Callee PySem.Challenge.rw_heardapart_k11_numberings_judged.prog w K mg base CX0 2 "is_spot" ["thing", "roads"] (spSpotV K) := ⟨_, fd_is_spot, ok_is_spot B D_is_spot c_is_whole, g_is_spot, F_is_spot.kp, b_is_spot⟩
    have c_check_roads : Callee PySem.Challenge.rw_heardapart_k11_numberings_judged.prog w K mg base CX0 2 "check_roads" ["thing"] (spRoadsNo K) := ⟨_, fd_check_roads, ok_check_roads B D_check_roads c_is_whole, g_check_roads, F_check_roads.kp, b_check_roads⟩
    have c_numbers_all : Callee PySem.Challenge.rw_heardapart_k11_numberings_judged.prog w K mg base CX0 6 "numbers_all" ["book", "other", "roads", "thing"] (spNumsV K (He.cT K ("numbers_all", none)).2) := ⟨_, fd_numbers_all, ok_numbers_all B D_numbers_all X_numbers_all c_is_spot c_pairs_turned, g_numbers_all, F_numbers_all.kp, b_numbers_all⟩
    have c_is_numbering : Callee PySem.Challenge.rw_heardapart_k11_numberings_judged.prog w K mg base CX0 11 "is_numbering" ["book", "other", "roads", "thing"] (spIsNumV K (He.cT K ("is_name", none)).2 (He.cT K ("are_unlike_names", none)).2 (He.cT K ("numbers_all", none)).2) := ⟨_, fd_is_numbering, ok_is_numbering B D_is_numbering c_check_books c_check_roads c_numbers_all, g_is_numbering, F_is_numbering.kp, b_is_numbering⟩
    have c_law_turned : Callee PySem.Challenge.rw_heardapart_k11_numberings_judged.prog w K mg base CX0 4 "_law_turned" ["book", "other"] (spDue K) := ⟨_, fd_law_turned, ok_law_turned B D_law_turned, g_law_turned, F_law_turned.kp, b_law_turned⟩
    have c_law_is_count : Callee PySem.Challenge.rw_heardapart_k11_numberings_judged.prog w K mg base CX0 1 "_law_is_count" ["thing", "most"] (spCountV K) := ⟨_, fd_law_is_count, ok_law_is_count B D_law_is_count, g_law_is_count, F_law_is_count.kp, b_law_is_count⟩
    have c_law_due : Callee PySem.Challenge.rw_heardapart_k11_numberings_judged.prog w K mg base CX0 5 "_law_due" ["book", "other", "roads", "thing"] (spDueV K) := ⟨_, fd_law_due, ok_law_due B D_law_due c_law_is_count c_law_turned, g_law_due, F_law_due.kp, b_law_due⟩
    have c_law_levels : Callee PySem.Challenge.rw_heardapart_k11_numberings_judged.prog w K mg base CX0 4 "_law_levels" ["book", "other"] (spLevels K) := ⟨_, fd_law_levels, ok_law_levels B D_law_levels, g_law_levels, F_law_levels.kp, b_law_levels⟩
    have c_law_numbers : Callee PySem.Challenge.rw_heardapart_k11_numberings_judged.prog w K mg base CX0 6 "_law_numbers" ["pot", "book", "other", "roads"] (spNumbersV K) := ⟨_, fd_law_numbers, ok_law_numbers B D_law_numbers c_law_take c_law_some c_law_levels, g_law_numbers, F_law_numbers.kp, b_law_numbers⟩
    exact ok_law B D_law c_law_pot c_law_take c_law_names c_law_many c_law_other c_law_numbers c_law_due c_is_numbering
end Lw
open PyProof.Rows PySem PySem.W PySem.Calls
theorem PySem.Challenge.cw_heardapart_k11_numberings_judged_holds : PySem.Challenge.rw_heardapart_k11_numberings_judged.Holds := by
  w_on; o_law
  refine HandSHeadRun.head_any (r := Lw.hdRow) (q := Lw.hdView) (H := Lw.hdHook) (ob := Lw.hdOb) (M := 4000) (loose := Lw.hdLoose) (d := Lw.hdTop) (kwd := []) Lw.hdOb_eq
    (by kernel_rfl) (fun s => by kernel_rfl) Lw.hdRun (by kernel_rfl) (by kernel_rfl) (by kernel_rfl) (by rfl) (by first | assumption | decide +kernel) (by decide +kernel) ⟨rfl, rfl, rfl, rfl, rfl, by decide +kernel⟩ ?hw ?hc
  case hw => w_witness2
  case hc =>
    refine Gx.walk_GE (l := PySem.Challenge.rw_heardapart_k11_numberings_judged) (n := 63) (k := 12) (x := "script") rfl (by decide) (by kernel_rfl) ⟨rfl, by decide, by decide⟩ ?F
    intro w mg fa h Y G hmg0
    obtain ⟨K, KX, c⟩ := Y
    have hmg : mg ("law" : PySem.Str) = some (.ref fa) := by
      have e : Lw.hdTop.name = ("law" : PySem.Str) := by kernel_rfl
      rw [← e]
      exact hmg0
    exact ⟨K, KX, Lw.hd_all KX G hmg c⟩

