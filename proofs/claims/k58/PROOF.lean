import PyProof.Rows.All
import Wide.All
import OpenK.AllK
import Wide.FinOn
import HandS.ForMost
import HandS.AnyAll
import HandS.GenList
import HandS.EndTab
import KE.SortData
import HandS.WideBits
import HandS.DictComp
import HandS.More
import HandS.TupAny
import HandS.TupLe
import HandS.Walk
import HandS.HeadHook4
import HandS.Head4
import HandS.SortKw
import HandS.Iter
import HandS.Style
import HandS.Small
import HandS.Deep
import HandS.IsInst
import HandS.Conv
import HandS.Strs
import HandS.NoneIn
import HandS.Wide
import PySem.Challenge.RW_heardapart_k58_whole_heaps_turned
set_option Elab.async false
set_option linter.all false
set_option maxRecDepth 100000
set_option maxHeartbeats 8000000
/-! A generator expression whose element may do anything, under all( ) and any( ). -/
namespace Gx
open PySem PySem.Spec PyProof.Rows L2 GxR GenW

abbrev genv (X : Cx) (sc : Scope) (C : Addr) (code : Value) : Env :=
  genEnv sc (cloFrom X.env.cells sc.names []) C code builtinsNs X.env
abbrev gcx (X : Cx) (s : Shared) (H : Hp) (sc : Scope) (C : Addr) (code : Value) (fp : List Addr) : Cx :=
  { X with
    A := X.A.in1.in1.deeper (genv X sc C code)
    s_0 := s
    H_0 := H
    env := genv X sc C code
    outer := X.stack
    stack := genv X sc C code :: X.stack
    ex := fp
    fn := fun _ => false
    calm := true
    pn := []
    xe := fun _ _ => False }

theorem over_loop_gx {A : Around} {elt : Expr} {gs : List Comprehension} {sc : Scope} {pos : Pos} {it acc : Value} {env : Env} :
    A.over (.compLoop (.GeneratorExp elt gs sc pos) 0 it acc env) [] = A.deeper env := by
  obtain ⟨a, b, c, d, e⟩ := A
  cases c <;> cases d <;>
  simp [Around.over, Around.deeper, marksOver, frameCount, unitsOf, envsOf, guardsOf, pushEnvs, pushGuards, Code.envs, Code.env?, Code.isFrame, Code.guards, Code.isGuard, Code.weight, Code.frames, Code.isCreation, Code.isCaller, Code.cUnits]
theorem over_start_gx {A : Around} {elt : Expr} {gs : List Comprehension} {sc : Scope} {pos : Pos} {it acc : Value} {env : Env} :
    A.over (.compStart (.GeneratorExp elt gs sc pos) 0 it acc env) [] = A.deeper env := by
  obtain ⟨a, b, c, d, e⟩ := A
  cases c <;> cases d <;>
  simp [Around.over, Around.deeper, marksOver, frameCount, unitsOf, envsOf, guardsOf, pushEnvs, pushGuards, Code.envs, Code.env?, Code.isFrame, Code.guards, Code.isGuard, Code.weight, Code.frames, Code.isCreation, Code.isCaller, Code.cUnits]

section
variable {X : Cx} {pins : List (Addr × Obj)} {σ : L2.St} {H : Hp} {s : Shared}

theorem clo_look {cells : List (Str × Addr)} {names : List (Str × NameKind)} {y : Str} {c : Addr} (hf : ∀ z ∈ names, z.2 = .free → ∃ c, cells.lookup z.1 = some c)
    (h : (cloFrom cells names []).lookup y = some c) : cells.lookup y = some c ∧ (y, NameKind.free) ∈ names := by
  rcases cloFrom_mem (PySem.mem_of_lookup h) with q | ⟨q1, q2⟩
  · cases q
  · obtain ⟨c', e⟩ := hf _ q1 rfl
    rw [e] at q2
    have q3 : c = c' := q2
    exact ⟨by rw [q3]; exact e, q1⟩
theorem clo_has {cells : List (Str × Addr)} {names : List (Str × NameKind)} {y : Str} (hf : ∀ z ∈ names, z.2 = .free → ∃ c, cells.lookup z.1 = some c)
    (h : (y, NameKind.free) ∈ names) : ∃ c, (cloFrom cells names []).lookup y = some c ∧ cells.lookup y = some c := by
  obtain ⟨c, e⟩ := mem_lookup (cloFrom_has (cells := cells) (acc := []) h)
  exact ⟨c, e, (clo_look hf e).1⟩

/-- the generator's frame has been made: the state as its body sees it -/
theorem gx_start {sc : Scope} {own : List (Str × Nat)} {fp : List Addr} {C : Addr} {code : Value} {h' : Heap} {g' : Array GenState} {d' : Drawn} {t' : Nat}
    (I : Inv X pins σ H s) (hh : X.A.handled = none) (ok : BlkOk X.N X.env.scope sc own) (hN : X.N.Nodup) (hcell : ∀ y ∈ sc.names, y.2 ≠ .cell)
    (hfp : ∀ b ∈ fp, FpOk X pins H b ∧ b < s.heap.objs.size) (hC : C = s.heap.objs.size) (hns : ∃ m, h'.Ns C m)
    (kp : ∀ b o, s.heap.get? b = some o → h'.get? b = some o) (hg : AllBare g') :
    Inv (gcx X s H sc C code fp) [] (wipe σ (own.map (·.2))) H { s with heap := h', gens := g', drawn := d', toks := t' } := by
  have hf : ∀ z ∈ sc.names, z.2 = .free → ∃ c, X.env.cells.lookup z.1 = some c := fun z hz e => by
    rcases ok.free z hz e with k | k
    · exact I.ok.has _ (.inl k)
    · exact I.ok.has _ (.inr k)
  have cl : ∀ {y c}, (genv X sc C code).cells.lookup y = some c → X.env.cells.lookup y = some c ∧ (y, NameKind.free) ∈ sc.names := fun {y c} e => clo_look hf e
  have clt : ∀ {y c}, X.env.cells.lookup y = some c → c < s.heap.objs.size := fun {y c} e => by
    obtain ⟨w, z⟩ := I.cell y c e
    exact z.lt
  have free_of : ∀ {y}, (genv X sc C code).kindOf y = some .cell ∨ (genv X sc C code).kindOf y = some .free → (y, NameKind.free) ∈ sc.names := fun {y} hy => by
    rcases hy with hy | hy
    · exact absurd rfl (hcell _ (PySem.mem_of_lookup (show sc.names.lookup y = some .cell from hy)))
    · exact PySem.mem_of_lookup (show sc.names.lookup y = some .free from hy)
  have okY : (gcx X s H sc C code fp).Ok :=
    { mod := I.ok.mod
      kind := ok.kind
      glob := I.ok.glob
      blt := rfl
      above := Nat.le_of_eq hC.symm
      inj := fun y z c e1 e2 => I.ok.inj y z c (cl e1).1 (cl e2).1
      has := fun y hy => by
        obtain ⟨c, e, _⟩ := clo_has (cells := X.env.cells) hf (free_of hy)
        exact ⟨c, e⟩
      cab := fun y c e => by cases e
      hd := fun _ => hh
      frames := by
        have q := I.ok.frames
        show X.A.frames.map (genv X sc C code :: ·) = _
        rw [q]
        rfl
      stk := .inr ⟨rfl, rfl⟩
      exf := fun b hb => ⟨by
          show b ≠ C
          rw [hC]
          exact Nat.ne_of_lt (hfp b hb).2, fun y c e => (hfp b hb).1.2.2.2.2.1 y c (cl e).1⟩
      bs := I.bs
      bsz := Nat.le_trans I.ok.bsz I.sz
      noex := fun b o e hb => by
        rcases (hfp b hb).1.2.2.2.1 with z | z
        · exact I.ok.noex b o e z
        · exact absurd (Nat.lt_of_lt_of_le (Heap.lt_size e) (Nat.le_trans I.ok.bsz z)) (Nat.lt_irrefl _)
      exfs := fun b hb z => by
        rcases List.mem_cons.mp (I.stkSub b z) with z | z
        · exact (hfp b hb).1.2.1 z
        · exact (hfp b hb).1.2.2.1 z
      funs := I.stack
      frf := I.stkFree }
  obtain ⟨m, hm⟩ := hns
  have hn : ∀ b, s.heap.objs.size ≤ b → H b = none := fun b hb => I.hok.fresh hb
  refine { ok := okY, os := rfl, bare := hg, base := Un.kept kp, loc := ⟨m, hm, fun i y v e1 e2 e3 => ?_⟩, cell := fun y c e => ?_, free := hn C (Nat.le_of_eq hC.symm), freeC := fun y c e => I.freeC y c (cl e).1,
           pin := fun p hp => absurd (show p ∈ ([] : List (Addr × Obj)) ++ [] from hp) (by simp), hok := I.hok.kept kp, len := by rw [wipe_length]; exact I.len }
  · obtain ⟨e2, hne⟩ := wipe_some e2
    have hfr : (y, NameKind.free) ∈ sc.names := by
      have e3' : sc.names.lookup y = some .local ∨ sc.names.lookup y = some .cell ∨ sc.names.lookup y = some .free := e3
      have own : ∀ k, (y, k) ∈ sc.names → k = .local ∨ k = .cell → False := fun k hk hk2 => by
        rcases ok.own _ hk hk2 with q | q
        · obtain ⟨p, hp, hpy⟩ := List.mem_map.mp q
          have q3 := ok.ix p hp
          rw [show p.1 = y from hpy] at q3
          exact hne (List.mem_map.mpr ⟨p, hp, nodup_ix hN q3 e1⟩)
        · exact q (List.mem_of_getElem? e1)
      rcases e3' with q | q | q
      · exact (own _ (PySem.mem_of_lookup q) (.inl rfl)).elim
      · exact (own _ (PySem.mem_of_lookup q) (.inr rfl)).elim
      · exact PySem.mem_of_lookup q
    obtain ⟨m0, _, hl⟩ := I.loc
    have vis : Vis X.env.scope y := (ok.free _ hfr rfl).elim (fun k => .inr (.inl k)) fun k => .inr (.inr k)
    obtain ⟨w, r, q⟩ := hl i y v e1 e2 vis
    obtain ⟨c, h1, h2⟩ := clo_has (cells := X.env.cells) hf hfr
    have kf : (genv X sc C code).kindOf y = some .free := ok.uniq _ hfr
    refine ⟨w, r, .inr ⟨.inr kf, c, h1, ?_⟩⟩
    rcases q with ⟨k, _⟩ | ⟨_, c', e', z⟩
    · have k' : X.env.scope.names.lookup y = some .local := k
      rcases ok.free _ hfr rfl with k2 | k2 <;> rw [show X.env.scope.names.lookup y = _ from k2] at k' <;> cases k'
    · rw [h2] at e'
      cases e'
      exact z.keeps kp
  · obtain ⟨w, z⟩ := I.cell y c (cl e).1
    exact ⟨w, z.keeps kp⟩

/-- generators, tokens and what was drawn are no matter -/
theorem inv_gens {g' : Array GenState} {d' : Drawn} {t' : Nat} (I : Inv X pins σ H s) (hg : AllBare g') : Inv X pins σ H { s with gens := g', drawn := d', toks := t' } :=
  I.step (h' := s.heap) (ch := []) (fun b hb => absurd hb (by simp)) (fun _ _ _ _ _ e _ => e) (fun _ o _ _ _ e _ => ⟨o.slots, e⟩) (fun _ _ _ _ n => n) (fun _ o _ e => ⟨o, e⟩)
    (fun _ _ e => e) (fun _ _ _ e => e) (fun _ ps e => ⟨#[], by rw [e]; simp⟩) (fun _ hm => hm) I.hok hg
theorem inv_like {s' : Shared} (I : Inv X pins σ H s) (hh : s'.heap = s.heap) (ho : s'.os = s.os) (hg : AllBare s'.gens) : Inv X pins σ H s' := by
  have J := inv_gens (g' := s'.gens) (d' := s'.drawn) (t' := s'.toks) I hg
  rw [← hh] at J
  rw [sh_eta s s' ho] at J
  exact J

/-- what is known once and for all of one run of the generator -/
structure Run (X : Cx) (s0 : Shared) (H0 : Hp) (sc : Scope) (C : Addr) (code : Value) (fp : List Addr) (tg elt : Expr) (g : TG) (te : TE) (J : It) (it : Addr) (tn : Nat → Heap → Prop) (vs : List Nat) (σ0 : L2.St)
    (sb : Bool) (W : Nat → Nat → Hp → Prop) (Q : VK) : Prop where
  turns : Turn X.prog X.w X.K tg J fp it tn
  target : PG (gcx X s0 H0 sc C code fp) tg g
  element : PE (gcx X s0 H0 sc C code fp) elt te
  nocor : sc.isCoroutine = false
  step : ∀ i m H, W i m H → (J.stop i H ∧ Q (.bl (!sb)) H) ∨ (J.go i H ∧ ∃ Nx : Hp → Prop, (∀ H', Nx H' → ∃ m', m' < m ∧ W (i + 1) m' H') ∧
    ∀ x H', J.yld i H x H' → g x σ0 H' fun σ2 H2 => wipe σ2 vs = σ0 ∧ te σ2 H2 fun y H4 => ∃ b, y = .bl b ∧ if b = sb then Q (.bl sb) H4 else Nx H4)

/-- the generator stands ahead of its i-th turn, with room for n more -/
def Ahead (X : Cx) (s0 : Shared) (H0 : Hp) (sc : Scope) (C : Addr) (code : Value) (fp : List Addr) (tn : Nat → Heap → Prop) (σ0 : L2.St) (W : Nat → Nat → Hp → Prop) (pin : Addr × Obj) (i n : Nat) (s : Shared) : Prop :=
  ∃ H m, Inv (gcx X s0 H0 sc C code fp) [pin] σ0 H s ∧ tn i s.heap ∧ (∀ b ∈ fp, H b = none) ∧ m ≤ n ∧ W i m H
/-- it hands out a truth -/
def Out (X : Cx) (s0 : Shared) (H0 : Hp) (sc : Scope) (C : Addr) (code : Value) (fp : List Addr) (pin : Addr × Obj) (sb : Bool) (Q : VK) : Protocol := fun n s₀ v s kap =>
  ∃ (b : Bool) (σ1 : L2.St) (H1 : Hp), v = .bool b ∧ Inv (gcx X s0 H0 sc C code fp) [pin] σ1 H1 s ∧ (b = sb → Q (.bl sb) H1) ∧
    (b ≠ sb → ∀ s'', s''.heap = s.heap → s''.os = s.os → AllBare s''.gens → kap (.send .none) s'')
/-- it has come to its end -/
def Over (X : Cx) (s0 : Shared) (H0 : Hp) (sc : Scope) (C : Addr) (code : Value) (fp : List Addr) (pin : Addr × Obj) (sb : Bool) (Q : VK) (n : Nat) (s₀ s : Shared) : Prop :=
  ∃ (σ1 : L2.St) (H1 : Hp), Inv (gcx X s0 H0 sc C code fp) [pin] σ1 H1 s ∧ Q (.bl (!sb)) H1

section
variable {s0 : Shared} {H0 : Hp} {sc : Scope} {C : Addr} {code : Value} {fp : List Addr} {tg elt iter : Expr} {g : TG} {te : TE} {J : It} {it : Addr} {tn : Nat → Heap → Prop} {vs : List Nat} {σ0 : L2.St} {sb : Bool} {W : Nat → Nat → Hp → Prop} {Q : VK}
  {pin : Addr × Obj} {pos : Pos}

theorem ahead_like {i n : Nat} {s s' : Shared} (h : Ahead X s0 H0 sc C code fp tn σ0 W pin i n s) (hh : s'.heap = s.heap) (ho : s'.os = s.os) (hg : AllBare s'.gens) : Ahead X s0 H0 sc C code fp tn σ0 W pin i n s' := by
  obtain ⟨H, m, I, st, n, le, w⟩ := h
  exact ⟨H, m, inv_like I hh ho hg, by rw [hh]; exact st, n, le, w⟩

abbrev LoopC (X : Cx) (elt tg iter : Expr) (sc : Scope) (pos : Pos) (it C : Addr) (code : Value) : Code := .compLoop (.GeneratorExp elt [⟨tg, iter, [], 0⟩] sc pos) 0 (.ref it) .none (genv X sc C code)
abbrev SegX (X : Cx) (s0 : Shared) (H0 : Hp) (sc : Scope) (C : Addr) (code : Value) (fp : List Addr) (pin : Addr × Obj) (sb : Bool) (Q : VK) (n : Nat) (s₀ : Shared) (c : Code) (t : Sem PySem.Fin) (s : Shared) : Prop :=
  Seg (model X.prog X.w) X.A.in1.in1 (fun n s₀ r s₁ => r = .ok .next ∧ Over X s0 H0 sc C code fp pin sb Q n s₀ s₁) (Out X s0 H0 sc C code fp pin sb Q) n s₀ c t [] s

theorem seg_turn (R : Run X s0 H0 sc C code fp tg elt g te J it tn vs σ0 sb W Q) (hp : pin.1 ∉ fp) (n i : Nat) (s₀ s : Shared) (h : Ahead X s0 H0 sc C code fp tn σ0 W pin i n s)
    (again : ∀ n' s'', n = n' + 1 → Ahead X s0 H0 sc C code fp tn σ0 W pin (i + 1) n' s'' → SegX X s0 H0 sc C code fp pin sb Q (n' + 1) s'' (LoopC X elt tg iter sc pos it C code) ((model X.prog X.w).den (LoopC X elt tg iter sc pos it C code)) s'') :
    SegX X s0 H0 sc C code fp pin sb Q (n + 1) s₀ (LoopC X elt tg iter sc pos it C code) ((model X.prog X.w).den (LoopC X elt tg iter sc pos it C code)) s := by
  have T := R.turns
  have eA : (X.A.in1.in1).over (LoopC X elt tg iter sc pos it C code) [] = (gcx X s0 H0 sc C code fp).A := over_loop_gx
  obtain ⟨H, m, I, st, nf, le, w⟩ := h
  have stat : ∀ {σ' : L2.St} {H' : Hp} {s' : Shared}, Inv (gcx X s0 H0 sc C code fp) [pin] σ' H' s' → (∀ b ∈ fp, H' b = none) → ∀ b ∈ fp, FpOk (gcx X s0 H0 sc C code fp) [pin] H' b := fun {σ' H' s'} I' hn b hb =>
    ⟨hn b hb, (I'.ok.exf b hb).1, I'.ok.exfs b hb, .inl hb, fun x c e => (I'.ok.exf b hb).2 x c e, fun p hp' => by
      have e : p = pin := by simpa using hp'
      rw [e]
      exact fun z => hp (z ▸ hb)⟩
  show Seg _ _ _ _ _ _ _ ((compTurn (.GeneratorExp elt [⟨tg, iter, [], 0⟩] sc pos) 0 (.ref it) .none (genv X sc C code)).onRaise (leaving (genv X sc C code))) _ _
  rw [compTurn_gen, Sem.onRaise_eq_wrap]
  refine seg_bind_wrap (wpAny_standAt ?_)
  rcases R.step i m H w with ⟨stop, q⟩ | ⟨go, Nx, hNx, turn⟩
  · refine seg_bind_wrap ?_
    rw [eA]
    refine wpAny_mono (T.done (gcx X s0 H0 sc C code fp) rfl rfl rfl rfl i [pin] s σ0 H (fun _ _ => False) I (stat I nf) st stop) (fun r s1 h1 => ?_) fun e s z => z.elim
    obtain ⟨hr, I1⟩ := h1
    subst hr
    exact seg_end (.ok .next) ⟨rfl, σ0, H, I1, q⟩
  · refine seg_bind_wrap ?_
    rw [eA]
    refine wpAny_mono (T.item (gcx X s0 H0 sc C code fp) rfl rfl rfl rfl i [pin] s σ0 H (fun _ _ => False) I (stat I nf) st go) (fun r s1 h1 => ?_) fun e s z => z.elim
    obtain ⟨u, hr, h1⟩ := h1
    subst hr
    refine seg_bind_wrap ?_
    rw [eA]
    refine wpAny_mono h1 (fun _ s2 h2 => ?_) fun e s z => z.elim
    obtain ⟨x, H2, I2, r2, y2, st2, nf2⟩ := h2
    have I2' := I2.pinned (stat I2 nf2) (T.obj _ _ st2)
    refine seg_bind_wrap ?_
    rw [eA]
    refine wpAny_mono (R.target.run _ s2 σ0 H2 x u _ I2' r2 (turn x H2 y2)) (fun _ s3 h3 => ?_) fun e s z => z.elim
    obtain ⟨σ3, H3, I3, hw3, q3⟩ := h3
    refine seg_bind_wrap ?_
    rw [List.forIn_nil]
    refine wpAny_pure ?_
    simp only [if_true]
    have hy : ∀ v, yieldOut (genv X sc C code) v = yieldValue v := fun v => by
      have e : (genv X sc C code).scope.isCoroutine = false := R.nocor
      simp only [yieldOut, e, Bool.false_eq_true, if_false]
    simp only [hy]
    rw [Sem.bind_eq_wrap', Sem.bind_eq_wrap', Sem.wrap_wrap, Sem.wrap_wrap]
    refine seg_wrap ?_
    rw [eA]
    refine wpAny_mono (R.element.run _ s3 σ3 H3 _ I3 q3) (fun y s4 h4 => ?_) fun e s z => z.elim
    obtain ⟨yv, H4, I4, r4, b, ey, q4⟩ := h4
    subst ey
    have er : y = Value.bool b := r4
    subst er
    have pinK : ∀ b ∈ fp, ∀ o, s2.heap.get? b = some o → s4.heap.get? b = some o ∧ H4 b = none := fun b hb o e =>
      let z := I4.pin (b, o) (List.mem_append_right _ (List.mem_append_right _ (mem_pinsAt hb e)))
      ⟨z.1, z.2.1⟩
    have hl : σ0.length = σ3.length := by rw [← hw3, wipe_length]
    have I4' : Inv (gcx X s0 H0 sc C code fp) [pin] σ0 H4 s4 := (I4.unpinned (pins := [pin])).weak hl fun j v e => by
      rw [← hw3] at e
      exact (wipe_some e).1
    refine seg_at (seg_yield rfl rfl rfl ⟨b, σ0, H4, rfl, I4', fun e => ?_, fun ne s'' hh ho hg => ?_⟩)
    · rw [if_pos e] at q4
      exact q4
    · rw [if_neg ne] at q4
      obtain ⟨m', hm, w'⟩ := hNx H4 q4
      obtain ⟨n', rfl⟩ : ∃ n', n = n' + 1 := ⟨n - 1, by omega⟩
      refine seg_again rfl (again n' s'' rfl (ahead_like (s := s4) ⟨H4, m', I4', T.keep _ _ _ st2 fun b hb o e => (pinK b hb o e).1, fun b hb => ?_, by omega, w'⟩ hh ho hg))
      obtain ⟨o, e, _⟩ := T.obj _ _ st2 b hb
      exact (pinK b hb o e).2
theorem seg_turns (R : Run X s0 H0 sc C code fp tg elt g te J it tn vs σ0 sb W Q) (hp : pin.1 ∉ fp) : ∀ (n i : Nat) (s₀ s : Shared), Ahead X s0 H0 sc C code fp tn σ0 W pin i n s →
    SegX X s0 H0 sc C code fp pin sb Q (n + 1) s₀ (LoopC X elt tg iter sc pos it C code) ((model X.prog X.w).den (LoopC X elt tg iter sc pos it C code)) s := by
  intro n
  induction n with
  | zero => exact fun i s₀ s h => seg_turn R hp 0 i s₀ s h fun n' s'' e _ => by omega
  | succ n ih =>
    refine fun i s₀ s h => seg_turn R hp (n + 1) i s₀ s h fun n' s'' e h' => ?_
    have e' : n' = n := by omega
    rw [e'] at h' ⊢
    exact ih (i + 1) s'' s'' h'
abbrev StartC (X : Cx) (elt tg iter : Expr) (sc : Scope) (pos : Pos) (it C : Addr) (code : Value) : Code := .compStart (.GeneratorExp elt [⟨tg, iter, [], 0⟩] sc pos) 0 (.ref it) .none (genv X sc C code)
theorem seg_begin (R : Run X s0 H0 sc C code fp tg elt g te J it tn vs σ0 sb W Q) (hp : pin.1 ∉ fp) (n : Nat) (s₀ s : Shared) (h : Ahead X s0 H0 sc C code fp tn σ0 W pin 0 n s) :
    SegX X s0 H0 sc C code fp pin sb Q (n + 1) s₀ (StartC X elt tg iter sc pos it C code) ((model X.prog X.w).den (StartC X elt tg iter sc pos it C code)) s := by
  have loop := seg_turns (iter := iter) (pos := pos) R hp n 0 s₀ s h
  obtain ⟨H, m, I, st, _⟩ := h
  show Seg _ _ _ _ _ _ _ ((compStart (.GeneratorExp elt [⟨tg, iter, [], 0⟩] sc pos) 0 (.ref it) .none (genv X sc C code)).onRaise (leaving (genv X sc C code))) _ _
  unfold compStart
  rw [Sem.onRaise_eq_wrap]
  show Seg _ _ _ _ _ _ _ ((ask >>= _).wrap _ _ _ _) _ _
  refine seg_bind_wrap (wpAny_askSetting ?_)
  split
  · exact seg_again rfl loop
  · refine seg_bind_wrap (wpAny_rule ?_)
    show Seg _ _ _ _ _ _ _ ((standAt iter.pos >>= _).wrap _ _ _ _) _ _
    refine seg_bind_wrap (wpAny_standAt (seg_bind_wrap ?_))
    exact R.turns.self _ 0 s _ _ st (seg_again rfl loop)
end
end
end Gx

namespace Gx
open PySem PySem.Spec PyProof.Rows L2 GxR GenW
section
variable {X : Cx} {s0 : Shared} {H0 : Hp} {sc : Scope} {C : Addr} {code : Value} {fp : List Addr} {sb : Bool} {Q : VK} {a : Addr} {go : Obj} {gi : Nat}

abbrev EndX (X : Cx) (s0 : Shared) (H0 : Hp) (sc : Scope) (C : Addr) (code : Value) (fp : List Addr) (pin : Addr × Obj) (sb : Bool) (Q : VK) : GenEnd := fun n s₀ r s₁ => r = .ok .next ∧ Over X s0 H0 sc C code fp pin sb Q n s₀ s₁
/-- the generator sleeps, n turns at most are ahead -/
def Awake (X : Cx) (s0 : Shared) (H0 : Hp) (sc : Scope) (C : Addr) (code : Value) (fp : List Addr) (sb : Bool) (Q : VK) (a : Addr) (go : Obj) (gi n : Nat) (s : Shared) : Prop :=
  (∃ σ1 H1, Inv (gcx X s0 H0 sc C code fp) [(a, go)] σ1 H1 s) ∧
  ∃ gs, s.gens[gi]? = some gs ∧ ∀ s'', s''.heap = s.heap → s''.os = s.os → AllBare s''.gens →
    gs.Goes (model X.prog X.w) X.A.in1.in1 (EndX X s0 H0 sc C code fp (a, go) sb Q) (Out X s0 H0 sc C code fp (a, go) sb Q) n (.send .none) s''
/-- what is wanted of the whole -/
def Fin' (X : Cx) (s0 : Shared) (H0 : Hp) (sc : Scope) (C : Addr) (code : Value) (fp : List Addr) (Q : VK) (a : Addr) (go : Obj) (R : Result → Shared → Prop) : Prop :=
  ∀ b σ1 H1 s1, Inv (gcx X s0 H0 sc C code fp) [(a, go)] σ1 H1 s1 → Q (.bl b) H1 → ∀ s', s'.os = s1.os → AllBare s'.gens → (∀ b o, s1.heap.get? b = some o → s'.heap.get? b = some o) → R (.ok (.ret (.bool b))) s'

theorem pin_at {σ1 : L2.St} {H1 : Hp} {s : Shared} (I : Inv (gcx X s0 H0 sc C code fp) [(a, go)] σ1 H1 s) : s.heap.get? a = some go := (I.pin (a, go) (by simp)).1

/-- one next( ) of it: a truth, or the end -/
theorem next_truth (hh : X.A.handled = none) (hd : X.A.depth < recursionLimit) (hgo : ∀ h : Heap, h.get? a = some go → h.IsGen a gi) {n : Nat} {s : Shared} (h : Awake X s0 H0 sc C code fp sb Q a go gi n s) {P : Option Value → Shared → Prop} {E : Value → Shared → Prop}
    (stop : ∀ σ1 H1 s1 s2, Inv (gcx X s0 H0 sc C code fp) [(a, go)] σ1 H1 s1 → Q (.bl sb) H1 → s2.os = s1.os → AllBare s2.gens → s2.heap = s1.heap → P (some (.bool sb)) s2)
    (more : ∀ n' s2, n = n' + 1 → Awake X s0 H0 sc C code fp sb Q a go gi n' s2 → P (some (.bool (!sb))) s2)
    (done : ∀ σ1 H1 s1 s2, Inv (gcx X s0 H0 sc C code fp) [(a, go)] σ1 H1 s1 → Q (.bl (!sb)) H1 → s2.os = s1.os → AllBare s2.gens → (∀ b o, s1.heap.get? b = some o → s2.heap.get? b = some o) → P none s2) :
    wpAny (model X.prog X.w) X.A.in1 (pyNext (.ref a)) P E s := by
  obtain ⟨⟨σ1, H1, I⟩, gs, hgs, goes⟩ := h
  have hlt : gi < s.gens.size := (Array.getElem?_eq_some_iff.mp hgs).1
  have hrun : AllBare (s.setGen gi .running).gens := allBare_setGen I.bare rfl
  refine wpAny_gsz (n := gi + 1) hlt (wpAny_pyNext_genexpQ (A := X.A.in1) (P := Over X s0 H0 sc C code fp (a, go) sb Q) hh I.nolimit hd (hgo _ (pin_at I)) hgs (goes _ rfl rfl hrun) (fun v s1 gs' hb hv => ?_) fun s1 hp h' hk => ?_)
  · intro hsz
    obtain ⟨b, σ2, H2, ev, I2, hst, hmore⟩ := hv
    subst ev
    have hb2 : AllBare (s1.setGen gi gs').gens := allBare_setGen I2.bare hb
    by_cases e : b = sb
    · rw [e]
      exact stop σ2 H2 s1 _ I2 (hst e) rfl hb2 rfl
    · have e2 : b = !sb := by cases b <;> cases sb <;> simp_all
      have q := hmore e
      cases n with
      | zero => exact (q s1 rfl rfl I2.bare).elim
      | succ n' =>
        rw [e2]
        have hlt2 : gi < s1.gens.size := by
          have z : (s1.setGen gi gs').gens.size = s1.gens.size := setGen_size _ _ _
          omega
        refine more n' _ rfl ⟨⟨σ2, H2, inv_like I2 rfl rfl hb2⟩, gs', setGen_at hlt2, fun s'' h1 h2 h3 => q s'' h1 h2 h3⟩
  · intro hsz
    obtain ⟨σ2, H2, I2, q⟩ := hp
    exact done σ2 H2 s1 _ I2 q rfl (allBare_setGen I2.bare rfl) hk

theorem all_turns (hh : X.A.handled = none) (hd : X.A.depth < recursionLimit) (hgo : ∀ h : Heap, h.get? a = some go → h.IsGen a gi) {R : Result → Shared → Prop} (fin : Fin' X s0 H0 sc C code fp Q a go R) :
    ∀ (n : Nat) (s : Shared), Awake X s0 H0 sc C code fp false Q a go gi n s → codeAny (model X.prog X.w) X.A (.builtin "all.loop" ⟨[.ref a], []⟩) R s := by
  intro n
  induction n with
  | zero =>
    intro s h
    refine codeAny_builtin F.entry_all_loop ?_
    rw [Around.under_plainId F.plain_all_loop _]
    show wpAny _ X.A.in1 (pyNext (.ref a) >>= _) _ _ s
    refine wpAny_bind (next_truth hh hd hgo h (fun σ1 H1 s1 s2 I q e1 e2 e3 => ?_) (fun n' s2 e _ => by omega) fun σ1 H1 s1 s2 I q e1 e2 e3 => ?_)
    · refine wpAny_bind (wpAny_holding (wpAny_truthy_bool ?_))
      refine wpAny_bind (wpAny_letGo ?_)
      simp only [Bool.false_eq_true, if_false]
      exact wpAny_bind (wpAny_rule (wpAny_pure (fin false σ1 H1 s1 I q s2 e1 e2 fun b o e => by rw [e3]; exact e)))
    · exact wpAny_bind (wpAny_rule (wpAny_pure (fin true σ1 H1 s1 I q s2 e1 e2 e3)))
  | succ n ih =>
    intro s h
    refine codeAny_builtin F.entry_all_loop ?_
    rw [Around.under_plainId F.plain_all_loop _]
    show wpAny _ X.A.in1 (pyNext (.ref a) >>= _) _ _ s
    refine wpAny_bind (next_truth hh hd hgo h (fun σ1 H1 s1 s2 I q e1 e2 e3 => ?_) (fun n' s2 e h2 => ?_) fun σ1 H1 s1 s2 I q e1 e2 e3 => ?_)
    · refine wpAny_bind (wpAny_holding (wpAny_truthy_bool ?_))
      refine wpAny_bind (wpAny_letGo ?_)
      simp only [Bool.false_eq_true, if_false]
      exact wpAny_bind (wpAny_rule (wpAny_pure (fin false σ1 H1 s1 I q s2 e1 e2 fun b o e => by rw [e3]; exact e)))
    · refine wpAny_bind (wpAny_holding (wpAny_truthy_bool ?_))
      refine wpAny_bind (wpAny_letGo ?_)
      simp only [Bool.not_false, if_true]
      have en : n' = n := by omega
      rw [en] at h2
      exact wpAny_pure ⟨plainId_quiet F.plain_all_loop _, ih s2 h2⟩
    · exact wpAny_bind (wpAny_rule (wpAny_pure (fin true σ1 H1 s1 I q s2 e1 e2 e3)))
theorem any_turns (hh : X.A.handled = none) (hd : X.A.depth < recursionLimit) (hgo : ∀ h : Heap, h.get? a = some go → h.IsGen a gi) {R : Result → Shared → Prop} (fin : Fin' X s0 H0 sc C code fp Q a go R) :
    ∀ (n : Nat) (s : Shared), Awake X s0 H0 sc C code fp true Q a go gi n s → codeAny (model X.prog X.w) X.A (.builtin "any.loop" ⟨[.ref a], []⟩) R s := by
  intro n
  induction n with
  | zero =>
    intro s h
    refine codeAny_builtin F.entry_any_loop ?_
    rw [Around.under_plainId F.plain_any_loop _]
    show wpAny _ X.A.in1 (pyNext (.ref a) >>= _) _ _ s
    refine wpAny_bind (next_truth hh hd hgo h (fun σ1 H1 s1 s2 I q e1 e2 e3 => ?_) (fun n' s2 e _ => by omega) fun σ1 H1 s1 s2 I q e1 e2 e3 => ?_)
    · refine wpAny_bind (wpAny_holding (wpAny_truthy_bool ?_))
      refine wpAny_bind (wpAny_letGo ?_)
      simp only [if_true]
      exact wpAny_bind (wpAny_rule (wpAny_pure (fin true σ1 H1 s1 I q s2 e1 e2 fun b o e => by rw [e3]; exact e)))
    · exact wpAny_bind (wpAny_rule (wpAny_pure (fin false σ1 H1 s1 I q s2 e1 e2 e3)))
  | succ n ih =>
    intro s h
    refine codeAny_builtin F.entry_any_loop ?_
    rw [Around.under_plainId F.plain_any_loop _]
    show wpAny _ X.A.in1 (pyNext (.ref a) >>= _) _ _ s
    refine wpAny_bind (next_truth hh hd hgo h (fun σ1 H1 s1 s2 I q e1 e2 e3 => ?_) (fun n' s2 e h2 => ?_) fun σ1 H1 s1 s2 I q e1 e2 e3 => ?_)
    · refine wpAny_bind (wpAny_holding (wpAny_truthy_bool ?_))
      refine wpAny_bind (wpAny_letGo ?_)
      simp only [if_true]
      exact wpAny_bind (wpAny_rule (wpAny_pure (fin true σ1 H1 s1 I q s2 e1 e2 fun b o e => by rw [e3]; exact e)))
    · refine wpAny_bind (wpAny_holding (wpAny_truthy_bool ?_))
      refine wpAny_bind (wpAny_letGo ?_)
      simp only [Bool.not_true, Bool.false_eq_true, if_false]
      have en : n' = n := by omega
      rw [en] at h2
      exact wpAny_pure ⟨plainId_quiet F.plain_any_loop _, ih s2 h2⟩
    · exact wpAny_bind (wpAny_rule (wpAny_pure (fin false σ1 H1 s1 I q s2 e1 e2 e3)))
end
end Gx

namespace Gx
open PySem PySem.Spec PyProof.Rows L2 GxR GenW
section
variable {X : Cx} {pins : List (Addr × Obj)} {σ : L2.St} {H : Hp} {s : Shared}

/-- what stands once the generator has been made, ahead of its first turn -/
structure Made (X : Cx) (pins : List (Addr × Obj)) (σ : L2.St) (P : Addr) (elt tg iter : Expr) (sc : Scope) (pos : Pos) (vs : List Nat) (J : It) (H1 H2 : Hp) (it : Addr) (fp : List Addr) (tn : Nat → Heap → Prop) (s0 : Shared) (C : Addr) (code : Value) (a : Addr) (go : Obj) (gi : Nat) (s5 : Shared) : Prop where
  tab : Tabbed P H1 H2
  turns : Turn X.prog X.w X.K tg J fp it tn
  st : tn 0 s5.heap
  i0 : Inv X pins σ H2 s0
  fpo : ∀ b ∈ fp, FpOk X pins H2 b ∧ b < s0.heap.objs.size
  i5 : Inv (gcx X s0 H2 sc C code fp) [(a, go)] (wipe σ vs) H2 s5
  apart : a ∉ fp
  gens : s5.gens[gi]? = some (.fresh (StartC X elt tg iter sc pos it C code))
  isgen : ∀ h : Heap, h.get? a = some go → h.IsGen a gi

theorem gen_made {c P : Addr} {elt tg iter : Expr} {gpos : Pos} {sc : Scope} {own : List (Str × Nat)} {wi : TI} {k : Nat} {Q' : Value → Shared → Prop} {R : It → Hp → Prop}
    (hr : Room k X.A) (TB : TabB X.base X.mg c P) (hcode : X.env.code = .ref c) (ok : BlkOk X.N X.env.scope sc own) (hN : X.N.Nodup) (hcell : ∀ y ∈ sc.names, y.2 ≠ .cell) (hdot : sc.names.lookup (".0" : Str) = some NameKind.local)
    (hco : sc.isCoroutine = false) (hi : PI X tg iter wi) (hs : ∀ v, genFold iter X.env v = pure v) (I : Inv X pins σ H s) (h : wi σ H fun J H1 => TabG H1 P ∧ R J H1)
    (hQ : ∀ J H1 H2 it fp tn s0 C code a go gi s5, R J H1 → Made X pins σ P elt tg iter sc gpos (own.map (·.2)) J H1 H2 it fp tn s0 C code a go gi s5 → Q' (.ref a) s5) :
    wpAny (model X.prog X.w) X.A (eval (.GeneratorExp elt [⟨tg, iter, [], 0⟩] sc gpos) X.env) Q' X.xe s := by
  have hf : ∀ z ∈ sc.names, z.2 = .free → ∃ c, X.env.cells.lookup z.1 = some c := fun z hz e => by
    rcases ok.free z hz e with k | k
    · exact I.ok.has _ (.inl k)
    · exact I.ok.has _ (.inr k)
  refine wpAny_GeneratorExp_make hco (closure_ok hf) hcell hdot ok.kind (by have := hr.dp; omega) ?_ hs
  refine thn (hi.run pins s σ H _ I h) fun xv s1 h1 => thn h1 fun itv s2 h2 => ?_
  obtain ⟨it, fp, tn, J, H1, e, I1, T, st, f1, ⟨ps, hP, htr⟩, q⟩ := h2
  subst e
  refine ⟨I1.nolimit, ?_⟩
  have hPs : s2.heap.get? P = some { cls := .none, data := .fields ps } := I1.hok P _ hP
  have cd : PySem.W.CodeHd s2.heap c P := TB.code.keeps I1.bk
  -- behind the making of the code object
  have cont : ∀ (cv : Value) (h3 : Heap) (tk : Nat) (more : Array Value), (∀ b o, b ≠ P → s2.heap.get? b = some o → h3.get? b = some o) → h3.get? P = some { cls := .none, data := .fields (ps ++ more) } → TriplesOk (ps ++ more).toList →
      wpAny (model X.prog X.w) X.A (builtinsFor X.env.globals X.env.builtins) (fun bi s4 => ∀ h', h'.Ns s4.heap.objs.size (fun y => if y = ".0" then some (.ref it) else none) → Heap.SameBut s4.heap.objs.size (s4.heap.push { cls := .type "frame", data := .dict #[] }) h' →
        Q' (.ref h'.objs.size) { s4 with
          gens := s4.gens.push (.fresh (.compStart (.GeneratorExp elt [⟨tg, iter, [], 0⟩] sc gpos) 0 (.ref it) .none (genEnv sc (cloFrom X.env.cells sc.names []) s4.heap.objs.size cv bi X.env))),
          toks := s4.toks + 1 + 1 + 1,
          heap := h'.push { cls := .type "generator", data := .fields #[.int s4.gens.size 0, .str "<genexpr>" (s4.toks + 1), .str (X.env.qual ++ "<genexpr>") (s4.toks + 1 + 1)] } }) X.xe { s2 with heap := h3, toks := tk } := by
    intro cv h3 tk more k3 hP3 ht3
    have I3 : Inv X pins σ (upd H1 P (.tbl (ps ++ more))) { s2 with heap := h3, toks := tk } := inv_tab (g' := s2.gens) (d' := s2.drawn) (t' := tk) I1 hP k3 hP3 I1.bare
    have tbd : Tabbed P H1 (upd H1 P (.tbl (ps ++ more))) := ⟨⟨ps ++ more, upd_same, ht3⟩, fun b hb => upd_ne hb⟩
    obtain ⟨bm, ob, e1, e2, e3, e4, e5, e6, e7, e8⟩ := TB.bm
    have gNs := I3.mod.glob.keeps I3.bk
    refine wpAny_builtinsFor (m := X.mg) (by rw [I3.ok.glob]; exact gNs) e1 e2 (I3.bk _ _ e5) e6 e7 e8 ?_
    intro h' hns' hsb
    generalize hH2 : upd H1 P (.tbl (ps ++ more)) = H2 at I3 tbd
    have n2 : ∀ b, H1 b = none → H2 b = none := fun b e => by
      have hne : b ≠ P := fun z => by rw [z, hP] at e; cases e
      rw [tbd.2 b hne]
      exact e
    have f3 : ∀ b ∈ fp, FpOk X pins H2 b ∧ b < h3.objs.size := fun b hb => by
      have hne : b ≠ P := fun z => by
        have := (f1 b hb).1
        rw [z, hP] at this
        cases this
      obtain ⟨o, e, _⟩ := T.obj _ _ st b hb
      exact ⟨⟨n2 b (f1 b hb).1, (f1 b hb).2⟩, Heap.lt_size (k3 b o hne e)⟩
    have hsz : h'.objs.size = h3.objs.size + 1 := by
      have z := hsb.1
      rw [Heap.size_push] at z
      exact z
    have kp : ∀ b o, h3.get? b = some o → h'.get? b = some o := fun b o e => hsb.extBut b o (Nat.ne_of_lt (Heap.lt_size e)) (Heap.get?_push_of_some _ e)
    generalize hgo : ({ cls := .type "generator", data := .fields #[.int s2.gens.size 0, .str "<genexpr>" (tk + 1), .str (X.env.qual ++ "<genexpr>") (tk + 1 + 1)] } : Obj) = go
    have ggo : (h'.push go).get? h'.objs.size = some go := Heap.get?_push_size _ (by rw [← hgo]; rfl)
    have kp5 : ∀ b o, h3.get? b = some o → (h'.push go).get? b = some o := fun b o e => Heap.get?_push_of_some _ (kp b o e)
    have bg : AllBare (s2.gens.push (.fresh (.compStart (.GeneratorExp elt [⟨tg, iter, [], 0⟩] sc gpos) 0 (.ref it) .none (genv X sc h3.objs.size cv)))) := I1.bare.push rfl
    have I5 := gx_start (C := h3.objs.size) (code := cv) (d' := s2.drawn) (t' := tk + 1 + 1 + 1) (h' := h'.push go) (s := { s2 with heap := h3, toks := tk }) I3 hr.hd ok hN hcell f3 rfl ⟨_, hns'.push _⟩ kp5 bg
    have na : h3.objs.size ≤ h'.objs.size := by rw [hsz]; exact Nat.le_succ _
    have I5' := I5.pins_of (pins' := [(h'.objs.size, go)]) fun p hp => by
      have ep : p = (h'.objs.size, go) := by simpa using hp
      subst ep
      refine ⟨ggo, I3.hok.fresh na, ?_, fun z => ?_, fun v z => ?_⟩
      · show h'.objs.size ≠ h3.objs.size
        rw [hsz]
        exact Nat.succ_ne_self _
      · rcases List.mem_cons.mp (I3.stkSub _ z) with y | y
        · have l : X.env.locals < h3.objs.size := I3.lt
          rw [← show h'.objs.size = X.env.locals from y] at l
          exact Nat.lt_irrefl _ (Nat.lt_of_lt_of_le l na)
        · exact I3.nofs (a := h'.objs.size) na y
      · rw [← hgo] at z
        cases z
    refine hQ J H1 H2 it fp tn { s2 with heap := h3, toks := tk } h3.objs.size cv h'.objs.size go s2.gens.size _ q ⟨tbd, T, ?_, I3, f3, I5', fun z => ?_, Array.getElem?_push_size .., fun h e => ⟨go, _, _, e, by rw [← hgo], by rw [← hgo], by rw [← hgo]⟩⟩
    · refine T.keep _ _ _ st fun b hb o e => kp5 b o (k3 b o (fun z => ?_) e)
      have := (f1 b hb).1
      rw [z, hP] at this
      cases this
    · exact Nat.lt_irrefl _ (Nat.lt_of_lt_of_le (f3 _ z).2 na)
  cases hf2 : codeAmong gpos ps.toList with
  | none =>
    refine wpAny_genexprCodeX hcode (cd.code hPs htr) (cd.tab hPs) hf2 fun c' h' tk hx hge hlt hco' _ htab' _ => ?_
    obtain ⟨o1, us, f1', tf, fl, tg', inF, tx, tt, op, _, _, _, _, _, _, _, _, _, htr', _⟩ := hco'
    exact cont _ h' tk _ (fun b o hb e => hx b o hb e) htab'.2 htr'
  | some cv =>
    refine wpAny_genexprCode_hit hcode (cd.code hPs htr) hf2 ?_
    exact cont cv s2.heap s2.toks #[] (fun b o _ e => e) (by rw [Array.append_empty]; exact hPs) (by rw [Array.append_empty]; exact htr)

/-- all( ), any( ) of a generator expression: sb is the truth at which it stops -/
def rTruth (P : Addr) (sb : Bool) (g : TG) (te : TE) (vs : List Nat) (σ : L2.St) (Q : VK) (J : It) (H1 : Hp) : Prop := ∀ H2, Tabbed P H1 H2 → ∃ W : Nat → Nat → Hp → Prop, (∃ m, W 0 m H2) ∧
  ∀ i m H, W i m H → (J.stop i H ∧ Q (.bl (!sb)) H) ∨ (J.go i H ∧ ∃ Nx : Hp → Prop, (∀ H', Nx H' → ∃ m', m' < m ∧ W (i + 1) m' H') ∧
    ∀ x H', J.yld i H x H' → g x (wipe σ vs) H' fun σ2 H2 => wipe σ2 vs = wipe σ vs ∧ te σ2 H2 fun y H4 => ∃ b, y = .bl b ∧ if b = sb then Q (.bl sb) H4 else Nx H4)
def tTruthG (P : Addr) (sb : Bool) (wi : TI) (g : TG) (te : TE) (vs : List Nat) : TE := fun σ H Q => wi σ H fun J H1 => TabG H1 P ∧ rTruth P sb g te vs σ Q J H1
/-- how a run of it is told -/
def Told (X : Cx) (pins : List (Addr × Obj)) (σ : L2.St) (sc : Scope) (sb : Bool) (Q : VK) (a : Addr) (s5 : Shared) : Prop :=
  ∀ R : Result → Shared → Prop, (∀ b s', EP X pins σ Q (.bool b) s' → R (.ok (.ret (.bool b))) s') → ∃ s0 H0 C code fp go gi n, Awake X s0 H0 sc C code fp sb Q a go gi n s5 ∧ (∀ h : Heap, h.get? a = some go → h.IsGen a gi) ∧ Fin' X s0 H0 sc C code fp Q a go R
/-- what the generator expression must have; the two names of it that are the program's -/
structure GxOk (X : Cx) (sc : Scope) (own : List (Str × Nat)) (c P : Addr) : Prop where
  tb : TabB X.base X.mg c P
  code : X.env.code = .ref c
  blk : BlkOk X.N X.env.scope sc own
  nd : X.N.Nodup
  nocell : ∀ y ∈ sc.names, y.2 ≠ .cell
  dot : sc.names.lookup (".0" : Str) = some NameKind.local
  nocor : sc.isCoroutine = false

section
variable {c P : Addr} {elt tg iter : Expr} {gpos p pos : Pos} {sc : Scope} {own : List (Str × Nat)} {wi : TI} {g : TG} {te : TE} {k : Nat}
theorem truth_core {sb : Bool} {Q : VK} (hr : Room k X.A) (G : GxOk X sc own c P) (hi : PI X tg iter wi) (hs : ∀ v, genFold iter X.env v = pure v)
    (hg : ∀ (s : Shared) (H : Hp) (C : Addr) (code : Value) (fp : List Addr), PG (gcx X s H sc C code fp) tg g) (he : ∀ (s : Shared) (H : Hp) (C : Addr) (code : Value) (fp : List Addr), PE (gcx X s H sc C code fp) elt te)
    (I : Inv X pins σ H s) (h : tTruthG P sb wi g te (own.map (·.2)) σ H Q) {Q' : Value → Shared → Prop}
    (hQ : ∀ a s5, s5.heap.NoLimit → (∃ gi, s5.heap.IsGen a gi) →
      Told X pins σ sc sb Q a s5 → Q' (.ref a) s5) :
    wpAny (model X.prog X.w) X.A (eval (.GeneratorExp elt [⟨tg, iter, [], 0⟩] sc gpos) X.env) Q' X.xe s := by
  have h' : wi σ H fun J H1 => TabG H1 P ∧ rTruth P sb g te (own.map (·.2)) σ Q J H1 := h
  refine gen_made (own := own)
    hr G.tb G.code G.blk G.nd G.nocell G.dot G.nocor hi hs I h' fun J H1 H2 it fp tn s0 C code a go gi s5 hR M => ?_
  obtain ⟨W, ⟨m, w0⟩, step⟩ := hR H2 M.tab
  have I5 := M.i5
  have n2 : ∀ b ∈ fp, H2 b = none := fun b hb => (M.fpo b hb).1.1
  have RR : Run X s0 H2 sc C code fp tg elt g te J it tn (own.map (·.2)) (wipe σ (own.map (·.2))) sb W Q := ⟨M.turns, hg _ _ _ _ _, he _ _ _ _ _, G.nocor, step⟩
  refine hQ a s5 I5.nolimit ⟨gi, M.isgen _ (pin_at I5)⟩ fun R hRR => ⟨s0, H2, C, code, fp, go, gi, m + 1, ⟨⟨_, _, I5⟩, _, M.gens, fun s'' e1 e2 e3 => ⟨rfl, seg_begin RR M.apart m s'' s'' (ahead_like ⟨H2, m, I5, M.st, n2, Nat.le_refl _, w0⟩ e1 e2 e3)⟩⟩, M.isgen, ?_⟩
  intro b σ1 H3 s1 I1 q s' ho hgs hk
  refine hRR b s' ⟨.bl b, H3, ?_, rfl, q⟩
  have un := I1.base.trans (Un.kept hk)
  exact M.i0.call' (ch := fp) (ho.trans I1.os) un (I1.hok.kept hk) hgs fun b hb => ⟨(M.fpo b hb).1.2.2.2.1, (M.fpo b hb).1.2.1, (M.fpo b hb).1.2.2.2.2.1, (M.fpo b hb).1.2.2.2.2.2⟩

theorem told_all {Q : VK} {a : Addr} {s5 : Shared} {R : Result → Shared → Prop} (hr : Room k X.A) (h : Told X pins σ sc false Q a s5) (hR : ∀ b s', EP X pins σ Q (.bool b) s' → R (.ok (.ret (.bool b))) s') :
    codeAny (model X.prog X.w) X.A (.builtin "all.loop" ⟨[.ref a], []⟩) R s5 := by
  obtain ⟨s0, H0, C, code, fp, go, gi, n, aw, hgo, fin⟩ := h R hR
  exact all_turns hr.hd (by have := hr.dp; omega) hgo fin n s5 aw
theorem told_any {Q : VK} {a : Addr} {s5 : Shared} {R : Result → Shared → Prop} (hr : Room k X.A) (h : Told X pins σ sc true Q a s5) (hR : ∀ b s', EP X pins σ Q (.bool b) s' → R (.ok (.ret (.bool b))) s') :
    codeAny (model X.prog X.w) X.A (.builtin "any.loop" ⟨[.ref a], []⟩) R s5 := by
  obtain ⟨s0, H0, C, code, fp, go, gi, n, aw, hgo, fin⟩ := h R hR
  exact any_turns hr.hd (by have := hr.dp; omega) hgo fin n s5 aw
theorem pe_allG (hr : Room k X.A) (G : GxOk X sc own c P) (hga : Gl X "all") (hma : X.mg "all" = none) (hb : bootBuiltins "all" = some (.builtin "all")) (hi : PI X tg iter wi)
    (hg : ∀ (s : Shared) (H : Hp) (C : Addr) (code : Value) (fp : List Addr), PG (gcx X s H sc C code fp) tg g) (he : ∀ (s : Shared) (H : Hp) (C : Addr) (code : Value) (fp : List Addr), PE (gcx X s H sc C code fp) elt te)
    (hs : ∀ v, genFold iter X.env v = pure v := by intro _; rfl)
    (hst : starEach [.GeneratorExp elt [⟨tg, iter, [], 0⟩] sc gpos] X.env = (false, eval (.GeneratorExp elt [⟨tg, iter, [], 0⟩] sc gpos) X.env) :: starEach [] X.env := by rfl) :
    PE X (.Call (.Name "all" p) [.GeneratorExp elt [⟨tg, iter, [], 0⟩] sc gpos] [] pos) (tTruthG P false wi g te (own.map (·.2))) := by
  refine ⟨fun pins s σ H Q I h => ?_⟩
  refine wpAny_Call_Name_kw (ld_blt I hga hma hb ?_)
  refine PyProof.Rows.callWith_builtin1 ?_ hst (by rfl)
  rw [hst]
  show wpAny _ _ (spliced ((false, eval (.GeneratorExp elt [⟨tg, iter, [], 0⟩] sc gpos) X.env) :: backTo pos (starEach [] X.env))) _ _ s
  refine Calls.spliced_cons (truth_core hr G hi hs hg he I h fun a s5 hl hgn hall => ?_)
  refine Calls.spliced_nil ?_
  refine call_function_tree F.kind_all F.plain_all F.entry_all (F.args_all1 _) ?_
  unfold Builtin.«all»
  refine wpAny_bind (m := oneArg "all" _) (wpAny_pure ?_)
  obtain ⟨gi, hgn⟩ := hgn
  refine wpAny_bind (wpAny_pyIter_gen hgn ?_)
  exact wpAny_pure ⟨plainId_quiet F.plain_all_loop _, told_all hr hall fun b s' h => h⟩
theorem pe_anyG (hr : Room k X.A) (G : GxOk X sc own c P) (hga : Gl X "any") (hma : X.mg "any" = none) (hb : bootBuiltins "any" = some (.builtin "any")) (hi : PI X tg iter wi)
    (hg : ∀ (s : Shared) (H : Hp) (C : Addr) (code : Value) (fp : List Addr), PG (gcx X s H sc C code fp) tg g) (he : ∀ (s : Shared) (H : Hp) (C : Addr) (code : Value) (fp : List Addr), PE (gcx X s H sc C code fp) elt te)
    (hs : ∀ v, genFold iter X.env v = pure v := by intro _; rfl)
    (hst : starEach [.GeneratorExp elt [⟨tg, iter, [], 0⟩] sc gpos] X.env = (false, eval (.GeneratorExp elt [⟨tg, iter, [], 0⟩] sc gpos) X.env) :: starEach [] X.env := by rfl) :
    PE X (.Call (.Name "any" p) [.GeneratorExp elt [⟨tg, iter, [], 0⟩] sc gpos] [] pos) (tTruthG P true wi g te (own.map (·.2))) := by
  refine ⟨fun pins s σ H Q I h => ?_⟩
  refine wpAny_Call_Name_kw (ld_blt I hga hma hb ?_)
  refine PyProof.Rows.callWith_builtin1 ?_ hst (by rfl)
  rw [hst]
  show wpAny _ _ (spliced ((false, eval (.GeneratorExp elt [⟨tg, iter, [], 0⟩] sc gpos) X.env) :: backTo pos (starEach [] X.env))) _ _ s
  refine Calls.spliced_cons (truth_core hr G hi hs hg he I h fun a s5 hl hgn hall => ?_)
  refine Calls.spliced_nil ?_
  refine call_function_tree F.kind_any F.plain_any F.entry_any (F.args_any1 _) ?_
  unfold Builtin.«any»
  refine wpAny_bind (m := oneArg "any" _) (wpAny_pure ?_)
  obtain ⟨gi, hgn⟩ := hgn
  refine wpAny_bind (wpAny_pyIter_gen hgn ?_)
  exact wpAny_pure ⟨plainId_quiet F.plain_any_loop _, told_any hr hall fun b s' h => h⟩
end
end
end Gx

/-! Defs whose callers run no repr; how they are called; repr and sorted of data; the end of a law. -/
namespace Gx
open PySem PySem.Spec PyProof.Rows L2 GxR GenW

/-- a def's promise where no repr is running around -/
structure FnG (P : Program) (w : World) (K : PySem.W.Frag) (mg : Str → Option Value) (base : Heap) (CX : CXT) (k : Nat) (f : Addr) (fd : FuncData) (ps : List Str) (sp : Sp) : Prop where
  many : ∀ vs H Q E, sp vs H Q E → vs.length = ps.length
  runs : ∀ (A : Around) (outer : List Env) (s : Shared) (H : Hp) (args : Args) (us : List Value) (vs : List V) (Q : VK) (E : XK), A.guards = some [] → Room k A →
    Env0 P w K mg base A outer s H → BindsTo s fd args (ps.zip us) → Vals vs us → sp vs H Q E → codeAny (model P w) A (.call (.ref f) args) (CR CX outer P w H s Q E) s
/-- a def of the text, with its code object's value -/
structure DefIs (K : PySem.W.Frag) (x qual : Str) (st : Stmt) (f : Addr) (fd : FuncData) (cdv : Value) : Prop where
  at_ : ∃ (oc : Value) (od : Option Addr) (kV doc pm : Value) (an : Option Addr) (ct : Value) (osl : Array (Option Value)),
    fd = PySem.W.fnOf x qual (defArgs st) (defBody st) (defScope st) .none kV doc pm an cdv ct ∧ K.lookup f = some ⟨oc, od, .func fd, osl⟩
  code : PySem.W.codeIn K cdv qual = true
  keep : PySem.W.keepIn K (.ref f) = true
theorem defIs_mk {K : PySem.W.Frag} {x qual : Str} {st : Stmt} {f : Addr} {oc : Value} {od an : Option Addr} {osl : Array (Option Value)} {kV doc pm cdv ct : Value}
    (l : K.lookup f = some ⟨oc, od, .func (PySem.W.fnOf x qual (defArgs st) (defBody st) (defScope st) .none kV doc pm an cdv ct), osl⟩) (c : PySem.W.codeIn K cdv qual = true) (kp : PySem.W.keepIn K (.ref f) = true) :
    DefIs K x qual st f (PySem.W.fnOf x qual (defArgs st) (defBody st) (defScope st) .none kV doc pm an cdv ct) cdv := ⟨⟨oc, od, kV, doc, pm, an, ct, osl, rfl, l⟩, c, kp⟩

section
variable {P : Program} {w : World} {K : PySem.W.Frag} {mg : Str → Option Value} {base : Heap} {CX : CXT}
theorem FnG.less {j k : Nat} {f : Addr} {fd : FuncData} {ps : List Str} {sp : Sp} (F : FnG P w K mg base CX j f fd ps sp) (h : j ≤ k) : FnG P w K mg base CX k f fd ps sp :=
  ⟨F.many, fun A outer s H args us vs Q E g r => F.runs A outer s H args us vs Q E g (r.mono h)⟩
/-- by its body -/
theorem DefIs.ok {x qual : Str} {st : Stmt} {f : Addr} {fd : FuncData} {cdv : Value} {N ps : List Str} {k : Nat} {sp : Sp} (D : DefIs K x qual st f fd cdv) (S : FnScope N ps (defScope st)) (len : ∀ vs H Q E, sp vs H Q E → vs.length = ps.length)
    (body : ∀ (A : Around) (outer : List Env) (s : Shared) (H : Hp) (vs : List V) (Q : VK) (E : XK), A.guards = some [] → Room k (A.deeper (envOfC qual (defScope st) s.heap.objs.size f cdv)) → sp vs H Q E →
      ∃ t, PSs (cxOf CX P w K mg base N qual (defScope st) f cdv A outer s H E) (defBody st) t ∧ t { nx := fun _ H' => Q .non H', rt := Q } (start N vs) H) : FnG P w K mg base CX (k + 1) f fd ps sp := by
  obtain ⟨oc, od, kV, doc, pm, an, ct, osl, rfl, lk⟩ := D.at_
  refine ⟨len, fun A outer s H args us vs Q E g hr e0 hb r hsp => ?_⟩
  have KX : K.In s.heap := e0.mod.kin.keeps fun b o e => (e0.bs b o e).1
  have inits : ∀ y ∈ ps.zip us, (defScope st).names.lookup y.1 = some .local ∨ ((defScope st).names.lookup y.1 = some .cell ∧ ((cellsFrom (s.heap.objs.size + 1) (defScope st).names []).lookup y.1).isSome = true) := by
    rintro ⟨n, v⟩ hy
    exact (S.par n (List.of_mem_zip hy).1).elim .inl fun q => .inr ⟨q, PySem.W.cellsFrom_some _ _ _ (.inl q)⟩
  refine codeAny_call_function hr.depth (KX _ _ lk) rfl S.co S.gen rfl (PySem.W.codeRec_of KX D.code) (hb _ _ _ _ (wpAny_newFunctionEnv_cells S.kind inits fun env he s1 x => ?_))
  subst he
  refine ⟨(e0.mod.nolimit.keeps fun b o e => (e0.bs b o e).1).keeps x.toInCall.keep, codeAny_func ?_⟩
  obtain ⟨t, ht, hq⟩ := body A outer s H vs Q E g (hr.deeper _) hsp
  refine wpAny_mono (ht.run [] s1 (start N vs) H _ (inv_start S hr.hd e0 (len _ _ _ _ hsp) r x) hq) (fun fl s' hs => ?_) fun e s' hs => hs
  cases fl with
  | ret u =>
    obtain ⟨v, σ', H', J, rv, q⟩ := hs
    exact ⟨v, H', J.os, J.bare, J.base, J.hok, rv, q⟩
  | next =>
    obtain ⟨σ', H', J, q⟩ := hs
    exact ⟨V.non, H', J.os, J.bare, J.base, J.hok, rfl, q⟩
  | brk => exact hs.elim fun _ z => z.elim fun _ y => False.elim y.2
  | cont => exact hs.elim fun _ z => z.elim fun _ y => False.elim y.2
/-- .. that nothing raised leaves -/
theorem DefIs.ok0 {x qual : Str} {st : Stmt} {f : Addr} {fd : FuncData} {cdv : Value} {N ps : List Str} {k : Nat} {sp : Sp} (D : DefIs K x qual st f fd cdv) (S : FnScope N ps (defScope st)) (len : ∀ vs H Q E, sp vs H Q E → vs.length = ps.length)
    (body : ∀ (A : Around) (outer : List Env) (s : Shared) (H : Hp) (vs : List V) (Q : VK) (E : XK), A.guards = some [] → Room k (A.deeper (envOfC qual (defScope st) s.heap.objs.size f cdv)) → sp vs H Q E →
      ∃ t, PSs (cxOf CX P w K mg base N qual (defScope st) f cdv A outer s H E).nox (defBody st) t ∧ t { nx := fun _ H' => Q .non H', rt := Q } (start N vs) H) : FnG P w K mg base CX (k + 1) f fd ps sp :=
  D.ok S len fun A outer s H vs Q E g hr hsp => let ⟨t, ht, q⟩ := body A outer s H vs Q E g hr hsp; ⟨t, ht.nox, q⟩
theorem DefIs.binds {x qual : Str} {st : Stmt} {f : Addr} {fd : FuncData} {cdv : Value} {ps : List Str} (D : DefIs K x qual st f fd cdv)
    (h : ∀ (kV doc pm : Value) (an : Option Addr) (ct : Value) (us : List Value), us.length = ps.length → bindArgs (PySem.W.fnOf x qual (defArgs st) (defBody st) (defScope st) .none kV doc pm an cdv ct) ⟨us, []⟩ = pure (ps.zip us)) : Binds K fd ps [] := by
  obtain ⟨oc, od, kV, doc, pm, an, ct, osl, rfl, lk⟩ := D.at_
  exact .all (h kV doc pm an ct)
end

/-- a def that can be called by its name: its promise, its place, how it binds -/
structure Callee (P : Program) (w : World) (K : PySem.W.Frag) (mg : Str → Option Value) (base : Heap) (CX : CXT) (k : Nat) (x : Str) (ps : List Str) (sp : Sp) : Prop where
  is : ∃ f fd, FnG P w K mg base CX k f fd ps sp ∧ mg x = some (.ref f) ∧ PySem.W.keepIn K (.ref f) = true ∧ Binds K fd ps []

section
variable {X : Cx} {CX : CXT} {k : Nat} {x : Str} {ps : List Str} {sp : Sp} {E : XK} {p pos : Pos} {e : Expr} {es : List Expr} {t : TA}
theorem run_g {pins : List (Addr × Obj)} {σ : L2.St} {H : Hp} {s : Shared} {Q : VK} {us : List Value} {vs : List V} {f : Addr} {fd : FuncData} (F : FnG X.prog X.w X.K X.mg X.base CX k f fd ps sp) (g : X.A.guards = some []) (hr : Room k X.A) (hb : Binds X.K fd ps []) (hx : Passes CX X E)
    (I : Inv X pins σ H s) (r : Vals vs us) (h : sp vs H Q E) : wpAny (model X.prog X.w) X.A (call (.ref f) us) (EP X pins σ Q) X.xe s := by
  have hl : (us ++ ([] : List Value)).length = ps.length := by rw [List.append_nil, ← r.length]; exact F.many _ _ _ _ h
  have hB := hb s us I.kIn hl
  rw [List.append_nil] at hB
  refine wpAny_call (codeAny_mono (F.runs X.A X.stack s H ⟨us, []⟩ us vs Q E g hr I.env0 hB r h) fun q s' hq => ?_)
  match q, hq with
  | .error e, hq => exact hx pins σ H s e s' I hq
  | .ok (.ret u), hq => exact I.after hq
/-- f(e, ..) -/
theorem pe_g (C : Callee X.prog X.w X.K X.mg X.base CX k x ps sp) (g : X.A.guards = some []) (hr : Room k X.A) (hx : Passes CX X E) (ha : PA X (e :: es) t) (hg : Gl X x := by rfl)
    (hdb : (x == ("__debug__" : Str)) = false := by decide) (he : starEach (e :: es) X.env = (false, eval e X.env) :: starEach es X.env := by rfl) (hpl : (backTo pos (starEach es X.env)).any (·.1) = false := by rfl) :
    PE X (.Call (.Name x p) (e :: es) [] pos) (tCall sp [] E t) := by
  obtain ⟨f, fd, F, hm, hk, hb⟩ := C.is
  refine ⟨fun pins s σ H Q I h => wpAny_Call_Name_kw (ld_glob I hg hm (PySem.W.callWith_K (h₀ := X.base) I.ok.mod.kin hk (thn (ha.run pos pins s σ H _ I h) fun us s1 h1 => ?_) he hpl) hdb)⟩
  obtain ⟨vs, H1, I1, r, q⟩ := h1
  rw [List.append_nil] at q
  exact ⟨I1.kIn, run_g F g hr hb hx I1 r q⟩
theorem pe_g0 (C : Callee X.prog X.w X.K X.mg X.base CX k x ps sp) (g : X.A.guards = some []) (hr : Room k X.A) (hx : Passes CX X E) (hg : Gl X x := by rfl) (hdb : (x == ("__debug__" : Str)) = false := by decide) :
    PE X (.Call (.Name x p) [] [] pos) (tCall sp [] E tNil) := by
  obtain ⟨f, fd, F, hm, hk, hb⟩ := C.is
  exact ⟨fun pins s σ H Q I h => wpAny_Call_Name_kw (ld_glob I hg hm (PySem.W.callWith_K0 I.kIn hk (run_g (us := []) F g hr hb hx I .nil h)) hdb)⟩
/-- a statement, a block that is never come to -/
theorem ps_dead {st : Stmt} : PS X st (fun _ _ _ => False) := ⟨fun _ _ _ _ _ _ h => h.elim⟩
theorem pss_dead {st : List Stmt} : PSs X st (fun _ _ _ => False) := ⟨fun _ _ _ _ _ _ h => h.elim⟩
theorem pe_dead {e : Expr} : PE X e (fun _ _ _ => False) := ⟨fun _ _ _ _ _ _ h => h.elim⟩
end
end Gx

namespace Gx
open PySem PySem.Spec PyProof.Rows L2 GxR GenW

/-! ### repr and sorted of data -/
section
variable {X : Cx}
def rRepr (K : PySem.W.Frag) : List V → Hp → VK → Prop := fun xs H Q => ∃ x d, xs = [x] ∧ Dp K H x d ∧ d.showable = true ∧ d.hasDict = false ∧ d.depth ≤ 60 ∧ d.shown.length ≤ sizeLine ∧ Q (.str d.shown) H
theorem cr_repr (g : X.A.guards = some []) (hu : X.A.units + 64 < cLine) : CallR X (.builtin "repr") (rRepr X.K) := by
  intro pins s σ H xs us Q I r h
  obtain ⟨x, d, rfl, hD, hs, hd, hp, hz, q⟩ := h
  obtain ⟨u, rfl, rx⟩ : ∃ u, us = [u] ∧ RelV x u := by
    cases r with
    | cons r1 r2 => cases r2; exact ⟨_, rfl, r1⟩
  obtain ⟨as, rd⟩ := Dp.reads I d x u hD rx
  have refs : ∀ a, x = .ref a → wpAny (model X.prog X.w) X.A (call (.builtin "repr") [u]) (EP X pins σ Q) X.xe s := fun a e => by
    subst e
    have e2 : u = .ref a := rx
    subst e2
    exact repr_of_reads' rd hs (PyData.noDict_hsm hd) g (by omega) (fun _ _ e => e) (fun h' v tk hk => ⟨.str _, H, I.kept hk, ⟨_, rfl⟩, q⟩) hz
  cases hD with
  | non =>
    have e2 : u = .none := rx
    subst e2
    exact PySem.P.repr_of_none ⟨.str _, H, I.tok _, ⟨_, rfl⟩, q⟩
  | bl b =>
    have e2 : u = .bool b := rx
    subst e2
    refine PySem.P.repr_of_bool ⟨.str _, H, I.tok _, ⟨_, rfl⟩, ?_⟩
    cases b <;> exact q
  | int i =>
    obtain ⟨t, rfl⟩ := rx
    exact PySem.P.repr_of_int (of_decide_eq_true hs) ⟨.str _, H, I.tok _, ⟨_, rfl⟩, q⟩
  | str z =>
    obtain ⟨t, rfl⟩ := rx
    exact PySem.P.repr_of_str ⟨.str _, H, I.tok _, ⟨_, rfl⟩, q⟩ hz
  | lst h1 h2 => exact refs _ rfl
  | tup h1 h2 => exact refs _ rfl

/-- sorted of a list of data, all of one shape -/
def rSortG (K : PySem.W.Frag) {β : Type} (val : β → V) (enc : β → PyData) : List V → Hp → VK → Prop := fun vs H Q => ∃ (a : Addr) (bs : List β), vs = [V.ref a] ∧ SqL K H a (bs.map val) ∧
  (∀ b ∈ bs, Dp K H (val b) (enc b) ∧ (enc b).depth ≤ 60) ∧ PySem.W.AllAlike (bs.map enc) ∧ PySem.W.Sortable (bs.map enc) ∧ bs.length ≤ sizeLine ∧
  ∀ p, H p = none → Q (.ref p) (upd H p (.lst ((bs.mergeSort (PySem.W.dataLe false enc)).map val)))
theorem each_vals {β : Type} {val : β → V} : ∀ {bs : List β} {us : List Value}, Vals (bs.map val) us → PySem.W.EachIs (fun u b => RelV (val b) u) us bs
  | [], _, .nil => .nil
  | _ :: _, _, .cons r t => .cons r (each_vals t)
theorem vals_each {β : Type} {val : β → V} : ∀ {bs : List β} {us : List Value}, PySem.W.EachIs (fun u b => RelV (val b) u) us bs → Vals (bs.map val) us
  | _, _, .nil => .nil
  | _, _, .cons r t => .cons r (vals_each t)
theorem each_mem {α β : Type} {R S : α → β → Prop} : ∀ {as : List α} {bs : List β}, PySem.W.EachIs R as bs → (∀ a b, b ∈ bs → R a b → S a b) → PySem.W.EachIs S as bs
  | _, _, .nil, _ => .nil
  | _, _, .cons r t, f => .cons (f _ _ List.mem_cons_self r) (each_mem t fun a b hb => f a b (List.mem_cons_of_mem _ hb))
theorem cr_sortG {β : Type} {val : β → V} {enc : β → PyData} (hu : X.A.units + 64 < cLine) : CallR X (.builtin "sorted") (rSortG X.K val enc) := by
  intro pins s σ H xs us Q I r h
  obtain ⟨a, bs, rfl, hL, hD, hal, hk, hz, q⟩ := h
  obtain ⟨u, rfl, rx⟩ : ∃ u, us = [u] ∧ RelV (.ref a) u := by
    cases r with
    | cons r1 r2 => cases r2; exact ⟨_, rfl, r1⟩
  have e2 : u = .ref a := rx
  subst e2
  obtain ⟨its, rv, pl, hz'⟩ := I.list hL
  have ev := each_vals rv
  have er : PySem.W.EachIs (fun v b => ∃ as, Reads s.heap v (enc b) as) its bs := each_mem ev fun v b hb rb => Dp.reads I (enc b) (val b) v (hD b hb).1 rb
  refine PySem.W.sorted_data pl.isList ev er hal hk hz (fun b hb => by have := (hD b hb).2; omega) fun out ho eo => ?_
  obtain ⟨n, hat⟩ := sortedAll_at s.heap its out.toArray
  have rout : Vals ((bs.mergeSort (PySem.W.dataLe false enc)).map val) out := vals_each eo
  have hlen : ((bs.mergeSort (PySem.W.dataLe false enc)).map val).length ≤ sizeLine := by rw [rout.length, ho]; exact hz
  have hf : H (s.heap.objs.size + 1) = none := I.hok.fresh (Nat.le_succ _)
  exact ⟨.ref (s.heap.objs.size + 1), upd H (s.heap.objs.size + 1) (.lst _), I.laid (t' := s.toks) (fun b o e => sortedAll_old e) (Nat.le_succ _) ⟨hlen, out, n, rout, hat⟩, rfl, q _ hf⟩
end

/-! ### the end of a law -/
section
variable {P : Program} {w : World} {K : PySem.W.Frag} {mg mb : Str → Option Value} {k : Nat} {fa a : Addr} {cs : List (Addr × Addr)} {fd : FuncData} {x : Str} {sp : Sp} {s₁ : Shared} {vs : List Value} {ns : List Int}
abbrev scriptObj (vs : List Value) : Obj := { cls := .type "list", data := .seq vs.toArray }
abbrev tabObj : Obj := { cls := .none, data := .fields #[] }
/-- the law's call from a heap in which the script and the tables alone are told -/
theorem law_from (H : Hp) (hT : ∀ p ∈ cs, H p.2 = some (.tbl #[])) (hall : ∀ b u, H b = some u → (b ∈ cs.map Prod.snd ∧ u = .tbl #[]) ∨ (b = a ∧ K.lookup a = none ∧ u = .frz (scriptObj vs) (.lst (ns.map V.int))))
    (KX : K.In s₁.heap) (hns : s₁.heap.Ns mainGlobals mg) (hb : s₁.heap.Ns builtinsNs mb) (hbb : ∀ x : Str, x ≠ "__name__" → mb x = bootBuiltins x) (hlim : s₁.heap.NoLimit) (hg : s₁.gens = #[])
    (tabs : ∀ p ∈ cs, s₁.heap.get? p.2 = some tabObj ∧ K.lookup p.2 = none ∧ PySem.W.CodeHd s₁.heap p.1 p.2)
    (hbm : ∃ (bm : Addr) (ob : Obj), mg "__builtins__" = some (.ref bm) ∧ bm ≠ builtinsNs ∧ s₁.heap.get? bm = some ob ∧ ob.cls = .type "module" ∧ ob.dict = some builtinsNs ∧ ob.data = .plain)
    (ha : s₁.heap.get? a = some (scriptObj vs)) (rv : Vals (ns.map V.int) vs) (hl : ns.length ≤ sizeLine) (hS : SqL K H a (ns.map V.int)) (hr : Room k callerA)
    (F : ∀ base : Heap, K.In base → base.Ns mainGlobals mg → (∀ p ∈ cs, TabB base mg p.1 p.2) → FnG P w K mg base CX0 k fa fd [x] sp) (hbind : ∀ (s : Shared) (u : Value), BindsTo s fd ⟨[u], []⟩ [(x, u)])
    (hsp : sp [.ref a] H (fun v _ => v = .bl true) E0) :
    codeAny (model P w) callerA (.call (.ref fa) ⟨[.ref a], []⟩) (fun r s' => r = .ok (.ret (.bool true)) ∧ OldK s₁.heap s'.heap ∧ s'.os = s₁.os ∧ AllBare s'.gens) s₁ := by
  have isT : ∀ b ∈ cs.map Prod.snd, s₁.heap.get? b = some tabObj := fun b h => by
    obtain ⟨p, hp, rfl⟩ := List.mem_map.mp h
    exact (tabs p hp).1
  -- what is of another kind is not told of
  have un : ∀ {b : Addr} {o : Obj}, s₁.heap.get? b = some o → o.data ≠ (scriptObj vs).data → o.data ≠ tabObj.data → H b = none := fun {b o} e n1 n2 => by
    cases q : H b with
    | none => rfl
    | some u =>
      rcases hall b u q with ⟨hm, _⟩ | ⟨rfl, _, _⟩
      · rw [isT b hm] at e
        exact (n2 (by rw [← Option.some.inj e])).elim
      · rw [ha] at e
        exact (n1 (by rw [← Option.some.inj e])).elim
  have unD : ∀ {b : Addr} {o : Obj} {es : Array DictEntry} {ep : Nat}, s₁.heap.get? b = some o → o.data = .dict es ep → H b = none := fun e d => un e (fun z => by rw [d] at z; cases z) fun z => by rw [d] at z; cases z
  have nsK : ∀ {b : Addr} {m : Str → Option Value}, s₁.heap.Ns b m → (hidT s₁.heap H).Ns b m := fun ⟨o, es, ep, e, d, r⟩ => ⟨o, es, ep, hidT_get e (unD e d), d, r⟩
  have hKb : K.In (hidT s₁.heap H) := fun b o e => hidT_get (KX b o e) (by
    cases q : H b with
    | none => rfl
    | some u =>
      rcases hall b u q with ⟨hm, _⟩ | ⟨rfl, hk, _⟩
      · obtain ⟨p, hp, rfl⟩ := List.mem_map.mp hm
        rw [(tabs p hp).2.1] at e
        cases e
      · rw [hk] at e
        cases e)
  have hok : HOk P w H s₁.heap := fun b u q => by
    rcases hall b u q with ⟨hm, rfl⟩ | ⟨rfl, _, rfl⟩
    · exact isT b hm
    · exact ⟨ha, by rw [List.length_map]; exact hl, vs, _, rv, ha⟩
  have TB : ∀ p ∈ cs, TabB (hidT s₁.heap H) mg p.1 p.2 := fun p hp => by
    obtain ⟨t1, t2, o, us, file, tf, flags, tg, inF, text, tt, e1, r1, r2, r3, rr⟩ := tabs p hp
    have nMain : mainGlobals ≠ p.2 := fun z => by
      obtain ⟨o, es, ep, e, d, _⟩ := hns
      rw [z, t1] at e
      cases e
      cases d
    refine ⟨⟨o, us, file, tf, flags, tg, inF, text, tt, hidT_get e1 (un e1 (fun z => ?_) fun z => ?_), r1, r2, r3, rr⟩, ?_, nMain⟩
    · rw [r2] at z
      cases z
    · rw [r2] at z
      cases z
      simp at r3
    · obtain ⟨bm, ob, b1, b2, b3, b4, b5, b6⟩ := hbm
      refine ⟨bm, ob, b1, b2, fun z => ?_, fun z => ?_, hidT_get b3 (un b3 (fun z => ?_) fun z => ?_), b4, b5, b6⟩
      · obtain ⟨o, es, ep, e, d, _⟩ := hns
        rw [z, e] at b3
        cases b3
        rw [d] at b6
        cases b6
      · rw [z, t1] at b3
        cases b3
        cases b6
      · rw [b6] at z
        cases z
      · rw [b6] at z
        cases z
  have lim2 : (hidT s₁.heap H).NoLimit := hlim.elim fun mc h => ⟨mc, nsK h.1, h.2⟩
  have e0 : Env0 P w K mg (hidT s₁.heap H) callerA [] s₁ H :=
    { frames := rfl, mod := ⟨hKb, nsK hns, ⟨mb, nsK hb, hbb⟩, lim2⟩, bs := fun b o e => of_hidT e, bsz := Nat.le_of_eq (hidT_size _ _), funs := trivial, frf := fun b hb => absurd (show b ∈ ([] : List Addr) from hb) (by simp), hok := hok, bare := .of_eq hg }
  refine codeAny_mono ((F _ hKb (nsK hns) TB).runs callerA [] s₁ H ⟨[.ref a], []⟩ [.ref a] [.ref a] _ _ rfl hr e0 (hbind s₁ (.ref a)) (.cons rfl .nil) hsp) fun r s' h => ?_
  match r, h with
  | .ok (.ret u), h =>
    obtain ⟨v, H', os, bare, U, hok', ru, ev⟩ := h
    subst ev
    have eu : u = .bool true := ru
    subst eu
    have kept : ∀ b o, b ∉ cs.map Prod.snd → s₁.heap.get? b = some o → s'.heap.get? b = some o := fun b o nb e => by
      cases q : H b with
      | none => exact U.keep b o e q (fun z => absurd (show b ∈ ([] : List Addr) from z) (by simp)) (by simp)
      | some u =>
        rcases hall b u q with ⟨hm, _⟩ | ⟨rfl, _, rfl⟩
        · exact (nb hm).elim
        · obtain ⟨e1, _⟩ := hok b _ q
          obtain ⟨e2, _⟩ := hok' b _ (U.frzs b _ _ q)
          rw [e] at e1
          rw [e1]
          exact e2
    have grown : ∀ p ∈ cs, ∃ more : Array Value, s'.heap.get? p.2 = some { cls := .none, data := .fields more } := fun p hp => by
      obtain ⟨more, z⟩ := U.tbls p.2 #[] (hT p hp)
      exact ⟨_, hok' p.2 _ z⟩
    refine ⟨rfl, ⟨fun b o e => ?_, fun b o e => ?_⟩, os, bare⟩
    · by_cases hm : b ∈ cs.map Prod.snd
      · obtain ⟨p, hp, rfl⟩ := List.mem_map.mp hm
        obtain ⟨more, hmore⟩ := grown p hp
        rw [(tabs p hp).1] at e
        cases e
        exact .inr (.inl ⟨((tabs p hp).2.2.tab (tabs p hp).1).isCodeTable, rfl, #[], more, rfl, by rw [Array.empty_append]; exact hmore⟩)
      · exact .inl (kept b o hm e)
    · by_cases hm : b ∈ cs.map Prod.snd
      · obtain ⟨p, hp, rfl⟩ := List.mem_map.mp hm
        exact (grown p hp).elim fun more h => ⟨_, h⟩
      · exact ⟨o, kept b o hm e⟩
/-- what is known of the law's promise at the heap h behind the top -/
def LawG (l : PySem.W.OpenLaw) (w : World) (K : PySem.W.Frag) (k n : Nat) (x : Str) (mg : Str → Option Value) (fa : Addr) (h : Heap) : Prop :=
  ∃ (fd : FuncData) (cs : List (Addr × Addr)) (sp : Sp), (∀ p ∈ cs, h.get? p.2 = some tabObj ∧ K.lookup p.2 = none ∧ PySem.W.CodeHd h p.1 p.2) ∧ (∀ (s : Shared) (u : Value), BindsTo s fd ⟨[u], []⟩ [(x, u)]) ∧
    (∀ (H : Hp) (a : Addr) (ns : List Int), ns.length ≤ n → (∀ z ∈ ns, Builtin.Int.intBits z ≤ 1048576) → (∀ p ∈ cs, H p.2 = some (.tbl #[])) → SqL K H a (ns.map V.int) → sp [.ref a] H (fun v _ => v = .bl true) E0) ∧
    ∀ base : Heap, K.In base → base.Ns mainGlobals mg → (∀ p ∈ cs, TabB base mg p.1 p.2) → FnG l.prog w K mg base CX0 k fa fd [x] sp
theorem walk_G {l : PySem.W.OpenLaw} {n k : Nat} {q : Program} {loose : List Str} {XP : (Str → Option Value) → Heap → Prop} {YP : World → Heap → Prop} {d : DefRec} {K : Params → PySem.W.Frag} {x : Str}
    (hn : l.most = some n) (hn2 : n ≤ sizeLine) (hdf : d.params.defaults = []) (hr : Room k callerA) (hY : ∀ (w : World) (h : Heap), YP w h → (K w.params).In h)
    (F : ∀ (w : World) (mg : Str → Option Value) (fa : Addr) (h : Heap), YP w h → (K w.params).In h → h.Ns mainGlobals mg → mg d.name = some (.ref fa) → LawG l w (K w.params) k n x mg fa h) :
    PySem.W.WalkO q loose XP YP l.row.toRowW d [] (fun f vs => PySem.call f vs) := by
  refine Att.attach_callB hn hdf fun w s₀ s₁ mg mb fa o pm cd doc a vs ns G Y ho hd hcd hmg hobj hints hlen hbits hg => ?_
  have KX := hY w _ Y
  obtain ⟨fd, cs, sp, hT, hb, hsp, hF⟩ := F w mg fa _ Y KX G.T.g hmg
  have aT : a ∉ cs.map Prod.snd := fun z => by
    obtain ⟨p, hp, e⟩ := List.mem_map.mp z
    have q := (hT p hp).1
    rw [e, hobj] at q
    have z' : Data.seq vs.toArray _ = Data.fields #[] := congrArg Obj.data (Option.some.inj q)
    cases z'
  have rv := vals_ints hints
  cases hk : (K w.params).lookup a with
  | some o2 =>
    have e := KX a o2 hk
    rw [hobj] at e
    cases e
    have sl : SqL (K w.params) (fun b => if b ∈ cs.map Prod.snd then some (.tbl #[]) else none) a (ns.map V.int) :=
      .inr ⟨_, vs.toArray, _, hk, rfl, rfl, rfl, by rw [List.size_toArray, hints.length]; exact Nat.le_trans hlen hn2, by simpa using rv⟩
    have hT' : ∀ p ∈ cs, (fun b => if b ∈ cs.map Prod.snd then some (HO.tbl #[]) else none) p.2 = some (.tbl #[]) := fun p hp => if_pos (List.mem_map.mpr ⟨p, hp, rfl⟩)
    refine law_from _ hT' (fun b u z => ?_) KX G.T.g G.T.b G.T.builtins G.T.nolimit hg hT G.T.bmain hobj rv (Nat.le_trans hlen hn2) sl hr hF hb (hsp _ a ns hlen hbits hT' sl)
    by_cases hm : b ∈ cs.map Prod.snd
    · exact .inl ⟨hm, Option.some.inj (z.symm.trans (if_pos hm))⟩
    · have z' := z.symm.trans (if_neg hm)
      cases z'
  | none =>
    have sl : SqL (K w.params) (fun b => if b = a then some (.frz (scriptObj vs) (.lst (ns.map V.int))) else if b ∈ cs.map Prod.snd then some (.tbl #[]) else none) a (ns.map V.int) := .inl (.inr ⟨scriptObj vs, if_pos rfl⟩)
    have hT' : ∀ p ∈ cs, (fun b => if b = a then some (HO.frz (scriptObj vs) (.lst (ns.map V.int))) else if b ∈ cs.map Prod.snd then some (.tbl #[]) else none) p.2 = some (.tbl #[]) := fun p hp =>
      (if_neg (show ¬ p.2 = a from fun z => aT (by rw [← z]; exact List.mem_map.mpr ⟨p, hp, rfl⟩))).trans (if_pos (List.mem_map.mpr ⟨p, hp, rfl⟩))
    refine law_from _ hT' (fun b u z => ?_) KX G.T.g G.T.b G.T.builtins G.T.nolimit hg hT G.T.bmain hobj rv (Nat.le_trans hlen hn2) sl hr hF hb (hsp _ a ns hlen hbits hT' sl)
    by_cases hm : b = a
    · exact .inr ⟨hm, hk, Option.some.inj (z.symm.trans (if_pos hm))⟩
    · have z1 := z.symm.trans (if_neg hm)
      by_cases hm2 : b ∈ cs.map Prod.snd
      · exact .inl ⟨hm2, Option.some.inj (z1.trans (if_pos hm2))⟩
      · have z' := z1.trans (if_neg hm2)
        cases z'
end
end Gx

/-! set( ) of a list of keys of any kind, fewer than 4,000; len(set( )) of a list of texts -/
namespace Gx
open PySem PySem.Spec PyProof.Rows L2 GxR GenW
/-- the unlike ones, in their order -/
def uq {κ : Type} [DecidableEq κ] : List κ → List κ → List κ
  | acc, [] => acc
  | acc, x :: r => uq (if x ∈ acc then acc else acc ++ [x]) r
theorem uq_append {κ : Type} [DecidableEq κ] : ∀ (l acc : List κ) (x : κ), uq acc (l ++ [x]) = if x ∈ uq acc l then uq acc l else uq acc l ++ [x]
  | [], acc, x => rfl
  | y :: r, acc, x => uq_append r _ x
theorem uq_len {κ : Type} [DecidableEq κ] : ∀ (l acc : List κ), (uq acc l).length ≤ acc.length + l.length
  | [], acc => Nat.le_refl _
  | x :: r, acc => by
    have h := uq_len r (if x ∈ acc then acc else acc ++ [x])
    have e : (if x ∈ acc then acc else acc ++ [x]).length ≤ acc.length + 1 := by split <;> simp
    show (uq _ r).length ≤ acc.length + (r.length + 1)
    omega
theorem uq_mem {κ : Type} [DecidableEq κ] : ∀ (l acc : List κ) (k : κ), k ∈ uq acc l ↔ k ∈ acc ∨ k ∈ l
  | [], acc, k => by simp [uq]
  | x :: r, acc, k => by
    show k ∈ uq (if x ∈ acc then acc else acc ++ [x]) r ↔ _
    rw [uq_mem r]
    by_cases h : x ∈ acc
    · rw [if_pos h]
      constructor
      · rintro (h1 | h1)
        · exact .inl h1
        · exact .inr (List.mem_cons_of_mem _ h1)
      · rintro (h1 | h1)
        · exact .inl h1
        · rcases List.mem_cons.mp h1 with e | h2
          · exact .inl (e ▸ h)
          · exact .inr h2
    · rw [if_neg h]
      simp only [List.mem_append, List.mem_cons, List.not_mem_nil, or_false]
      constructor
      · rintro ((h1 | h1) | h1)
        · exact .inl h1
        · exact .inr (.inl h1)
        · exact .inr (.inr h1)
      · rintro (h1 | h1 | h1)
        · exact .inl (.inl h1)
        · exact .inl (.inr h1)
        · exact .inr h1
theorem uq_nodup {κ : Type} [DecidableEq κ] : ∀ (l acc : List κ), (acc ++ l).Nodup → uq acc l = acc ++ l
  | [], acc, _ => by simp [uq]
  | x :: r, acc, h => by
    have hx : x ∉ acc := fun hm => by
      rw [List.nodup_append] at h
      exact h.2.2 x hm x List.mem_cons_self rfl
    show uq (if x ∈ acc then acc else acc ++ [x]) r = _
    rw [if_neg hx]
    have e : acc ++ x :: r = (acc ++ [x]) ++ r := by simp
    rw [e] at h ⊢
    exact uq_nodup r _ h
theorem uq_short {κ : Type} [DecidableEq κ] : ∀ (l acc : List κ), acc.Nodup → ¬ (acc ++ l).Nodup → (uq acc l).length < acc.length + l.length
  | [], acc, h, h2 => absurd (by simpa using h) h2
  | x :: r, acc, h, h2 => by
    show (uq (if x ∈ acc then acc else acc ++ [x]) r).length < acc.length + (r.length + 1)
    by_cases hx : x ∈ acc
    · rw [if_pos hx]
      have := uq_len r acc
      omega
    · rw [if_neg hx]
      have hn : (acc ++ [x]).Nodup := by
        rw [List.nodup_append]
        refine ⟨h, by simp, fun a ha b hb => ?_⟩
        have e : b = x := by simpa using hb
        rw [e]
        exact fun z => hx (z ▸ ha)
      have e : acc ++ x :: r = (acc ++ [x]) ++ r := by simp
      rw [e] at h2
      have := uq_short r (acc ++ [x]) hn h2
      rw [List.length_append, List.length_singleton] at this
      omega

section
variable {prog : Program} {w : World} {A : Around} {κ : Type} [DecidableEq κ] {knd : PySem.KeyKind prog w κ}
/-- the loop that fills it -/
theorem fill_set {R : Result → Shared → Prop} {it : Addr} {fp wr : List Addr} {G : Array GenState → Array GenState → Prop} {n : Nat} {P : Nat → Value → Prop} {St : Nat → Shared → Prop} (W : WalksS prog w A.in1 it fp wr G n P St) {Z : Addr} (zf : Z ∉ fp)
    (ks : List κ) (hn : ks.length = n) (hv : ∀ (i : Nat) (v : Value), P i v → v.scannable = true ∧ ∃ k, ks[i]? = some k ∧ knd.is k v = true) (hb : n + 1 < scanBound) :
    ∀ (m i : Nat) (s : Shared), n = i + m → St i s → s.heap.SetOf knd Z (fun k => decide (k ∈ ks.take i)) (uq [] (ks.take i)).length →
      (∀ s', Moved (Z :: wr) G s s' → s'.heap.SetOf knd Z (fun k => decide (k ∈ ks)) (uq [] ks).length → R (.ok (.ret .none)) s') →
      codeAny (model prog w) A (.builtin "set.update.loop" ⟨[.ref Z, .ref it], []⟩) R s := by
  have zw : Z ∉ wr := fun z => zf (W.sub _ z)
  have more : ∀ b ∈ wr, b ∈ Z :: wr := fun b hb => List.mem_cons_of_mem _ hb
  have stays : ∀ {s s' : Shared} {T : κ → Bool} {c : Nat}, Moved wr G s s' → s.heap.SetOf knd Z T c → s'.heap.SetOf knd Z T c := fun mv ⟨o, es, ep, tb, ho, r⟩ => ⟨o, es, ep, tb, mv.heap Z _ zw ho, r⟩
  intro m
  induction m with
  | zero =>
    intro i s hi hst hS hR
    have e1 : i = n := by omega
    subst e1
    have e2 : ks.take ks.length = ks := List.take_length
    refine codeAny_builtin PyProof.Rows.F.entry_set_update_loop ?_
    rw [Around.under_plainId PyProof.Rows.F.plain_set_update_loop _]
    show wpAny (model prog w) A.in1 (pyNext (.ref it) >>= _) _ _ s
    refine wpAny_bind (W.done s _ _ hst fun s' mv => ?_)
    show wpAny (model prog w) A.in1 (ret Value.none) _ _ s'
    refine wpAny_pure (hR s' (mv.mono more) ?_)
    have q := stays mv hS
    rw [← hn, e2] at q
    exact q
  | succ m ih =>
    intro i s hi hst hS hR
    have il : i < n := by omega
    refine codeAny_builtin PyProof.Rows.F.entry_set_update_loop ?_
    rw [Around.under_plainId PyProof.Rows.F.plain_set_update_loop _]
    show wpAny (model prog w) A.in1 (pyNext (.ref it) >>= _) _ _ s
    refine wpAny_bind (W.item i s _ _ il hst fun v s' hP hst' mv => ?_)
    obtain ⟨hsc, k, hk, his⟩ := hv i v hP
    have hS' := stays mv hS
    show wpAny (model prog w) A.in1 (holding [v] (setAdd Z v) >>= _) _ _ s'
    refine wpAny_bind (wpAny_holding ?_)
    unfold setAdd
    refine wpAny_holding (wpAny_bind (knd.pyHash his ?_))
    have room : (uq [] (ks.take i)).length + 1 < scanBound := by
      have h1 := uq_len (ks.take i) ([] : List κ)
      have h2 : (ks.take i).length ≤ i := by rw [List.length_take]; omega
      simp only [List.length_nil] at h1
      omega
    refine wpAny_setAddHashed_of (knd := knd) (s := { s' with toks := s'.toks + 1 }) his hsc hS' room fun h' sb hS2 => ?_
    have et : ks.take (i + 1) = ks.take i ++ [k] := by rw [List.take_add_one, hk]; rfl
    have hS3 : h'.SetOf knd Z (fun k => decide (k ∈ ks.take (i + 1))) (uq [] (ks.take (i + 1))).length := by
      have e1 : (fun k' => decide (k' ∈ ks.take i) || decide (k' = k)) = fun k' => decide (k' ∈ ks.take (i + 1)) := by
        funext k'
        rw [et]
        by_cases c1 : k' ∈ ks.take i <;> by_cases c2 : k' = k <;> simp [c1, c2]
      have e2 : (if decide (k ∈ ks.take i) = true then (uq [] (ks.take i)).length else (uq [] (ks.take i)).length + 1) = (uq [] (ks.take (i + 1))).length := by
        rw [et, uq_append]
        by_cases c : k ∈ ks.take i
        · have c2 : k ∈ uq [] (ks.take i) := (uq_mem _ _ _).mpr (.inr c)
          rw [if_pos c2, if_pos (decide_eq_true c)]
        · have c2 : k ∉ uq [] (ks.take i) := fun z => by
            rcases (uq_mem _ _ _).mp z with y | y
            · cases y
            · exact c y
          rw [if_neg c2, if_neg (by simpa using c), List.length_append, List.length_singleton]
      rw [← e1, ← e2]
      exact hS2
    have same : ∀ b o, b ≠ Z → s'.heap.get? b = some o → h'.get? b = some o := fun b o hb e => by rw [sb.2 b hb]; exact e
    refine wpAny_pure ⟨plainId_quiet PyProof.Rows.F.plain_set_update_loop _, ih (i + 1) _ (by omega) (W.frame _ s' _ _ hst' (Nat.le_succ _) fun b hb o e => same b o (fun z => zf (z ▸ hb)) e) hS3 fun s'' mv2 hS4 => ?_⟩
    exact hR s'' (Moved.trans W.gtrans ((mv.mono more).then_heap (Nat.le_succ _) fun b o hb e => same b o (fun z => hb (by rw [z]; exact List.mem_cons_self)) e) mv2) hS4

/-- set(l), l a list of keys -/
theorem set_of_list {E : Value → Shared → Prop} {s : Shared} {l : Addr} {items : Array Value} {ks : List κ} {Q : Value → Shared → Prop} (hh : A.handled = none) (hl : s.heap.IsList l items) (hn : ks.length = items.size)
    (hv : ∀ (i : Nat) (v : Value), items[i]? = some v → v.scannable = true ∧ ∃ k, ks[i]? = some k ∧ knd.is k v = true) (hb : items.size + 1 < scanBound)
    (h : ∀ (h' : Heap) (tk : Nat), h'.SetOf knd s.heap.objs.size (fun k => decide (k ∈ ks)) (uq [] ks).length → (∀ b o, s.heap.get? b = some o → h'.get? b = some o) → Q (.ref s.heap.objs.size) { s with heap := h', toks := tk }) :
    wpAny (model prog w) A (call (.type "set") [.ref l]) Q E s := by
  obtain ⟨c0, tl0, mro0⟩ := PySem.F.called_set.mro
  have made0 := PySem.F.called_set.made; have sub0 := PySem.F.called_set.sub
  have nt0 := PySem.F.called_set.notType; have cc0 := PySem.F.called_set.canCreate
  have tc0 := PySem.F.typeCall_set_1 (.ref l)
  refine wpAny_call (codeAny_of_tree ?_)
  show wpAny (model prog w) _ (callAny (.type "set") _) _ _ _
  refine wpAny_pure ⟨Code.quiet_builtin _ (by decide +kernel), codeAny_builtin PySem.F.entry_type_call ?_⟩
  rw [Around.under_plain (weight_type_call_type "set" [.ref l] []) rfl]
  repeat any_goals first | assumption | wp_step
  refine codeAny_mono (code_set_new_1 (.ref l) (E := E) (Q₁ := fun z t => ∃ led : Bool, z = .ref s.heap.objs.size ∧ t = { s with heap := s.heap.push { cls := .type "set", dict := none, data := .set #[] 0 (.fresh 0 0 led) } }) fun led => ⟨led, rfl, rfl⟩) fun r1 t1 q1 => ?_
  match r1, q1 with
  | .error e, q1 => exact q1
  | .ok (.ret z), q1 =>
    obtain ⟨led, rfl, rfl⟩ := q1
    have gS : (s.heap.push { cls := .type "set", dict := none, data := .set #[] 0 (.fresh 0 0 led) }).get? s.heap.objs.size = some { cls := .type "set", dict := none, data := .set #[] 0 (.fresh 0 0 led) } := Heap.get?_push_size _ rfl
    have tS : Shared.TypeIs { s with heap := s.heap.push { cls := .type "set", dict := none, data := .set #[] 0 (.fresh 0 0 led) } } (.ref s.heap.objs.size) "set" := ⟨_, gS, rfl⟩
    have li := PySem.F.called_set.init.lookup; have bi := PySem.F.called_set.init.bind (.ref s.heap.objs.size)
    repeat any_goals first | assumption | wp_step
    refine codeAny_mono (codeAny_call_builtin (R := wants (fun r t => r = .none ∧ ∃ h' tk, t = { s with heap := h', toks := tk } ∧ h'.SetOf knd s.heap.objs.size (fun k => decide (k ∈ ks)) (uq [] ks).length ∧
        ∀ b o, s.heap.get? b = some o → h'.get? b = some o) E) PySem.F.called_set.init.plain PySem.F.entry_set_init (check_set_init_1 tS ?_)) fun r2 t2 q2 => ?_
    · obtain ⟨ol, gl, cl, nl, dl⟩ := hl
      obtain ⟨oc, od, ot, os⟩ := ol
      simp only at cl dl
      subst cl; subst dl
      have ll : l < s.heap.objs.size := Heap.lt_size gl
      have gl' : (s.heap.push { cls := .type "set", dict := none, data := .set #[] 0 (.fresh 0 0 led) }).get? l = some { cls := .type "list", dict := od, data := .seq items nl, slots := os } := Heap.get?_push_of_some _ gl
      have il : (s.heap.push { cls := .type "set", dict := none, data := .set #[] 0 (.fresh 0 0 led) }).IsList l items := ⟨_, gl', rfl, nl, rfl⟩
      have s1 := PySem.F.sub_list_set; have s2 := PySem.F.sub_list_frozenset
      have nd : (Value.type "list" == Value.type "dict") = false := by decide
      unfold Builtin.«set.__init__» noKeywords Builtin.Frozenset.updateFrom
      generalize hp : pyIter = pI
      wp_walk
      subst hp
      refine wpAny_pyIter_list il (wpAny_bind (wpAny_runValue ?_))
      have h3 : A.in1.in1.in1.handled = none := by simp [hh]
      have ni : l ≠ (s.heap.push { cls := .type "set", dict := none, data := .set #[] 0 (.fresh 0 0 led) }).objs.size := by rw [Heap.size_push]; exact Nat.ne_of_lt (Nat.lt_succ_of_lt ll)
      have zf : s.heap.objs.size ∉ [(s.heap.push { cls := .type "set", dict := none, data := .set #[] 0 (.fresh 0 0 led) }).objs.size, l] := by
        rw [Heap.size_push]; simp only [List.mem_cons, List.mem_singleton, List.not_mem_nil, or_false, not_or]
        exact ⟨Nat.ne_of_lt (Nat.lt_succ_self _), Nat.ne_of_gt ll⟩
      refine fill_set ((Walks.list h3 _ l ni items).toS) zf ks hn hv hb items.size 0 _ (by omega) ⟨⟨_, Heap.get?_push_size _ rfl, rfl, rfl⟩, il.push _⟩ ?_ fun t mv hS => ?_
      · have g2 : ((s.heap.push { cls := .type "set", dict := none, data := .set #[] 0 (.fresh 0 0 led) }).push { cls := .type "list_iterator", data := .fields #[.ref l, .int 0 0] }).get? s.heap.objs.size =
            some { cls := .type "set", dict := none, data := .set #[] 0 (.fresh 0 0 led) } := Heap.get?_push_of_some _ gS
        have q := (PyProof.Rows.setObjOf_fresh (knd := knd) led).setOf g2 (by unfold scanBound; omega)
        have e : (fun k => decide (k ∈ ks.take 0)) = fun _ : κ => false := by funext k; simp
        rw [e]
        exact q
      · obtain ⟨h', g', d', tk', os'⟩ := t
        obtain rfl : g' = s.gens := mv.gens
        obtain rfl : d' = s.drawn := mv.drawn
        obtain rfl : os' = s.os := mv.os
        show wpAny (model prog w) _ _ _ _ _
        refine wpAny_pure ?_
        show wpAny (model prog w) _ (ret Value.none) _ _ _
        refine wpAny_pure ⟨rfl, h', tk', rfl, hS, fun b o e => ?_⟩
        have lb := Heap.lt_size e
        refine mv.heap b o (fun z => ?_) (Heap.get?_push_of_some _ (Heap.get?_push_of_some _ e))
        rcases List.mem_cons.mp z with y | y
        · exact Nat.ne_of_lt lb y
        · rcases List.mem_cons.mp y with y | y
          · rw [Heap.size_push] at y
            exact Nat.ne_of_lt (Nat.lt_succ_of_lt lb) y
          · cases y
    · match r2, q2 with
      | .error e, q2 => exact q2
      | .ok (.ret r), q2 =>
        obtain ⟨rfl, h', tk, rfl, hS, hk⟩ := q2
        repeat any_goals first | assumption | wp_step
        exact h _ _ hS hk
end
end Gx
namespace Gx
open PySem PySem.Spec PyProof.Rows L2 GxR GenW
section
variable {X : Cx}
/-- len(set(xs)) of a list of texts -/
def tLenSetS (K : PySem.W.Frag) (ta : TE) : TE := fun σ H Q => ta σ H fun x H1 => ∃ (l : Addr) (xs : List Str), x = .ref l ∧ SqL K H1 l (xs.map V.str) ∧ xs.length ≤ 4000 ∧ Q (.int ((uq [] xs).length : Nat)) H1
theorem pe_lenSetS {a : Expr} {ta : TE} {p p2 q pos : Pos} (hg : Gl X "len") (hm : X.mg "len" = none) (hg2 : Gl X "set") (hm2 : X.mg "set" = none) (hh : X.A.handled = none) (ha : PE X a ta)
    (na : starEach [a] X.env = (false, eval a X.env) :: starEach [] X.env := by rfl) : PE X (.Call (.Name "len" p) [.Call (.Name "set" p2) [a] [] q] [] pos) (tLenSetS X.K ta) := by
  refine ⟨fun pins s σ H Q I h => Call_ (ld_blt I hg hm boot_len (PyProof.Rows.callWith_builtin1 (PyProof.Rows.args_cons (Call_ (ld_blt I hg2 hm2 boot_set ?_)) rfl) rfl rfl))⟩
  refine PyProof.Rows.callWith_type1 (PyProof.Rows.args_cons (thn (ha.run pins s σ H _ I h) fun v s1 h1 => PyProof.Rows.args_nil ?_) na) na rfl
  obtain ⟨x, H1, I1, r1, l, xs, rfl, hq, hz, q1⟩ := h1
  have e : v = .ref l := r1
  subst e
  obtain ⟨its, rv, pl, _⟩ := I1.list hq
  have hlen : xs.length = its.length := by have := rv.length; rw [List.length_map] at this; exact this
  refine set_of_list (knd := PySem.strKind X.prog X.w) hh pl.isList (ks := xs) (by rw [List.size_toArray]; exact hlen) (fun i v hv => ?_) (by rw [List.size_toArray, ← hlen]; unfold scanBound; omega) fun h' tk hS hk => ?_
  · have hv' : its[i]? = some v := by simpa using hv
    have hi : i < xs.length := by rw [hlen]; exact (List.getElem?_eq_some_iff.mp hv').1
    have e1 : (xs.map V.str)[i]? = some (V.str xs[i]) := by rw [List.getElem?_map, List.getElem?_eq_getElem hi]; rfl
    obtain ⟨u, hu, t, rfl⟩ := rv.get e1
    rw [hv'] at hu
    obtain rfl := Option.some.inj hu
    exact ⟨rfl, xs[i], List.getElem?_eq_getElem hi, PySem.strKind_is _ _ _ _⟩
  · obtain ⟨o, es, ep, t, ho, hex, hd, _, _, _, hf, hn⟩ := hS
    have I2 : Inv X pins σ H1 { s1 with heap := h', toks := tk } := I1.kept hk
    have hle : (uq ([] : List Str) xs).length ≤ 4000 := by have := uq_len xs ([] : List Str); simp only [List.length_nil] at this; omega
    exact PyProof.Rows.args_nil (call_len_set ho hex hd hf (by rw [hn]; omega) ⟨.int _, H1, I2.tok _, ⟨_, by rw [hn]⟩, q1⟩)
end
end Gx

/-! What else the programs want: powers, generator expressions by their scopes, what stays of a heap. -/
namespace Gx
open PySem PySem.Spec PyProof.Rows L2 GxR GenW
theorem bits_le {x : Int} {n : Nat} (h0 : 0 < n) (h : x.natAbs < 2 ^ n) : Builtin.Int.intBits x ≤ n := by
  have l := PySem.Flt.log2_lt_of h0 h
  unfold Builtin.Int.intBits
  split <;> omega
section
variable {X : Cx}
/-- ** of any base, together below 2 ^ 27 bits -/
def CPowX (i j : Int) : Prop := 0 ≤ j ∧ (Builtin.Int.intBits i : Int) * j ≤ 2 ^ 27
theorem op_powX : OpR X (binaryOp .Pow) (rI CPowX fun i j => .int (i ^ j.toNat)) := opI fun _ _ _ _ _ _ _ hc q => pow_int hc.1 hc.2 q
theorem room_gx {k : Nat} {s : Shared} {H : Hp} {sc : Scope} {C : Addr} {code : Value} {fp : List Addr} (r : Room (k + 3) X.A) : Room k (gcx X s H sc C code fp).A := r.in1.in1.deeper _
def gxC (sc : Scope) : Bool := (sc.names.all fun y => match y.2 with | .cell => false | _ => true) && (match sc.names.lookup (".0" : Str) with | some .local => true | _ => false) && !sc.isCoroutine
theorem gx_ok {gsc dsc : Scope} {own : List (Str × Nat)} {c P : Addr} {N : List Str} (tb : TabB X.base X.mg c P) (nd : N.Nodup) (b : blkC N dsc gsc own = true) (h2 : gxC gsc = true)
    (e1 : X.N = N := by rfl) (e2 : X.env.scope = dsc := by rfl) (e3 : X.env.code = .ref c := by rfl) : GxOk X gsc own c P := by
  unfold gxC at h2
  rw [Bool.and_eq_true, Bool.and_eq_true, List.all_eq_true] at h2
  refine ⟨tb, e3, ?_, by rw [e1]; exact nd, fun y hy e => ?_, ?_, ?_⟩
  · rw [e1, e2]
    exact blkOk_by b
  · have := h2.1.1 y hy
    rw [e] at this
    cases this
  · have := h2.1.2
    split at this
    · assumption
    · cases this
  · simpa using h2.2
end

/-! ### what stays -/
/-- all but tables and what stands at ex is as it was; tables may have grown -/
structure Grow (ex : List Addr) (H H' : Hp) : Prop where
  keep : ∀ b o, b ∉ ex → H b = some o → (∀ ps, o ≠ .tbl ps) → H' b = some o
  tabs : ∀ b, TabG H b → TabG H' b
theorem Grow.refl (ex : List Addr) (H : Hp) : Grow ex H H := ⟨fun _ _ _ e _ => e, fun _ t => t⟩
theorem Grow.trans {ex : List Addr} {H H1 H2 : Hp} (a : Grow ex H H1) (b : Grow ex H1 H2) : Grow ex H H2 := ⟨fun c o h e t => b.keep c o h (a.keep c o h e t) t, fun c t => b.tabs c (a.tabs c t)⟩
theorem Grow.mono {ex ex' : List Addr} {H H1 : Hp} (a : Grow ex H H1) (h : ∀ b ∈ ex, b ∈ ex') : Grow ex' H H1 := ⟨fun c o n e t => a.keep c o (fun z => n (h c z)) e t, a.tabs⟩
theorem Grow.any {ex : List Addr} {H H1 : Hp} (a : Grow [] H H1) : Grow ex H H1 := a.mono fun _ z => by cases z
theorem Grow.lst {ex : List Addr} {H H' : Hp} (a : Grow ex H H') {p : Addr} {xs : List V} (n : p ∉ ex) (h : H p = some (.lst xs)) : H' p = some (.lst xs) := a.keep p _ n h fun ps z => by cases z
theorem Grow.tup {ex : List Addr} {H H' : Hp} (a : Grow ex H H') {p : Addr} {xs : List V} (n : p ∉ ex) (h : H p = some (.tup xs)) : H' p = some (.tup xs) := a.keep p _ n h fun ps z => by cases z
theorem Grow.seq {K : PySem.W.Frag} {ex : List Addr} {H H' : Hp} (a : Grow ex H H') {p : Addr} {xs : List V} (n : p ∉ ex) (h : SqL K H p xs) : SqL K H' p xs := by
  rcases h with (h | ⟨o, h⟩) | h
  · exact .inl (.inl (a.lst n h))
  · exact .inl (.inr ⟨o, a.keep p _ n h fun ps z => by cases z⟩)
  · exact .inr h
theorem Grow.seq0 {K : PySem.W.Frag} {H H' : Hp} (a : Grow [] H H') {p : Addr} {xs : List V} (h : SqL K H p xs) : SqL K H' p xs := a.seq (by simp) h
/-- a new object -/
theorem grow_new {ex : List Addr} {H : Hp} {p : Addr} {o : HO} (h : H p = none) : Grow ex H (upd H p o) :=
  ⟨fun b u _ e _ => by rw [upd_ne (ne_of_none e h)]; exact e, fun b ⟨ps, e, t⟩ => ⟨ps, by rw [upd_ne (ne_of_none e h)]; exact e, t⟩⟩
/-- what stands at p, no table, is changed -/
theorem grow_at {ex : List Addr} {H : Hp} {p : Addr} {o u : HO} (h : H p = some u) (hu : ∀ ps, u ≠ .tbl ps) (hp : p ∈ ex) : Grow ex H (upd H p o) :=
  ⟨fun b v n e _ => by rw [upd_ne (show b ≠ p from fun z => n (by rw [z]; exact hp))]; exact e, fun b ⟨ps, e, t⟩ => ⟨ps, by rw [upd_ne (show b ≠ p from fun z => by rw [z, h] at e; exact hu ps (Option.some.inj e))]; exact e, t⟩⟩
theorem grow_tab {ex : List Addr} {P : Addr} {H H' : Hp} (h : TabG H P) (t : Tabbed P H H') : Grow ex H H' :=
  ⟨fun b o _ e no => by
    have n : b ≠ P := fun z => by
      obtain ⟨ps, e2, _⟩ := h
      rw [z, e2] at e
      exact no ps (Option.some.inj e).symm
    rw [t.2 b n]
    exact e, fun b ht => by
    by_cases z : b = P
    · rw [z]
      exact t.1
    · obtain ⟨ps, e, q⟩ := ht
      exact ⟨ps, by rw [t.2 b z]; exact e, q⟩⟩
/-- what was not told of before may be dropped from ex -/
theorem Grow.less {ex : List Addr} {p : Addr} {H H' : Hp} (a : Grow (p :: ex) H H') (h : H p = none) : Grow ex H H' :=
  ⟨fun b o n e t => a.keep b o (fun z => by
    rcases List.mem_cons.mp z with y | y
    · rw [y, h] at e
      cases e
    · exact n y) e t, a.tabs⟩
/-- nothing stood there, or a table did -/
def Fresh (H : Hp) (p : Addr) : Prop := ∀ o, H p = some o → ∃ ps, o = .tbl ps
theorem fresh_none {H : Hp} {p : Addr} (h : H p = none) : Fresh H p := fun o e => by
  rw [h] at e
  cases e
theorem Grow.fresh {ex : List Addr} {H H' : Hp} (a : Grow ex H H') {p : Addr} (n : p ∉ ex) (h : Fresh H' p) : Fresh H p := fun o e => by
  cases o with
  | tbl ps => exact ⟨ps, rfl⟩
  | _ => exact h _ (a.keep p _ n e (fun ps z => by cases z))
theorem Grow.fresh0 {H H' : Hp} (a : Grow [] H H') {p : Addr} (h : H' p = none) : Fresh H p := a.fresh (by simp) (fresh_none h)
theorem Fresh.ne {H : Hp} {p b : Addr} {o : HO} (n : Fresh H p) (h : H b = some o) (ho : ∀ ps, o ≠ .tbl ps) : b ≠ p := fun z => by
  rw [z] at h
  obtain ⟨ps, e⟩ := n o h
  exact ho ps e
/-- what is new may be changed -/
theorem Grow.put {ex : List Addr} {p : Addr} {o u : HO} {H H' : Hp} (a : Grow ex H H') (n : Fresh H p) (h : H' p = some u) (hu : ∀ ps, u ≠ .tbl ps) : Grow ex H (upd H' p o) :=
  ⟨fun b v z e t => by
    rw [upd_ne (n.ne e t)]
    exact a.keep b v z e t, fun b t => by
    obtain ⟨ps, e, q⟩ := a.tabs b t
    exact ⟨ps, by rw [upd_ne (show b ≠ p from fun z => by rw [z, h] at e; exact hu ps (Option.some.inj e))]; exact e, q⟩⟩
theorem Grow.drop {ex : List Addr} {p : Addr} {H H' : Hp} (a : Grow (p :: ex) H H') (n : Fresh H p) : Grow ex H H' :=
  ⟨fun b o nb e t => a.keep b o (fun z => by
    rcases List.mem_cons.mp z with y | y
    · exact n.ne e t y
    · exact nb y) e t, a.tabs⟩
theorem Grow.new {ex : List Addr} {p : Addr} {o : HO} {H H' : Hp} (a : Grow ex H H') (h : H' p = none) : Grow ex H (upd H' p o) := a.trans (grow_new h)
/-! ### data -/
mutual
theorem Dp.grow {K : PySem.W.Frag} {H H' : Hp} (a : Grow [] H H') : ∀ {x : V} {d : PyData}, Dp K H x d → Dp K H' x d
  | _, _, .non => .non
  | _, _, .bl b => .bl b
  | _, _, .int i => .int i
  | _, _, .str x => .str x
  | _, _, .lst h1 h2 => .lst (a.seq0 h1) (DpAll.grow a h2)
  | _, _, .tup h1 h2 => .tup (by
      rcases h1 with (h | ⟨o, h⟩) | h
      · exact .inl (.inl (a.keep _ _ (by simp) h fun ps z => by cases z))
      · exact .inl (.inr ⟨o, a.keep _ _ (by simp) h fun ps z => by cases z⟩)
      · exact .inr h) (DpAll.grow a h2)
theorem DpAll.grow {K : PySem.W.Frag} {H H' : Hp} (a : Grow [] H H') : ∀ {x : List V} {d : List PyData}, DpAll K H x d → DpAll K H' x d
  | _, _, .nil => .nil
  | _, _, .cons h t => .cons (Dp.grow a h) (DpAll.grow a t)
end
theorem dp_strs {K : PySem.W.Frag} {H : Hp} : ∀ xs : List Str, DpAll K H (xs.map V.str) (xs.map PyData.str)
  | [] => .nil
  | x :: r => .cons (.str x) (dp_strs r)
theorem dp_book {K : PySem.W.Frag} {H : Hp} {p : Addr} {xs : List Str} (h : SqL K H p (xs.map V.str)) : Dp K H (.ref p) (.list (xs.map PyData.str)) := .lst h (dp_strs xs)

theorem tyB_str {K : PySem.W.Frag} {H : Hp} {z : Str} {p : String → Prop} : (∃ U, TyB K H (.str z) U ∧ p U) ↔ p "str" := by
  constructor
  · rintro ⟨U, t, h⟩
    cases t
    exact h
  · exact fun h => ⟨_, .str z, h⟩
theorem tyB_int {K : PySem.W.Frag} {H : Hp} {z : Int} {p : String → Prop} : (∃ U, TyB K H (.int z) U ∧ p U) ↔ p "int" := by
  constructor
  · rintro ⟨U, t, h⟩
    cases t
    exact h
  · exact fun h => ⟨_, .int z, h⟩

/-! ### all( ), any( ) over items that are known -/
section
variable {sb : Bool} {g : TG} {te : TE} {vs : List Nat} {σ : L2.St} {Q : VK} {P : Addr} {J : It} {H1 : Hp}
theorem truth_by {items : List V} (Pv : Nat → Hp → Prop) (h0 : ∀ H2, Tabbed P H1 H2 → Pv 0 H2) (yld : ∀ i H x H', Pv i H → J.yld i H x H' → H' = H ∧ items[i]? = some x) (go : ∀ i H, i < items.length → Pv i H → J.go i H)
    (stop : ∀ H, Pv items.length H → J.stop items.length H) (step : ∀ i x H, items[i]? = some x → Pv i H → g x (wipe σ vs) H fun σ2 H2 => wipe σ2 vs = wipe σ vs ∧ te σ2 H2 fun y H4 => ∃ b, y = .bl b ∧ if b = sb then Q (.bl sb) H4 else Pv (i + 1) H4)
    (fin : ∀ H, Pv items.length H → Q (.bl (!sb)) H) : rTruth P sb g te vs σ Q J H1 := by
  refine fun H2 t => ⟨fun i m H => m = items.length - i ∧ i ≤ items.length ∧ Pv i H, ⟨_, rfl, Nat.zero_le _, h0 H2 t⟩, fun i m H hw => ?_⟩
  obtain ⟨rfl, hi, hp⟩ := hw
  by_cases hl : i < items.length
  · refine .inr ⟨go i H hl hp, Pv (i + 1), fun H' h' => ⟨items.length - (i + 1), by omega, rfl, hl, h'⟩, fun x H' hy => ?_⟩
    obtain ⟨rfl, hx⟩ := yld i H x H' hp hy
    exact step i x _ hx hp
  · have e : i = items.length := by omega
    subst e
    exact .inl ⟨stop H hp, fin H hp⟩
theorem truth_list {K : PySem.W.Frag} {a : Addr} {xs : List V} (Pv : Nat → Hp → Prop) (h0 : ∀ H2, Tabbed P H1 H2 → Pv 0 H2) (hl : ∀ i H, Pv i H → SqL K H a xs)
    (step : ∀ i x H, xs[i]? = some x → Pv i H → g x (wipe σ vs) H fun σ2 H2 => wipe σ2 vs = wipe σ vs ∧ te σ2 H2 fun y H4 => ∃ b, y = .bl b ∧ if b = sb then Q (.bl sb) H4 else Pv (i + 1) H4)
    (fin : ∀ H, Pv xs.length H → Q (.bl (!sb)) H) : rTruth P sb g te vs σ Q (Itl K a) H1 :=
  truth_by (items := xs) Pv h0 (fun i H x H' hp hy => ⟨hy.1, hy.2 xs (hl i H hp)⟩) (fun i H hi hp => ⟨xs, xs[i], hl i H hp, List.getElem?_eq_getElem hi⟩) (fun H hp => ⟨xs, hl _ H hp, Nat.le_refl _⟩) step fin
theorem truth_text {z : Str} (Pv : Nat → Hp → Prop) (h0 : ∀ H2, Tabbed P H1 H2 → Pv 0 H2)
    (step : ∀ (i : Nat) (c : Nat) H, z.cps.toList[i]? = some c → Pv i H → g (.str ⟨#[c]⟩) (wipe σ vs) H fun σ2 H2 => wipe σ2 vs = wipe σ vs ∧ te σ2 H2 fun y H4 => ∃ b, y = .bl b ∧ if b = sb then Q (.bl sb) H4 else Pv (i + 1) H4)
    (fin : ∀ H, Pv z.cps.toList.length H → Q (.bl (!sb)) H) : rTruth P sb g te vs σ Q (Its z) H1 := by
  have el : (z.cps.toList.map fun c => V.str ⟨#[c]⟩).length = z.cps.toList.length := by rw [List.length_map]
  refine truth_by (items := z.cps.toList.map fun c => V.str ⟨#[c]⟩) Pv h0 (fun i H x H' hp hy => ?_) (fun i H hi hp => ?_) (fun H hp => ?_) (fun i x H hx hp => ?_) fun H hp => fin H (by rw [← el]; exact hp)
  · obtain ⟨e, c, hc, rfl⟩ := hy
    refine ⟨e, ?_⟩
    rw [List.getElem?_map, Array.getElem?_toList, hc]
    rfl
  · rw [el] at hi
    show i < z.cps.size
    simpa using hi
  · show z.cps.size ≤ _
    rw [el]
    simp
  · rw [List.getElem?_map] at hx
    cases hc : z.cps.toList[i]? with
    | none => rw [hc] at hx; cases hx
    | some c =>
      rw [hc] at hx
      cases hx
      exact step i c H hc hp
end

theorem put_len {κ : Type} [DecidableEq κ] (c : List (κ × V)) (k : κ) (x : V) : (putK c k x).length ≤ c.length + 1 := by
  unfold putK
  split
  · rw [List.length_map]
    omega
  · rw [List.length_append]
    exact Nat.le_refl _
/-! ### readings within a block -/
section
variable {X : Cx}
theorem blk_K {s : Shared} {H : Hp} {sc : Scope} {ce : Env} {fp : List Addr} : (X.blk s H sc ce fp).K = X.K := rfl
theorem gcx_K {s : Shared} {H : Hp} {sc : Scope} {C : Addr} {code : Value} {fp : List Addr} : (gcx X s H sc C code fp).K = X.K := rfl
theorem pe_to {e : Expr} {t t' : TE} (p : PE X e t) (h : t = t' := by first | exact rfl | (simp only [Gx.blk_K, Gx.gcx_K]; exact rfl)) : PE X e t' := h ▸ p
theorem pg_to {e : Expr} {t t' : TG} (p : PG X e t) (h : t = t' := by first | exact rfl | (simp only [Gx.blk_K, Gx.gcx_K]; exact rfl)) : PG X e t' := h ▸ p
theorem pts_to {e : List Expr} {t t' : TT} (p : PTs X e t) (h : t = t' := by first | exact rfl | (simp only [Gx.blk_K, Gx.gcx_K]; exact rfl)) : PTs X e t' := h ▸ p
theorem pi_to {tg e : Expr} {t t' : TI} (p : PI X tg e t) (h : t = t' := by first | exact rfl | (simp only [Gx.blk_K, Gx.gcx_K]; exact rfl)) : PI X tg e t' := h ▸ p
end
/-! ### things that are known, lists that are names -/
theorem _root_.L2.TyB.grow {K : PySem.W.Frag} {H H' : Hp} {x : V} {U : String} (g : Grow [] H H') (t : TyB K H x U) : TyB K H' x U := by
  cases t with
  | non => exact .non
  | bl b => exact .bl b
  | int i => exact .int i
  | str z => exact .str z
  | byt b => exact .byt b
  | lst h => exact .lst (g.seq0 h)
  | @tup p xs h =>
    refine .tup (xs := xs) ?_
    rcases h with (h | ⟨o, h⟩) | h
    · exact .inl (.inl (g.keep _ _ (by simp) h fun ps z => by cases z))
    · exact .inl (.inr ⟨o, g.keep _ _ (by simp) h fun ps z => by cases z⟩)
    · exact .inr h
  | dK h => exact .dK (g.keep _ _ (by simp) h fun ps z => by cases z)
/-- a text of no great length, or of a kind that is told -/
def Known (K : PySem.W.Frag) (H : Hp) (x : V) : Prop := (∃ z : Str, x = .str z ∧ z.length ≤ sizeLine) ∨ ∃ U, U ≠ "str" ∧ TyB K H x U
theorem Known.grow {K : PySem.W.Frag} {H H' : Hp} {x : V} (g : Grow [] H H') : Known K H x → Known K H' x
  | .inl h => .inl h
  | .inr ⟨U, n, t⟩ => .inr ⟨U, n, t.grow g⟩
/-- a text's own -/
def theStr : V → Str
  | .str z => z
  | _ => Str.empty
theorem strs_of {p : V → Bool} (hp : ∀ x, p x = true → ∃ z, x = .str z) : ∀ {xs : List V}, xs.all p = true → xs = (xs.map theStr).map V.str
  | [], _ => rfl
  | x :: r, h => by
    rw [List.all_cons, Bool.and_eq_true] at h
    obtain ⟨z, rfl⟩ := hp x h.1
    show V.str z :: r = V.str z :: (r.map theStr).map V.str
    rw [← strs_of hp h.2]
theorem nodup_str {zs : List Str} : (zs.map V.str).Nodup ↔ zs.Nodup := by
  constructor
  · exact fun h => (List.pairwise_map.mp h).imp fun q e => q (congrArg V.str e)
  · exact fun h => List.pairwise_map.mpr (h.imp fun q e => q (V.str.inj e))
theorem uq_same {κ : Type} [DecidableEq κ] (l : List κ) : decide (((uq [] l).length : Int) = (l.length : Int)) = decide l.Nodup := by
  by_cases h : l.Nodup
  · rw [decide_eq_true h, uq_nodup l [] (by simpa using h)]
    exact decide_eq_true rfl
  · rw [decide_eq_false h]
    have := uq_short l [] List.nodup_nil (by simpa using h)
    simp only [List.length_nil] at this
    exact decide_eq_false (by omega)
end Gx

/-! Dict comprehensions and comprehensions of two clauses over walks; data that no list is in. -/
namespace Gx
open PySem PySem.Spec PyProof.Rows L2 GxR
section
variable {J J1 : It} {n : Nat} {G : Hp → Prop} {Y : Nat → Hp → V → Hp → Prop}
theorem dc_it (w : Walk J n G Y) {g : TG} {tt : TT} {tk tv : TE} {vs : List Nat} {σ : L2.St} {H1 : Hp} {D : Addr} {Qd : Hp → Prop} (Pv : Nat → Hp → Prop) (h0 : Pv 0 (upd H1 D (.dK []))) (hG : ∀ i H, i ≤ n → Pv i H → G H)
    (hs : ∀ i x H H', i < n → Pv i H → Y i H x H' → g x (wipe σ vs) H' fun σ2 H2 => wipe σ2 vs = wipe σ vs ∧ tt σ2 H2 fun b H3 =>
      if b = true then tk σ2 H3 fun y H4 => tv σ2 H4 fun z H5 => ∃ kvs k, y = kV k ∧ H5 D = some (.dK kvs) ∧ kvs.length < sizeLine ∧ Pv (i + 1) (upd H5 D (.dK (putK kvs k z))) else Pv (i + 1) H3) (hd : ∀ H, Pv n H → Qd H) :
    ∃ W : Nat → Nat → Hp → Prop, (∃ m, W 0 m (upd H1 D (.dK []))) ∧ ∀ i m H, W i m H →
      (J.stop i H ∧ Qd H) ∨ (J.go i H ∧ ∃ Nx : Hp → Prop, (∀ H', Nx H' → ∃ m', m' < m ∧ W (i + 1) m' H') ∧ ∀ x H', J.yld i H x H' → g x (wipe σ vs) H' fun σ2 H2 => wipe σ2 vs = wipe σ vs ∧ tt σ2 H2 fun b H3 =>
        if b = true then tk σ2 H3 fun y H4 => tv σ2 H4 fun z H5 => ∃ kvs k, y = kV k ∧ H5 D = some (.dK kvs) ∧ kvs.length < sizeLine ∧ Nx (upd H5 D (.dK (putK kvs k z))) else Nx H3) := by
  refine ⟨fun i m H => m = n - i ∧ i ≤ n ∧ Pv i H, ⟨n, by simp, Nat.zero_le _, h0⟩, ?_⟩
  rintro i m H ⟨rfl, hi, p⟩
  by_cases hlt : i < n
  · exact .inr ⟨w.goes i H hlt (hG i H hi p), Pv (i + 1), fun H' p' => ⟨n - (i + 1), by omega, rfl, hlt, p'⟩, fun x H' y => hs i x H H' hlt p (w.yields i H x H' hlt (hG i H hi p) y)⟩
  · have e : i = n := by omega
    subst e
    exact .inl ⟨w.stops H (hG _ H hi p), hd H p⟩
/-- the loop of the second clause -/
abbrev In1 (D : Addr) (g1 : TG) (tt1 : TT) (te : TE) (vs1 : List Nat) (σ2 : L2.St) (Nx : Hp → Prop) (J1 : It) (H4 : Hp) : Prop := ∃ W1 : Nat → Nat → Hp → Prop, (∃ m, W1 0 m H4) ∧ ∀ j k H, W1 j k H →
  (J1.stop j H ∧ Nx H) ∨ (J1.go j H ∧ ∃ Nx1 : Hp → Prop, (∀ H', Nx1 H' → ∃ k', k' < k ∧ W1 (j + 1) k' H') ∧ ∀ x H', J1.yld j H x H' → g1 x (wipe σ2 vs1) H' fun σ3 H5 => wipe σ3 vs1 = wipe σ2 vs1 ∧ tt1 σ3 H5 fun b H6 =>
    if b = true then te σ3 H6 fun y H7 => ∃ acc, H7 D = some (.lst acc) ∧ acc.length < sizeLine ∧ Nx1 (upd H7 D (.lst (acc ++ [y]))) else Nx1 H6)
theorem lc2_it (w : Walk J n G Y) {g g1 : TG} {tt tt1 : TT} {wi1 : TI} {te : TE} {vs vs1 : List Nat} {σ : L2.St} {H1 : Hp} {D : Addr} {Qd : Hp → Prop} (Pv : Nat → Hp → Prop) (h0 : Pv 0 (upd H1 D (.lst []))) (hG : ∀ i H, i ≤ n → Pv i H → G H)
    (hs : ∀ i x H H', i < n → Pv i H → Y i H x H' → g x (wipe σ vs) H' fun σ2 H2 => wipe σ2 vs = wipe σ vs ∧ tt σ2 H2 fun b H3 =>
      if b = true then wi1 σ2 H3 fun J1 H4 => In1 D g1 tt1 te vs1 σ2 (Pv (i + 1)) J1 H4 else Pv (i + 1) H3) (hd : ∀ H, Pv n H → Qd H) :
    ∃ W : Nat → Nat → Hp → Prop, (∃ m, W 0 m (upd H1 D (.lst []))) ∧ ∀ i m H, W i m H →
      (J.stop i H ∧ Qd H) ∨ (J.go i H ∧ ∃ Nx : Hp → Prop, (∀ H', Nx H' → ∃ m', m' < m ∧ W (i + 1) m' H') ∧ ∀ x H', J.yld i H x H' → g x (wipe σ vs) H' fun σ2 H2 => wipe σ2 vs = wipe σ vs ∧ tt σ2 H2 fun b H3 =>
        if b = true then wi1 σ2 H3 fun J1 H4 => In1 D g1 tt1 te vs1 σ2 Nx J1 H4 else Nx H3) := by
  refine ⟨fun i m H => m = n - i ∧ i ≤ n ∧ Pv i H, ⟨n, by simp, Nat.zero_le _, h0⟩, ?_⟩
  rintro i m H ⟨rfl, hi, p⟩
  by_cases hlt : i < n
  · exact .inr ⟨w.goes i H hlt (hG i H hi p), Pv (i + 1), fun H' p' => ⟨n - (i + 1), by omega, rfl, hlt, p'⟩, fun x H' y => hs i x H H' hlt p (w.yields i H x H' hlt (hG i H hi p) y)⟩
  · have e : i = n := by omega
    subst e
    exact .inl ⟨w.stops H (hG _ H hi p), hd H p⟩
theorem in1_it (w : Walk J1 n G Y) {g1 : TG} {tt1 : TT} {te : TE} {vs1 : List Nat} {σ2 : L2.St} {H4 : Hp} {D : Addr} {Nx : Hp → Prop} (Pw : Nat → Hp → Prop) (h0 : Pw 0 H4) (hG : ∀ i H, i ≤ n → Pw i H → G H)
    (hs : ∀ i x H H', i < n → Pw i H → Y i H x H' → g1 x (wipe σ2 vs1) H' fun σ3 H5 => wipe σ3 vs1 = wipe σ2 vs1 ∧ tt1 σ3 H5 fun b H6 =>
      if b = true then te σ3 H6 fun y H7 => ∃ acc, H7 D = some (.lst acc) ∧ acc.length < sizeLine ∧ Pw (i + 1) (upd H7 D (.lst (acc ++ [y]))) else Pw (i + 1) H6) (hd : ∀ H, Pw n H → Nx H) :
    In1 D g1 tt1 te vs1 σ2 Nx J1 H4 := by
  refine ⟨fun i m H => m = n - i ∧ i ≤ n ∧ Pw i H, ⟨n, by simp, Nat.zero_le _, h0⟩, ?_⟩
  rintro i m H ⟨rfl, hi, p⟩
  by_cases hlt : i < n
  · exact .inr ⟨w.goes i H hlt (hG i H hi p), Pw (i + 1), fun H' p' => ⟨n - (i + 1), by omega, rfl, hlt, p'⟩, fun x H' y => hs i x H H' hlt p (w.yields i H x H' hlt (hG i H hi p) y)⟩
  · have e : i = n := by omega
    subst e
    exact .inl ⟨w.stops H (hG _ H hi p), hd H p⟩
end

theorem yes_if {σ : L2.St} {H : Hp} {A B : Hp → Prop} (h : A H) : tYes σ H fun b H3 => if b = true then A H3 else B H3 := by
  show if true = true then A H else B H
  rw [if_pos rfl]
  exact h
theorem if_yes {A B : Hp → Prop} {H : Hp} (h : A H) : (fun (b : Bool) H3 => if b = true then A H3 else B H3) true H := by
  show if true = true then A H else B H
  rw [if_pos rfl]
  exact h
theorem if_no {A B : Hp → Prop} {H : Hp} (h : B H) : (fun (b : Bool) H3 => if b = true then A H3 else B H3) false H := by
  show if false = true then A H else B H
  rw [if_neg Bool.false_ne_true]
  exact h
theorem tyl {K : PySem.W.Frag} {H : Hp} {p : Addr} {xs : List V} (h : H p = some (.lst xs)) : tyV K "list" (.ref p) H := .inl ⟨rfl, xs, .inl (.inl h)⟩
theorem erase_map {α β} (f : α → β) (l : List α) (i : Nat) : (l.map f).eraseIdx i = (l.eraseIdx i).map f := by
  simp [List.eraseIdx_eq_take_drop_succ, List.map_take, List.map_drop]
theorem erase_perm {α} : ∀ (l : List α) (i : Nat) (h : i < l.length), (l[i] :: l.eraseIdx i).Perm l
  | x :: r, 0, _ => .refl _
  | x :: r, i + 1, h => (List.Perm.swap x _ _).trans ((erase_perm r i (Nat.lt_of_succ_lt_succ h)).cons x)
theorem cut_lo (xs : List V) (k : Nat) : cutV xs (some (k : Int)) none = xs.drop k := by
  unfold cutV
  rw [HT.sIx_none, HT.sIx_nat]
  by_cases h : k ≤ xs.length
  · rw [Nat.min_eq_left h]
    exact List.take_of_length_le (by rw [List.length_drop]; exact Nat.le_refl _)
  · rw [Nat.min_eq_right (by omega), Nat.sub_self, List.take_zero, List.drop_of_length_le (by omega)]
theorem cut_hi (xs : List V) (k : Nat) : cutV xs none (some (k : Int)) = xs.take k := by
  unfold cutV
  rw [HT.sIx_none, HT.sIx_nat, List.drop_zero, Nat.sub_zero]
  by_cases h : k ≤ xs.length
  · rw [Nat.min_eq_left h]
  · rw [Nat.min_eq_right (by omega), List.take_length, List.take_of_length_le (by omega)]
theorem swap_perm {α : Type} (xs : List α) (a : Nat) (h : a + 1 < xs.length) : (xs.take a ++ [xs[a + 1], xs[a]] ++ xs.drop (a + 2)).Perm xs := by
  have e : xs = xs.take a ++ [xs[a], xs[a + 1]] ++ xs.drop (a + 2) := by
    have h1 : xs.drop a = xs[a] :: xs[a + 1] :: xs.drop (a + 2) := by rw [List.drop_eq_getElem_cons (by omega), List.drop_eq_getElem_cons h]
    conv => lhs; rw [← List.take_append_drop a xs, h1]
    simp
  conv => rhs; rw [e]
  exact List.Perm.append_right _ (List.Perm.append_left _ (List.Perm.swap _ _ _))
theorem turn_perm {α : Type} (xs : List α) (a : Nat) : (xs.drop a ++ xs.take a).Perm xs := List.perm_append_comm.trans (by rw [List.take_append_drop])
theorem cut_from (xs : List V) (k : Nat) : cutV xs (some ((k : Int) + 1)) none = xs.drop (k + 1) := by
  unfold cutV
  have e : ((k : Int) + 1) = ((k + 1 : Nat) : Int) := by omega
  rw [e, HT.sIx_none, HT.sIx_nat]
  by_cases h : k + 1 ≤ xs.length
  · rw [Nat.min_eq_left h]
    exact List.take_of_length_le (by rw [List.length_drop]; exact Nat.le_refl _)
  · rw [Nat.min_eq_right (by omega), Nat.sub_self, List.take_zero, List.drop_of_length_le (by omega)]
/-- a cut: what holds behind the statement, and from there the rest -/
def tCut (I : L2.St → Hp → Prop) (t u : TS) : TS := fun D σ H => t { D with nx := I } σ H ∧ ∀ σ' H', I σ' H' → u D σ' H'
theorem pss_cut {X : Cx} {st : Stmt} {rest : List Stmt} {t u : TS} (I : L2.St → Hp → Prop) (h1 : PS X st t) (h2 : PSs X rest u) : PSs X (st :: rest) (tCut I t u) := by
  refine ⟨fun pins s σ H D J h => ?_⟩
  refine wpAny_execs_cons (thn (h1.run pins s σ H { D with nx := I } J h.1) fun f s1 q => ?_)
  cases f with
  | next =>
    obtain ⟨σ', H', I', q⟩ := q
    exact h2.run pins s1 σ' H' D I' (h.2 σ' H' q)
  | ret v => exact q
  | brk => exact q
  | cont => exact q
theorem valV_none {κ : Type} [DecidableEq κ] {k : κ} : ∀ {kvs : List (κ × V)}, k ∉ kvs.map Prod.fst → valV kvs k = none
  | [], _ => rfl
  | p :: r, h => by
    rw [valV_neg fun e => h (by rw [← e]; exact List.mem_cons_self)]
    exact valV_none fun z => h (List.mem_cons_of_mem _ z)
theorem valV_some {κ : Type} [DecidableEq κ] {k : κ} {v : V} : ∀ {kvs : List (κ × V)} {j : Nat}, (kvs.map Prod.fst).Nodup → kvs[j]? = some (k, v) → valV kvs k = some v
  | p :: r, 0, _, e => by
    cases e
    exact valV_pos rfl
  | p :: r, j + 1, nd, e => by
    obtain ⟨h1, h2⟩ := List.nodup_cons.mp nd
    have hk : k ∈ r.map Prod.fst := List.mem_map.mpr ⟨(k, v), List.mem_of_getElem? (i := j) e, rfl⟩
    rw [valV_neg fun q => h1 (by rw [q]; exact hk)]
    exact valV_some (j := j) h2 e
/-! ### data that no list is in -/
mutual
inductive DpT (K : PySem.W.Frag) (H : Hp) : V → PyData → Prop
  | non : DpT K H .non .none
  | bl (b : Bool) : DpT K H (.bl b) (.bool b)
  | int (i : Int) : DpT K H (.int i) (.int i)
  | str (z : Str) : DpT K H (.str z) (.str z)
  | tup {a : Addr} {xs : List V} {ds : List PyData} : H a = some (.tup xs) → DpTs K H xs ds → DpT K H (.ref a) (.tuple ds)
inductive DpTs (K : PySem.W.Frag) (H : Hp) : List V → List PyData → Prop
  | nil : DpTs K H [] []
  | cons {x : V} {d : PyData} {xs : List V} {ds : List PyData} : DpT K H x d → DpTs K H xs ds → DpTs K H (x :: xs) (d :: ds)
end
mutual
theorem DpT.dp {K : PySem.W.Frag} {H : Hp} : ∀ {x : V} {d : PyData}, DpT K H x d → Dp K H x d
  | _, _, .non => .non
  | _, _, .bl b => .bl b
  | _, _, .int i => .int i
  | _, _, .str z => .str z
  | _, _, .tup h t => .tup (.inl (.inl h)) (DpTs.dp t)
theorem DpTs.dp {K : PySem.W.Frag} {H : Hp} : ∀ {x : List V} {d : List PyData}, DpTs K H x d → DpAll K H x d
  | _, _, .nil => .nil
  | _, _, .cons h t => .cons (DpT.dp h) (DpTs.dp t)
end
/-- where only lists (or nothing) stood, they stay -/
def Lists (ex : List Addr) (H : Hp) : Prop := ∀ b ∈ ex, ∀ xs, H b ≠ some (.tup xs)
theorem lists_none (H : Hp) : Lists [] H := fun b h => by cases h
theorem lists_one {H : Hp} {a : Addr} {xs : List V} (h : H a = some (.lst xs)) : Lists [a] H := fun b hb ys e => by
  rw [List.mem_singleton.mp hb, h] at e
  cases e
mutual
theorem DpT.grow {K : PySem.W.Frag} {ex : List Addr} {H H' : Hp} (a : Grow ex H H') (l : Lists ex H) : ∀ {x : V} {d : PyData}, DpT K H x d → DpT K H' x d
  | _, _, .non => .non
  | _, _, .bl b => .bl b
  | _, _, .int i => .int i
  | _, _, .str z => .str z
  | _, _, .tup (a := p) (xs := xs) h t => .tup (a.keep p _ (fun z => l p z xs h) h fun ps z => by cases z) (DpTs.grow a l t)
theorem DpTs.grow {K : PySem.W.Frag} {ex : List Addr} {H H' : Hp} (a : Grow ex H H') (l : Lists ex H) : ∀ {x : List V} {d : List PyData}, DpTs K H x d → DpTs K H' x d
  | _, _, .nil => .nil
  | _, _, .cons h t => .cons (DpT.grow a l h) (DpTs.grow a l t)
end
theorem dpT_str {K : PySem.W.Frag} {H : Hp} (z : Str) : DpT K H (.str z) (.str z) := .str z
theorem dpT_int {K : PySem.W.Frag} {H : Hp} (z : Int) : DpT K H (.int z) (.int z) := .int z
theorem dpT_strs {K : PySem.W.Frag} {H : Hp} : ∀ xs : List Str, DpTs K H (xs.map V.str) (xs.map PyData.str)
  | [] => .nil
  | x :: r => .cons (dpT_str x) (dpT_strs r)
theorem DpTs.snoc {K : PySem.W.Frag} {H : Hp} : ∀ {xs : List V} {ds : List PyData} {x : V} {d : PyData}, DpTs K H xs ds → DpT K H x d → DpTs K H (xs ++ [x]) (ds ++ [d])
  | _, _, _, _, .nil, q => .cons q .nil
  | _, _, _, _, .cons h t, q => .cons h (t.snoc q)
theorem DpTs.app {K : PySem.W.Frag} {H : Hp} : ∀ {xs ys : List V} {ds es : List PyData}, DpTs K H xs ds → DpTs K H ys es → DpTs K H (xs ++ ys) (ds ++ es)
  | _, _, _, _, .nil, q => q
  | _, _, _, _, .cons h t, q => .cons h (t.app q)
theorem DpTs.get {K : PySem.W.Frag} {H : Hp} : ∀ {xs : List V} {ds : List PyData} {i : Nat} {x : V}, DpTs K H xs ds → xs[i]? = some x → ∃ d, ds[i]? = some d ∧ DpT K H x d
  | _, _, 0, _, .cons h _, e => ⟨_, rfl, by cases e; exact h⟩
  | _, _, _ + 1, _, .cons _ t, e => t.get e
theorem DpTs.zip {K : PySem.W.Frag} {H : Hp} : ∀ {xs : List V} {ds : List PyData}, DpTs K H xs ds → ∀ b ∈ xs.zip ds, DpT K H b.1 b.2
  | _, _, .nil, b, hb => by cases hb
  | _, _, .cons h t, b, hb => by
    rcases List.mem_cons.mp hb with rfl | hb
    · exact h
    · exact t.zip b hb
theorem dpTs_of {K : PySem.W.Frag} {H : Hp} : ∀ {bs : List (V × PyData)}, (∀ b ∈ bs, DpT K H b.1 b.2) → DpTs K H (bs.map Prod.fst) (bs.map Prod.snd)
  | [], _ => .nil
  | b :: r, h => .cons (h b List.mem_cons_self) (dpTs_of fun c hc => h c (List.mem_cons_of_mem _ hc))
theorem DpTs.length {K : PySem.W.Frag} {H : Hp} : ∀ {xs : List V} {ds : List PyData}, DpTs K H xs ds → xs.length = ds.length
  | _, _, .nil => rfl
  | _, _, .cons _ t => congrArg (· + 1) t.length
/-- a list of such data -/
def LstT (K : PySem.W.Frag) (H : Hp) (D : Addr) (ds : List PyData) : Prop := ∃ xs, H D = some (.lst xs) ∧ DpTs K H xs ds
theorem LstT.dp {K : PySem.W.Frag} {H : Hp} {D : Addr} {ds : List PyData} (h : LstT K H D ds) : Dp K H (.ref D) (.list ds) := by
  obtain ⟨xs, h1, h2⟩ := h
  exact .lst (.inl (.inl h1)) h2.dp
theorem LstT.grow {K : PySem.W.Frag} {ex : List Addr} {H H' : Hp} {D : Addr} {ds : List PyData} (h : LstT K H D ds) (a : Grow ex H H') (l : Lists ex H) (n : D ∉ ex) : LstT K H' D ds := by
  obtain ⟨xs, h1, h2⟩ := h
  exact ⟨xs, a.lst n h1, h2.grow a l⟩
/-- one more at the end -/
theorem LstT.push {K : PySem.W.Frag} {H H' : Hp} {D : Addr} {ds : List PyData} {x : V} {d : PyData} (h : LstT K H D ds) (g : Grow [] H H') (q : DpT K H' x d) :
    ∃ acc, H' D = some (.lst acc) ∧ acc.length = ds.length ∧ LstT K (upd H' D (.lst (acc ++ [x]))) D (ds ++ [d]) := by
  obtain ⟨xs, h1, h2⟩ := h
  have e := g.lst (p := D) (by simp) h1
  have gr : Grow [D] H' (upd H' D (.lst (xs ++ [x]))) := grow_at e (fun ps z => by cases z) (by simp)
  exact ⟨xs, e, h2.length, _, upd_same, ((h2.grow g (lists_none H)).snoc q).grow gr (lists_one e)⟩
/-- the items of another such list behind them -/
theorem LstT.ext {K : PySem.W.Frag} {H : Hp} {D F : Addr} {ds es : List PyData} (h : LstT K H D ds) (k : LstT K H F es) :
    ∃ xs zs, H D = some (.lst xs) ∧ H F = some (.lst zs) ∧ xs.length = ds.length ∧ zs.length = es.length ∧ LstT K (upd H D (.lst (xs ++ zs))) D (ds ++ es) := by
  obtain ⟨xs, h1, h2⟩ := h
  obtain ⟨zs, k1, k2⟩ := k
  have gr : Grow [D] H (upd H D (.lst (xs ++ zs))) := grow_at h1 (fun ps z => by cases z) (by simp)
  exact ⟨xs, zs, h1, k1, h2.length, k2.length, _, upd_same, (h2.app k2).grow gr (lists_one h1)⟩
/-- list.index of a text that is in -/
theorem index_str {K : PySem.W.Frag} {H : Hp} {m : Addr} {ws : List Str} {b : Str} {Q : VK} (h : SqL K H m (ws.map V.str)) (hb : b ∈ ws) (q : Q (.int (ws.idxOf b : Nat)) H) : rIndex K (.ref m) [.str b] H Q := by
  have h1 := List.idxOf_lt_length_of_mem hb
  refine ⟨m, ws.map V.str, .str b, ws.idxOf b, .str b, rfl, rfl, h, rfl, ?_, ?_, by simp [eqV], fun j z' hj hz => ?_, q⟩
  · rw [List.all_map, List.all_eq_true]
    exact fun x _ => rfl
  · rw [List.getElem?_map, List.getElem?_eq_getElem h1, List.getElem_idxOf h1]
    rfl
  · rw [List.getElem?_map] at hz
    cases hw : ws[j]? with
    | none => rw [hw] at hz; cases hz
    | some z =>
      rw [hw] at hz
      cases hz
      have : z ≠ b := fun e => by
        subst e
        have h2 := List.not_of_lt_findIdx (p := (· == z)) (xs := ws) hj
        obtain ⟨h3, h4⟩ := List.getElem?_eq_some_iff.mp hw
        rw [h4] at h2
        simp at h2
      simp [eqV, this]
end Gx

/-! Sorted rows of data: what is a rearrangement of another sorts alike. -/
namespace Gx
open PySem PySem.Spec PyProof.Rows L2 GxR
open PySem.W in
theorem sort_same {β : Type} {enc : β → PyData} {xs ys : List β} (p : xs.Perm ys) (inj : ∀ a b, keyToks (enc a) = keyToks (enc b) → a = b) : xs.mergeSort (dataLe false enc) = ys.mergeSort (dataLe false enc) := by
  have tot := sortLe_total (listOrd itemOrd) false fun b => keyToks (enc b)
  refine List.Perm.eq_of_pairwise (le := fun a b => dataLe false enc a b = true) (fun a b _ _ h h' => ?_) (sort_pairwise tot xs) (sort_pairwise tot ys) ((List.mergeSort_perm xs _).trans (p.trans (List.mergeSort_perm ys _).symm))
  have h1 : (listOrd itemOrd).blt (keyToks (enc b)) (keyToks (enc a)) = false := by simpa [dataLe, sortLe] using h
  have h2 : (listOrd itemOrd).blt (keyToks (enc a)) (keyToks (enc b)) = false := by simpa [dataLe, sortLe] using h'
  exact inj a b ((listOrd itemOrd).total _ _ h2 h1)
theorem str_cps {x y : Str} (h : x.cps.toList = y.cps.toList) : x = y := by
  cases x; cases y
  congr 1
  exact Array.ext' h
theorem toks_str {a b : Str} (h : PySem.W.keyToks (.str a) = PySem.W.keyToks (.str b)) : a = b := by
  simp only [PySem.W.keyToks] at h
  exact str_cps (by simpa using h)
/-- a pair of texts -/
def encP (p : Str × Str) : PyData := .tuple [.str p.1, .str p.2]
theorem toks_pair {a b : Str × Str} (h : PySem.W.keyToks (encP a) = PySem.W.keyToks (encP b)) : a = b := by
  unfold encP at h
  simp only [PySem.W.keyToks, PySem.W.keyToksAll] at h
  simp at h
  exact Prod.ext (by have := h.1; exact str_cps (by simpa using this)) (by have := h.2; exact str_cps (by simpa using this))
theorem alike_strs (zs : List Str) : PySem.W.AllAlike (zs.map PyData.str) := PySem.W.AllAlike.of fun b b' => by simp [PySem.W.alike]
theorem sortable_strs (zs : List Str) : PySem.W.Sortable (zs.map PyData.str) := PySem.W.Sortable.others (enc := PyData.str) fun b => ⟨(nomatch ·), fun xs => (nomatch ·)⟩
theorem alike_pairs (ps : List (Str × Str)) : PySem.W.AllAlike (ps.map encP) := PySem.W.AllAlike.of fun b b' => by simp [encP, PySem.W.alike, PySem.W.alikeAll]
theorem sortable_pairs (ps : List (Str × Str)) : PySem.W.Sortable (ps.map encP) := PySem.W.Sortable.tuples fun b => ⟨_, _, rfl⟩

/-- of a pair of texts -/
theorem pair_inv {K : PySem.W.Frag} {H : Hp} {x : V} {p : Str × Str} (h : DpT K H x (encP p)) : ∃ r, x = .ref r ∧ H r = some (.tup [.str p.1, .str p.2]) := by
  unfold encP at h
  cases h with
  | tup e t =>
    cases t with
    | cons a t =>
      cases t with
      | cons b t =>
        cases t
        cases a
        cases b
        exact ⟨_, rfl, e⟩
/-- sorted of a list of pairs of texts -/
theorem sort_pairs {K : PySem.W.Frag} {H : Hp} {D : Addr} {ps : List (Str × Str)} {Q : VK} (h : LstT K H D (ps.map encP)) (hl : ps.length ≤ 1000000)
    (q : ∀ p o, H p = none → LstT K (upd H p o) p ((ps.mergeSort (PySem.W.dataLe false encP)).map encP) → Q (.ref p) (upd H p o)) : rSortG K Prod.fst Prod.snd [.ref D] H Q := by
  obtain ⟨xs, e, t⟩ := h
  have hlen := t.length
  have m1 : (xs.zip (ps.map encP)).map Prod.fst = xs := List.map_fst_zip (Nat.le_of_eq hlen)
  have m2 : (xs.zip (ps.map encP)).map Prod.snd = ps.map encP := List.map_snd_zip (Nat.le_of_eq hlen.symm)
  refine ⟨D, xs.zip (ps.map encP), rfl, .inl (.inl (by rw [m1]; exact e)), fun b hb => ⟨(t.zip b hb).dp, ?_⟩, by rw [m2]; exact alike_pairs ps, by rw [m2]; exact sortable_pairs ps, ?_, fun p np => q p _ np ⟨_, upd_same, ?_⟩⟩
  · have := List.mem_map_of_mem (f := Prod.snd) hb
    rw [m2] at this
    obtain ⟨y, _, hy⟩ := List.mem_map.mp this
    rw [← hy]
    simp [encP, PyData.depth, PyData.depthAll]
  · rw [List.length_zip, hlen, Nat.min_self, List.length_map]
    unfold sizeLine
    omega
  · have k : ((xs.zip (ps.map encP)).mergeSort (PySem.W.dataLe false Prod.snd)).map Prod.snd = (ps.mergeSort (PySem.W.dataLe false encP)).map encP := by
      rw [List.map_mergeSort (f := Prod.snd) (r := PySem.W.dataLe false Prod.snd) (s := PySem.W.dataLe false id) fun a _ b _ => rfl, m2,
        ← List.map_mergeSort (f := encP) (r := PySem.W.dataLe false encP) (s := PySem.W.dataLe false id) fun a _ b _ => rfl]
    rw [← k]
    exact (dpTs_of fun b hb => t.zip b ((List.mergeSort_perm _ _).mem_iff.mp hb)).grow (grow_new (ex := []) np) (lists_none _)
/-- data that can be shown, compared, sorted: no deeper than n, no more than m -/
structure Fine (d : PyData) (n m : Nat) : Prop where
  lay : d.canLay0 = true
  show_ : d.showable = true
  nod : d.hasDict = false
  leaves : d.leavesShort 8 = true
  deep : d.depth ≤ n
  bulk : d.bulk ≤ m
structure Fines (ds : List PyData) (n m : Nat) : Prop where
  lay : PyData.canLayAll0 ds = true
  show_ : PyData.showableAll ds = true
  nod : PyData.hasDictAll ds = false
  leaves : PyData.leavesShortAll 8 ds = true
  deep : PyData.depthAll ds ≤ n
  bulk : PyData.bulkAll ds ≤ ds.length * (m + 1)
theorem fines {n m : Nat} : ∀ {ds : List PyData}, (∀ d ∈ ds, Fine d n m) → Fines ds n m
  | [], _ => ⟨rfl, rfl, rfl, rfl, Nat.zero_le _, by simp [PyData.bulkAll]⟩
  | d :: r, h => by
    have h1 := h d List.mem_cons_self
    have h2 := fines (ds := r) fun d q => h d (List.mem_cons_of_mem _ q)
    refine ⟨?_, ?_, ?_, ?_, ?_, ?_⟩
    · rw [PyData.canLayAll0, h1.lay, h2.lay]; rfl
    · rw [PyData.showableAll, h1.show_, h2.show_]; rfl
    · rw [PyData.hasDictAll, h1.nod, h2.nod]; rfl
    · rw [PyData.leavesShortAll, h1.leaves, h2.leaves]; rfl
    · rw [PyData.depthAll]
      exact Nat.max_le.mpr ⟨h1.deep, h2.deep⟩
    · rw [PyData.bulkAll, List.length_cons, Nat.succ_mul]
      have := h1.bulk
      have := h2.bulk
      omega
theorem Fine.list {n m k : Nat} {ds : List PyData} (h : ∀ d ∈ ds, Fine d n m) (hk : ds.length * (m + 1) ≤ k) : Fine (.list ds) (n + 1) k := by
  have f := fines h
  exact ⟨by rw [PyData.canLay0]; exact f.lay, by rw [PyData.showable]; exact f.show_, by rw [PyData.hasDict]; exact f.nod, by rw [PyData.leavesShort]; exact f.leaves, by rw [PyData.depth]; exact Nat.succ_le_succ f.deep, by rw [PyData.bulk]; exact Nat.le_trans f.bulk hk⟩
theorem Fine.tuple {n m k : Nat} {ds : List PyData} (h : ∀ d ∈ ds, Fine d n m) (hk : ds.length * (m + 1) ≤ k) : Fine (.tuple ds) (n + 1) k := by
  have f := fines h
  exact ⟨by rw [PyData.canLay0]; exact f.lay, by rw [PyData.showable]; exact f.show_, by rw [PyData.hasDict]; exact f.nod, by rw [PyData.leavesShort]; exact f.leaves, by rw [PyData.depth]; exact Nat.succ_le_succ f.deep, by rw [PyData.bulk]; exact Nat.le_trans f.bulk hk⟩
theorem Fine.str {z : Str} {m : Nat} (h : ∀ c ∈ z.cps.toList, c < 0x110000) (l : z.length ≤ m) : Fine (.str z) 0 m := by
  refine ⟨?_, rfl, rfl, ?_, Nat.le_refl _, l⟩
  · show PyData.strOk z = true
    unfold PyData.strOk
    rw [← Array.all_toList, List.all_eq_true]
    exact fun c hc => decide_eq_true (h c hc)
  · show (z.cps.toList.all fun c => decide (c < 16 ^ 8)) = true
    rw [List.all_eq_true]
    exact fun c hc => decide_eq_true (Nat.lt_of_lt_of_le (h c hc) (by decide))
theorem Fine.shaped {d : PyData} {n m : Nat} (f : Fine d n m) (hn : n ≤ 60) : SeqAt.shaped d = true := by
  unfold SeqAt.shaped
  rw [f.lay, decide_eq_true (by have := f.deep; omega)]
  rfl
theorem Fine.shown {d : PyData} {n m : Nat} (f : Fine d n m) (h : 10 * m + 8 ≤ sizeLine) : d.shown.length ≤ sizeLine := by
  have := PyData.shown_le_bulk 8 (by decide) d f.leaves
  have := f.bulk
  omega
theorem Fine.eqv {d : PyData} {n m : Nat} (f : Fine d n m) : PyData.eqv d d = true := PySem.SeqAt.eqv_refl d f.lay
end Gx

/-! The end of a law over a head whose facts are told by names. -/
namespace Gx
open PySem PySem.Spec PyProof.Rows L2 GxR GenW
/-- a def without defaults, from the head's word of it -/
theorem DefIs.of {K : PySem.W.Frag} {x qual : Str} {st : Stmt} {fd : FuncData} {p : He.Defn} (F : FunD K x qual (defArgs st) (defBody st) (defScope st) [] [] (He.fAd K p) fd) : DefIs K x qual st (He.fAd K p) fd (.ref (He.cT K p).1) := by
  obtain ⟨oc, od, dV, kV, doc, pm, an, cdv, ct, osl, rfl, lk, hcd, hd, _⟩ := F.ex
  obtain ⟨c, rfl⟩ := He.codeIn_ref hcd
  rcases hd with ⟨_, rfl⟩ | ⟨h, _⟩
  · have e : He.codeOf K p = c := He.codeOf_eq lk rfl
    show DefIs K x qual st (He.fAd K p) _ (.ref (He.codeOf K p))
    rw [e]
    exact ⟨⟨oc, od, kV, doc, pm, an, ct, osl, rfl, lk⟩, hcd, F.kp⟩
  · exact absurd rfl h
section
theorem walk_GE {l : PySem.W.OpenLaw} {n k : Nat} {q : Program} {loose : List Str} {XP : (Str → Option Value) → Heap → Prop} {YP : World → Heap → Prop} {d : DefRec} {x : Str}
    (hn : l.most = some n) (hn2 : n ≤ sizeLine) (hdf : d.params.defaults = []) (hr : Room k callerA)
    (F : ∀ (w : World) (mg : Str → Option Value) (fa : Addr) (h : Heap), YP w h → h.Ns mainGlobals mg → mg d.name = some (.ref fa) → ∃ K : PySem.W.Frag, K.In h ∧ LawG l w K k n x mg fa h) :
    PySem.W.WalkO q loose XP YP l.row.toRowW d [] (fun f vs => PySem.call f vs) := by
  refine Att.attach_callB hn hdf fun w s₀ s₁ mg mb fa o pm cd doc a vs ns G Y ho hd hcd hmg hobj hints hlen hbits hg => ?_
  obtain ⟨K, KX, fd, cs, sp, hT, hb, hsp, hF⟩ := F w mg fa _ Y G.T.g hmg
  have aT : a ∉ cs.map Prod.snd := fun z => by
    obtain ⟨p, hp, e⟩ := List.mem_map.mp z
    have q := (hT p hp).1
    rw [e, hobj] at q
    have z' : Data.seq vs.toArray _ = Data.fields #[] := congrArg Obj.data (Option.some.inj q)
    cases z'
  have rv := vals_ints hints
  cases hk : K.lookup a with
  | some o2 =>
    have e := KX a o2 hk
    rw [hobj] at e
    cases e
    have sl : SqL K (fun b => if b ∈ cs.map Prod.snd then some (.tbl #[]) else none) a (ns.map V.int) :=
      .inr ⟨_, vs.toArray, _, hk, rfl, rfl, rfl, by rw [List.size_toArray, hints.length]; exact Nat.le_trans hlen hn2, by simpa using rv⟩
    have hT' : ∀ p ∈ cs, (fun b => if b ∈ cs.map Prod.snd then some (HO.tbl #[]) else none) p.2 = some (.tbl #[]) := fun p hp => if_pos (List.mem_map.mpr ⟨p, hp, rfl⟩)
    refine law_from _ hT' (fun b u z => ?_) KX G.T.g G.T.b G.T.builtins G.T.nolimit hg hT G.T.bmain hobj rv (Nat.le_trans hlen hn2) sl hr hF hb (hsp _ a ns hlen hbits hT' sl)
    by_cases hm : b ∈ cs.map Prod.snd
    · exact .inl ⟨hm, Option.some.inj (z.symm.trans (if_pos hm))⟩
    · have z' := z.symm.trans (if_neg hm)
      cases z'
  | none =>
    have sl : SqL K (fun b => if b = a then some (.frz (scriptObj vs) (.lst (ns.map V.int))) else if b ∈ cs.map Prod.snd then some (.tbl #[]) else none) a (ns.map V.int) := .inl (.inr ⟨scriptObj vs, if_pos rfl⟩)
    have hT' : ∀ p ∈ cs, (fun b => if b = a then some (HO.frz (scriptObj vs) (.lst (ns.map V.int))) else if b ∈ cs.map Prod.snd then some (.tbl #[]) else none) p.2 = some (.tbl #[]) := fun p hp =>
      (if_neg (show ¬ p.2 = a from fun z => aT (by rw [← z]; exact List.mem_map.mpr ⟨p, hp, rfl⟩))).trans (if_pos (List.mem_map.mpr ⟨p, hp, rfl⟩))
    refine law_from _ hT' (fun b u z => ?_) KX G.T.g G.T.b G.T.builtins G.T.nolimit hg hT G.T.bmain hobj rv (Nat.le_trans hlen hn2) sl hr hF hb (hsp _ a ns hlen hbits hT' sl)
    by_cases hm : b = a
    · exact .inr ⟨hm, hk, Option.some.inj (z.symm.trans (if_pos hm))⟩
    · have z1 := z.symm.trans (if_neg hm)
      by_cases hm2 : b ∈ cs.map Prod.snd
      · exact .inl ⟨hm2, Option.some.inj (z1.trans (if_pos hm2))⟩
      · have z' := z1.trans (if_neg hm2)
        cases z'
end
end Gx

/-! max( ) of whole numbers with a default. -/
namespace Gx
open PySem PySem.Spec PyProof.Rows L2
def MaxA (a d : Value) : Args := ⟨[a], [(Str.ofString "default", d)]⟩
theorem maxA_ok (a d : Value) : argsOk "max" (MaxA a d) := by
  unfold argsOk MaxA
  kernel_rfl
section
variable {prog : Program} {w : World} {A : Around} {R : Result → Shared → Prop} {I : Addr} {fp wr : List Addr} {n : Nat} {P : Nat → Value → Prop} {St : Nat → Heap → Prop}
/-- what the loop holds: nothing yet, or the best so far -/
def MaxHeld (P : Nat → Value → Prop) (bt : Nat → Nat → Bool) (j : Nat) (vs : Array Value) : Prop := (j = 0 ∧ vs = #[]) ∨ ∃ v, vs = #[v, v] ∧ 0 < j ∧ P (argBest bt (j - 1)) v
def MaxOut (P : Nat → Value → Prop) (bt : Nat → Nat → Bool) (n : Nat) (d v : Value) : Prop := (n = 0 ∧ v = d) ∨ (0 < n ∧ P (argBest bt (n - 1)) v)
theorem max_rounds (W : Walks prog w A.in1 I fp wr n P St) (bt : Nat → Nat → Bool) (hcmp : CmpOf prog w A.in1 .Gt P bt) (S : Addr) (hS0 : S ∉ fp) (d : Value) :
    ∀ (k j : Nat) (s : Shared) (vs : Array Value) (c : Nat), n - j = k → j ≤ n → St j s.heap → MaxHeld P bt j vs → s.heap.get? S = some { cls := .type "list", dict := none, data := .seq vs c, slots := #[] } →
    (∀ v h2 tk, MaxOut P bt n d v → (∀ b o, b ∉ wr → b ≠ S → s.heap.get? b = some o → h2.get? b = some o) → R (.ok (.ret v)) { s with heap := h2, toks := tk }) →
    codeAny (model prog w) A (.builtin "max.loop" ⟨[.ref I, .none, .ref S], [(Str.ofString "default", d)]⟩) R s := by
  have sw : S ∉ wr := fun h => hS0 (W.sub _ h)
  have nm : (toString "max" ++ toString ".loop" : String) = "max.loop" := by decide
  intro k
  induction k with
  | zero =>
    intro j s vs c e hj st held hS fin
    have ej : j = n := by omega
    subst ej
    refine codeAny_builtin F.entry_max_loop (by
      rw [Around.under_plainId F.plain_max_loop _]
      show wpAny _ A.in1 (seqItems? (.ref S) >>= _) _ _ s
      refine wpAny_bind (wpAny_seqItems hS rfl ?_)
      show wpAny _ A.in1 (tryCatch (pyNext (.ref I)) _ >>= _) _ _ s
      refine wpAny_bind (wpAny_tryCatch (W.done s _ _ st fun h2 tk keep => ?_))
      have hS2 := keep S _ sw hS
      rcases held with ⟨e0, rfl⟩ | ⟨v, rfl, j0, hv⟩
      · show wpAny _ A.in1 (rule _ >>= _) _ _ _
        refine wpAny_bind (wpAny_rule ?_)
        refine wpAny_pure ?_
        exact fin d h2 tk (.inl ⟨e0, rfl⟩) fun b o hw _ q => keep b o hw q
      · show wpAny _ A.in1 (updateSeq S (fun _ => #[]) >>= _) _ _ _
        refine wpAny_bind (wpAny_updateSeq hS2 rfl (wpAny_bind (wpAny_letGo (wpAny_pure ?_))))
        exact fin v _ tk (.inr ⟨j0, hv⟩) fun b o hw hb q => (Heap.get?_update_other _ _ (Ne.symm hb)).trans (keep b o hw q))
  | succ k ih =>
    intro j s vs c e hj st held hS fin
    have hlt : j < n := by omega
    refine codeAny_builtin F.entry_max_loop (by
      rw [Around.under_plainId F.plain_max_loop _]
      show wpAny _ A.in1 (seqItems? (.ref S) >>= _) _ _ s
      refine wpAny_bind (wpAny_seqItems hS rfl ?_)
      show wpAny _ A.in1 (tryCatch (pyNext (.ref I)) _ >>= _) _ _ s
      refine wpAny_bind (wpAny_tryCatch (W.item j s _ _ hlt st fun v h2 tk hP st2 keep => ?_))
      have hS2 := keep S _ sw hS
      rcases held with ⟨rfl, rfl⟩ | ⟨b0, rfl, j0, hb0⟩
      · show wpAny _ A.in1 (updateSeq S (fun _ => #[v, v]) >>= _) _ _ _
        refine wpAny_bind (wpAny_updateSeq hS2 rfl ?_)
        rw [nm]
        refine wpAny_pure ⟨plainId_quiet F.plain_max_loop _, ih 1 _ #[v, v] _ (by omega) (by omega) (W.frame _ _ _ st2 fun b hb o q => (Heap.get?_update_other _ _ (fun h : S = b => hS0 (by rw [h]; exact hb))).trans q) (.inr ⟨v, rfl, Nat.one_pos, hP⟩) (Heap.get?_update_self _ hS2 rfl) fun v3 h3 tk3 out keep3 => ?_⟩
        exact fin v3 h3 tk3 out fun b o hw hb q => keep3 b o hw hb ((Heap.get?_update_other _ _ (Ne.symm hb)).trans (keep b o hw q))
      · show wpAny _ A.in1 (tryCatch (holding [v, v] (richCompare .Gt v b0 >>= _)) _ >>= _) _ _ _
        refine wpAny_bind (wpAny_tryCatch (wpAny_holding (wpAny_bind (hcmp j (argBest bt (j - 1)) v b0 _ _ _ hP hb0 ?_))))
        refine wpAny_bind (wpAny_holding (wpAny_truthy_bool (wpAny_bind (wpAny_letGo (wpAny_pure ?_)))))
        have ea : ∀ q, bt j (argBest bt (j - 1)) = q → argBest bt j = if q = true then j else argBest bt (j - 1) := fun q hq => by
          obtain ⟨i, rfl⟩ : ∃ i, j = i + 1 := ⟨j - 1, by omega⟩
          rw [argBest]
          rw [show i + 1 - 1 = i from rfl] at hq ⊢
          rw [hq]
        cases hb : bt j (argBest bt (j - 1)) with
        | true =>
          have eb := ea true hb
          rw [if_pos rfl] at eb ⊢
          refine wpAny_bind (wpAny_updateSeq hS2 rfl (wpAny_bind (wpAny_letGo ?_)))
          rw [nm]
          refine wpAny_pure ⟨plainId_quiet F.plain_max_loop _, ih (j + 1) _ #[v, v] _ (by omega) (by omega) (W.frame _ _ _ st2 fun b hb o q => (Heap.get?_update_other _ _ (fun h : S = b => hS0 (by rw [h]; exact hb))).trans q) (.inr ⟨v, rfl, Nat.succ_pos _, by rw [Nat.add_sub_cancel, eb]; exact hP⟩) (Heap.get?_update_self _ hS2 rfl) fun v3 h3 tk3 out keep3 => ?_⟩
          exact fin v3 h3 tk3 out fun b o hw hb q => keep3 b o hw hb ((Heap.get?_update_other _ _ (Ne.symm hb)).trans (keep b o hw q))
        | false =>
          have eb := ea false hb
          rw [if_neg Bool.false_ne_true] at eb ⊢
          refine wpAny_bind (wpAny_letGo ?_)
          rw [nm]
          refine wpAny_pure ⟨plainId_quiet F.plain_max_loop _, ih (j + 1) _ #[b0, b0] c (by omega) (by omega) st2 (.inr ⟨b0, rfl, Nat.succ_pos _, by rw [Nat.add_sub_cancel, eb]; exact hb0⟩) hS2 fun v3 h3 tk3 out keep3 => ?_⟩
          exact fin v3 h3 tk3 out fun b o hw hb q => keep3 b o hw hb (keep b o hw q))
end
end Gx
namespace Gx
open PySem PySem.Spec PyProof.Rows L2
section
variable {prog : Program} {w : World} {A : Around} {E : Value → Shared → Prop} {s : Shared}
theorem max_def_walk {x d : Value} {Q : Value → Shared → Prop}
    (h : wpAny (model prog w) A.in1 (pyIter x) (fun it s2 => ∃ I fp wr n P St bt, it = .ref I ∧ Walks prog w A.in1 I fp wr n P St ∧ St 0 s2.heap ∧ (∀ b ∈ fp, b < s2.heap.objs.size) ∧ CmpOf prog w A.in1 .Gt P bt ∧
      ∀ v h2 tk, MaxOut P bt n d v → (∀ b o, b ∉ wr → s2.heap.get? b = some o → h2.get? b = some o) → Q v { s2 with heap := h2, toks := tk }) E s) :
    wpAny (model prog w) A (call (.builtin "max") [x] [(Str.ofString "default", d)]) Q E s := by
  have nm : (toString "max" ++ toString ".loop" : String) = "max.loop" := by decide
  refine wpAny_call (codeAny_call_builtin F.plain_max F.entry_max ?_)
  simp only [checkBuiltinCall, F.kind_max]
  have body : wpAny (model prog w) A.in1 (Builtin.«max» (MaxA x d)) (fun fin s' => match fin with
      | .done f => (match (Except.ok f : Result) with | .ok (.ret v) => Q v s' | .ok _ => False | .error e => E e s')
      | .again c' => c'.quiet = true ∧ codeAny (model prog w) A c' (fun r s' => match r with | .ok (.ret v) => Q v s' | .ok _ => False | .error e => E e s') s') E s := by
    show wpAny _ A.in1 (Builtin.Builtins.bindParams "max" ["key", "default"] 0 ⟨[], [(Str.ofString "default", d)]⟩ >>= _) _ _ s
    refine wpAny_bind (wpAny_of_eq (show Builtin.Builtins.bindParams "max" ["key", "default"] 0 ⟨[], [(Str.ofString "default", d)]⟩ = pure [none, some d] from rfl) ?_)
    refine wpAny_bind (wpAny_pure ?_)
    refine wpAny_bind (wpAny_mono h (fun it s2 h2 => ?_) fun _ _ e => e)
    obtain ⟨I, fp, wr, n, P, St, bt, rfl, W, hst, hfp, hcmp, hQ⟩ := h2
    refine wpAny_bind (wpAny_newObj_type ?_)
    have sf : s2.heap.objs.size ∉ fp := fun hm => Nat.lt_irrefl _ (hfp _ hm)
    rw [nm]
    refine wpAny_pure ⟨plainId_quiet F.plain_max_loop _, max_rounds W bt hcmp s2.heap.objs.size sf d n 0 _ #[] _ rfl (Nat.zero_le _) (W.frame _ _ _ hst fun b _ o e => Heap.get?_push_of_some _ e) (.inl ⟨rfl, rfl⟩) (Heap.get?_push_size _ rfl) fun v h3 tk out keep => ?_⟩
    exact hQ v h3 tk out fun b o hbw e => keep b o hbw (Nat.ne_of_lt (Heap.lt_size e)) (Heap.get?_push_of_some _ e)
  cases hsig : Manifest.signature? "max" with
  | none => exact wpAny_pure body
  | some sig =>
    have ok := maxA_ok x d
    simp only [argsOk, hsig] at ok
    have h2 : Bind.checkArgs "max" sig (MaxA x d) = pure () := ok
    show wpAny _ A.in1 (Bind.checkArgs "max" sig (MaxA x d)) _ _ s
    rw [h2]
    exact wpAny_pure body
end
end Gx
namespace Gx
open PySem PySem.Spec PyProof.Rows L2
/-- what max(ns, default=d) is -/
def TopOf (d : Int) (ns : List Int) (m : Int) : Prop := (ns = [] ∧ m = d) ∨ (m ∈ ns ∧ ∀ y ∈ ns, y ≤ m)
section
variable {prog : Program} {w : World} {A : Around} {E : Value → Shared → Prop} {s : Shared}
theorem max_def_ints {l : Addr} {its : List Value} {ns : List Int} {d : Int} {dt : Tok} {Q : Value → Shared → Prop} (hh : A.handled = none) (hl : s.heap.IsList l its.toArray) (hi : IntsAre its ns)
    (h : ∀ h2 tk m t2, (∀ b o, s.heap.get? b = some o → h2.get? b = some o) → TopOf d ns m → Q (.int m t2) { s with heap := h2, toks := tk }) : wpAny (model prog w) A (call (.builtin "max") [.ref l] [(Str.ofString "default", .int d dt)]) Q E s := by
  obtain ⟨xs, e⟩ := hi.allInts.items
  have hn : numsOf (intItems xs).toList = ns := by rw [← e]; exact hi.numsOf
  rw [nums_intItems] at hn
  subst hn
  rw [e] at hl
  refine max_def_walk (iter_intList hl fun s2 e2 st hfp hlI => ?_)
  subst e2
  refine ⟨_, _, _, _, _, _, _, rfl, Walks.list (A := A.in1) hh _ l hlI (intItems xs), st, hfp, CmpOf.ints_gt (numAt xs) (fun _ _ => intItems_at), fun v h2 tk out keep => ?_⟩
  rcases out with ⟨e0, rfl⟩ | ⟨n0, hv⟩
  · refine h h2 tk d dt (old_kept keep) (.inl ⟨?_, rfl⟩)
    have : xs.toList = [] := List.eq_nil_of_length_eq_zero (by simpa [intItems] using e0)
    rw [this]
    rfl
  · obtain ⟨t, rfl⟩ := intItems_at hv
    obtain ⟨h1, h2'⟩ := argBest_gt (numAt xs) ((intItems xs).size - 1)
    have hs : (intItems xs).size = xs.size := by simp [intItems]
    rw [hs] at h1 h2' n0
    rw [hs]
    refine h h2 tk _ t (old_kept keep) (.inr ⟨?_, fun a ha => ?_⟩)
    · rw [numAt_eq]
      exact PySem.getD_mem (by rw [List.length_map, Array.length_toList]; omega)
    · obtain ⟨j, hj, rfl⟩ := mem_getD ha
      rw [List.length_map, Array.length_toList] at hj
      rw [← numAt_eq]
      exact h2' j (by omega)
end
section
variable {X : Cx}
def rMaxDef (K : PySem.W.Frag) : List V → List V → Hp → VK → Prop := fun vs zs H Q => ∃ (a : Addr) (ns : List Int) (d : Int), vs = [V.ref a] ∧ zs = [V.int d] ∧ SqL K H a (ns.map V.int) ∧ ∀ m, TopOf d ns m → Q (.int m) H
theorem cr_maxDef (hc : X.calm = true) : CallRK X (.builtin "max") [Str.ofString "default"] (rMaxDef X.K) := by
  intro pins s σ H xs zs us ws Q I r1 r2 h
  obtain ⟨a, ns, d, rfl, rfl, hs, q⟩ := h
  obtain ⟨its, rv, hl, _⟩ := I.list hs
  rw [Vals.ref1 r1]
  cases r2 with
  | cons r rr =>
    cases rr
    obtain ⟨t, rfl⟩ := r
    exact max_def_ints (I.ok.hd hc) hl.isList rv.ints fun h2 tk m t2 keep top => ⟨.int m, H, I.kept keep, ⟨_, rfl⟩, q m top⟩
end
end Gx

/-! max(d.values(), default=k) of whole numbers. -/
namespace Gx
open PySem PySem.Spec PyProof.Rows L2
theorem topOf_out {ns : List Int} {d : Int} {n : Nat} (hn : n = ns.length) {P : Nat → Value → Prop} (hP : ∀ i v, P i v → i < n ∧ ∃ t, v = .int (ns.getD i 0) t) {dv v : Value} {dt : Tok} (hd : dv = .int d dt)
    (out : MaxOut P (fun i j => decide (ns.getD i 0 > ns.getD j 0)) n dv v) : ∃ m t, v = .int m t ∧ TopOf d ns m := by
  rcases out with ⟨e0, rfl⟩ | ⟨n0, hv⟩
  · exact ⟨d, dt, hd, .inl ⟨List.eq_nil_of_length_eq_zero (by omega), rfl⟩⟩
  · obtain ⟨hi, t, rfl⟩ := hP _ _ hv
    obtain ⟨h1, h2⟩ := argBest_gt (fun i => ns.getD i 0) (n - 1)
    refine ⟨_, t, rfl, .inr ⟨PySem.getD_mem (by omega), fun a ha => ?_⟩⟩
    obtain ⟨j, hj, rfl⟩ := mem_getD ha
    exact h2 j (by omega)
section
variable {X : Cx}
def tMaxVals (td : TE) (k : Int) : TE := fun σ H Q => td σ H fun x H1 => ∃ (d : Addr) (kvs : List (Key × V)) (ns : List Int), x = .ref d ∧ H1 d = some (.dK kvs) ∧ kvs.map Prod.snd = ns.map V.int ∧ ∀ m, TopOf k ns m → Q (.int m) H1
theorem pe_maxVals {e : Expr} {td : TE} {p apos cpos kpos kp pos : Pos} {k : Int} {kk : Nat} (hc : X.calm = true) (hg : Gl X "max") (hm : X.mg "max" = none) (he : PE X e td)
    (hbase : attributeBase e "values" X.env (eval e X.env) = eval e X.env := by rfl) (hline : (apos.endLine == cpos.line) = true := by rfl) :
    PE X (.Call (.Name "max" p) [.Call (.Attribute e "values" apos) [] [] cpos] [⟨some "default", .Constant (.int k) kk kp, kpos⟩] pos) (tMaxVals td k) := by
  refine ⟨fun pins s σ H Q I h => ?_⟩
  refine wpAny_Call_Name_kw (ld_blt I hg hm (show bootBuiltins "max" = some (.builtin "max") by decide +kernel) ?_)
  refine PyProof.Rows.callWith_kw ?_
  refine Calls.spliced_cons ?_
  refine wpAny_Call_method (T := "dict") (id := "dict.values") hbase rfl hline F.plainAttrs_dict F.slot_dict_values F.type_dict_values (thn (he.run pins s σ H _ I h) fun u s1 h1 => ?_)
  obtain ⟨x, H1, I1, rx, d, kvs, ns, rfl, hd, hv, q⟩ := h1
  obtain rfl : u = Value.ref d := rx
  obtain ⟨hz, hs, vs, kv, o1, es, ep, ho, hx, hdt, r⟩ := I1.hok d _ hd
  have hD : s1.heap.DictAt (mixKind X.prog X.w) d vs ep := ⟨o1, es, ho, hx, hdt, r⟩
  have hl : kvs.length = vs.length := Paired.length kv
  have hln : kvs.length = ns.length := by have := congrArg List.length hv; rwa [List.length_map, List.length_map] at this
  refine ⟨hD.dictOf.typeIs, hD.dictOf.mapOf.noDict, ?_⟩
  refine method_meetsIn F.slot_dict_values F.entry_dict_values rfl (PySem.evalArgs_none ⟨rfl, hD.dictOf.typeIs, F.args_dict_values_1 _, _, meets_dict_values (mixKind X.prog X.w) d hs, ⟨vs, hD.dictOf⟩, ?_⟩)
  have I2 : L2.Inv X pins σ H1 { s1 with heap := s1.heap.push { cls := .type "dict_values", data := .fields #[.ref d] } } := I1.kept (t' := s1.toks) fun b ob z => Heap.get?_push_of_some _ z
  have nb : H1 s1.heap.objs.size = none := I1.hok.fresh (Nat.le_refl _)
  have I3 := I2.pinned (fp := [s1.heap.objs.size]) (fun b hb => by
    rw [List.mem_singleton.mp hb]
    exact I1.fpOk (Nat.le_refl _) nb) (fun b hb => by
    rw [List.mem_singleton.mp hb]
    exact ⟨_, Heap.get?_push_size _ rfl, fun v z => by cases z⟩)
  show wpAny _ _ (spliced []) _ _ _
  refine Calls.spliced_nil ?_
  refine thn ((pk_cons pe_int pk_nil).run pos _ _ σ H1 _ I3 (show tCons (tC (.int k)) tNil σ H1 (fun zs H2 => zs = [V.int k] ∧ H2 = H1) from ⟨rfl, rfl⟩)) fun ws s4 h4 => ?_
  obtain ⟨zs, H2, I4, rz, rfl, rfl⟩ := h4
  obtain ⟨t, rfl⟩ : ∃ t, ws = [Value.int k t] := by
    cases rz with
    | cons r0 rr =>
      cases rr
      obtain ⟨t, rfl⟩ := r0
      exact ⟨t, rfl⟩
  obtain ⟨_, _, us, ku, o4, es4, ep4, ho4, hx4, hdt4, r4⟩ := I4.hok d _ hd
  have hD4 : s4.heap.DictAt (mixKind X.prog X.w) d us ep4 := ⟨o4, es4, ho4, hx4, hdt4, r4⟩
  have hlu : kvs.length = us.length := Paired.length ku
  have view : s4.heap.get? s1.heap.objs.size = some { cls := .type "dict_values", data := .fields #[.ref d] } :=
    (I4.pin (s1.heap.objs.size, { cls := .type "dict_values", data := .fields #[.ref d] }) (List.mem_append_right _ (List.mem_append_right _ (mem_pinsAt (List.mem_singleton.mpr rfl) (Heap.get?_push_size _ rfl))))).1
  show wpAny _ _ (call (.builtin "max") [.ref s1.heap.objs.size] [(Str.ofString "default", .int k t)]) _ _ _
  have vals : ∀ i v, (∃ key, us[i]? = some (key, v)) → i < us.length ∧ ∃ t, v = .int (ns.getD i 0) t := fun i v hk => by
    obtain ⟨key, hk⟩ := hk
    have hi := (List.getElem?_eq_some_iff.mp hk).1
    obtain ⟨⟨k2, x2⟩, hk2⟩ : ∃ q, kvs[i]? = some q := ⟨kvs[i]'(by omega), List.getElem?_eq_getElem (by omega)⟩
    obtain ⟨u2, hu2, ru2⟩ := kv_get ku hk2
    rw [hk] at hu2
    cases hu2
    have e1 := congrArg (fun l => l[i]?) hv
    simp only [List.getElem?_map, hk2] at e1
    have hni : i < ns.length := by omega
    rw [List.getElem?_eq_getElem hni] at e1
    have e2 : x2 = V.int ns[i] := Option.some.inj e1
    subst e2
    obtain ⟨t2, rfl⟩ := ru2
    exact ⟨hi, t2, by rw [List.getD_eq_getElem?_getD, List.getElem?_eq_getElem hni]; rfl⟩
  refine max_def_walk (wpAny_pyIter_values (d := d) (knd := mixKind X.prog X.w) ⟨_, view, rfl, rfl⟩ hD4 ?_)
  have hlt : d < s4.heap.objs.size := by
    obtain ⟨_, _, e, _⟩ := hD4
    exact Heap.lt_size e
  refine ⟨s4.heap.objs.size, _, _, _, _, _, fun i j => decide (ns.getD i 0 > ns.getD j 0), rfl, Walks.dictValues (A := X.A.in1) (knd := mixKind X.prog X.w) (I.ok.hd hc) s4.heap.objs.size d (Nat.ne_of_lt hlt) us ep4, ⟨⟨_, Heap.get?_push_size _ rfl, rfl, rfl⟩, hD4.push _⟩, fun b hb => ?_, CmpOf.ints_gt (fun i => ns.getD i 0) (fun i v hk => (vals i v hk).2), fun v h2 tk out keep => ?_⟩
  · show b < (s4.heap.push _).objs.size
    rw [Heap.size_push]
    rcases List.mem_cons.mp hb with rfl | hb
    · exact Nat.lt_succ_self _
    · rw [List.mem_singleton.mp hb]
      exact Nat.lt_succ_of_lt hlt
  · obtain ⟨m, t3, rfl, top⟩ := topOf_out (by omega) vals rfl out
    refine ⟨.int m, H2, (I4.unpinned.kept fun b o e => ?_), ⟨_, rfl⟩, q m top⟩
    exact keep b o (fun z => by rw [List.mem_singleton.mp z] at e; exact absurd (Heap.lt_size e) (Nat.lt_irrefl _)) (Heap.get?_push_of_some _ e)
end
end Gx
namespace Gx
open PySem PySem.Spec PyProof.Rows L2
theorem kv_vals {κ : Type} : ∀ {kvs : List (κ × V)} {us : List (κ × Value)} {vs : List Value}, KV kvs us → vs = us.map Prod.snd → Vals (kvs.map Prod.snd) vs
  | _, _, _, .nil, rfl => .nil
  | _, _, _, .cons h t, rfl => .cons h.2 (kv_vals t rfl)
section
variable {X : Cx}
/-- list(d.values()) -/
def tListVals (td : TE) : TE := fun σ H Q => td σ H fun x H1 => ∃ (d : Addr) (kvs : List (Key × V)), x = .ref d ∧ H1 d = some (.dK kvs) ∧ ∀ l, H1 l = none → Q (.ref l) (upd H1 l (.lst (kvs.map Prod.snd)))
theorem pe_listVals {e : Expr} {td : TE} {p apos cpos pos : Pos} (hc : X.calm = true) (hg : Gl X "list") (hm : X.mg "list" = none) (he : PE X e td)
    (hbase : attributeBase e "values" X.env (eval e X.env) = eval e X.env := by rfl) (hline : (apos.endLine == cpos.line) = true := by rfl) (na : starEach [(.Call (.Attribute e "values" apos) [] [] cpos : Expr)] X.env = (false, eval (.Call (.Attribute e "values" apos) [] [] cpos) X.env) :: starEach [] X.env := by rfl) :
    PE X (.Call (.Name "list" p) [.Call (.Attribute e "values" apos) [] [] cpos] [] pos) (tListVals td) := by
  refine ⟨fun pins s σ H Q I h => Call_ (ld_blt I hg hm (show bootBuiltins "list" = some (.type "list") by decide +kernel) ?_)⟩
  refine PyProof.Rows.callWith_type1 (PyProof.Rows.args_cons ?_ na) na rfl
  refine wpAny_Call_method (T := "dict") (id := "dict.values") hbase rfl hline F.plainAttrs_dict F.slot_dict_values F.type_dict_values (thn (he.run pins s σ H _ I h) fun u s1 h1 => ?_)
  obtain ⟨x, H1, I1, rx, d, kvs, rfl, hd, q⟩ := h1
  obtain rfl : u = Value.ref d := rx
  obtain ⟨hz, hs, vs, kv, o1, es, ep, ho, hx, hdt, r⟩ := I1.hok d _ hd
  have hD : s1.heap.DictAt (mixKind X.prog X.w) d vs ep := ⟨o1, es, ho, hx, hdt, r⟩
  have hl : kvs.length = vs.length := Paired.length kv
  refine ⟨hD.dictOf.typeIs, hD.dictOf.mapOf.noDict, ?_⟩
  refine method_meetsIn F.slot_dict_values F.entry_dict_values rfl (PySem.evalArgs_none ⟨rfl, hD.dictOf.typeIs, F.args_dict_values_1 _, _, meets_dict_values (mixKind X.prog X.w) d hs, ⟨vs, hD.dictOf⟩, PyProof.Rows.args_nil ?_⟩)
  have I2 : L2.Inv X pins σ H1 { s1 with heap := s1.heap.push { cls := .type "dict_values", data := .fields #[.ref d] } } := I1.kept (t' := s1.toks) fun b ob z => Heap.get?_push_of_some _ z
  refine PySem.W.kdl_call (PySem.W.kdl_values (knd := mixKind X.prog X.w) (d := d) (r := s1.heap.objs.size) (kvs := vs) (ep := ep)) (I.ok.hd hc) ⟨⟨_, Heap.get?_push_size _ rfl, rfl, rfl⟩, hD.push _⟩ (by omega) fun h2 tk acc c keep new items => ?_
  have ev : acc.toList = vs.map Prod.snd := PySem.W.kdl_vals_eq acc.toList (by rw [Array.length_toList]; exact items.1) fun j v e => items.2 j v (by rw [← Array.getElem?_toList]; exact e)
  refine ⟨.ref _, _, I2.laid (t' := tk) (h' := h2) keep (Nat.le_refl _) (show ObjOk X.prog X.w _ h2 _ (.lst (kvs.map Prod.snd)) from ⟨by rw [List.length_map]; exact hz, acc.toList, c, kv_vals kv ev, ?_⟩), rfl, q _ (I2.hok.fresh (Nat.le_refl _))⟩
  rw [Array.toArray_toList]
  exact new
end
end Gx

namespace Lw
open PySem PySem.Spec PyProof.Rows L2 GxR Gx
def topS (i : Nat) : Stmt := PySem.Challenge.pw_heardapart_k58_whole_heaps_turned.main.body.getD i (.Pass ⟨0, 0, 0, 0⟩)
abbrev st_is_name : Stmt := topS 10
abbrev N_is_name : List Str := ["thing", "letter"]
theorem sc_is_name : FnScope N_is_name ["thing"] (defScope st_is_name) := ⟨rfl, rfl, rfl, by decide +kernel, rfl, by decide +kernel, by decide +kernel⟩
abbrev st_are_unlike_names : Stmt := topS 11
abbrev N_are_unlike_names : List Str := ["thing", "name"]
theorem sc_are_unlike_names : FnScope N_are_unlike_names ["thing"] (defScope st_are_unlike_names) := ⟨rfl, rfl, rfl, by decide +kernel, rfl, by decide +kernel, by decide +kernel⟩
abbrev st_is_book : Stmt := topS 13
abbrev N_is_book : List Str := ["thing"]
theorem sc_is_book : FnScope N_is_book ["thing"] (defScope st_is_book) := ⟨rfl, rfl, rfl, by decide +kernel, rfl, by decide +kernel, by decide +kernel⟩
abbrev st_is_whole : Stmt := topS 14
abbrev N_is_whole : List Str := ["thing", "least"]
theorem sc_is_whole : FnScope N_is_whole ["thing", "least"] (defScope st_is_whole) := ⟨rfl, rfl, rfl, by decide +kernel, rfl, by decide +kernel, by decide +kernel⟩
abbrev st_is_spot : Stmt := topS 15
abbrev N_is_spot : List Str := ["thing", "roads"]
theorem sc_is_spot : FnScope N_is_spot ["thing", "roads"] (defScope st_is_spot) := ⟨rfl, rfl, rfl, by decide +kernel, rfl, by decide +kernel, by decide +kernel⟩
abbrev st_places_of : Stmt := topS 16
abbrev N_places_of : List Str := ["book", "place", "word"]
theorem sc_places_of : FnScope N_places_of ["book"] (defScope st_places_of) := ⟨rfl, rfl, rfl, by decide +kernel, rfl, by decide +kernel, by decide +kernel⟩
abbrev st_heap_of : Stmt := topS 19
abbrev N_heap_of : List Str := ["ones", "others", "rest", "counts", "book", "k", "j"]
theorem sc_heap_of : FnScope N_heap_of ["ones", "others", "rest"] (defScope st_heap_of) := ⟨rfl, rfl, rfl, by decide +kernel, rfl, by decide +kernel, by decide +kernel⟩
abbrev st_rest_of : Stmt := topS 20
abbrev N_rest_of : List Str := ["ones", "others", "hands", "heap", "place"]
theorem sc_rest_of : FnScope N_rest_of ["ones", "others", "hands", "heap"] (defScope st_rest_of) := ⟨rfl, rfl, rfl, by decide +kernel, rfl, by decide +kernel, by decide +kernel⟩
abbrev st_how_many_rests : Stmt := topS 21
abbrev N_how_many_rests : List Str := ["ones", "others", "hands", "told", "parts", "i", "j"]
theorem sc_how_many_rests : FnScope N_how_many_rests ["ones", "others", "hands"] (defScope st_how_many_rests) := ⟨rfl, rfl, rfl, by decide +kernel, rfl, by decide +kernel, by decide +kernel⟩
abbrev st_check_sorts : Stmt := topS 22
abbrev N_check_sorts : List Str := ["ones", "others"]
theorem sc_check_sorts : FnScope N_check_sorts ["ones", "others"] (defScope st_check_sorts) := ⟨rfl, rfl, rfl, by decide +kernel, rfl, by decide +kernel, by decide +kernel⟩
abbrev st_check_hands : Stmt := topS 23
abbrev N_check_hands : List Str := ["thing"]
theorem sc_check_hands : FnScope N_check_hands ["thing"] (defScope st_check_hands) := ⟨rfl, rfl, rfl, by decide +kernel, rfl, by decide +kernel, by decide +kernel⟩
abbrev st_is_rest : Stmt := topS 24
abbrev N_is_rest : List Str := ["ones", "others", "thing", "book", "counts", "row", "later"]
theorem sc_is_rest : FnScope N_is_rest ["ones", "others", "thing"] (defScope st_is_rest) := ⟨rfl, rfl, rfl, by decide +kernel, rfl, by decide +kernel, by decide +kernel⟩
abbrev st_is_mixed : Stmt := topS 25
abbrev N_is_mixed : List Str := ["ones", "others", "thing", "word", "firsts", "lasts"]
theorem sc_is_mixed : FnScope N_is_mixed ["ones", "others", "thing"] (defScope st_is_mixed) := ⟨rfl, rfl, rfl, by decide +kernel, rfl, by decide +kernel, by decide +kernel⟩
abbrev st_counts_in : Stmt := topS 26
abbrev N_counts_in : List Str := ["book", "firsts", "counts", "place", "word"]
theorem sc_counts_in : FnScope N_counts_in ["book", "firsts"] (defScope st_counts_in) := ⟨rfl, rfl, rfl, by decide +kernel, rfl, by decide +kernel, by decide +kernel⟩
abbrev st_are_steps : Stmt := topS 27
abbrev N_are_steps : List Str := ["row", "later", "one", "other"]
theorem sc_are_steps : FnScope N_are_steps ["row", "later"] (defScope st_are_steps) := ⟨rfl, rfl, rfl, by decide +kernel, rfl, by decide +kernel, by decide +kernel⟩
abbrev st_rows_above : Stmt := topS 28
abbrev N_rows_above : List Str := ["counts", "k", "j", "row"]
theorem sc_rows_above : FnScope N_rows_above ["counts", "k", "j"] (defScope st_rows_above) := ⟨rfl, rfl, rfl, by decide +kernel, rfl, by decide +kernel, by decide +kernel⟩
abbrev st_is_heap : Stmt := topS 29
abbrev N_is_heap : List Str := ["many", "width", "hands", "thing", "row", "later"]
theorem sc_is_heap : FnScope N_is_heap ["many", "width", "hands", "thing"] (defScope st_is_heap) := ⟨rfl, rfl, rfl, by decide +kernel, rfl, by decide +kernel, by decide +kernel⟩
abbrev st_is_heap_row : Stmt := topS 30
abbrev N_is_heap_row : List Str := ["width", "hands", "thing", "number"]
theorem sc_is_heap_row : FnScope N_is_heap_row ["width", "hands", "thing"] (defScope st_is_heap_row) := ⟨rfl, rfl, rfl, by decide +kernel, rfl, by decide +kernel, by decide +kernel⟩
abbrev st_counts_by : Stmt := topS 31
abbrev N_counts_by : List Str := ["heap", "least", "row", "number"]
theorem sc_counts_by : FnScope N_counts_by ["heap", "least"] (defScope st_counts_by) := ⟨rfl, rfl, rfl, by decide +kernel, rfl, by decide +kernel, by decide +kernel⟩
abbrev st_book_by : Stmt := topS 32
abbrev N_book_by : List Str := ["ones", "others", "counts", "book", "ahead", "word", "many"]
theorem sc_book_by : FnScope N_book_by ["ones", "others", "counts"] (defScope st_book_by) := ⟨rfl, rfl, rfl, by decide +kernel, rfl, by decide +kernel, by decide +kernel⟩
abbrev st_law_bowl : Stmt := topS 34
abbrev N_law_bowl : List Str := ["script", "figures", "dough", "cell"]
theorem sc_law_bowl : FnScope N_law_bowl ["script"] (defScope st_law_bowl) := ⟨rfl, rfl, rfl, by decide +kernel, rfl, by decide +kernel, by decide +kernel⟩
abbrev st_law_dip : Stmt := topS 35
abbrev N_law_dip : List Str := ["bowl", "many", "drawn", "big"]
theorem sc_law_dip : FnScope N_law_dip ["bowl", "many"] (defScope st_law_dip) := ⟨rfl, rfl, rfl, by decide +kernel, rfl, by decide +kernel, by decide +kernel⟩
abbrev st_law_names : Stmt := topS 36
abbrev N_law_names : List Str := ["bowl", "many", "left", "letters", "k"]
theorem sc_law_names : FnScope N_law_names ["bowl", "many"] (defScope st_law_names) := ⟨rfl, rfl, rfl, by decide +kernel, rfl, by decide +kernel, by decide +kernel⟩
abbrev st_law_sorts : Stmt := topS 37
abbrev N_law_sorts : List Str := ["bowl", "most", "many", "turn", "names"]
theorem sc_law_sorts : FnScope N_law_sorts ["bowl", "most"] (defScope st_law_sorts) := ⟨rfl, rfl, rfl, by decide +kernel, rfl, by decide +kernel, by decide +kernel⟩
abbrev st_law_heap : Stmt := topS 38
abbrev N_law_heap : List Str := ["bowl", "many", "wide", "hands", "found", "ahead", "a", "row", "top", "b", "drawn"]
theorem sc_law_heap : FnScope N_law_heap ["bowl", "many", "wide", "hands"] (defScope st_law_heap) := ⟨rfl, rfl, rfl, by decide +kernel, rfl, by decide +kernel, by decide +kernel⟩
abbrev st_law_backwards : Stmt := topS 39
abbrev N_law_backwards : List Str := ["heap", "many", "wide", "hands", "found", "b", "a"]
theorem sc_law_backwards : FnScope N_law_backwards ["heap", "many", "wide", "hands"] (defScope st_law_backwards) := ⟨rfl, rfl, rfl, by decide +kernel, rfl, by decide +kernel, by decide +kernel⟩
abbrev st_law_line_right : Stmt := topS 40
abbrev N_law_line_right : List Str := ["bowl", "ones", "others", "hands", "heap", "rest", "back", "more", "last", "row", "number", "a", "b", "first"]
theorem sc_law_line_right : FnScope N_law_line_right ["bowl"] (defScope st_law_line_right) := ⟨rfl, rfl, rfl, by decide +kernel, rfl, by decide +kernel, by decide +kernel⟩
abbrev st_law : Stmt := topS 41
abbrev N_law : List Str := ["script", "bowl", "lap", "a", "b", "c", "turn", "counts"]
theorem sc_law : FnScope N_law ["script"] (defScope st_law) := ⟨rfl, rfl, rfl, by decide +kernel, rfl, by decide +kernel, by decide +kernel⟩
/-- names that the top leaves to the built-ins -/
structure Nb (mg : Str → Option Value) : Prop where
  n_abs : mg "abs" = none
  n_all : mg "all" = none
  n_enumerate : mg "enumerate" = none
  n_int : mg "int" = none
  n_len : mg "len" = none
  n_list : mg "list" = none
  n_max : mg "max" = none
  n_range : mg "range" = none
  n_set : mg "set" = none
  n_str : mg "str" = none
  n_type : mg "type" = none
  n_zip : mg "zip" = none
section
variable {P : Program} {w : World} {K : PySem.W.Frag} {mg : Str → Option Value} {base : Heap}
/-! ### is_name -/
def nameC (c : Nat) : Bool := decide (97 ≤ c) && decide (c ≤ 122)
def isNm (z : Str) : Bool := decide (1 ≤ z.length) && decide (z.length ≤ 8) && z.cps.toList.all nameC
def spIsName (K : PySem.W.Frag) (T : Addr) : Sp := fun vs H Q _ => ∃ x, vs = [x] ∧ TabG H T ∧
  ((∃ z : Str, x = .str z ∧ z.length ≤ sizeLine ∧ ∀ H', Grow [] H H' → Q (.bl (isNm z)) H') ∨ ∃ U, U ≠ "str" ∧ TyB K H x U ∧ Q (.bl false) H)
theorem lt1 (a b : Nat) : decide ([a] < [b]) = decide (a < b) := by
  have h : ([a] < [b]) ↔ a < b := by
    rw [List.cons_lt_cons_iff]
    simp
  exact decide_eq_decide.mpr h
theorem ge_a (c : Nat) : (!decide ([c] < [97])) = decide (97 ≤ c) := by
  rw [lt1]
  by_cases h : 97 ≤ c
  · rw [decide_eq_true h, decide_eq_false (by omega)]; rfl
  · rw [decide_eq_false h, decide_eq_true (by omega)]; rfl
theorem le_z (c : Nat) : (!decide ([122] < [c])) = decide (c ≤ 122) := by
  rw [lt1]
  by_cases h : c ≤ 122
  · rw [decide_eq_true h, decide_eq_false (by omega)]; rfl
  · rw [decide_eq_false h, decide_eq_true (by omega)]; rfl
theorem ok_is_name {f c T : Addr} {fd : FuncData} {tk : Tok} (B : Nb mg) (D : DefIs K "is_name" "is_name" st_is_name f fd (.ref c)) (x_is_name : TabB base mg c T) (k_MOST_LETTERS : mg "MOST_LETTERS" = some (.int 8 tk)) :
    FnG P w K mg base CX0 4 f fd ["thing"] (spIsName K T) := by
  refine D.ok0 (k := 3) sc_is_name (fun vs H Q E h => ?_) (fun A outer s H vs Q E g hr h => ?_)
  · obtain ⟨x, rfl, _⟩ := h
    rfl
  obtain ⟨x, rfl, tT, h⟩ := h
  refine ⟨_,
      (pss_cons (ps_if (PW.pt (pw_or (pt_cmpR (op_notTyB) (pe_callTy call_type1 rfl B.n_type (by decide +kernel) (pa_cons (pv 0) pa_nil)) (pe_bltn (v := .ty "str") rfl B.n_str (by decide +kernel) rfl) (nomark _)) (pw_or1 (pt_not (pt_chain (op_le) (op_le) pe_int (pe_callB call_len_str rfl B.n_len PySem.boot_len (pa_cons (pv 0) pa_nil)) (pe_glob (v := .int 8) rfl k_MOST_LETTERS ⟨_, rfl⟩)))))) (
        (pss_one (ps_ret pe_bl))) pss_nil)
      (pss_one (ps_ret (pe_allG (own := [("letter", 1)]) hr (gx_ok (N := N_is_name) (dsc := defScope st_is_name) x_is_name sc_is_name.nd (by decide +kernel) (by decide +kernel)) rfl B.n_all (by decide +kernel) (pi_str (pv 0)) (fun _ _ _ _ _ => (pg_name (i := 1) sc_is_name.nd rfl (.inl rfl))) (fun _ _ _ _ _ => pe_to (pe_chain (op_le_str) (op_le_str) pe_str (pv 1) pe_str)))))), ?_⟩
  rcases h with ⟨z, rfl, hz, q⟩ | ⟨U, hU, ty, q⟩
  · refine ⟨.str z, rfl, _, "str", rfl, .str z, "str", "str", rfl, rfl, _, rfl, iteNS rfl ⟨.str z, rfl, z, rfl, hz, 1, z.length, rfl, rfl, _, rfl, ?_⟩⟩
    have no : isNm z = false → Q (.bl false) H := fun e => by
      rw [← e]
      exact q H (Grow.refl _ _)
    by_cases h1 : (1 : Int) ≤ z.length
    · rw [if_pos (decide_eq_true h1)]
      refine ⟨z.length, 8, rfl, rfl, _, rfl, ?_⟩
      by_cases h8 : (z.length : Int) ≤ 8
      · rw [decide_eq_true h8]
        refine iteF ⟨.str z, rfl, z, rfl, tT, ?_⟩
        have hall : ∀ b : Bool, b = z.cps.toList.all nameC → ∀ H', Grow [] H H' → Q (.bl b) H' := fun b e H' gr => by
          have e2 : isNm z = b := by
            unfold isNm
            rw [decide_eq_true (by omega : 1 ≤ z.length), decide_eq_true (by omega : z.length ≤ 8), e]
            rfl
          rw [← e2]
          exact q H' gr
        refine truth_text (fun i H' => Grow [] H H' ∧ (z.cps.toList.take i).all nameC = true) (fun H2 t => ⟨grow_tab tT t, rfl⟩) (fun i cc H' hc hp => ?_) fun H' hp => ?_
        · have e1 : (!decide ((⟨#[cc]⟩ : Str).cps.toList < (Str.ofString "a").cps.toList)) = decide (97 ≤ cc) := ge_a cc
          have e2 : (!decide ((Str.ofString "z").cps.toList < (⟨#[cc]⟩ : Str).cps.toList)) = decide (cc ≤ 122) := le_z cc
          have out : nameC cc = false → Q (.bl false) H' := fun e => by
            refine hall false ?_ H' hp.1
            refine (List.all_eq_false.mpr ⟨cc, List.mem_of_getElem? hc, ?_⟩).symm
            rw [e]
            exact Bool.false_ne_true
          refine ⟨rfl, .str ⟨#[cc]⟩, rfl, _, _, rfl, rfl, _, rfl, ?_⟩
          rw [e1]
          by_cases ca : 97 ≤ cc
          · rw [if_pos (decide_eq_true ca)]
            refine ⟨_, _, rfl, rfl, _, rfl, ?_⟩
            rw [e2]
            by_cases cz : cc ≤ 122
            · rw [if_neg (by rw [decide_eq_true cz]; exact fun z => Bool.noConfusion z)]
              refine ⟨hp.1, ?_⟩
              rw [List.take_add_one, hc, List.all_append, hp.2]
              show (true && (nameC cc && true)) = true
              unfold nameC
              rw [decide_eq_true ca, decide_eq_true cz]
              rfl
            · rw [if_pos (decide_eq_false cz)]
              refine out ?_
              unfold nameC
              rw [decide_eq_false cz, Bool.and_false]
          · rw [if_neg (by rw [decide_eq_false ca]; exact Bool.false_ne_true)]
            refine ⟨false, rfl, ?_⟩
            rw [if_pos rfl]
            refine out ?_
            unfold nameC
            rw [decide_eq_false ca, Bool.false_and]
        · refine hall true ?_ H' hp.1
          have := hp.2
          rw [List.take_length] at this
          exact this.symm
      · rw [decide_eq_false h8]
        refine iteT (no ?_)
        unfold isNm
        rw [decide_eq_false (by omega : ¬ z.length ≤ 8), Bool.and_false, Bool.false_and]
    · rw [decide_eq_false h1]
      refine iteF ⟨_, rfl, iteT (no ?_)⟩
      unfold isNm
      rw [decide_eq_false (by omega : ¬ 1 ≤ z.length), Bool.false_and, Bool.false_and]
  · refine ⟨x, rfl, _, U, rfl, ty, U, "str", rfl, rfl, _, rfl, ?_⟩
    rw [decide_eq_false hU]
    exact iteT (iteT q)
end

section
variable {P : Program} {w : World} {K : PySem.W.Frag} {mg : Str → Option Value} {base : Heap}
/-! ### are_unlike_names, is_book -/
def nameV : V → Bool
  | .str z => isNm z
  | _ => false
def bookV (xs : List V) : Bool := xs.all nameV && decide xs.Nodup
theorem nameV_str (x : V) (h : nameV x = true) : ∃ z, x = .str z := by
  cases x with
  | str z => exact ⟨z, rfl⟩
  | _ => cases h
def spUnlike (K : PySem.W.Frag) (T1 T2 : Addr) : Sp := fun vs H Q _ => ∃ x, vs = [x] ∧ TabG H T1 ∧ TabG H T2 ∧
  ((∃ (l : Addr) (xs : List V), x = .ref l ∧ SqL K H l xs ∧ (∀ x ∈ xs, Known K H x) ∧ xs.length ≤ 4000 ∧ ∀ H', Grow [] H H' → Q (.bl (bookV xs)) H') ∨ ∃ U, U ≠ "list" ∧ TyB K H x U ∧ Q (.bl false) H)
theorem ok_are_unlike_names {f c T1 T : Addr} {fd : FuncData} (B : Nb mg) (D : DefIs K "are_unlike_names" "are_unlike_names" st_are_unlike_names f fd (.ref c)) (x_are_unlike_names : TabB base mg c T)
    (c_is_name : Callee P w K mg base CX0 4 "is_name" ["thing"] (spIsName K T1)) : FnG P w K mg base CX0 8 f fd ["thing"] (spUnlike K T1 T) := by
  refine D.ok0 (k := 7) sc_are_unlike_names (fun vs H Q E h => ?_) (fun A outer s H vs Q E g hr h => ?_)
  · obtain ⟨x, rfl, _⟩ := h
    rfl
  obtain ⟨x, rfl, t1, tT, h⟩ := h
  refine ⟨_,
      (pss_cons (ps_if (PW.pt (pw_or (pt_cmpR (op_notTyB) (pe_callTy call_type1 rfl B.n_type (by decide +kernel) (pa_cons (pv 0) pa_nil)) (pe_bltn (v := .ty "list") rfl B.n_list (by decide +kernel) rfl) (nomark _)) (pw_or1 (pt_not (pt_val (pe_allG (own := [("name", 1)]) hr (gx_ok (N := N_are_unlike_names) (dsc := defScope st_are_unlike_names) x_are_unlike_names sc_are_unlike_names.nd (by decide +kernel) (by decide +kernel)) rfl B.n_all (by decide +kernel) (pi_list (pv 0)) (fun _ _ _ _ _ => (pg_name (i := 1) sc_are_unlike_names.nd rfl (.inl rfl))) (fun _ _ _ _ _ => pe_to (pe_g c_is_name g ((room_gx hr).mono (by decide)) pass0 (pa_cons (pv 1) pa_nil))))))))) (
        (pss_one (ps_ret pe_bl))) pss_nil)
      (pss_one (ps_ret (pe_cmpR (op_eq) (pe_lenSetS rfl B.n_len rfl B.n_set hr.hd (pv 0)) (pe_callB call_len_seq rfl B.n_len PySem.boot_len (pa_cons (pv 0) pa_nil)) (nomark _))))), ?_⟩
  rcases h with ⟨l, xs, rfl, hl, hk, hz, q⟩ | ⟨U, hU, ty, q⟩
  · refine ⟨.ref l, rfl, _, "list", rfl, .lst hl, "list", "list", rfl, rfl, _, rfl, iteNS rfl ⟨.ref l, rfl, l, rfl, ⟨xs, hl⟩, tT, ?_⟩⟩
    refine truth_list (xs := xs) (fun i H' => Grow [] H H' ∧ (xs.take i).all nameV = true) (fun H2 t => ⟨grow_tab tT t, rfl⟩) (fun i H' hp => hp.1.seq0 hl) (fun i x H' hx hp => ?_) fun H' hp => ?_
    · refine ⟨rfl, x, rfl, x, rfl, hp.1.tabs _ t1, ?_⟩
      have key : ∀ b, b = nameV x → ∀ H2, Grow [] H' H2 → (b = false → Q (.bl false) H2) ∧ (b = true → Grow [] H H2 ∧ (xs.take (i + 1)).all nameV = true) := fun b e H2 gr => by
        refine ⟨fun hb => ?_, fun hb => ⟨hp.1.trans gr, ?_⟩⟩
        · have eb : bookV xs = false := by
            unfold bookV
            rw [(List.all_eq_false.mpr ⟨x, List.mem_of_getElem? hx, by rw [← e, hb]; exact Bool.false_ne_true⟩ : xs.all nameV = false), Bool.false_and]
          rw [← eb]
          exact q H2 (hp.1.trans gr)
        · rw [List.take_add_one, hx, List.all_append, hp.2]
          show (true && (nameV x && true)) = true
          rw [← e, hb]
          rfl
      rcases (hk x (List.mem_of_getElem? hx)).grow hp.1 with ⟨z, rfl, hz'⟩ | ⟨U, nU, tU⟩
      · refine .inl ⟨z, rfl, hz', fun H2 gr => ?_⟩
        obtain ⟨k1, k2⟩ := key (isNm z) rfl H2 gr
        refine ⟨isNm z, rfl, ?_⟩
        cases hb : isNm z with
        | false =>
          rw [if_pos rfl]
          exact ⟨false, rfl, iteT (k1 hb)⟩
        | true =>
          rw [if_neg (fun z => Bool.noConfusion z)]
          exact k2 hb
      · refine .inr ⟨U, nU, tU, ?_⟩
        have e : nameV x = false := by
          cases hb : nameV x with
          | false => rfl
          | true =>
            obtain ⟨z, rfl⟩ := nameV_str x hb
            cases tU
            exact absurd rfl nU
        refine ⟨false, rfl, ?_⟩
        rw [if_pos rfl]
        exact ⟨false, rfl, iteT ((key false e.symm H' (Grow.refl _ _)).1 rfl)⟩
    · have hall : xs.all nameV = true := by
        have := hp.2
        rwa [List.take_length] at this
      have ex := strs_of nameV_str hall
      refine ⟨true, rfl, iteF ?_⟩
      refine ⟨.ref l, rfl, l, xs.map theStr, rfl, by rw [← ex]; exact hp.1.seq0 hl, by rw [List.length_map]; exact hz, ?_⟩
      refine ⟨.ref l, rfl, l, xs, rfl, .inl (hp.1.seq0 hl), ?_⟩
      have e : decide (V.int ((uq [] (xs.map theStr)).length : Nat) = V.int (xs.length : Nat)) = bookV xs := by
        unfold bookV
        rw [hall, Bool.true_and]
        have e1 : decide (V.int ((uq [] (xs.map theStr)).length : Nat) = V.int (xs.length : Nat)) = decide (((uq [] (xs.map theStr)).length : Int) = ((xs.map theStr).length : Int)) :=
          decide_eq_decide.mpr ⟨fun h => by rw [List.length_map]; exact V.int.inj h, fun h => by rw [List.length_map] at h; rw [h]⟩
        rw [e1, uq_same]
        exact decide_eq_decide.mpr (Iff.trans nodup_str.symm (by rw [← ex]))
      show rEq _ _ _ _
      refine ⟨rfl, ?_⟩
      rw [e]
      exact q H' hp.1
  · refine ⟨x, rfl, _, U, rfl, ty, U, "list", rfl, rfl, _, rfl, ?_⟩
    rw [decide_eq_false hU]
    exact iteT (iteT q)
end

section
variable {K : PySem.W.Frag}
/-! ### books -/
/-- a book -/
structure Bk (zs : List Str) : Prop where
  nm : zs.all isNm = true
  nd : zs.Nodup
  len : zs.length ≤ 200
theorem Bk.perm {zs ws : List Str} (b : Bk zs) (p : zs.Perm ws) : Bk ws :=
  ⟨by rw [List.all_eq_true] at *; exact fun x h => List.all_eq_true.mp b.nm x (p.mem_iff.mpr h), p.nodup_iff.mp b.nd, by rw [← p.length_eq]; exact b.len⟩
theorem Bk.v {zs : List Str} (b : Bk zs) : bookV (zs.map V.str) = true := by
  unfold bookV
  rw [decide_eq_true (nodup_str.mpr b.nd), Bool.and_true, List.all_map]
  exact b.nm
theorem Bk.short {zs : List Str} (b : Bk zs) {z : Str} (h : z ∈ zs) : z.length ≤ 8 := by
  have := List.all_eq_true.mp b.nm z h
  unfold isNm at this
  rw [Bool.and_eq_true, Bool.and_eq_true, decide_eq_true_iff, decide_eq_true_iff] at this
  exact this.1.2
theorem Bk.known {zs : List Str} (b : Bk zs) {H : Hp} : ∀ x ∈ zs.map V.str, Known K H x := fun x h => by
  obtain ⟨z, hz, rfl⟩ := List.mem_map.mp h
  exact .inl ⟨z, rfl, Nat.le_trans (b.short hz) (by decide)⟩
theorem nm_lt {z : Str} (h : isNm z = true) : ∀ c ∈ z.cps.toList, c < 0x110000 := fun c hc => by
  unfold isNm at h
  rw [Bool.and_eq_true] at h
  have := List.all_eq_true.mp h.2 c hc
  unfold nameC at this
  rw [Bool.and_eq_true, decide_eq_true_iff, decide_eq_true_iff] at this
  omega
theorem Bk.fine {zs : List Str} (b : Bk zs) {z : Str} (h : z ∈ zs) : Fine (.str z) 0 8 := .str (nm_lt (List.all_eq_true.mp b.nm z h)) (b.short h)
theorem fine_name {z : Str} (h1 : isNm z = true) : Fine (.str z) 0 8 := by
  refine .str (nm_lt h1) ?_
  unfold isNm at h1
  rw [Bool.and_eq_true, Bool.and_eq_true, decide_eq_true_iff, decide_eq_true_iff] at h1
  exact h1.1.2
theorem fine_names {zs : List Str} (hn : zs.all isNm = true) (hz : zs.length ≤ 200) : Fine (.list (zs.map PyData.str)) 1 1800 := Fine.list (n := 0) (m := 8) (fun d hd => by
  obtain ⟨z, h, rfl⟩ := List.mem_map.mp hd
  have h1 := List.all_eq_true.mp hn z h
  refine .str (nm_lt h1) ?_
  unfold isNm at h1
  rw [Bool.and_eq_true, Bool.and_eq_true, decide_eq_true_iff, decide_eq_true_iff] at h1
  exact h1.1.2) (by rw [List.length_map]; omega)
theorem all_perm {zs ws : List Str} (h : zs.all isNm = true) (p : ws.Perm zs) : ws.all isNm = true := List.all_eq_true.mpr fun x hx => List.all_eq_true.mp h x (p.mem_iff.mp hx)
theorem seqIndex_nat {v : Int} {n : Nat} (h0 : 0 ≤ v) (h : v < n) : seqIndex? v n = some v.toNat := by
  have e : seqIndex? v n = if (decide (0 ≤ (if v < 0 then v + n else v)) && decide ((if v < 0 then v + n else v) < n)) = true then some (if v < 0 then v + n else v).toNat else none := rfl
  rw [e, if_neg (by omega : ¬ v < 0), decide_eq_true h0, decide_eq_true h]
  rfl
end

section
variable {P : Program} {w : World} {K : PySem.W.Frag} {mg : Str → Option Value} {base : Heap}
/-! ### is_book -/
theorem ok_is_book {f c T1 T : Addr} {fd : FuncData} (D : DefIs K "is_book" "is_book" st_is_book f fd (.ref c))
    (c_are_unlike_names : Callee P w K mg base CX0 8 "are_unlike_names" ["thing"] (spUnlike K T1 T)) : FnG P w K mg base CX0 9 f fd ["thing"] (spUnlike K T1 T) := by
  refine D.ok0 (k := 8) sc_is_book (fun vs H Q E h => ?_) (fun A outer s H vs Q E g hr h => ?_)
  · obtain ⟨x, rfl, _⟩ := h
    rfl
  obtain ⟨x, rfl, t1, tT, h⟩ := h
  refine ⟨_,
      (pss_one (ps_ret (pe_g c_are_unlike_names g (hr.mono (by decide)) pass0 (pa_cons (pv 0) pa_nil)))), ?_⟩
  exact ⟨x, rfl, x, rfl, t1, tT, h⟩
end

section
variable {P : Program} {w : World} {K : PySem.W.Frag} {mg : Str → Option Value} {base : Heap}
/-! ### places_of -/
def spPlaces (K : PySem.W.Frag) : Sp := fun vs H Q _ => ∃ (l : Addr) (zs : List Str), vs = [.ref l] ∧ SqL K H l (zs.map V.str) ∧ zs.Nodup ∧ zs.length ≤ 200 ∧
  ∀ D H' kvs, Fresh H D → Grow [] H H' → H' D = some (.dK kvs) → (∀ z ∈ zs, valV kvs (.inr z) = some (.int (zs.idxOf z : Nat))) → kvs.map Prod.fst = zs.map Sum.inr → Q (.ref D) H'
theorem ok_places_of {f c : Addr} {fd : FuncData} (B : Nb mg) (D : DefIs K "places_of" "places_of" st_places_of f fd (.ref c)) : FnG P w K mg base CX0 4 f fd ["book"] (spPlaces K) := by
  refine D.ok0 (k := 3) sc_places_of (fun vs H Q E h => ?_) (fun A outer s H vs Q E g hr h => ?_)
  · obtain ⟨l, zs, rfl, _⟩ := h
    rfl
  obtain ⟨l, zs, rfl, hl, nd, len, q⟩ := h
  refine ⟨_,
      (pss_one (ps_ret (pe_dc (own := [("place", 1), ("word", 2)]) (g := (gTup _ 2 (gCons (gName 1) (gCons (gName 2) gNil)))) (tt := tYes) rfl sc_places_of.nd (pi_enum rfl B.n_enumerate (pa_cons (pv 0) pa_nil)) (blkOk_by (N := N_places_of) (sc := defScope st_places_of) (by decide +kernel)) (fun _ _ _ _ _ => (pg_tup rfl (pgs_cons (pg_name (i := 1) sc_places_of.nd rfl (.inl rfl)) (pgs_cons (pg_name (i := 2) sc_places_of.nd rfl (.inl rfl)) pgs_nil)))) (fun _ _ _ _ _ => pts_nil) (fun _ _ _ _ _ => pe_to (pv 2)) (fun _ _ _ _ _ => pe_to (pv 1))))), ?_⟩
  refine ⟨.ref l, rfl, l, _, rfl, hl, fun D n => ?_⟩
  refine dc_it walk_enum (fun i H' => Grow [] H H' ∧ ∃ kvs, H' D = some (.dK kvs) ∧ kvs.length ≤ i ∧ kvs.map Prod.fst = (zs.take i).map Sum.inr ∧ ∀ (j : Nat) (z : Str), j < i → zs[j]? = some z → valV kvs (.inr z) = some (.int j)) ?_ (fun i H' _ h => h.1.seq0 hl) (fun i x H1 H2 hi hp hy => ?_) (fun H' hp => ?_)
  · exact ⟨grow_new n, [], upd_same, Nat.le_refl _, rfl, fun j z hj => absurd hj (Nat.not_lt_zero _)⟩
  · obtain ⟨gr, kvs, e, el, ek, hk⟩ := hp
    obtain ⟨T, x1, x2, rfl, nT, rfl, ei, ex⟩ := hy
    replace ex : (zs.map V.str)[i]? = some x2 := ex
    rw [List.getElem?_map] at ex
    cases ez : zs[i]? with
    | none => rw [ez] at ex; cases ex
    | some z =>
      rw [ez] at ex
      cases ex
      cases ei
      have gr2 : Grow [] H (upd H1 T (.tup [.int (i : Nat), .str z])) := gr.new nT
      have eD : upd H1 T (.tup [.int (i : Nat), .str z]) D = some (.dK kvs) := by rw [upd_ne (ne_of_none e nT)]; exact e
      refine ⟨T, _, rfl, .inl (.inl upd_same), rfl, _, _, rfl, _, _, rfl, rfl, rfl, ?_⟩
      refine ⟨.str z, rfl, .int i, rfl, kvs, .inr z, rfl, eD, by unfold sizeLine; rw [List.length_map] at hi; omega, gr2.put (fresh_none n) eD (fun ps z => by cases z), _, upd_same, ?_, ?_, fun j y hj hy => ?_⟩
      · have := put_len kvs (.inr z) (.int (i : Nat))
        omega
      · have nw : valV kvs (.inr z) = none := valV_none (by
          rw [ek]
          intro h
          obtain ⟨y, hy, e2⟩ := List.mem_map.mp h
          cases e2
          obtain ⟨j, hj⟩ := List.mem_iff_getElem?.mp hy
          rw [List.getElem?_take] at hj
          by_cases hji : j < i
          · rw [if_pos hji] at hj
            have := (List.getElem?_inj (List.getElem?_eq_some_iff.mp hj).1 nd).mp (hj.trans ez.symm)
            omega
          · rw [if_neg hji] at hj
            cases hj)
        rw [putK_new _ nw, List.map_append, ek, List.take_add_one, ez, List.map_append]
        rfl
      · rw [valV_put]
        by_cases hji : j = i
        · subst hji
          rw [ez] at hy
          cases hy
          rw [if_pos rfl]
        · have : y ≠ z := fun e2 => by
            subst e2
            exact hji ((List.getElem?_inj (List.getElem?_eq_some_iff.mp hy).1 nd).mp (hy.trans ez.symm))
          rw [if_neg (fun e2 => this (Sum.inr.inj e2))]
          exact hk j y (by omega) hy
  · obtain ⟨gr, kvs, e, el, ek, hk⟩ := hp
    refine q D H' kvs (fresh_none n) gr e (fun z hz => ?_) (by rw [ek, List.length_map, List.take_length])
    have h1 := List.idxOf_lt_length_of_mem hz
    exact hk _ z (by rw [List.length_map]; exact h1) (by rw [List.getElem?_eq_getElem h1, List.getElem_idxOf h1])
end

/-! ### whole numbers -/
section
variable {P : Program} {w : World} {K : PySem.W.Frag} {mg : Str → Option Value} {base : Heap}
def spWhole (K : PySem.W.Frag) : Sp := fun vs H Q _ => ∃ i k : Int, vs = [.int i, .int k] ∧ Q (.bl (decide (k ≤ i))) H
theorem ok_is_whole {f c : Addr} {fd : FuncData} (B : Nb mg) (D : DefIs K "is_whole" "is_whole" st_is_whole f fd (.ref c)) : FnG P w K mg base CX0 1 f fd ["thing", "least"] (spWhole K) := by
  refine D.ok0 (k := 0) sc_is_whole (fun vs H Q E h => ?_) (fun A outer s H vs Q E g hr h => ?_)
  · obtain ⟨i, k, rfl, _⟩ := h
    rfl
  obtain ⟨i, k, rfl, q⟩ := h
  refine ⟨_,
      (pss_one (ps_ret (pe_and (pe_cmpR (op_isTyB) (pe_callTy call_type1 rfl B.n_type (by decide +kernel) (pa_cons (pv 0) pa_nil)) (pe_bltn (v := .ty "int") rfl B.n_int (by decide +kernel) rfl) (nomark _)) (pe_one (pe_cmpR (op_ge) (pv 0) (pv 1) (nomark _)))))), ?_⟩
  exact ⟨.int i, rfl, _, "int", rfl, .int i, "int", "int", rfl, rfl, _, rfl, iteT ⟨.int i, rfl, .int k, rfl, _, _, rfl, rfl, q⟩⟩
def spSpot (K : PySem.W.Frag) : Sp := fun vs H Q _ => ∃ i r : Int, vs = [.int i, .int r] ∧ Q (.bl (decide (0 ≤ i ∧ i ≤ r))) H
theorem ok_is_spot {f c : Addr} {fd : FuncData} (B : Nb mg) (D : DefIs K "is_spot" "is_spot" st_is_spot f fd (.ref c))
    (c_is_whole : Callee P w K mg base CX0 1 "is_whole" ["thing", "least"] (spWhole K)) : FnG P w K mg base CX0 2 f fd ["thing", "roads"] (spSpot K) := by
  refine D.ok0 (k := 1) sc_is_spot (fun vs H Q E h => ?_) (fun A outer s H vs Q E g hr h => ?_)
  · obtain ⟨i, k, rfl, _⟩ := h
    rfl
  obtain ⟨i, k, rfl, q⟩ := h
  refine ⟨_,
      (pss_one (ps_ret (pe_and (pe_g c_is_whole g (hr.mono (by decide)) pass0 (pa_cons (pv 0) (pa_cons pe_int pa_nil))) (pe_one (pe_cmpR (op_le) (pv 0) (pv 1) (nomark _)))))), ?_⟩
  refine ⟨.int i, rfl, i, 0, rfl, _, rfl, ?_⟩
  by_cases h0 : 0 ≤ i
  · rw [decide_eq_true h0]
    rw [show decide (0 ≤ i ∧ i ≤ k) = decide (i ≤ k) from decide_eq_decide.mpr ⟨fun h => h.2, fun h => ⟨h0, h⟩⟩] at q
    exact iteT ⟨.int i, rfl, .int k, rfl, _, _, rfl, rfl, q⟩
  · rw [decide_eq_false h0]
    rw [show decide (0 ≤ i ∧ i ≤ k) = false from decide_eq_false fun h => h0 h.1] at q
    exact iteF q
end

/-! ### lists of lists -/
/-- lists that stand at as -/
structure LL (H : Hp) (as : List Addr) (rs : List (List V)) : Prop where
  len : as.length = rs.length
  at_ : ∀ (i : Nat) (a : Addr) (r : List V), as[i]? = some a → rs[i]? = some r → H a = some (.lst r)
theorem LL.grow {ex : List Addr} {H H' : Hp} {as : List Addr} {rs : List (List V)} (h : LL H as rs) (g : Grow ex H H') (n : ∀ a ∈ as, a ∉ ex) : LL H' as rs :=
  ⟨h.len, fun i a r e q => g.lst (n a (List.mem_of_getElem? e)) (h.at_ i a r e q)⟩
theorem LL.grow0 {H H' : Hp} {as : List Addr} {rs : List (List V)} (h : LL H as rs) (g : Grow [] H H') : LL H' as rs := h.grow g fun _ _ => by simp
theorem LL.set {H : Hp} {as : List Addr} {rs : List (List V)} {j : Nat} {a : Addr} {r : List V} (h : LL H as rs) (nd : as.Nodup) (e : as[j]? = some a) : LL (upd H a (.lst r)) as (rs.set j r) := by
  refine ⟨by rw [List.length_set]; exact h.len, fun i b q e1 e2 => ?_⟩
  rw [List.getElem?_set] at e2
  by_cases hij : j = i
  · subst hij
    rw [e] at e1
    cases e1
    rw [if_pos rfl] at e2
    split at e2
    · cases e2
      exact upd_same
    · cases e2
  · rw [if_neg hij] at e2
    have ne : b ≠ a := fun z => hij ((List.getElem?_inj (List.getElem?_eq_some_iff.mp e).1 nd).mp (by rw [e, e1, z]))
    rw [upd_ne ne]
    exact h.at_ i b q e1 e2
theorem LL.push {H : Hp} {as : List Addr} {rs : List (List V)} {a : Addr} {r : List V} (h : LL H as rs) (e : H a = some (.lst r)) : LL H (as ++ [a]) (rs ++ [r]) := by
  refine ⟨by rw [List.length_append, List.length_append, h.len]; rfl, fun i b q e1 e2 => ?_⟩
  by_cases hi : i < as.length
  · rw [List.getElem?_append_left hi] at e1
    rw [List.getElem?_append_left (by rw [← h.len]; exact hi)] at e2
    exact h.at_ i b q e1 e2
  · rw [List.getElem?_append_right (by omega)] at e1
    rw [List.getElem?_append_right (by rw [← h.len]; omega), ← h.len] at e2
    have hz : i - as.length = 0 := by
      have := (List.getElem?_eq_some_iff.mp e1).1
      rw [List.length_singleton] at this
      omega
    rw [hz] at e1 e2
    cases e1
    cases e2
    exact e
theorem LL.dp {K : PySem.W.Frag} {H : Hp} : ∀ {as : List Addr} {rs : List (List Str)}, LL H as (rs.map fun r => r.map V.str) → DpAll K H (as.map V.ref) (rs.map fun r => PyData.list (r.map PyData.str))
  | [], [], _ => .nil
  | [], _ :: _, h => by have := h.len; simp at this
  | _ :: _, [], h => by have := h.len; simp at this
  | a :: as, r :: rs, h => .cons (dp_book (.inl (.inl (h.at_ 0 a _ rfl rfl)))) (LL.dp ⟨Nat.succ.inj h.len, fun i b q e1 e2 => h.at_ (i + 1) b q e1 e2⟩)

end Lw

namespace Lw
open PySem PySem.Spec PyProof.Rows L2 GxR Gx
/-! ### heaps, books of both sorts -/
section
/-- how many numbers of a row are no less than t -/
def cnt (t : Nat) (row : List Nat) : Nat := (row.filter fun n => decide (t ≤ n)).length
theorem cnt_le (t : Nat) (row : List Nat) : cnt t row ≤ row.length := List.length_filter_le _ _
theorem cnt_iff (t : Nat) : ∀ {row : List Nat} {j x : Nat}, row.Pairwise (fun a b => b ≤ a) → row[j]? = some x → (j < cnt t row ↔ t ≤ x)
  | [], j, x, _, h => by cases h
  | y :: r, 0, x, _, h => by
    cases h
    unfold cnt
    by_cases hy : t ≤ y
    · rw [List.filter_cons_of_pos (p := fun n => decide (t ≤ n)) (decide_eq_true hy)]
      exact ⟨fun _ => hy, fun _ => Nat.succ_pos _⟩
    · rw [List.filter_cons_of_neg (p := fun n => decide (t ≤ n)) (by simpa using hy)]
      rename_i pw
      have : r.filter (fun n => decide (t ≤ n)) = [] := List.filter_eq_nil_iff.mpr fun z hz => by
        have := (List.pairwise_cons.mp pw).1 z hz
        simp
        omega
      rw [this]
      exact ⟨fun h => (by cases h), fun h => absurd h hy⟩
  | y :: r, j + 1, x, pw, h => by
    have h : r[j]? = some x := h
    have pc := List.pairwise_cons.mp pw
    have ih := cnt_iff t pc.2 h
    unfold cnt at ih ⊢
    by_cases hy : t ≤ y
    · rw [List.filter_cons_of_pos (p := fun n => decide (t ≤ n)) (decide_eq_true hy), List.length_cons, ← ih]
      omega
    · have hx := pc.1 x (List.mem_of_getElem? h)
      rw [List.filter_cons_of_neg (p := fun n => decide (t ≤ n)) (by simpa using hy)]
      have : r.filter (fun n => decide (t ≤ n)) = [] := List.filter_eq_nil_iff.mpr fun z hz => by
        have := pc.1 z hz
        simp
        omega
      rw [this]
      constructor
      · intro h
        cases h
      · intro h
        omega
/-- a heap: m rows of w numbers no greater than h, that don't rise in a row and don't fall down the rows -/
structure HeapOk (m w h : Nat) (hp : List (List Nat)) : Prop where
  len : hp.length = m
  wide : ∀ row ∈ hp, row.length = w
  top : ∀ row ∈ hp, ∀ n ∈ row, n ≤ h
  fall : ∀ row ∈ hp, row.Pairwise fun a b => b ≤ a
  up : hp.Pairwise fun r s => ∀ (k x y : Nat), r[k]? = some x → s[k]? = some y → x ≤ y
theorem cnt_up {t : Nat} {r s : List Nat} (pr : r.Pairwise fun a b => b ≤ a) (ps : s.Pairwise fun a b => b ≤ a) (len : r.length = s.length) (h : ∀ (k x y : Nat), r[k]? = some x → s[k]? = some y → x ≤ y) : cnt t r ≤ cnt t s := by
  by_cases h0 : cnt t r = 0
  · omega
  · have lr := cnt_le t r
    obtain ⟨x, hx⟩ : ∃ x, r[cnt t r - 1]? = some x := ⟨_, List.getElem?_eq_getElem (by omega)⟩
    obtain ⟨y, hy⟩ : ∃ y, s[cnt t r - 1]? = some y := ⟨_, List.getElem?_eq_getElem (by omega)⟩
    have h1 := (cnt_iff t pr hx).mp (by omega)
    have h2 := (cnt_iff t ps hy).mpr (Nat.le_trans h1 (h _ _ _ hx hy))
    omega
theorem cnt_anti {t u : Nat} (h : t ≤ u) (row : List Nat) : cnt u row ≤ cnt t row := by
  unfold cnt
  induction row with
  | nil => exact Nat.le_refl _
  | cons a r ih =>
    by_cases h1 : u ≤ a
    · rw [List.filter_cons_of_pos (p := fun n => decide (u ≤ n)) (decide_eq_true h1), List.filter_cons_of_pos (p := fun n => decide (t ≤ n)) (decide_eq_true (Nat.le_trans h h1)), List.length_cons, List.length_cons]
      omega
    · rw [List.filter_cons_of_neg (p := fun n => decide (u ≤ n)) (by simpa using h1)]
      by_cases h2 : t ≤ a
      · rw [List.filter_cons_of_pos (p := fun n => decide (t ≤ n)) (decide_eq_true h2), List.length_cons]
        omega
      · rw [List.filter_cons_of_neg (p := fun n => decide (t ≤ n)) (by simpa using h2)]
        exact ih
theorem rows_from (h a : Nat) : ((List.range h).filter fun p => decide (a ≤ p)).length = h - a := by
  induction h with
  | zero => simp
  | succ n ih =>
    rw [List.range_succ, List.filter_append, List.length_append, ih]
    by_cases e : a ≤ n
    · rw [List.filter_cons_of_pos (p := fun p => decide (a ≤ p)) (decide_eq_true e)]
      simp
      omega
    · rw [List.filter_cons_of_neg (p := fun p => decide (a ≤ p)) (by simpa using e)]
      simp
      omega
/-- both sorts mixed: so many of the others ahead of each of the ones -/
def mix (others : List Str) : List Str → List Nat → Nat → List Str
  | o :: os, c :: cs, ahead => (others.drop ahead).take (c - ahead) ++ o :: mix others os cs c
  | _, _, ahead => others.drop ahead
/-- numbers that rise, from a to w -/
def Up (w : Nat) : List Nat → Nat → Prop
  | [], a => a ≤ w
  | c :: cs, a => a ≤ c ∧ Up w cs c
theorem Up.le {w : Nat} : ∀ {cs : List Nat} {a : Nat}, Up w cs a → a ≤ w
  | [], _, h => h
  | _ :: _, _, h => Nat.le_trans h.1 (Up.le h.2)
theorem Up.mem {w : Nat} : ∀ {cs : List Nat} {a c : Nat}, Up w cs a → c ∈ cs → a ≤ c ∧ c ≤ w
  | d :: cs, a, c, h, hc => by
    rcases List.mem_cons.mp hc with rfl | hc
    · exact ⟨h.1, Up.le h.2⟩
    · have := Up.mem h.2 hc
      have := h.1
      omega
theorem up_of {w : Nat} : ∀ {cs : List Nat} {a : Nat}, a ≤ w → (∀ c ∈ cs, a ≤ c ∧ c ≤ w) → cs.Pairwise (fun x y => x ≤ y) → Up w cs a
  | [], _, h, _, _ => h
  | c :: cs, a, h, hc, pw => ⟨(hc c List.mem_cons_self).1, up_of (hc c List.mem_cons_self).2 (fun d hd => ⟨(List.pairwise_cons.mp pw).1 d hd, (hc d (List.mem_cons_of_mem _ hd)).2⟩) (List.pairwise_cons.mp pw).2⟩
theorem mix_len {others : List Str} : ∀ {os : List Str} {cs : List Nat} {a : Nat}, os.length = cs.length → Up others.length cs a → (mix others os cs a).length = os.length + (others.length - a)
  | [], [], a, _, h => by simp [mix]
  | o :: os, c :: cs, a, l, h => by
    have l : os.length = cs.length := Nat.succ.inj l
    have ih := mix_len l h.2
    have h1 := h.1
    have h2 := Up.le h.2
    rw [mix, List.length_append, List.length_take, List.length_drop, List.length_cons, ih, List.length_cons]
    omega
theorem mix_ones {others ones : List Str} (dis : ∀ x ∈ others, x ∉ ones) : ∀ {os : List Str} {cs : List Nat} {a : Nat}, os.length = cs.length → (∀ o ∈ os, o ∈ ones) → (mix others os cs a).filter (fun x => decide (x ∈ ones)) = os
  | [], [], a, _, _ => List.filter_eq_nil_iff.mpr fun x hx => by simpa using dis x (List.mem_of_mem_drop hx)
  | o :: os, c :: cs, a, l, h => by
    have l : os.length = cs.length := Nat.succ.inj l
    have e : ((others.drop a).take (c - a)).filter (fun x => decide (x ∈ ones)) = [] := List.filter_eq_nil_iff.mpr fun x hx => by simpa using dis x (List.mem_of_mem_drop (List.mem_of_mem_take hx))
    rw [mix, List.filter_append, e, List.filter_cons_of_pos (by simpa using h o List.mem_cons_self), mix_ones dis l fun x hx => h x (List.mem_cons_of_mem _ hx)]
    rfl
theorem drop_parts {others : List Str} {a c : Nat} (h : a ≤ c) : others.drop a = (others.drop a).take (c - a) ++ others.drop c := by
  conv => lhs; rw [← List.take_append_drop (c - a) (others.drop a)]
  rw [List.drop_drop, show a + (c - a) = c by omega]
theorem mix_others {others : List Str} : ∀ {os : List Str} {cs : List Nat} {a : Nat}, os.length = cs.length → (∀ o ∈ os, o ∉ others) → Up others.length cs a → (mix others os cs a).filter (fun x => decide (x ∈ others)) = others.drop a
  | [], [], a, _, _, _ => List.filter_eq_self.mpr fun x hx => by simpa using List.mem_of_mem_drop hx
  | o :: os, c :: cs, a, l, h, u => by
    have l : os.length = cs.length := Nat.succ.inj l
    have e : ((others.drop a).take (c - a)).filter (fun x => decide (x ∈ others)) = (others.drop a).take (c - a) := List.filter_eq_self.mpr fun x hx => by simpa using List.mem_of_mem_drop (List.mem_of_mem_take hx)
    rw [mix, List.filter_append, e, List.filter_cons_of_neg (by simpa using h o List.mem_cons_self), mix_others l (fun x hx => h x (List.mem_cons_of_mem _ hx)) u.2, ← drop_parts u.1]
theorem mix_mem {others : List Str} : ∀ {os : List Str} {cs : List Nat} {a : Nat} {x : Str}, x ∈ mix others os cs a → x ∈ others ∨ x ∈ os
  | [], [], a, x, h => .inl (List.mem_of_mem_drop h)
  | [], _ :: _, a, x, h => .inl (List.mem_of_mem_drop h)
  | _ :: _, [], a, x, h => .inl (List.mem_of_mem_drop h)
  | o :: os, c :: cs, a, x, h => by
    rw [mix] at h
    rcases List.mem_append.mp h with h | h
    · exact .inl (List.mem_of_mem_drop (List.mem_of_mem_take h))
    · rcases List.mem_cons.mp h with rfl | h
      · exact .inr List.mem_cons_self
      · exact (mix_mem h).imp id (List.mem_cons_of_mem _)
/-- how many of the others stand ahead of each of the ones -/
def cIn (ones : List Str) : List Str → Nat → List Nat
  | [], _ => []
  | x :: r, n => if x ∈ ones then n :: cIn ones r n else cIn ones r (n + 1)
theorem cIn_skip {ones : List Str} : ∀ {xs ys : List Str} {n : Nat}, (∀ x ∈ xs, x ∉ ones) → cIn ones (xs ++ ys) n = cIn ones ys (n + xs.length)
  | [], ys, n, _ => rfl
  | x :: xs, ys, n, h => by
    show (if x ∈ ones then n :: cIn ones (xs ++ ys) n else cIn ones (xs ++ ys) (n + 1)) = _
    rw [if_neg (h x List.mem_cons_self), cIn_skip fun z hz => h z (List.mem_cons_of_mem _ hz), List.length_cons, show n + 1 + xs.length = n + (xs.length + 1) by omega]
theorem cIn_mix {others ones : List Str} (dis : ∀ x ∈ others, x ∉ ones) : ∀ {os : List Str} {cs : List Nat} {a : Nat}, os.length = cs.length → (∀ o ∈ os, o ∈ ones) → Up others.length cs a → cIn ones (mix others os cs a) a = cs
  | [], [], a, _, _, _ => by
    have := cIn_skip (ones := ones) (xs := others.drop a) (ys := []) (n := a) fun x hx => dis x (List.mem_of_mem_drop hx)
    rw [List.append_nil] at this
    show cIn ones (others.drop a) a = []
    rw [this]
    rfl
  | o :: os, c :: cs, a, l, h, u => by
    have l : os.length = cs.length := Nat.succ.inj l
    have h2 := Up.le u.2
    have h1 := u.1
    rw [mix, cIn_skip fun x hx => dis x (List.mem_of_mem_drop (List.mem_of_mem_take hx)), List.length_take, List.length_drop, show a + min (c - a) (others.length - a) = c by omega]
    show (if o ∈ ones then _ else _) = _
    rw [if_pos (h o List.mem_cons_self), cIn_mix dis l (fun x hx => h x (List.mem_cons_of_mem _ hx)) u.2]
/-- one more of the ones -/
theorem mix_snoc {others : List Str} {o : Str} {c : Nat} (hc : c ≤ others.length) : ∀ {os : List Str} {cs : List Nat} {a : Nat}, os.length = cs.length → Up others.length cs a → (∀ d ∈ cs, d ≤ c) → a ≤ c →
    mix others (os ++ [o]) (cs ++ [c]) a = (mix others os cs a).take (os.length + (c - a)) ++ [o] ++ (mix others os cs a).drop (os.length + (c - a))
  | [], [], a, _, _, _, hac => by
    show (others.drop a).take (c - a) ++ o :: others.drop c = (others.drop a).take (0 + (c - a)) ++ [o] ++ (others.drop a).drop (0 + (c - a))
    rw [Nat.zero_add, List.drop_drop, show a + (c - a) = c by omega, List.append_assoc]
    rfl
  | p :: os, d :: cs, a, l, u, hd, hac => by
    have l : os.length = cs.length := Nat.succ.inj l
    have h1 := u.1
    have h2 := Up.le u.2
    have h3 := hd d List.mem_cons_self
    have ih := mix_snoc hc (o := o) l u.2 (fun x hx => hd x (List.mem_cons_of_mem _ hx)) h3
    have lt : ((others.drop a).take (d - a)).length = d - a := by
      rw [List.length_take, List.length_drop]
      omega
    show (others.drop a).take (d - a) ++ p :: mix others (os ++ [o]) (cs ++ [c]) d = _
    rw [ih, mix, List.length_cons, show os.length + 1 + (c - a) = (d - a) + (1 + (os.length + (c - d))) by omega, List.take_append, List.drop_append, lt, List.take_of_length_le (l := (others.drop a).take (d - a)) (by rw [lt]; omega), List.drop_of_length_le (l := (others.drop a).take (d - a)) (by rw [lt]; omega),
      show d - a + (1 + (os.length + (c - d))) - (d - a) = (os.length + (c - d)) + 1 by omega, List.take_succ_cons, List.drop_succ_cons]
    simp
theorem idx_cons_ne {x y : Str} {l : List Str} (h : x ≠ y) : (x :: l).idxOf y = l.idxOf y + 1 := by
  rw [List.idxOf_cons, show (x == y) = false from beq_eq_false_iff_ne.mpr h]
  rfl
theorem mix_at {others : List Str} : ∀ {os : List Str} {cs : List Nat} {a : Nat} {k j : Nat} {o b : Str} {c : Nat}, os.length = cs.length → Up others.length cs a → (os ++ others).Nodup → os[k]? = some o → cs[k]? = some c → others[j]? = some b → a ≤ j →
    ((mix others os cs a).idxOf b < (mix others os cs a).idxOf o ↔ j < c)
  | [], [], a, k, j, o, b, c, _, _, _, h, _, _, _ => by cases h
  | p :: os, d :: cs, a, k, j, o, b, c, l, u, nd, ho, hc, hb, haj => by
    have l : os.length = cs.length := Nat.succ.inj l
    have h1 := u.1
    have h2 := Up.le u.2
    have nd0 := nd
    rw [List.cons_append, List.nodup_cons] at nd
    have ndo : others.Nodup := (List.nodup_append.mp nd.2).2.1
    have pn : p ∉ others := fun z => nd.1 (List.mem_append_right _ z)
    have bm : b ∈ others := List.mem_of_getElem? hb
    have bp : b ≠ p := fun z => pn (z ▸ bm)
    have ltk : ((others.drop a).take (d - a)).length = d - a := by
      rw [List.length_take, List.length_drop]
      omega
    have pA : p ∉ (others.drop a).take (d - a) := fun z => pn (List.mem_of_mem_drop (List.mem_of_mem_take z))
    have ip : (mix others (p :: os) (d :: cs) a).idxOf p = d - a := by
      rw [mix, List.idxOf_append, if_neg pA, ltk, List.idxOf_cons_self, Nat.zero_add]
    have bA : j < d → (mix others (p :: os) (d :: cs) a).idxOf b < d - a := fun hj => by
      have hm : b ∈ (others.drop a).take (d - a) := by
        refine List.mem_of_getElem? (i := j - a) ?_
        rw [List.getElem?_take_of_lt (by omega), List.getElem?_drop, show a + (j - a) = j by omega]
        exact hb
      rw [mix, List.idxOf_append, if_pos hm]
      exact Nat.lt_of_lt_of_eq (List.idxOf_lt_length_of_mem hm) ltk
    have bB : d ≤ j → (mix others (p :: os) (d :: cs) a).idxOf b = (d - a) + 1 + (mix others os cs d).idxOf b := fun hj => by
      have hm : b ∉ (others.drop a).take (d - a) := fun z => by
        obtain ⟨i, hi⟩ := List.mem_iff_getElem?.mp z
        have li : i < d - a := by
          have := (List.getElem?_eq_some_iff.mp hi).1
          rwa [ltk] at this
        rw [List.getElem?_take_of_lt li, List.getElem?_drop] at hi
        have := (List.getElem?_inj (List.getElem?_eq_some_iff.mp hi).1 ndo).mp (hi.trans hb.symm)
        omega
      rw [mix, List.idxOf_append, if_neg hm, ltk, idx_cons_ne (Ne.symm bp)]
      omega
    cases k with
    | zero =>
      cases ho
      cases hc
      rw [ip]
      constructor
      · intro h
        by_cases hj : j < d
        · exact hj
        · have := bB (by omega)
          omega
      · exact fun h => bA h
    | succ k =>
      have ho : os[k]? = some o := ho
      have hc : cs[k]? = some c := hc
      have om : o ∈ os := List.mem_of_getElem? ho
      have op : o ≠ p := fun z => nd.1 (z ▸ List.mem_append_left _ om)
      have oA : o ∉ (others.drop a).take (d - a) := fun z => (List.nodup_append.mp nd.2).2.2 o om o (List.mem_of_mem_drop (List.mem_of_mem_take z)) rfl
      have io : (mix others (p :: os) (d :: cs) a).idxOf o = (d - a) + 1 + (mix others os cs d).idxOf o := by
        rw [mix, List.idxOf_append, if_neg oA, ltk, idx_cons_ne (Ne.symm op)]
        omega
      have dc := (Up.mem u.2 (List.mem_of_getElem? hc)).1
      by_cases hj : j < d
      · have := bA hj
        rw [io]
        exact ⟨fun _ => by omega, fun _ => by omega⟩
      · rw [io, bB (by omega)]
        have ih := mix_at l u.2 nd.2 ho hc hb (by omega)
        rw [← ih]
        omega
end

end Lw

namespace Lw
open PySem PySem.Spec PyProof.Rows L2 GxR Gx
/-! ### what is handed in -/
def intsN (r : List Nat) : List V := r.map fun n => V.int (n : Nat)
section
variable {P : Program} {w : World} {K : PySem.W.Frag} {mg : Str → Option Value} {base : Heap}
def spSorts (K : PySem.W.Frag) (T1 T : Addr) : Sp := fun vs H Q _ => ∃ (l m : Addr) (zs ws : List Str), vs = [.ref l, .ref m] ∧ TabG H T1 ∧ TabG H T ∧ H l = some (.lst (zs.map V.str)) ∧ H m = some (.lst (ws.map V.str)) ∧ Bk zs ∧ Bk ws ∧ (zs ++ ws).Nodup ∧ ∀ H', Grow [] H H' → Q V.non H'
theorem ok_check_sorts {f c T1 T : Addr} {fd : FuncData} (B : Nb mg) (D : DefIs K "check_sorts" "check_sorts" st_check_sorts f fd (.ref c))
    (c_is_book : Callee P w K mg base CX0 9 "is_book" ["thing"] (spUnlike K T1 T)) : FnG P w K mg base CX0 10 f fd ["ones", "others"] (spSorts K T1 T) := by
  refine D.ok0 (k := 9) sc_check_sorts (fun vs H Q E h => ?_) (fun A outer s H vs Q E g hr h => ?_)
  · obtain ⟨l, m, zs, ws, rfl, _⟩ := h
    rfl
  obtain ⟨l, m, zs, ws, rfl, t1, tT, hl, hm, bz, bw, nd, q⟩ := h
  refine ⟨_,
      (pss_cons (ps_if (pt_not (pt_val (pe_g c_is_book g (hr.mono (by decide)) pass0 (pa_cons (pv 0) pa_nil)))) (
        (pss_one ps_dead)) pss_nil)
      (pss_cons (ps_if (pt_not (pt_val (pe_g c_is_book g (hr.mono (by decide)) pass0 (pa_cons (pv 1) pa_nil)))) (
        (pss_one ps_dead)) pss_nil)
      (pss_one (ps_if (pt_cmpR (op_lt) (pe_lenSetS rfl B.n_len rfl B.n_set hr.hd (pe_op op_cat (pv 0) (pv 1))) (pe_op op_add (pe_callB call_len_seq rfl B.n_len PySem.boot_len (pa_cons (pv 0) pa_nil)) (pe_callB call_len_seq rfl B.n_len PySem.boot_len (pa_cons (pv 1) pa_nil))) (nomark _)) (
        (pss_one ps_dead)) pss_nil)))), ?_⟩
  refine ⟨.ref l, rfl, .ref l, rfl, t1, tT, .inl ⟨l, _, rfl, .inl (.inl hl), bz.known, by rw [List.length_map]; have := bz.len; omega, fun H1 g1 => ?_⟩⟩
  rw [bz.v]
  refine ⟨true, rfl, iteF ⟨.ref m, rfl, .ref m, rfl, g1.tabs _ t1, g1.tabs _ tT, .inl ⟨m, _, rfl, .inl (.inl (g1.lst (by simp) hm)), bw.known, by rw [List.length_map]; have := bw.len; omega, fun H2 g2 => ?_⟩⟩⟩
  rw [bw.v]
  have gg := g1.trans g2
  have zl := bz.len
  have wl := bw.len
  refine ⟨true, rfl, iteF ⟨.ref l, rfl, .ref m, rfl, l, m, _, _, rfl, rfl, gg.lst (by simp) hl, gg.lst (by simp) hm, by rw [List.length_map, List.length_map]; unfold sizeLine; omega, fun p np => ?_⟩⟩
  rw [← List.map_append]
  have gN := gg.new (o := .lst ((zs ++ ws).map V.str)) np
  refine ⟨p, zs ++ ws, rfl, .inl (.inl upd_same), by rw [List.length_append]; omega, ?_⟩
  rw [uq_nodup _ _ (by rw [List.nil_append]; exact nd), List.nil_append]
  refine ⟨.ref l, rfl, l, _, rfl, .inl (.inl (.inl (gN.lst (by simp) hl))), .ref m, rfl, m, _, rfl, .inl (.inl (.inl (gN.lst (by simp) hm))), _, _, rfl, rfl, _, _, rfl, rfl, _, rfl, ite2 (fun h => absurd (of_decide_eq_true h) ?_) fun _ => q _ gN⟩
  rw [List.length_append, List.length_map, List.length_map]
  omega
def spHandsNo (K : PySem.W.Frag) : Sp := fun vs H Q _ => ∃ i : Int, vs = [.int i] ∧ 1 ≤ i ∧ Q .non H
theorem ok_check_hands {f c : Addr} {fd : FuncData} (B : Nb mg) (D : DefIs K "check_hands" "check_hands" st_check_hands f fd (.ref c))
    (c_is_whole : Callee P w K mg base CX0 1 "is_whole" ["thing", "least"] (spWhole K)) : FnG P w K mg base CX0 2 f fd ["thing"] (spHandsNo K) := by
  refine D.ok0 (k := 1) sc_check_hands (fun vs H Q E h => ?_) (fun A outer s H vs Q E g hr h => ?_)
  · obtain ⟨i, rfl, _⟩ := h
    rfl
  obtain ⟨i, rfl, i0, q⟩ := h
  refine ⟨_,
      (pss_one (ps_if (pt_not (pt_val (pe_g c_is_whole g (hr.mono (by decide)) pass0 (pa_cons (pv 0) (pa_cons pe_int pa_nil))))) (
        (pss_one ps_dead)) pss_nil)), ?_⟩
  refine ⟨.int i, rfl, i, 1, rfl, ?_⟩
  rw [decide_eq_true i0]
  exact ⟨true, rfl, iteF q⟩
def spSteps (K : PySem.W.Frag) : Sp := fun vs H Q _ => ∃ (r s : Addr) (xs ys : List Nat), vs = [.ref r, .ref s] ∧ H r = some (.lst (intsN xs)) ∧ H s = some (.lst (intsN ys)) ∧ xs.length ≤ 4000 ∧ ys.length ≤ 4000 ∧ (∀ (k x y : Nat), xs[k]? = some x → ys[k]? = some y → x ≤ y) ∧
  ∀ H', Grow [] H H' → Q (.bl true) H'
theorem ok_are_steps {f c : Addr} {fd : FuncData} (B : Nb mg) (D : DefIs K "are_steps" "are_steps" st_are_steps f fd (.ref c)) : FnG P w K mg base CX0 3 f fd ["row", "later"] (spSteps K) := by
  refine D.ok0 (k := 2) sc_are_steps (fun vs H Q E h => ?_) (fun A outer s H vs Q E g hr h => ?_)
  · obtain ⟨r, t, xs, ys, rfl, _⟩ := h
    rfl
  obtain ⟨r, t, xs, ys, rfl, hr1, ht1, lx, ly, le, q⟩ := h
  refine ⟨_,
      (pss_one (ps_ret (pe_callB (cr_all rfl) rfl B.n_all (by decide +kernel) (pa_cons (pe_lc (own := [("one", 2), ("other", 3)]) (tt := tYes) (g := (gTup _ 2 (gCons (gName 2) (gCons (gName 3) gNil)))) rfl sc_are_steps.nd (pi_zip rfl B.n_zip (pa_cons (pv 0) (pa_cons (pv 1) pa_nil))) (blkOk_by (N := N_are_steps) (sc := defScope st_are_steps) (by decide +kernel)) (fun _ _ _ _ _ => (pg_tup rfl (pgs_cons (pg_name (i := 2) sc_are_steps.nd rfl (.inl rfl)) (pgs_cons (pg_name (i := 3) sc_are_steps.nd rfl (.inl rfl)) pgs_nil)))) (fun _ _ _ _ _ => pts_nil) (fun _ _ _ _ _ => pe_to (pe_cmpR (op_le) (pv 2) (pv 3) (nomark _)))) pa_nil)))), ?_⟩
  have lz : (xs.zip ys).length ≤ 4000 := by rw [List.length_zip]; omega
  refine ⟨.ref r, rfl, .ref t, rfl, r, t, _, _, rfl, .inl (.inl hr1), .inl (.inl ht1), fun D1 n1 => ?_⟩
  refine lc_it (walk_zip (xs := intsN xs) (ys := intsN ys) (n := (xs.zip ys).length) (by unfold intsN; rw [List.length_map, List.length_map, List.length_zip])) (fun j H' => Grow [] H H' ∧ H' D1 = some (.lst ((List.replicate j true).map V.bl)))
    ⟨grow_new n1, upd_same⟩ (fun j H' _ h => ⟨.inl (.inl (h.1.lst (by simp) hr1)), .inl (.inl (h.1.lst (by simp) ht1))⟩) (fun j x H6 H7 hj hp hy => ?_) (fun H6 hp => ?_)
  · obtain ⟨gj, eD⟩ := hp
    obtain ⟨T0, x1, x2, rfl, nT, rfl, ea, eb⟩ := hy
    replace ea : (intsN xs)[j]? = some x1 := ea
    replace eb : (intsN ys)[j]? = some x2 := eb
    unfold intsN at ea eb
    rw [List.getElem?_map] at ea eb
    cases ha : xs[j]? with
    | none => rw [ha] at ea; cases ea
    | some a =>
    cases hbb : ys[j]? with
    | none => rw [hbb] at eb; cases eb
    | some b =>
    rw [ha] at ea
    rw [hbb] at eb
    cases ea
    cases eb
    have gj2 := gj.new (o := .tup [.int (a : Nat), .int (b : Nat)]) nT
    have eD2 : upd H6 T0 (.tup [.int (a : Nat), .int (b : Nat)]) D1 = some (.lst ((List.replicate j true).map V.bl)) := by rw [upd_ne (ne_of_none eD nT)]; exact eD
    have hle := le j a b ha hbb
    refine ⟨T0, _, rfl, .inl (.inl upd_same), rfl, _, _, rfl, _, _, rfl, rfl, rfl, yes_if ⟨_, rfl, _, rfl, _, _, rfl, rfl, ?_⟩⟩
    dsimp only
    rw [decide_eq_true (by omega : (a : Int) ≤ (b : Int))]
    refine ⟨_, eD2, ?_, gj2.put (fresh_none n1) eD2 (fun ps z => by cases z), ?_⟩
    · rw [List.length_map, List.length_replicate]
      unfold sizeLine
      omega
    · rw [upd_same, List.replicate_succ', List.map_append]
      rfl
  · obtain ⟨gj, eD⟩ := hp
    dsimp only [tNil]
    refine ⟨D1, _, rfl, .inl (.inl eD), ?_⟩
    rw [show (List.replicate (xs.zip ys).length true).all id = true by rw [List.all_replicate]; simp]
    exact q H6 gj
end

/-! ### counting; a book by counts -/
section
variable {P : Program} {w : World} {K : PySem.W.Frag} {mg : Str → Option Value} {base : Heap}
/-- a list of lists -/
def LLat (H : Hp) (a : Addr) (rs : List (List V)) : Prop := ∃ as : List Addr, H a = some (.lst (as.map V.ref)) ∧ LL H as rs
theorem LLat.grow0 {H H' : Hp} {a : Addr} {rs : List (List V)} (h : LLat H a rs) (g : Grow [] H H') : LLat H' a rs := by
  obtain ⟨as, e, l⟩ := h
  exact ⟨as, g.lst (by simp) e, l.grow0 g⟩
def spCountsBy (K : PySem.W.Frag) : Sp := fun vs H Q _ => ∃ (a : Addr) (hp : List (List Nat)) (t : Nat), vs = [.ref a, .int (t : Nat)] ∧ LLat H a (hp.map intsN) ∧ hp.length ≤ 4000 ∧ (∀ r ∈ hp, r.length ≤ 4000) ∧
  ∀ D H', Fresh H D → Grow [] H H' → H' D = some (.lst (intsN (hp.map (cnt t)))) → Q (.ref D) H'
theorem ok_counts_by {f c : Addr} {fd : FuncData} (B : Nb mg) (D : DefIs K "counts_by" "counts_by" st_counts_by f fd (.ref c)) : FnG P w K mg base CX0 3 f fd ["heap", "least"] (spCountsBy K) := by
  refine D.ok0 (k := 2) sc_counts_by (fun vs H Q E h => ?_) (fun A outer s H vs Q E g hr h => ?_)
  · obtain ⟨a, hp, t, rfl, _⟩ := h
    rfl
  obtain ⟨a, hp, t, rfl, ⟨as, ea, ll⟩, lh, lr, q⟩ := h
  refine ⟨_,
      (pss_one (ps_ret (pe_lc (own := [("row", 2)]) (tt := tYes) (g := (gName 2)) rfl sc_counts_by.nd (pi_list (pv 0)) (blkOk_by (N := N_counts_by) (sc := defScope st_counts_by) (by decide +kernel)) (fun _ _ _ _ _ => (pg_name (i := 2) sc_counts_by.nd rfl (.inl rfl))) (fun _ _ _ _ _ => pts_nil) (fun _ _ _ _ _ => pe_to (pe_callB call_len_seq rfl B.n_len PySem.boot_len (pa_cons (pe_lc (own := [("number", 3)]) (g := (gName 3)) rfl sc_counts_by.nd (pi_list (pv 2)) (blkOk_by (N := N_counts_by) (sc := { kind := ScopeKind.function, names := [(".0", NameKind.local), ("row", NameKind.local), ("len", NameKind.globalImplicit), ("least", NameKind.cell)], isGenerator := false, isCoroutine := false }) (by decide +kernel)) (fun _ _ _ _ _ => (pg_name (i := 3) sc_counts_by.nd rfl (.inl rfl))) (fun _ _ _ _ _ => pts_to (pts_one (pt_cmpR (op_ge) (pv 3) (pv 1) (nomark _)))) (fun _ _ _ _ _ => pe_to (pv 3))) pa_nil)))))), ?_⟩
  have la : as.length = hp.length := by have := ll.len; rwa [List.length_map] at this
  refine ⟨.ref a, rfl, a, rfl, ⟨_, .inl (.inl ea)⟩, fun D1 n1 => ?_⟩
  refine lc_it (walk_list (xs := as.map V.ref)) (fun j H' => Grow [] H H' ∧ H' D1 = some (.lst (intsN ((hp.take j).map (cnt t))))) ⟨grow_new n1, upd_same⟩
    (fun j H' _ h => .inl (.inl (h.1.lst (by simp) ea))) (fun j x H6 H7 hj hp6 hy => ?_) (fun H6 hp6 => ?_)
  · obtain ⟨gj, eD⟩ := hp6
    obtain ⟨rfl, ex⟩ := hy
    rw [List.getElem?_map] at ex
    cases e1 : as[j]? with
    | none => rw [e1] at ex; cases ex
    | some b =>
      rw [e1] at ex
      cases ex
      have hja := (List.getElem?_eq_some_iff.mp e1).1
      obtain ⟨row, er⟩ : ∃ row, hp[j]? = some row := ⟨_, List.getElem?_eq_getElem (by omega)⟩
      have eb := (ll.grow0 gj).at_ j b (intsN row) e1 (by rw [List.getElem?_map, er]; rfl)
      have lrow := lr row (List.mem_of_getElem? er)
      refine ⟨rfl, yes_if ⟨.ref b, rfl, b, rfl, ⟨_, .inl (.inl eb)⟩, fun D2 n2 => ?_⟩⟩
      refine lc_it (walk_list (xs := intsN row)) (fun i H' => Grow [] H7 H' ∧ H' D2 = some (.lst (intsN ((row.take i).filter fun n => decide (t ≤ n))))) ⟨grow_new n2, upd_same⟩
        (fun i H' _ h => .inl (.inl (h.1.lst (by simp) eb))) (fun i x H8 H9 hi hp8 hy => ?_) (fun H8 hp8 => ?_)
      · obtain ⟨gi, eD2⟩ := hp8
        obtain ⟨rfl, ex⟩ := hy
        unfold intsN at ex
        rw [List.getElem?_map] at ex
        cases en : row[i]? with
        | none => rw [en] at ex; cases ex
        | some n =>
          rw [en] at ex
          cases ex
          have tk : row.take (i + 1) = row.take i ++ [n] := by rw [List.take_add_one, en]; rfl
          refine ⟨rfl, .int (n : Nat), rfl, .int (t : Nat), rfl, _, _, rfl, rfl, _, rfl, ite2 (fun hlt => ?_) fun hlt => ?_⟩
          · have lt : t ≤ n := by have := of_decide_eq_true hlt; omega
            refine ⟨.int (n : Nat), rfl, _, eD2, ?_, gi.put (fresh_none n2) eD2 (fun ps z => by cases z), ?_⟩
            · unfold intsN
              rw [List.length_map]
              have := List.length_filter_le (fun n => decide (t ≤ n)) (row.take i)
              rw [List.length_take] at this
              unfold sizeLine
              omega
            · rw [upd_same, tk, List.filter_append, List.filter_cons_of_pos (p := fun n => decide (t ≤ n)) (decide_eq_true lt)]
              unfold intsN
              rw [List.map_append]
              rfl
          · have lt : ¬ t ≤ n := fun z => hlt (decide_eq_true (by omega))
            refine ⟨gi, ?_⟩
            rw [tk, List.filter_append, List.filter_cons_of_neg (p := fun n => decide (t ≤ n)) (by simpa using lt), List.filter_nil, List.append_nil]
            exact eD2
      · obtain ⟨gi, eD2⟩ := hp8
        rw [show (intsN row).length = row.length by unfold intsN; rw [List.length_map], List.take_length] at eD2
        have eD8 := gi.lst (by simp) eD
        refine ⟨D2, _, rfl, .inl (.inl (.inl eD2)), _, eD8, ?_, (gj.trans gi).put (fresh_none n1) eD8 (fun ps z => by cases z), ?_⟩
        · unfold intsN
          rw [List.length_map, List.length_map, List.length_take]
          unfold sizeLine
          omega
        · rw [upd_same, List.take_add_one, er]
          unfold intsN
          rw [List.map_append, List.map_append, List.length_map]
          rfl
  · obtain ⟨gj, eD⟩ := hp6
    rw [List.length_map, la, List.take_length] at eD
    exact q D1 H6 (fresh_none n1) gj eD
def spRowsAbove (K : PySem.W.Frag) : Sp := fun vs H Q _ => ∃ (a : Addr) (rs : List (List Nat)) (k j : Nat), vs = [.ref a, .int (k : Nat), .int (j : Nat)] ∧ LLat H a (rs.map intsN) ∧ rs.length ≤ 4000 ∧ (∀ r ∈ rs, k < r.length) ∧
  ∀ H', Grow [] H H' → Q (.int ((rs.filter fun r => decide (j < r.getD k 0)).length : Nat)) H'
theorem ok_rows_above {f c : Addr} {fd : FuncData} (B : Nb mg) (D : DefIs K "rows_above" "rows_above" st_rows_above f fd (.ref c)) : FnG P w K mg base CX0 3 f fd ["counts", "k", "j"] (spRowsAbove K) := by
  refine D.ok0 (k := 2) sc_rows_above (fun vs H Q E h => ?_) (fun A outer s H vs Q E g hr h => ?_)
  · obtain ⟨a, rs, k, j, rfl, _⟩ := h
    rfl
  obtain ⟨a, rs, k, j, rfl, ⟨as, ea, ll⟩, lh, lr, q⟩ := h
  refine ⟨_,
      (pss_one (ps_ret (pe_callB call_len_seq rfl B.n_len PySem.boot_len (pa_cons (pe_lc (own := [("row", 3)]) (g := (gName 3)) rfl sc_rows_above.nd (pi_list (pv 0)) (blkOk_by (N := N_rows_above) (sc := defScope st_rows_above) (by decide +kernel)) (fun _ _ _ _ _ => (pg_name (i := 3) sc_rows_above.nd rfl (.inl rfl))) (fun _ _ _ _ _ => pts_to (pts_one (pt_cmpR (op_gt) (pe_ix ix_list (pv 3) (pv 1) (fun _ _ => rfl)) (pv 2) (nomark _)))) (fun _ _ _ _ _ => pe_to (pv 3))) pa_nil)))), ?_⟩
  have la : as.length = rs.length := by have := ll.len; rwa [List.length_map] at this
  refine ⟨.ref a, rfl, a, rfl, ⟨_, .inl (.inl ea)⟩, fun D1 n1 => ?_⟩
  refine lc_it (walk_list (xs := as.map V.ref)) (fun i H' => Grow [] H H' ∧ ∃ acc, H' D1 = some (.lst acc) ∧ acc.length = ((rs.take i).filter fun r => decide (j < r.getD k 0)).length) ⟨grow_new n1, _, upd_same, rfl⟩
    (fun i H' _ h => .inl (.inl (h.1.lst (by simp) ea))) (fun i x H6 H7 hi hp6 hy => ?_) (fun H6 hp6 => ?_)
  · obtain ⟨gj, acc, eD, hacc⟩ := hp6
    obtain ⟨rfl, ex⟩ := hy
    rw [List.getElem?_map] at ex
    cases e1 : as[i]? with
    | none => rw [e1] at ex; cases ex
    | some b =>
      rw [e1] at ex
      cases ex
      have hja := (List.getElem?_eq_some_iff.mp e1).1
      obtain ⟨row, er⟩ : ∃ row, rs[i]? = some row := ⟨_, List.getElem?_eq_getElem (by omega)⟩
      have eb := (ll.grow0 gj).at_ i b (intsN row) e1 (by rw [List.getElem?_map, er]; rfl)
      have hk := lr row (List.mem_of_getElem? er)
      have tk : rs.take (i + 1) = rs.take i ++ [row] := by rw [List.take_add_one, er]; rfl
      have ek : row[k]? = some (row.getD k 0) := by rw [List.getD_eq_getElem?_getD, List.getElem?_eq_getElem hk]; rfl
      have hl2 := List.length_filter_le (fun r => decide (j < r.getD k 0)) (rs.take i)
      rw [List.length_take] at hl2
      refine ⟨rfl, .ref b, rfl, .int (k : Nat), rfl, b, _, _, .int (row.getD k 0 : Nat), rfl, rfl, .inl (.inl eb), atI_nat (by unfold intsN; rw [List.getElem?_map, ek]; rfl), .int (j : Nat), rfl, _, _, rfl, rfl, _, rfl, ite2 (fun hlt => ?_) fun hlt => ?_⟩
      · have lt : j < row.getD k 0 := by have := of_decide_eq_true hlt; omega
        refine ⟨.ref b, rfl, _, eD, by unfold sizeLine; omega, gj.put (fresh_none n1) eD (fun ps z => by cases z), _, upd_same, ?_⟩
        rw [tk, List.filter_append, List.filter_cons_of_pos (p := fun r : List Nat => decide (j < r.getD k 0)) (decide_eq_true lt), List.length_append, List.length_append, hacc]
        rfl
      · have lt : ¬ j < row.getD k 0 := fun z => hlt (decide_eq_true (by omega))
        refine ⟨gj, acc, eD, ?_⟩
        rw [tk, List.filter_append, List.filter_cons_of_neg (p := fun r : List Nat => decide (j < r.getD k 0)) (by simpa using lt), List.filter_nil, List.append_nil]
        exact hacc
  · obtain ⟨gj, acc, eD, hacc⟩ := hp6
    rw [List.length_map, la, List.take_length] at hacc
    dsimp only [tNil]
    refine ⟨D1, _, rfl, .inl (.inl (.inl eD)), ?_⟩
    rw [hacc]
    exact q H6 gj
theorem val_is {kvs : List (Key × V)} {ones : List Str} (hk : kvs.map Prod.fst = ones.map Sum.inr) (x : Str) : (valV kvs (.inr x)).isSome = decide (x ∈ ones) := by
  rw [← valV_any]
  by_cases h : x ∈ ones
  · rw [decide_eq_true h]
    have : (Sum.inr x : Key) ∈ kvs.map Prod.fst := by rw [hk]; exact List.mem_map.mpr ⟨x, h, rfl⟩
    obtain ⟨p, hp, e⟩ := List.mem_map.mp this
    exact List.any_eq_true.mpr ⟨p, hp, decide_eq_true e⟩
  · rw [decide_eq_false h]
    refine List.any_eq_false.mpr fun p hp e => ?_
    have e := of_decide_eq_true e
    have : (Sum.inr x : Key) ∈ kvs.map Prod.fst := List.mem_map.mpr ⟨p, hp, e⟩
    rw [hk] at this
    obtain ⟨y, hy, e2⟩ := List.mem_map.mp this
    cases e2
    exact h hy
theorem cIn_len {ones : List Str} : ∀ (xs : List Str) (n : Nat), (cIn ones xs n).length ≤ xs.length
  | [], _ => Nat.le_refl _
  | x :: r, n => by
    show (if x ∈ ones then n :: cIn ones r n else cIn ones r (n + 1)).length ≤ r.length + 1
    by_cases h : x ∈ ones
    · rw [if_pos h]
      exact Nat.succ_le_succ (cIn_len r n)
    · rw [if_neg h]
      exact Nat.le_succ_of_le (cIn_len r (n + 1))
theorem cIn_snoc {ones : List Str} {y : Str} : ∀ (xs : List Str) (n : Nat), cIn ones (xs ++ [y]) n = cIn ones xs n ++ (if y ∈ ones then [n + (xs.length - (cIn ones xs n).length)] else [])
  | [], n => by
    show (if y ∈ ones then n :: [] else []) = [] ++ (if y ∈ ones then [n + 0] else [])
    rw [List.nil_append, Nat.add_zero]
  | x :: r, n => by
    show (if x ∈ ones then n :: cIn ones (r ++ [y]) n else cIn ones (r ++ [y]) (n + 1)) = (if x ∈ ones then n :: cIn ones r n else cIn ones r (n + 1)) ++ (if y ∈ ones then [n + (r.length + 1 - (if x ∈ ones then n :: cIn ones r n else cIn ones r (n + 1)).length)] else [])
    by_cases h : x ∈ ones
    · rw [if_pos h, if_pos h, cIn_snoc r n, List.length_cons, Nat.add_sub_add_right]
      rfl
    · have := cIn_len (ones := ones) r (n + 1)
      rw [if_neg h, if_neg h, cIn_snoc r (n + 1), show n + 1 + (r.length - (cIn ones r (n + 1)).length) = n + (r.length + 1 - (cIn ones r (n + 1)).length) by omega]
def spCountsIn (K : PySem.W.Frag) : Sp := fun vs H Q _ => ∃ (b F : Addr) (bs ones : List Str) (kvs : List (Key × V)), vs = [.ref b, .ref F] ∧ H b = some (.lst (bs.map V.str)) ∧ H F = some (.dK kvs) ∧ kvs.map Prod.fst = ones.map Sum.inr ∧ bs.length ≤ 4000 ∧
  ∀ D H', Fresh H D → Grow [] H H' → H' D = some (.lst (intsN (cIn ones bs 0))) → Q (.ref D) H'
theorem ok_counts_in {f c : Addr} {fd : FuncData} (B : Nb mg) (D : DefIs K "counts_in" "counts_in" st_counts_in f fd (.ref c)) : FnG P w K mg base CX0 3 f fd ["book", "firsts"] (spCountsIn K) := by
  refine D.ok0 (k := 2) sc_counts_in (fun vs H Q E h => ?_) (fun A outer s H vs Q E g hr h => ?_)
  · obtain ⟨b, F, bs, ones, kvs, rfl, _⟩ := h
    rfl
  obtain ⟨b, F, bs, ones, kvs, rfl, eb, eF, hk, lb, q⟩ := h
  refine ⟨_,
      (pss_cons (ps_set (i := 2) sc_counts_in.nd rfl (.inl rfl) (pe_lst pa_nil))
      (pss_cons (ps_for PassesOwn.never rfl (pi_enum rfl B.n_enumerate (pa_cons (pv 0) pa_nil)) (pg_tup rfl (pgs_cons (pg_name (i := 3) sc_counts_in.nd rfl (.inl rfl)) (pgs_cons (pg_name (i := 4) sc_counts_in.nd rfl (.inl rfl)) pgs_nil))) (
        (pss_one (ps_if (pt_cmp (pc_din (hu_of hr) (pv 4) (pv 1))) (
          (pss_one (ps_expr (pe_bm PySem.F.plainAttrs_list PySem.F.slot_list_append PySem.F.type_list_append mt_append (pv 2) (pa_cons (pe_op op_sub (pv 3) (pe_callB call_len_seq rfl B.n_len PySem.boot_len (pa_cons (pv 2) pa_nil))) pa_nil))))) pss_nil))))
      (pss_one (ps_ret (pv 2))))), ?_⟩
  refine ⟨by show 0 ≤ sizeLine; decide, fun C nC => ?_⟩
  have gC := grow_new (ex := []) (o := .lst []) nC
  refine ⟨.ref b, rfl, b, _, rfl, .inl (.inl (gC.lst (by simp) eb)), ?_⟩
  refine for_it walk_enum (fun i σ H' => ∃ x y z : Option V, σ = [some (.ref b), some (.ref F), some (.ref C), x, y] ∧ Grow [] H H' ∧ H' C = some (.lst (intsN (cIn ones (bs.take i) 0)))) ⟨none, none, none, rfl, gC, upd_same⟩
    (fun i σ H' _ h => by
      obtain ⟨_, _, _, _, g, _⟩ := h
      exact .inl (.inl (g.lst (by simp) eb))) (fun i x σ H2 H3 hi hp hy => ?_) (fun σ H' hp => ?_)
  · obtain ⟨x0, y0, z0, rfl, gj, eC⟩ := hp
    obtain ⟨T, x1, x2, rfl, nT, rfl, ei, ex⟩ := hy
    replace ex : (bs.map V.str)[i]? = some x2 := ex
    rw [List.getElem?_map] at ex
    cases ez : bs[i]? with
    | none => rw [ez] at ex; cases ex
    | some wd =>
      rw [ez] at ex
      cases ex
      cases ei
      have g2 := gj.new (o := .tup [.int (i : Nat), .str wd]) nT
      have eC2 : upd H2 T (.tup [.int (i : Nat), .str wd]) C = some (.lst (intsN (cIn ones (bs.take i) 0))) := by rw [upd_ne (ne_of_none eC nT)]; exact eC
      have eF2 := g2.keep F _ (by simp) eF fun ps z => by cases z
      have tk : bs.take (i + 1) = bs.take i ++ [wd] := by rw [List.take_add_one, ez]; rfl
      have cl := cIn_len (ones := ones) (bs.take i) 0
      rw [List.length_take] at cl
      have hib := (List.getElem?_eq_some_iff.mp ez).1
      refine ⟨T, _, rfl, .inl (.inl upd_same), rfl, _, _, rfl, _, _, rfl, rfl, ?_⟩
      refine ⟨.str wd, rfl, .ref F, rfl, F, _, rfl, DGet.k (k := .inr wd) eF2, ?_⟩
      rw [val_is hk]
      refine ⟨_, rfl, ite2 (fun hin => ?_) fun hin => ?_⟩
      · have hin := of_decide_eq_true hin
        refine ⟨.ref C, rfl, tyl eC2, .int (i : Nat), rfl, .ref C, rfl, C, _, rfl, .inl (.inl (.inl eC2)), _, _, rfl, rfl, ?_⟩
        dsimp only [tNil]
        refine ⟨C, _, _, rfl, rfl, eC2, by unfold intsN; rw [List.length_map]; unfold sizeLine; omega, _, _, z0, rfl, g2.put (fresh_none nC) eC2 (fun ps z => by cases z), ?_⟩
        rw [upd_same, tk, cIn_snoc, if_pos hin]
        unfold intsN
        rw [List.map_append, List.length_map, List.length_take]
        have hlt : (cIn ones (bs.take i) 0).length ≤ i := by omega
        show some (HO.lst (_ ++ [V.int ((i : Int) - ((cIn ones (bs.take i) 0).length : Nat))])) = some (HO.lst (_ ++ [V.int ((0 + (min i bs.length - (cIn ones (bs.take i) 0).length) : Nat) : Int)]))
        rw [show ((0 + (min i bs.length - (cIn ones (bs.take i) 0).length) : Nat) : Int) = (i : Int) - ((cIn ones (bs.take i) 0).length : Nat) by omega]
      · have hin : wd ∉ ones := fun z => hin (decide_eq_true z)
        refine ⟨_, _, z0, rfl, g2, ?_⟩
        rw [tk, cIn_snoc, if_neg hin, List.append_nil]
        exact eC2
  · obtain ⟨_, _, _, rfl, g, eC⟩ := hp
    rw [List.length_map, List.take_length] at eC
    exact ⟨.ref C, rfl, q C H' (fresh_none nC) g eC⟩
theorem cut_mid (xs : List V) {a c : Nat} (h1 : a ≤ c) (h2 : c ≤ xs.length) : cutV xs (some (a : Int)) (some (c : Int)) = (xs.drop a).take (c - a) := by
  unfold cutV
  rw [HT.sIx_nat, HT.sIx_nat, Nat.min_eq_left h2, Nat.min_eq_left (Nat.le_trans h1 h2)]
def spBookBy (K : PySem.W.Frag) : Sp := fun vs H Q _ => ∃ (l m c : Addr) (zs ws : List Str) (cs : List Nat), vs = [.ref l, .ref m, .ref c] ∧ H l = some (.lst (zs.map V.str)) ∧ H m = some (.lst (ws.map V.str)) ∧ H c = some (.lst (intsN cs)) ∧ zs.length = cs.length ∧ Up ws.length cs 0 ∧
  zs.length ≤ 4000 ∧ ws.length ≤ 4000 ∧ ∀ D H', Fresh H D → Grow [] H H' → H' D = some (.lst ((mix ws zs cs 0).map V.str)) → Q (.ref D) H'
theorem ok_book_by {f c : Addr} {fd : FuncData} (B : Nb mg) (D : DefIs K "book_by" "book_by" st_book_by f fd (.ref c)) : FnG P w K mg base CX0 3 f fd ["ones", "others", "counts"] (spBookBy K) := by
  refine D.ok0 (k := 2) sc_book_by (fun vs H Q E h => ?_) (fun A outer s H vs Q E g hr h => ?_)
  · obtain ⟨l, m, c, zs, ws, cs, rfl, _⟩ := h
    rfl
  obtain ⟨l, m, c, zs, ws, cs, rfl, el, em, ec, len, up, lz, lw, q⟩ := h
  refine ⟨_,
      (pss_cons (ps_set (i := 3) sc_book_by.nd rfl (.inl rfl) (pe_lst pa_nil))
      (pss_cons (ps_set (i := 4) sc_book_by.nd rfl (.inl rfl) pe_int)
      (pss_cons (ps_for PassesOwn.never rfl (pi_zip rfl B.n_zip (pa_cons (pv 0) (pa_cons (pv 2) pa_nil))) (pg_tup rfl (pgs_cons (pg_name (i := 5) sc_book_by.nd rfl (.inl rfl)) (pgs_cons (pg_name (i := 6) sc_book_by.nd rfl (.inl rfl)) pgs_nil))) (
        (pss_cons (ps_expr (pe_bm PySem.F.plainAttrs_list PySem.F.slot_list_extend PySem.F.type_list_extend mt_extend (pv 3) (pa_cons (pe_slice sl_list (pv 1) (po_some (pv 4)) (po_some (pv 6))) pa_nil)))
        (pss_cons (ps_expr (pe_bm PySem.F.plainAttrs_list PySem.F.slot_list_append PySem.F.type_list_append mt_append (pv 3) (pa_cons (pv 5) pa_nil)))
        (pss_one (ps_set (i := 4) sc_book_by.nd rfl (.inl rfl) (pv 6)))))))
      (pss_one (ps_ret (pe_op op_cat (pv 3) (pe_slice sl_list (pv 1) (po_some (pv 4)) po_none))))))), ?_⟩
  refine ⟨by show 0 ≤ sizeLine; decide, fun C nC => ?_⟩
  have gC := grow_new (ex := []) (o := .lst []) nC
  refine ⟨.ref l, rfl, .ref c, rfl, l, c, _, _, rfl, .inl (.inl (gC.lst (by simp) el)), .inl (.inl (gC.lst (by simp) ec)), ?_⟩
  refine for_it (walk_zip (xs := zs.map V.str) (ys := intsN cs) (n := zs.length) (by unfold intsN; rw [List.length_map, List.length_map, len, Nat.min_self])) (fun i σ H' => ∃ (x y : Option V) (pre : List Str) (a : Nat), σ = [some (.ref l), some (.ref m), some (.ref c), some (.ref C), some (.int (a : Nat)), x, y] ∧ Grow [] H H' ∧ H' C = some (.lst (pre.map V.str)) ∧
      mix ws zs cs 0 = pre ++ mix ws (zs.drop i) (cs.drop i) a ∧ Up ws.length (cs.drop i) a ∧ pre.length = i + a) ⟨none, none, [], 0, rfl, gC, upd_same, rfl, up, rfl⟩
    (fun i σ H' _ h => by
      obtain ⟨_, _, _, _, _, g, _⟩ := h
      exact ⟨.inl (.inl (g.lst (by simp) el)), .inl (.inl (g.lst (by simp) ec))⟩) (fun i x σ H2 H3 hi hp hy => ?_) (fun σ H' hp => ?_)
  · obtain ⟨x0, y0, pre, a, rfl, gj, eC, hmix, hup, hpre⟩ := hp
    obtain ⟨T, x1, x2, rfl, nT, rfl, ei, ex⟩ := hy
    replace ei : (zs.map V.str)[i]? = some x1 := ei
    replace ex : (intsN cs)[i]? = some x2 := ex
    unfold intsN at ex
    rw [List.getElem?_map] at ei ex
    obtain ⟨wd, ez⟩ : ∃ wd, zs[i]? = some wd := ⟨_, List.getElem?_eq_getElem hi⟩
    obtain ⟨n, en⟩ : ∃ n, cs[i]? = some n := ⟨_, List.getElem?_eq_getElem (by omega)⟩
    rw [ez] at ei
    rw [en] at ex
    cases ei
    cases ex
    have dz : zs.drop i = wd :: zs.drop (i + 1) := by
      rw [List.drop_eq_getElem_cons hi]
      rw [List.getElem?_eq_getElem hi] at ez
      cases ez
      rfl
    have dc : cs.drop i = n :: cs.drop (i + 1) := by
      have hi2 : i < cs.length := by omega
      rw [List.drop_eq_getElem_cons hi2]
      rw [List.getElem?_eq_getElem hi2] at en
      cases en
      rfl
    rw [dc] at hup hmix
    rw [dz, mix] at hmix
    have an := hup.1
    have nw := Up.le hup.2
    have g2 := gj.new (o := .tup [.str wd, .int (n : Nat)]) nT
    have eC2 : upd H2 T (.tup [.str wd, .int (n : Nat)]) C = some (.lst (pre.map V.str)) := by rw [upd_ne (ne_of_none eC nT)]; exact eC
    have em2 := g2.lst (by simp) em
    refine ⟨T, _, rfl, .inl (.inl upd_same), rfl, _, _, rfl, _, _, rfl, rfl, ?_⟩
    refine ⟨.ref C, rfl, tyl eC2, .ref m, rfl, .int (a : Nat), rfl, (a : Int), rfl, .int (n : Nat), rfl, (n : Int), rfl, m, _, rfl, .inl (.inl em2), fun L nL => ?_⟩
    rw [cut_mid _ an (by rw [List.length_map]; exact nw)]
    rw [show ((ws.map V.str).drop a).take (n - a) = ((ws.drop a).take (n - a)).map V.str by rw [List.map_take, List.map_drop]]
    have eC3 : upd (upd H2 T (.tup [.str wd, .int (n : Nat)])) L (.lst (((ws.drop a).take (n - a)).map V.str)) C = some (.lst (pre.map V.str)) := by rw [upd_ne (ne_of_none eC2 nL)]; exact eC2
    have g3 := g2.new (o := .lst (((ws.drop a).take (n - a)).map V.str)) nL
    have lt : ((ws.drop a).take (n - a)).length = n - a := by rw [List.length_take, List.length_drop]; omega
    dsimp only [tNil]
    refine ⟨C, L, _, _, rfl, rfl, eC3, upd_same, by rw [List.length_map, List.length_map, lt]; unfold sizeLine; omega, ?_⟩
    have g4 := g3.put (o := .lst (pre.map V.str ++ ((ws.drop a).take (n - a)).map V.str)) (fresh_none nC) eC3 (fun ps z => by cases z)
    have eC4 : upd (upd (upd H2 T (.tup [.str wd, .int (n : Nat)])) L (.lst (((ws.drop a).take (n - a)).map V.str))) C (.lst (pre.map V.str ++ ((ws.drop a).take (n - a)).map V.str)) C = some (.lst ((pre ++ (ws.drop a).take (n - a)).map V.str)) := by rw [upd_same, List.map_append]
    refine ⟨.ref C, rfl, tyl eC4, .str wd, rfl, ?_⟩
    dsimp only [tNil]
    refine ⟨C, _, _, rfl, rfl, eC4, by rw [List.length_map, List.length_append, lt]; unfold sizeLine; omega, ?_⟩
    refine ⟨.int (n : Nat), rfl, _, _, pre ++ (ws.drop a).take (n - a) ++ [wd], n, rfl, g4.put (fresh_none nC) eC4 (fun ps z => by cases z), ?_, ?_, hup.2, ?_⟩
    · rw [upd_same, List.map_append (l₂ := [wd])]
      rfl
    · rw [hmix, List.append_assoc, List.append_assoc]
      rfl
    · rw [List.length_append, List.length_append, lt, hpre]
      show i + a + (n - a) + 1 = i + 1 + n
      omega
  · obtain ⟨x0, y0, pre, a, rfl, gj, eC, hmix, hup, hpre⟩ := hp
    rw [List.drop_of_length_le (Nat.le_refl _), List.drop_of_length_le (by omega)] at hmix
    have aw : a ≤ ws.length := Up.le hup
    have em2 := gj.lst (by simp) em
    refine ⟨.ref C, rfl, .ref m, rfl, .int (a : Nat), rfl, (a : Int), rfl, m, _, rfl, .inl (.inl em2), fun L nL => ?_⟩
    rw [cut_lo, show (ws.map V.str).drop a = (ws.drop a).map V.str by rw [List.map_drop]]
    have eC3 : upd H' L (.lst ((ws.drop a).map V.str)) C = some (.lst (pre.map V.str)) := by rw [upd_ne (ne_of_none eC nL)]; exact eC
    refine ⟨C, L, _, _, rfl, rfl, eC3, upd_same, by rw [List.length_map, List.length_map, List.length_drop]; unfold sizeLine; omega, fun D1 nD => ?_⟩
    have gE := (gj.new (o := .lst ((ws.drop a).map V.str)) nL).new (o := .lst (pre.map V.str ++ (ws.drop a).map V.str)) nD
    refine q D1 _ (((gj.new (o := .lst ((ws.drop a).map V.str)) nL).fresh (by simp) (fresh_none nD))) gE ?_
    rw [upd_same, hmix, List.map_append]
    rfl
end

end Lw

namespace Lw
open PySem PySem.Spec PyProof.Rows L2 GxR Gx
/-! ### heaps judged -/
section
variable {P : Program} {w : World} {K : PySem.W.Frag} {mg : Str → Option Value} {base : Heap}
theorem intsN_len (r : List Nat) : (intsN r).length = r.length := by unfold intsN; rw [List.length_map]
theorem intsN_drop (r : List Nat) (k : Nat) : (intsN r).drop k = intsN (r.drop k) := by unfold intsN; rw [List.map_drop]
def spHeapRow (K : PySem.W.Frag) (T : Addr) : Sp := fun vs H Q _ => ∃ (t : Addr) (row : List Nat) (wd h : Nat), vs = [.int (wd : Nat), .int (h : Nat), .ref t] ∧ TabG H T ∧ H t = some (.lst (intsN row)) ∧ row.length = wd ∧ wd ≤ 4000 ∧ (∀ n ∈ row, n ≤ h) ∧ row.Pairwise (fun a b => b ≤ a) ∧
  ∀ H', Grow [] H H' → Q (.bl true) H'
theorem ok_is_heap_row {f c T : Addr} {fd : FuncData} (B : Nb mg) (D : DefIs K "is_heap_row" "is_heap_row" st_is_heap_row f fd (.ref c)) (x_is_heap_row : TabB base mg c T)
    (c_is_spot : Callee P w K mg base CX0 2 "is_spot" ["thing", "roads"] (spSpot K)) (c_are_steps : Callee P w K mg base CX0 3 "are_steps" ["row", "later"] (spSteps K)) :
    FnG P w K mg base CX0 6 f fd ["width", "hands", "thing"] (spHeapRow K T) := by
  refine D.ok0 (k := 5) sc_is_heap_row (fun vs H Q E h => ?_) (fun A outer s H vs Q E g hr h => ?_)
  · obtain ⟨t, row, wd, h, rfl, _⟩ := h
    rfl
  obtain ⟨t, row, wd, h, rfl, tT, et, lw, l4, top, pw, q⟩ := h
  refine ⟨_,
      (pss_cons (ps_if (PW.pt (pw_or (pt_cmpR (op_notTyB) (pe_callTy call_type1 rfl B.n_type (by decide +kernel) (pa_cons (pv 2) pa_nil)) (pe_bltn (v := .ty "list") rfl B.n_list (by decide +kernel) rfl) (nomark _)) (pw_or1 (pt_cmpR (op_ne) (pe_callB call_len_seq rfl B.n_len PySem.boot_len (pa_cons (pv 2) pa_nil)) (pv 0) (nomark _))))) (
        (pss_one (ps_ret pe_bl))) pss_nil)
      (pss_cons (ps_if (pt_not (pt_val (pe_allG (own := [("number", 3)]) hr (gx_ok (N := N_is_heap_row) (dsc := defScope st_is_heap_row) x_is_heap_row sc_is_heap_row.nd (by decide +kernel) (by decide +kernel)) rfl B.n_all (by decide +kernel) (pi_list (pv 2)) (fun _ _ _ _ _ => (pg_name (i := 3) sc_is_heap_row.nd rfl (.inl rfl))) (fun _ _ _ _ _ => pe_to (pe_g c_is_spot g ((room_gx hr).mono (by decide)) pass0 (pa_cons (pv 3) (pa_cons (pv 1) pa_nil))))))) (
        (pss_one (ps_ret pe_bl))) pss_nil)
      (pss_one (ps_ret (pe_g c_are_steps g (hr.mono (by decide)) pass0 (pa_cons (pe_slice sl_list (pv 2) (po_some pe_int) po_none) (pa_cons (pv 2) pa_nil))))))), ?_⟩
  refine ⟨.ref t, rfl, _, "list", rfl, .lst (.inl (.inl et)), "list", "list", rfl, rfl, _, rfl, iteNS rfl ?_⟩
  refine ⟨.ref t, rfl, t, _, rfl, .inl (.inl (.inl et)), .int (wd : Nat), rfl, rfl, ?_⟩
  rw [show decide (V.int (((intsN row).length : Nat) : Int) = V.int (wd : Nat)) = true from decide_eq_true (by rw [intsN_len, lw])]
  refine ⟨false, rfl, iteF ?_⟩
  refine ⟨.ref t, rfl, t, rfl, ⟨_, .inl (.inl et)⟩, tT, ?_⟩
  refine truth_list (xs := intsN row) (fun i H' => Grow [] H H') (fun H' tb => grow_tab tT tb) (fun i H' hp => .inl (.inl (hp.lst (by simp) et))) (fun i x H' hx hp => ?_) fun H4 g4 => ?_
  · unfold intsN at hx
    rw [List.getElem?_map] at hx
    cases en : row[i]? with
    | none => rw [en] at hx; cases hx
    | some n =>
      rw [en] at hx
      cases hx
      have hn := top n (List.mem_of_getElem? en)
      refine ⟨rfl, .int (n : Nat), rfl, .int (h : Nat), rfl, (n : Int), (h : Int), rfl, ?_⟩
      rw [decide_eq_true (by omega : (0 : Int) ≤ (n : Int) ∧ (n : Int) ≤ (h : Int))]
      refine ⟨true, rfl, ?_⟩
      rw [if_neg (fun z => Bool.noConfusion z)]
      exact hp
  · refine ⟨true, rfl, iteF ?_⟩
    have et4 := g4.lst (by simp) et
    refine ⟨.ref t, rfl, 1, rfl, t, _, rfl, .inl (.inl et4), fun L nL => ?_⟩
    rw [show cutV (intsN row) (some 1) none = intsN (row.drop 1) by rw [show (1 : Int) = ((1 : Nat) : Int) from rfl, cut_lo, intsN_drop]]
    have gL := g4.new (o := .lst (intsN (row.drop 1))) nL
    have et5 : upd H4 L (.lst (intsN (row.drop 1))) t = some (.lst (intsN row)) := by rw [upd_ne (ne_of_none et4 nL)]; exact et4
    refine ⟨.ref t, rfl, L, t, row.drop 1, row, rfl, upd_same, et5, by rw [List.length_drop]; omega, by omega, fun k x y hx hy => ?_, fun H6 g6 => q H6 (gL.trans g6)⟩
    rw [List.getElem?_drop] at hx
    obtain ⟨h1, e1⟩ := List.getElem?_eq_some_iff.mp hx
    obtain ⟨h2, e2⟩ := List.getElem?_eq_some_iff.mp hy
    have := List.pairwise_iff_getElem.mp pw k (1 + k) h2 h1 (by omega)
    rw [e1, e2] at this
    exact this
def spIsHeap (K : PySem.W.Frag) (T1 T : Addr) : Sp := fun vs H Q _ => ∃ (t : Addr) (hp : List (List Nat)) (m wd h : Nat), vs = [.int (m : Nat), .int (wd : Nat), .int (h : Nat), .ref t] ∧ TabG H T1 ∧ TabG H T ∧ LLat H t (hp.map intsN) ∧ HeapOk m wd h hp ∧ m ≤ 4000 ∧ wd ≤ 4000 ∧
  ∀ H', Grow [] H H' → Q (.bl true) H'
theorem ok_is_heap {f c T1 T : Addr} {fd : FuncData} (B : Nb mg) (D : DefIs K "is_heap" "is_heap" st_is_heap f fd (.ref c)) (x_is_heap : TabB base mg c T)
    (c_is_heap_row : Callee P w K mg base CX0 6 "is_heap_row" ["width", "hands", "thing"] (spHeapRow K T1)) (c_are_steps : Callee P w K mg base CX0 3 "are_steps" ["row", "later"] (spSteps K)) :
    FnG P w K mg base CX0 10 f fd ["many", "width", "hands", "thing"] (spIsHeap K T1 T) := by
  refine D.ok0 (k := 9) sc_is_heap (fun vs H Q E h => ?_) (fun A outer s H vs Q E g hr h => ?_)
  · obtain ⟨t, hp, m, wd, h, rfl, _⟩ := h
    rfl
  obtain ⟨t, hp, m, wd, h, rfl, t1, tT, ⟨as, et, ll⟩, ok, m4, w4, q⟩ := h
  refine ⟨_,
      (pss_cons (ps_if (PW.pt (pw_or (pt_cmpR (op_notTyB) (pe_callTy call_type1 rfl B.n_type (by decide +kernel) (pa_cons (pv 3) pa_nil)) (pe_bltn (v := .ty "list") rfl B.n_list (by decide +kernel) rfl) (nomark _)) (pw_or1 (pt_cmpR (op_ne) (pe_callB call_len_seq rfl B.n_len PySem.boot_len (pa_cons (pv 3) pa_nil)) (pv 0) (nomark _))))) (
        (pss_one (ps_ret pe_bl))) pss_nil)
      (pss_cons (ps_if (pt_not (pt_val (pe_allG (own := [("row", 4)]) hr (gx_ok (N := N_is_heap) (dsc := defScope st_is_heap) x_is_heap sc_is_heap.nd (by decide +kernel) (by decide +kernel)) rfl B.n_all (by decide +kernel) (pi_list (pv 3)) (fun _ _ _ _ _ => (pg_name (i := 4) sc_is_heap.nd rfl (.inl rfl))) (fun _ _ _ _ _ => pe_to (pe_g c_is_heap_row g ((room_gx hr).mono (by decide)) pass0 (pa_cons (pv 1) (pa_cons (pv 2) (pa_cons (pv 4) pa_nil)))))))) (
        (pss_one (ps_ret pe_bl))) pss_nil)
      (pss_one (ps_ret (pe_callB (cr_all rfl) rfl B.n_all (by decide +kernel) (pa_cons (pe_lc (own := [("row", 4), ("later", 5)]) (tt := tYes) (g := (gTup _ 2 (gCons (gName 4) (gCons (gName 5) gNil)))) rfl sc_is_heap.nd (pi_zip rfl B.n_zip (pa_cons (pv 3) (pa_cons (pe_slice sl_list (pv 3) (po_some pe_int) po_none) pa_nil))) (blkOk_by (N := N_is_heap) (sc := defScope st_is_heap) (by decide +kernel)) (fun _ _ _ _ _ => (pg_tup rfl (pgs_cons (pg_name (i := 4) sc_is_heap.nd rfl (.inl rfl)) (pgs_cons (pg_name (i := 5) sc_is_heap.nd rfl (.inl rfl)) pgs_nil)))) (fun _ _ _ _ _ => pts_nil) (fun _ _ _ _ _ => pe_to (pe_g c_are_steps g (hr.mono (by decide)) pass0 (pa_cons (pv 4) (pa_cons (pv 5) pa_nil))))) pa_nil)))))), ?_⟩
  have la : as.length = hp.length := by have := ll.len; rwa [List.length_map] at this
  have lm := ok.len
  have rowAt : ∀ {H' : Hp} {i : Nat} {a : Addr}, Grow [] H H' → as[i]? = some a → ∃ r, hp[i]? = some r ∧ r ∈ hp ∧ H' a = some (.lst (intsN r)) := fun {H' i a} g e => by
    have hi := (List.getElem?_eq_some_iff.mp e).1
    have er : hp[i]? = some (hp[i]'(by omega)) := List.getElem?_eq_getElem (by omega)
    exact ⟨_, er, List.getElem_mem _, (ll.grow0 g).at_ i a _ e (by rw [List.getElem?_map, er]; rfl)⟩
  refine ⟨.ref t, rfl, _, "list", rfl, .lst (.inl (.inl et)), "list", "list", rfl, rfl, _, rfl, iteNS rfl ?_⟩
  refine ⟨.ref t, rfl, t, _, rfl, .inl (.inl (.inl et)), .int (m : Nat), rfl, rfl, ?_⟩
  rw [show decide (V.int (((as.map V.ref).length : Nat) : Int) = V.int (m : Nat)) = true from decide_eq_true (by rw [List.length_map, la, lm])]
  refine ⟨false, rfl, iteF ?_⟩
  refine ⟨.ref t, rfl, t, rfl, ⟨_, .inl (.inl et)⟩, tT, ?_⟩
  refine truth_list (xs := as.map V.ref) (fun i H' => Grow [] H H') (fun H' tb => grow_tab tT tb) (fun i H' hp => .inl (.inl (hp.lst (by simp) et))) (fun i x H' hx hp => ?_) fun H4 g4 => ?_
  · rw [List.getElem?_map] at hx
    cases ea : as[i]? with
    | none => rw [ea] at hx; cases hx
    | some a =>
      rw [ea] at hx
      cases hx
      obtain ⟨r, er, hr2, eA⟩ := rowAt hp ea
      refine ⟨rfl, .int (wd : Nat), rfl, .int (h : Nat), rfl, .ref a, rfl, a, r, wd, h, rfl, hp.tabs _ t1, eA, ok.wide r hr2, w4, ok.top r hr2, ok.fall r hr2, fun H'' g'' => ⟨true, rfl, ?_⟩⟩
      rw [if_neg (fun z => Bool.noConfusion z)]
      exact hp.trans g''
  · refine ⟨true, rfl, iteF ?_⟩
    have et4 := g4.lst (by simp) et
    refine ⟨.ref t, rfl, .ref t, rfl, 1, rfl, t, _, rfl, .inl (.inl et4), fun L nL => ?_⟩
    rw [show cutV (as.map V.ref) (some 1) none = (as.drop 1).map V.ref by rw [show (1 : Int) = ((1 : Nat) : Int) from rfl, cut_lo, List.map_drop]]
    have gL := g4.new (o := .lst ((as.drop 1).map V.ref)) nL
    have et5 : upd H4 L (.lst ((as.drop 1).map V.ref)) t = some (.lst (as.map V.ref)) := by rw [upd_ne (ne_of_none et4 nL)]; exact et4
    have eL : upd H4 L (.lst ((as.drop 1).map V.ref)) L = some (.lst ((as.drop 1).map V.ref)) := upd_same
    generalize upd H4 L (HO.lst ((as.drop 1).map V.ref)) = H5 at gL et5 eL ⊢
    refine ⟨t, L, _, _, rfl, .inl (.inl et5), .inl (.inl eL), fun D1 n1 => ?_⟩
    refine lc_it (walk_zip (xs := as.map V.ref) (ys := (as.drop 1).map V.ref) (n := (as.zip (as.drop 1)).length) (by rw [List.length_map, List.length_map, List.length_zip])) (fun j H' => Grow [] H5 H' ∧ H' D1 = some (.lst ((List.replicate j true).map V.bl)))
      ⟨grow_new n1, upd_same⟩ (fun j H' _ h => ⟨.inl (.inl (h.1.lst (by simp) et5)), .inl (.inl (h.1.lst (by simp) eL))⟩) (fun j x H6 H7 hj hp6 hy => ?_) (fun H6 hp6 => ?_)
    · obtain ⟨gj, eD⟩ := hp6
      obtain ⟨T0, x1, x2, rfl, nT, rfl, ea, eb⟩ := hy
      replace ea : (as.map V.ref)[j]? = some x1 := ea
      replace eb : ((as.drop 1).map V.ref)[j]? = some x2 := eb
      rw [List.getElem?_map] at ea eb
      cases ha : as[j]? with
      | none => rw [ha] at ea; cases ea
      | some a =>
      cases hbb : (as.drop 1)[j]? with
      | none => rw [hbb] at eb; cases eb
      | some b =>
      rw [ha] at ea
      rw [hbb] at eb
      cases ea
      cases eb
      rw [List.getElem?_drop] at hbb
      have gj2 := gj.new (o := .tup [.ref a, .ref b]) nT
      have eD2 : upd H6 T0 (.tup [.ref a, .ref b]) D1 = some (.lst ((List.replicate j true).map V.bl)) := by rw [upd_ne (ne_of_none eD nT)]; exact eD
      have gA := gL.trans gj2
      obtain ⟨r, er, hr2, eA⟩ := rowAt gA ha
      obtain ⟨r2, er2, hr3, eB⟩ := rowAt gA hbb
      refine ⟨T0, _, rfl, .inl (.inl upd_same), rfl, _, _, rfl, _, _, rfl, rfl, rfl, yes_if ⟨_, rfl, _, rfl, a, b, r, r2, rfl, eA, eB, by rw [ok.wide r hr2]; exact w4, by rw [ok.wide r2 hr3]; exact w4, fun k x y hx hy => ?_, fun H8 g8 => ?_⟩⟩
      · obtain ⟨h1, e1⟩ := List.getElem?_eq_some_iff.mp er
        obtain ⟨h2, e2⟩ := List.getElem?_eq_some_iff.mp er2
        have := List.pairwise_iff_getElem.mp ok.up j (1 + j) h1 h2 (by omega)
        rw [e1, e2] at this
        exact this k x y hx hy
      · have eD8 := g8.lst (by simp) eD2
        refine ⟨_, eD8, ?_, (gj2.trans g8).put (fresh_none n1) eD8 (fun ps z => by cases z), ?_⟩
        · rw [List.length_map, List.length_replicate]
          rw [List.length_zip] at hj
          unfold sizeLine
          omega
        · rw [upd_same, List.replicate_succ', List.map_append]
          rfl
    · obtain ⟨gj, eD⟩ := hp6
      dsimp only [tNil]
      refine ⟨D1, _, rfl, .inl (.inl eD), ?_⟩
      rw [show (List.replicate (as.zip (as.drop 1)).length true).all id = true by rw [List.all_replicate]; simp]
      exact q H6 (gL.trans gj)
end

/-! ### rests judged -/
section
variable {P : Program} {w : World} {K : PySem.W.Frag} {mg : Str → Option Value} {base : Heap}
structure MixOk (zs ws bs : List Str) : Prop where
  len : bs.length = zs.length + ws.length
  ones : bs.filter (fun x => decide (x ∈ zs)) = zs
  others : bs.filter (fun x => decide (x ∈ ws)) = ws
/-- the words of a list that a dict has -/
theorem flt_in {H0 H' : Hp} {D : Addr} {bs : List Str} {p : Str → Bool} {j : Nat} {x : Str} (e : bs[j]? = some x) (fD : Fresh H0 D) (gj : Grow [] H0 H') (hz : bs.length ≤ 4000) (eD : H' D = some (.lst (((bs.take j).filter p).map V.str))) (px : p x = true) :
    ∃ acc, H' D = some (.lst acc) ∧ acc.length < sizeLine ∧ Grow [] H0 (upd H' D (.lst (acc ++ [.str x]))) ∧ upd H' D (.lst (acc ++ [.str x])) D = some (.lst (((bs.take (j + 1)).filter p).map V.str)) := by
  refine ⟨_, eD, ?_, gj.put fD eD (fun ps z => by cases z), ?_⟩
  · rw [List.length_map]
    have := List.length_filter_le p (bs.take j)
    rw [List.length_take] at this
    unfold sizeLine
    omega
  · rw [upd_same, List.take_add_one, e, List.filter_append, show (some x).toList = [x] from rfl, List.filter_cons_of_pos px, List.filter_nil, List.map_append]
    rfl
theorem flt_out {bs : List Str} {p : Str → Bool} {j : Nat} {x : Str} (e : bs[j]? = some x) (px : ¬ p x = true) : (bs.take (j + 1)).filter p = (bs.take j).filter p := by
  rw [List.take_add_one, e, List.filter_append, show (some x).toList = [x] from rfl, List.filter_cons_of_neg px, List.filter_nil, List.append_nil]
def spMixed (K : PySem.W.Frag) (T : Addr) : Sp := fun vs H Q _ => ∃ (l m t : Addr) (zs ws bs : List Str), vs = [.ref l, .ref m, .ref t] ∧ TabG H T ∧ H l = some (.lst (zs.map V.str)) ∧ H m = some (.lst (ws.map V.str)) ∧ H t = some (.lst (bs.map V.str)) ∧ Bk zs ∧ Bk ws ∧ MixOk zs ws bs ∧
  ∀ H', Grow [] H H' → Q (.bl true) H'
theorem ok_is_mixed {f c T : Addr} {fd : FuncData} (B : Nb mg) (D : DefIs K "is_mixed" "is_mixed" st_is_mixed f fd (.ref c)) (x_is_mixed : TabB base mg c T)
    (c_places_of : Callee P w K mg base CX0 4 "places_of" ["book"] (spPlaces K)) : FnG P w K mg base CX0 6 f fd ["ones", "others", "thing"] (spMixed K T) := by
  refine D.ok0 (k := 5) sc_is_mixed (fun vs H Q E h => ?_) (fun A outer s H vs Q E g hr h => ?_)
  · obtain ⟨l, m, t, zs, ws, bs, rfl, _⟩ := h
    rfl
  obtain ⟨l, m, t, zs, ws, bs, rfl, tT, el, em, et, bz, bw, ok, q⟩ := h
  have zl := bz.len
  have wl := bw.len
  have bl := ok.len
  refine ⟨_,
      (pss_cons (ps_if (PW.pt (pw_or (pt_cmpR (op_notTyB) (pe_callTy call_type1 rfl B.n_type (by decide +kernel) (pa_cons (pv 2) pa_nil)) (pe_bltn (v := .ty "list") rfl B.n_list (by decide +kernel) rfl) (nomark _)) (pw_or1 (pt_cmpR (op_ne) (pe_callB call_len_seq rfl B.n_len PySem.boot_len (pa_cons (pv 2) pa_nil)) (pe_op op_add (pe_callB call_len_seq rfl B.n_len PySem.boot_len (pa_cons (pv 0) pa_nil)) (pe_callB call_len_seq rfl B.n_len PySem.boot_len (pa_cons (pv 1) pa_nil))) (nomark _))))) (
        (pss_one (ps_ret pe_bl))) pss_nil)
      (pss_cons (ps_if (pt_not (pt_val (pe_allG (own := [("word", 3)]) hr (gx_ok (N := N_is_mixed) (dsc := defScope st_is_mixed) x_is_mixed sc_is_mixed.nd (by decide +kernel) (by decide +kernel)) rfl B.n_all (by decide +kernel) (pi_list (pv 2)) (fun _ _ _ _ _ => (pg_name (i := 3) sc_is_mixed.nd rfl (.inl rfl))) (fun _ _ _ _ _ => pe_to (pe_cmpR (op_isTyB) (pe_callTy call_type1 rfl B.n_type (by decide +kernel) (pa_cons (pv 3) pa_nil)) (pe_bltn (v := .ty "str") rfl B.n_str (by decide +kernel) rfl) (nomark _)))))) (
        (pss_one (ps_ret pe_bl))) pss_nil)
      (pss_cons (ps_set (i := 4) sc_is_mixed.nd rfl (.inr rfl) (pe_g c_places_of g (hr.mono (by decide)) pass0 (pa_cons (pv 0) pa_nil)))
      (pss_cons (ps_set (i := 5) sc_is_mixed.nd rfl (.inr rfl) (pe_g c_places_of g (hr.mono (by decide)) pass0 (pa_cons (pv 1) pa_nil)))
      (pss_one (ps_ret (pe_and (pe_cmpR (op_eqD hr.units) (pe_lc (own := [("word", 3)]) (g := (gName 3)) rfl sc_is_mixed.nd (pi_list (pv 2)) (blkOk_by (N := N_is_mixed) (sc := defScope st_is_mixed) (by decide +kernel)) (fun _ _ _ _ _ => (pg_name (i := 3) sc_is_mixed.nd rfl (.inl rfl))) (fun _ _ _ _ _ => pts_to (pts_one (pt_cmp (pc_din (hu_of hr) (pv 3) (pv 4))))) (fun _ _ _ _ _ => pe_to (pv 3))) (pv 0) (nomark _)) (pe_one (pe_cmpR (op_eqD hr.units) (pe_lc (own := [("word", 3)]) (g := (gName 3)) rfl sc_is_mixed.nd (pi_list (pv 2)) (blkOk_by (N := N_is_mixed) (sc := defScope st_is_mixed) (by decide +kernel)) (fun _ _ _ _ _ => (pg_name (i := 3) sc_is_mixed.nd rfl (.inl rfl))) (fun _ _ _ _ _ => pts_to (pts_one (pt_cmp (pc_din (hu_of hr) (pv 3) (pv 5))))) (fun _ _ _ _ _ => pe_to (pv 3))) (pv 1) (nomark _)))))))))), ?_⟩
  refine ⟨.ref t, rfl, _, "list", rfl, .lst (.inl (.inl et)), "list", "list", rfl, rfl, _, rfl, iteNS rfl ?_⟩
  refine ⟨.ref t, rfl, t, _, rfl, .inl (.inl (.inl et)), .ref l, rfl, l, _, rfl, .inl (.inl (.inl el)), .ref m, rfl, m, _, rfl, .inl (.inl (.inl em)), _, _, rfl, rfl, rfl, ?_⟩
  rw [show decide (V.int (((bs.map V.str).length : Nat) : Int) = V.int ((((zs.map V.str).length : Nat) : Int) + (((ws.map V.str).length : Nat) : Int))) = true from decide_eq_true (by rw [List.length_map, List.length_map, List.length_map, bl]; rfl)]
  refine ⟨false, rfl, iteF ?_⟩
  refine ⟨.ref t, rfl, t, rfl, ⟨_, .inl (.inl et)⟩, tT, ?_⟩
  refine truth_list (xs := bs.map V.str) (fun i H' => Grow [] H H') (fun H' tb => grow_tab tT tb) (fun i H' hp => .inl (.inl (hp.lst (by simp) et))) (fun i x H' hx hp => ?_) fun H4 g4 => ?_
  · rw [List.getElem?_map] at hx
    cases eb : bs[i]? with
    | none => rw [eb] at hx; cases hx
    | some z =>
      rw [eb] at hx
      cases hx
      exact ⟨rfl, .str z, rfl, _, "str", rfl, .str z, "str", "str", rfl, rfl, true, rfl, ite2 (fun e => absurd e (by decide)) fun _ => hp⟩
  · refine ⟨true, rfl, iteF ?_⟩
    refine ⟨.ref l, rfl, l, zs, rfl, .inl (.inl (g4.lst (by simp) el)), bz.nd, bz.len, fun P0 H5 kvs f0 g5 e0 _ k0 => ?_⟩
    have g45 := g4.trans g5
    refine ⟨.ref m, rfl, m, ws, rfl, .inl (.inl (g45.lst (by simp) em)), bw.nd, bw.len, fun P1 H6 kws f1 g6 e1 _ k1 => ?_⟩
    have g46 := g45.trans g6
    have e06 := g6.keep P0 _ (by simp) e0 fun ps z => by cases z
    have et6 := g46.lst (by simp) et
    refine ⟨.ref t, rfl, t, rfl, ⟨_, .inl (.inl et6)⟩, fun D1 n1 => ?_⟩
    refine lc_it (walk_list (xs := bs.map V.str)) (fun j H' => Grow [] H6 H' ∧ H' D1 = some (.lst (((bs.take j).filter fun x => decide (x ∈ zs)).map V.str))) ⟨grow_new n1, upd_same⟩
      (fun j H' _ h => .inl (.inl (h.1.lst (by simp) et6))) (fun j x H7 H8 hj hp hy => ?_) (fun H7 hp => ?_)
    · obtain ⟨gj, eD⟩ := hp
      obtain ⟨rfl, ex⟩ := hy
      rw [List.getElem?_map] at ex
      cases eb : bs[j]? with
      | none => rw [eb] at ex; cases ex
      | some z =>
        rw [eb] at ex
        cases ex
        refine ⟨rfl, .str z, rfl, .ref P0, rfl, P0, _, rfl, DGet.k (k := .inr z) (gj.keep P0 _ (by simp) e06 fun ps z => by cases z), ?_⟩
        rw [val_is k0]
        refine ⟨_, rfl, ite2 (fun hin => ?_) fun hin => ?_⟩
        · obtain ⟨acc, a1, a2, a3, a4⟩ := flt_in eb (fresh_none n1) gj (by omega) eD hin
          exact ⟨.str z, rfl, acc, a1, a2, a3, a4⟩
        · refine ⟨gj, ?_⟩
          rw [flt_out (p := fun x => decide (x ∈ zs)) eb hin]
          exact eD
    · obtain ⟨g7, eD⟩ := hp
      rw [List.length_map, List.take_length, ok.ones] at eD
      have fz := fine_names bz.nm bz.len
      have fw := fine_names bw.nm bw.len
      have g47 := g46.trans g7
      have el7 := g47.lst (by simp) el
      refine ⟨.ref l, rfl, _, _, dp_book (.inl (.inl eD)), dp_book (.inl (.inl el7)), fz.shaped (by decide), fz.shaped (by decide), ?_⟩
      rw [fz.eqv]
      refine ⟨true, rfl, ?_⟩
      have et7 := g47.lst (by simp) et
      have e17 := g7.keep P1 _ (by simp) e1 fun ps z => by cases z
      refine iteT ⟨.ref t, rfl, t, rfl, ⟨_, .inl (.inl et7)⟩, fun D2 n2 => ?_⟩
      refine lc_it (walk_list (xs := bs.map V.str)) (fun j H' => Grow [] H7 H' ∧ H' D2 = some (.lst (((bs.take j).filter fun x => decide (x ∈ ws)).map V.str))) ⟨grow_new n2, upd_same⟩
        (fun j H' _ h => .inl (.inl (h.1.lst (by simp) et7))) (fun j x H8 H9 hj hp hy => ?_) (fun H8 hp => ?_)
      · obtain ⟨gj, eD2⟩ := hp
        obtain ⟨rfl, ex⟩ := hy
        rw [List.getElem?_map] at ex
        cases eb : bs[j]? with
        | none => rw [eb] at ex; cases ex
        | some z =>
          rw [eb] at ex
          cases ex
          refine ⟨rfl, .str z, rfl, .ref P1, rfl, P1, _, rfl, DGet.k (k := .inr z) (gj.keep P1 _ (by simp) e17 fun ps z => by cases z), ?_⟩
          rw [val_is k1]
          refine ⟨_, rfl, ite2 (fun hin => ?_) fun hin => ?_⟩
          · obtain ⟨acc, a1, a2, a3, a4⟩ := flt_in eb (fresh_none n2) gj (by omega) eD2 hin
            exact ⟨.str z, rfl, acc, a1, a2, a3, a4⟩
          · refine ⟨gj, ?_⟩
            rw [flt_out (p := fun x => decide (x ∈ ws)) eb hin]
            exact eD2
      · obtain ⟨g8, eD2⟩ := hp
        rw [List.length_map, List.take_length, ok.others] at eD2
        have g48 := g47.trans g8
        refine ⟨.ref m, rfl, _, _, dp_book (.inl (.inl eD2)), dp_book (.inl (.inl (g48.lst (by simp) em))), fw.shaped (by decide), fw.shaped (by decide), ?_⟩
        rw [fw.eqv]
        exact q _ g48
def spIsRest (K : PySem.W.Frag) (T1 T : Addr) : Sp := fun vs H Q _ => ∃ (l m t : Addr) (zs ws : List Str) (rs : List (List Str)), vs = [.ref l, .ref m, .ref t] ∧ TabG H T1 ∧ TabG H T ∧ H l = some (.lst (zs.map V.str)) ∧ H m = some (.lst (ws.map V.str)) ∧ LLat H t (rs.map fun b => b.map V.str) ∧ Bk zs ∧ Bk ws ∧
  rs ≠ [] ∧ rs.length ≤ 100 ∧ (∀ b ∈ rs, MixOk zs ws b ∧ b.all isNm = true) ∧ (∀ (i : Nat) (b d : List Str), rs[i]? = some b → rs[i + 1]? = some d → ∀ (k x y : Nat), (cIn zs b 0)[k]? = some x → (cIn zs d 0)[k]? = some y → x ≤ y) ∧
  ∀ H', Grow [] H H' → Q (.bl true) H'
theorem ok_is_rest {f c T1 T : Addr} {fd : FuncData} (B : Nb mg) (D : DefIs K "is_rest" "is_rest" st_is_rest f fd (.ref c)) (x_is_rest : TabB base mg c T)
    (c_is_mixed : Callee P w K mg base CX0 6 "is_mixed" ["ones", "others", "thing"] (spMixed K T1)) (c_places_of : Callee P w K mg base CX0 4 "places_of" ["book"] (spPlaces K))
    (c_counts_in : Callee P w K mg base CX0 3 "counts_in" ["book", "firsts"] (spCountsIn K)) (c_are_steps : Callee P w K mg base CX0 3 "are_steps" ["row", "later"] (spSteps K)) :
    FnG P w K mg base CX0 10 f fd ["ones", "others", "thing"] (spIsRest K T1 T) := by
  refine D.ok0 (k := 9) sc_is_rest (fun vs H Q E h => ?_) (fun A outer s H vs Q E g hr h => ?_)
  · obtain ⟨l, m, t, zs, ws, rs, rfl, _⟩ := h
    rfl
  obtain ⟨l, m, t, zs, ws, rs, rfl, t1, tT, el, em, ⟨as, et, ll⟩, bz, bw, ne, r100, ok, up, q⟩ := h
  have zl := bz.len
  have wl := bw.len
  refine ⟨_,
      (pss_cons (ps_if (PW.pt (pw_or (pt_cmpR (op_notTyB) (pe_callTy call_type1 rfl B.n_type (by decide +kernel) (pa_cons (pv 2) pa_nil)) (pe_bltn (v := .ty "list") rfl B.n_list (by decide +kernel) rfl) (nomark _)) (pw_or1 (pt_cmpR (op_eqD hr.units) (pv 2) (pe_lst pa_nil) (nomark _))))) (
        (pss_one (ps_ret pe_bl))) pss_nil)
      (pss_cons (ps_if (pt_not (pt_val (pe_allG (own := [("book", 3)]) hr (gx_ok (N := N_is_rest) (dsc := defScope st_is_rest) x_is_rest sc_is_rest.nd (by decide +kernel) (by decide +kernel)) rfl B.n_all (by decide +kernel) (pi_list (pv 2)) (fun _ _ _ _ _ => (pg_name (i := 3) sc_is_rest.nd rfl (.inl rfl))) (fun _ _ _ _ _ => pe_to (pe_g c_is_mixed g ((room_gx hr).mono (by decide)) pass0 (pa_cons (pv 0) (pa_cons (pv 1) (pa_cons (pv 3) pa_nil)))))))) (
        (pss_one (ps_ret pe_bl))) pss_nil)
      (pss_cons (ps_setLc (i := 4) (own := [("book", 3)]) (tt := tYes) (g := (gName 3)) rfl sc_is_rest.nd rfl rfl (sw_true rfl rfl rfl (by decide +kernel)) (pi_list (pv 2)) (blkOk_by (N := N_is_rest) (sc := defScope st_is_rest) (by decide +kernel)) (fun _ _ _ _ _ => (pg_name (i := 3) sc_is_rest.nd rfl (.inl rfl))) (fun _ _ _ _ _ => pts_nil) (fun _ _ _ _ _ => pe_to (pe_g c_counts_in g (hr.mono (by decide)) pass0 (pa_cons (pv 3) (pa_cons (pe_g c_places_of g (hr.mono (by decide)) pass0 (pa_cons (pv 0) pa_nil)) pa_nil)))))
      (pss_one (ps_ret (pe_callB (cr_all rfl) rfl B.n_all (by decide +kernel) (pa_cons (pe_lc (own := [("row", 5), ("later", 6)]) (tt := tYes) (g := (gTup _ 2 (gCons (gName 5) (gCons (gName 6) gNil)))) rfl sc_is_rest.nd (pi_zip rfl B.n_zip (pa_cons (pv 4) (pa_cons (pe_slice sl_list (pv 4) (po_some pe_int) po_none) pa_nil))) (blkOk_by (N := N_is_rest) (sc := defScope st_is_rest) (by decide +kernel)) (fun _ _ _ _ _ => (pg_tup rfl (pgs_cons (pg_name (i := 5) sc_is_rest.nd rfl (.inl rfl)) (pgs_cons (pg_name (i := 6) sc_is_rest.nd rfl (.inl rfl)) pgs_nil)))) (fun _ _ _ _ _ => pts_nil) (fun _ _ _ _ _ => pe_to (pe_g c_are_steps g (hr.mono (by decide)) pass0 (pa_cons (pv 5) (pa_cons (pv 6) pa_nil))))) pa_nil))))))), ?_⟩
  have la : as.length = rs.length := by have := ll.len; rwa [List.length_map] at this
  have rowAt : ∀ {H' : Hp} {i : Nat} {a : Addr}, Grow [] H H' → as[i]? = some a → ∃ r, rs[i]? = some r ∧ r ∈ rs ∧ H' a = some (.lst (r.map V.str)) := fun {H' i a} g e => by
    have hi := (List.getElem?_eq_some_iff.mp e).1
    have er : rs[i]? = some (rs[i]'(by omega)) := List.getElem?_eq_getElem (by omega)
    exact ⟨_, er, List.getElem_mem _, (ll.grow0 g).at_ i a _ e (by rw [List.getElem?_map, er]; rfl)⟩
  have fr : Fine (.list (rs.map fun b => PyData.list (b.map PyData.str))) 2 1000000 := Fine.list (n := 1) (m := 4000) (fun d hd => by
    obtain ⟨b, hb, rfl⟩ := List.mem_map.mp hd
    have h1 := (ok b hb).1.len
    exact Fine.list (n := 0) (m := 8) (fun d hd => by
      obtain ⟨z, hz, rfl⟩ := List.mem_map.mp hd
      exact fine_name (List.all_eq_true.mp (ok b hb).2 z hz)) (by rw [List.length_map]; omega)) (by rw [List.length_map]; omega)
  refine ⟨.ref t, rfl, _, "list", rfl, .lst (.inl (.inl et)), "list", "list", rfl, rfl, _, rfl, iteNS rfl ?_⟩
  refine ⟨.ref t, rfl, by show 0 ≤ sizeLine; decide, fun E1 n0 => ?_⟩
  have g0 := grow_new (ex := []) (o := .lst []) n0
  refine ⟨_, _, .lst (.inl (.inl (g0.lst (by simp) et))) (LL.dp (ll.grow0 g0)), dp_book (xs := []) (.inl (.inl upd_same)), fr.shaped (by decide), rfl, ?_⟩
  have hne : PyData.eqv (.list (rs.map fun r => PyData.list (r.map PyData.str))) (.list (([] : List Str).map PyData.str)) = false := by
    cases rs with
    | nil => exact absurd rfl ne
    | cons b r => rfl
  rw [hne]
  refine ⟨false, rfl, iteF ?_⟩
  have et0 := g0.lst (by simp) et
  refine ⟨.ref t, rfl, t, rfl, ⟨_, .inl (.inl et0)⟩, g0.tabs _ tT, ?_⟩
  refine truth_list (xs := as.map V.ref) (fun i H' => Grow [] H H') (fun H' tb => g0.trans (grow_tab (g0.tabs _ tT) tb)) (fun i H' hp => .inl (.inl (hp.lst (by simp) et))) (fun i x H' hx hp => ?_) fun H4 g4 => ?_
  · rw [List.getElem?_map] at hx
    cases ea : as[i]? with
    | none => rw [ea] at hx; cases hx
    | some a =>
      rw [ea] at hx
      cases hx
      obtain ⟨r, er, hr2, eA⟩ := rowAt hp ea
      refine ⟨rfl, .ref l, rfl, .ref m, rfl, .ref a, rfl, l, m, a, zs, ws, r, rfl, hp.tabs _ t1, hp.lst (by simp) el, hp.lst (by simp) em, eA, bz, bw, (ok r hr2).1, fun H'' g'' => ⟨true, rfl, ?_⟩⟩
      rw [if_neg (fun z => Bool.noConfusion z)]
      exact hp.trans g''
  · refine ⟨true, rfl, iteF ?_⟩
    have et4 := g4.lst (by simp) et
    refine ⟨.ref t, rfl, t, rfl, ⟨_, .inl (.inl et4)⟩, fun D1 n1 => ?_⟩
    refine lc_it (walk_list (xs := as.map V.ref)) (fun j H' => Grow [] H4 H' ∧ ∃ ds : List Addr, H' D1 = some (.lst (ds.map V.ref)) ∧ ds.length = j ∧ LL H' ds ((rs.take j).map fun b => intsN (cIn zs b 0)) ∧ ∀ d ∈ ds, d ≠ D1) ⟨grow_new n1, [], upd_same, rfl, ⟨rfl, fun i a r e => (by cases e)⟩, fun d hd => (by cases hd)⟩
      (fun j H' _ h => .inl (.inl (h.1.lst (by simp) et4))) (fun j x H5 H6 hj hp hy => ?_) (fun H5 hp => ?_)
    · obtain ⟨gj, ds, eD, lds, hds, nds⟩ := hp
      obtain ⟨rfl, ex⟩ := hy
      rw [List.getElem?_map] at ex
      cases ea : as[j]? with
      | none => rw [ea] at ex; cases ex
      | some a =>
        rw [ea] at ex
        cases ex
        have g46 := g4.trans gj
        obtain ⟨b, er, hb, eA⟩ := rowAt g46 ea
        have bl := (ok b hb).1.len
        refine ⟨rfl, yes_if ⟨.ref a, rfl, .ref l, rfl, l, zs, rfl, .inl (.inl (g46.lst (by simp) el)), bz.nd, bz.len, fun P0 H7 kvs f0 g7 e0 _ k0 => ?_⟩⟩
        refine ⟨a, P0, b, zs, kvs, rfl, g7.lst (by simp) eA, e0, k0, by omega, fun C H8 fC g8 eC => ?_⟩
        have g68 := g7.trans g8
        have eD8 := g68.lst (by simp) eD
        have CD : C ≠ D1 := (fC.ne (g7.lst (by simp) eD) (fun ps z => by cases z)).symm
        have gP := grow_at (ex := [D1]) (o := .lst (ds.map V.ref ++ [.ref C])) eD8 (fun ps z => by cases z) (by simp)
        refine ⟨_, eD8, by rw [List.length_map, lds]; rw [List.length_map] at hj; unfold sizeLine; omega, (gj.trans g68).put (fresh_none n1) eD8 (fun ps z => by cases z), ds ++ [C], ?_, ?_, ?_, ?_⟩
        · rw [upd_same, List.map_append]
          rfl
        · rw [List.length_append, lds]
          rfl
        · rw [List.take_add_one, er, List.map_append]
          refine LL.push ((hds.grow0 g68).grow gP fun d hd => by simpa using nds d hd) ?_
          rw [upd_ne CD]
          exact eC
        · intro d hd
          rcases List.mem_append.mp hd with h | h
          · exact nds d h
          · rw [List.mem_singleton.mp h]
            exact CD
    · obtain ⟨g5, ds, eD, lds, hds, nds⟩ := hp
      rw [List.length_map, la, List.take_length] at hds
      rw [List.length_map, la] at lds
      have g45 := g4.trans g5
      have rowC : ∀ {H' : Hp} {i : Nat} {a : Addr}, Grow [] H5 H' → ds[i]? = some a → ∃ b, rs[i]? = some b ∧ b ∈ rs ∧ H' a = some (.lst (intsN (cIn zs b 0))) := fun {H' i a} g e => by
        have hi := (List.getElem?_eq_some_iff.mp e).1
        have er : rs[i]? = some (rs[i]'(by omega)) := List.getElem?_eq_getElem (by omega)
        exact ⟨_, er, List.getElem_mem _, (hds.grow0 g).at_ i a _ e (by rw [List.getElem?_map, er]; rfl)⟩
      refine ⟨.ref D1, rfl, .ref D1, rfl, 1, rfl, D1, _, rfl, .inl (.inl eD), fun L nL => ?_⟩
      rw [show cutV (ds.map V.ref) (some 1) none = (ds.drop 1).map V.ref by rw [show (1 : Int) = ((1 : Nat) : Int) from rfl, cut_lo, List.map_drop]]
      have gL := grow_new (ex := []) (o := .lst ((ds.drop 1).map V.ref)) nL
      have et5 : upd H5 L (.lst ((ds.drop 1).map V.ref)) D1 = some (.lst (ds.map V.ref)) := by rw [upd_ne (ne_of_none eD nL)]; exact eD
      have eL : upd H5 L (.lst ((ds.drop 1).map V.ref)) L = some (.lst ((ds.drop 1).map V.ref)) := upd_same
      generalize upd H5 L (HO.lst ((ds.drop 1).map V.ref)) = H6 at gL et5 eL ⊢
      refine ⟨D1, L, _, _, rfl, .inl (.inl et5), .inl (.inl eL), fun D2 n2 => ?_⟩
      refine lc_it (walk_zip (xs := ds.map V.ref) (ys := (ds.drop 1).map V.ref) (n := (ds.zip (ds.drop 1)).length) (by rw [List.length_map, List.length_map, List.length_zip])) (fun j H' => Grow [] H6 H' ∧ H' D2 = some (.lst ((List.replicate j true).map V.bl)))
        ⟨grow_new n2, upd_same⟩ (fun j H' _ h => ⟨.inl (.inl (h.1.lst (by simp) et5)), .inl (.inl (h.1.lst (by simp) eL))⟩) (fun j x H7 H8 hj hp7 hy => ?_) (fun H7 hp7 => ?_)
      · obtain ⟨gj, eD2⟩ := hp7
        obtain ⟨T0, x1, x2, rfl, nT, rfl, ea, eb⟩ := hy
        replace ea : (ds.map V.ref)[j]? = some x1 := ea
        replace eb : ((ds.drop 1).map V.ref)[j]? = some x2 := eb
        rw [List.getElem?_map] at ea eb
        cases ha : ds[j]? with
        | none => rw [ha] at ea; cases ea
        | some a =>
        cases hbb : (ds.drop 1)[j]? with
        | none => rw [hbb] at eb; cases eb
        | some b =>
        rw [ha] at ea
        rw [hbb] at eb
        cases ea
        cases eb
        rw [List.getElem?_drop, Nat.add_comm] at hbb
        have gj2 := gj.new (o := .tup [.ref a, .ref b]) nT
        have eD3 : upd H7 T0 (.tup [.ref a, .ref b]) D2 = some (.lst ((List.replicate j true).map V.bl)) := by rw [upd_ne (ne_of_none eD2 nT)]; exact eD2
        have gA := gL.trans gj2
        obtain ⟨r, er, hr2, eA⟩ := rowC gA ha
        obtain ⟨r2, er2, hr3, eB⟩ := rowC gA hbb
        have l1 := cIn_len (ones := zs) r 0
        have l2 := cIn_len (ones := zs) r2 0
        have l3 := (ok r hr2).1.len
        have l4 := (ok r2 hr3).1.len
        refine ⟨T0, _, rfl, .inl (.inl upd_same), rfl, _, _, rfl, _, _, rfl, rfl, rfl, yes_if ⟨_, rfl, _, rfl, a, b, cIn zs r 0, cIn zs r2 0, rfl, eA, eB, by omega, by omega, up j r r2 er er2, fun H9 g9 => ?_⟩⟩
        have eD9 := g9.lst (by simp) eD3
        refine ⟨_, eD9, ?_, (gj2.trans g9).put (fresh_none n2) eD9 (fun ps z => by cases z), ?_⟩
        · rw [List.length_map, List.length_replicate]
          rw [List.length_zip] at hj
          unfold sizeLine
          omega
        · rw [upd_same, List.replicate_succ', List.map_append]
          rfl
      · obtain ⟨gj, eD2⟩ := hp7
        dsimp only [tNil]
        refine ⟨D2, _, rfl, .inl (.inl eD2), ?_⟩
        rw [show (List.replicate (ds.zip (ds.drop 1)).length true).all id = true by rw [List.all_replicate]; simp]
        exact q H7 ((g45.trans gL).trans gj)
end

/-! ### new lists of new lists -/
structure NewLL (H H' : Hp) (D : Addr) (rs : List (List V)) : Prop where
  fresh : Fresh H D
  ex : ∃ as : List Addr, H' D = some (.lst (as.map V.ref)) ∧ LL H' as rs ∧ as.Nodup ∧ ∀ a ∈ as, Fresh H a ∧ a ≠ D
theorem NewLL.nil {H : Hp} {D : Addr} (n : H D = none) : NewLL H (upd H D (.lst [])) D [] :=
  ⟨fresh_none n, [], upd_same, ⟨rfl, fun i a r e => (by cases e)⟩, List.nodup_nil, fun a h => (by cases h)⟩
theorem NewLL.grow {H H1 H2 : Hp} {D : Addr} {rs : List (List V)} (h : NewLL H H1 D rs) (g : Grow [] H1 H2) : NewLL H H2 D rs := by
  obtain ⟨f, as, e, l, nd, fa⟩ := h
  exact ⟨f, as, g.lst (by simp) e, l.grow0 g, nd, fa⟩
theorem NewLL.back {H0 H H' : Hp} {D : Addr} {rs : List (List V)} (h : NewLL H H' D rs) (g : Grow [] H0 H) : NewLL H0 H' D rs := by
  obtain ⟨f, as, e, l, nd, fa⟩ := h
  exact ⟨g.fresh (by simp) f, as, e, l, nd, fun a ha => ⟨g.fresh (by simp) (fa a ha).1, (fa a ha).2⟩⟩
theorem NewLL.at_ {H H' : Hp} {D : Addr} {rs : List (List V)} (h : NewLL H H' D rs) : LLat H' D rs := by
  obtain ⟨f, as, e, l, nd, fa⟩ := h
  exact ⟨as, e, l⟩
theorem NewLL.app {H H1 H2 : Hp} {D C : Addr} {rs : List (List V)} {r : List V} (h : NewLL H H1 D rs) (g : Grow [] H H1) (g2 : Grow [] H1 H2) (fC : Fresh H1 C) (eC : H2 C = some (.lst r)) :
    ∃ acc, H2 D = some (.lst acc) ∧ acc.length = rs.length ∧ Grow [] H (upd H2 D (.lst (acc ++ [.ref C]))) ∧ NewLL H (upd H2 D (.lst (acc ++ [.ref C]))) D (rs ++ [r]) := by
  obtain ⟨f, as, e, l, nd, fa⟩ := h
  have e2 := g2.lst (by simp) e
  have CD : C ≠ D := (fC.ne e (fun ps z => by cases z)).symm
  have gP := grow_at (ex := [D]) (o := .lst (as.map V.ref ++ [.ref C])) e2 (fun ps z => by cases z) (by simp)
  refine ⟨_, e2, by rw [List.length_map]; exact l.len, (g.trans g2).put f e2 (fun ps z => by cases z), f, as ++ [C], ?_, ?_, ?_, ?_⟩
  · rw [upd_same, List.map_append]
    rfl
  · refine LL.push ((l.grow0 g2).grow gP fun d hd => by simpa using (fa d hd).2) ?_
    rw [upd_ne CD]
    exact eC
  · refine List.nodup_append.mpr ⟨nd, List.nodup_cons.mpr ⟨by simp, List.nodup_nil⟩, fun x hx y hy z => ?_⟩
    rw [List.mem_singleton.mp hy] at z
    obtain ⟨i, hi⟩ := List.mem_iff_getElem?.mp hx
    have hil := (List.getElem?_eq_some_iff.mp hi).1
    have := l.at_ i x (rs[i]'(by rw [← l.len]; exact hil)) hi (List.getElem?_eq_getElem _)
    exact (fC.ne this (fun ps z => by cases z)) z
  · intro a ha
    rcases List.mem_append.mp ha with h | h
    · exact fa a h
    · rw [List.mem_singleton.mp h]
      exact ⟨g.fresh (by simp) fC, CD⟩

/-! ### rest_of, heap_of -/
/-- the book of a place -/
def bookOf (zs ws : List Str) (h : Nat) (hp : List (List Nat)) (p : Nat) : List Str := mix ws zs (hp.map (cnt (h - p))) 0
theorem up_cnt {m w h : Nat} {hp : List (List Nat)} (ok : HeapOk m w h hp) (t : Nat) : Up w (hp.map (cnt t)) 0 := by
  refine up_of (Nat.zero_le _) (fun c hc => ?_) (List.pairwise_map.mpr ?_)
  · obtain ⟨row, hr, rfl⟩ := List.mem_map.mp hc
    have := cnt_le t row
    rw [ok.wide row hr] at this
    exact ⟨Nat.zero_le _, this⟩
  · rw [List.pairwise_iff_getElem]
    intro i j hi hj hij
    have := List.pairwise_iff_getElem.mp ok.up i j hi hj hij
    exact cnt_up (ok.fall _ (List.getElem_mem _)) (ok.fall _ (List.getElem_mem _)) (by rw [ok.wide _ (List.getElem_mem _), ok.wide _ (List.getElem_mem _)]) this
section
variable {P : Program} {w : World} {K : PySem.W.Frag} {mg : Str → Option Value} {base : Heap}
def spRestOf (K : PySem.W.Frag) (T1 T T2 T3 : Addr) : Sp := fun vs H Q _ => ∃ (l m t : Addr) (zs ws : List Str) (hp : List (List Nat)) (h : Nat), vs = [.ref l, .ref m, .int (h : Nat), .ref t] ∧ TabG H T1 ∧ TabG H T ∧ TabG H T2 ∧ TabG H T3 ∧
  H l = some (.lst (zs.map V.str)) ∧ H m = some (.lst (ws.map V.str)) ∧ Bk zs ∧ Bk ws ∧ (zs ++ ws).Nodup ∧ LLat H t (hp.map intsN) ∧ HeapOk zs.length ws.length h hp ∧ 1 ≤ h ∧ h ≤ 100 ∧
  ∀ D H', Grow [] H H' → NewLL H H' D ((List.range h).map fun p => (bookOf zs ws h hp p).map V.str) → Q (.ref D) H'
theorem ok_rest_of {f c T1 T T2 T3 : Addr} {fd : FuncData} (B : Nb mg) (D : DefIs K "rest_of" "rest_of" st_rest_of f fd (.ref c))
    (c_check_sorts : Callee P w K mg base CX0 10 "check_sorts" ["ones", "others"] (spSorts K T1 T)) (c_check_hands : Callee P w K mg base CX0 2 "check_hands" ["thing"] (spHandsNo K))
    (c_is_heap : Callee P w K mg base CX0 10 "is_heap" ["many", "width", "hands", "thing"] (spIsHeap K T2 T3)) (c_counts_by : Callee P w K mg base CX0 3 "counts_by" ["heap", "least"] (spCountsBy K))
    (c_book_by : Callee P w K mg base CX0 3 "book_by" ["ones", "others", "counts"] (spBookBy K)) : FnG P w K mg base CX0 11 f fd ["ones", "others", "hands", "heap"] (spRestOf K T1 T T2 T3) := by
  refine D.ok0 (k := 10) sc_rest_of (fun vs H Q E h => ?_) (fun A outer s H vs Q E g hr h => ?_)
  · obtain ⟨l, m, t, zs, ws, hp, h, rfl, _⟩ := h
    rfl
  obtain ⟨l, m, t, zs, ws, hp, h, rfl, t1, tT, t2, t3, el, em, bz, bw, nd, lt, ok, h1, h100, q⟩ := h
  have zl := bz.len
  have wl := bw.len
  refine ⟨_,
      (pss_cons (ps_expr (pe_g c_check_sorts g (hr.mono (by decide)) pass0 (pa_cons (pv 0) (pa_cons (pv 1) pa_nil))))
      (pss_cons (ps_expr (pe_g c_check_hands g (hr.mono (by decide)) pass0 (pa_cons (pv 2) pa_nil)))
      (pss_cons (ps_if (pt_not (pt_val (pe_g c_is_heap g (hr.mono (by decide)) pass0 (pa_cons (pe_callB call_len_seq rfl B.n_len PySem.boot_len (pa_cons (pv 0) pa_nil)) (pa_cons (pe_callB call_len_seq rfl B.n_len PySem.boot_len (pa_cons (pv 1) pa_nil)) (pa_cons (pv 2) (pa_cons (pv 3) pa_nil))))))) (
        (pss_one ps_dead)) pss_nil)
      (pss_one (ps_ret (pe_lc (own := [("place", 4)]) (tt := tYes) (g := (gName 4)) rfl sc_rest_of.nd (pi_range1 rfl B.n_range (pa_cons (pv 2) pa_nil)) (blkOk_by (N := N_rest_of) (sc := defScope st_rest_of) (by decide +kernel)) (fun _ _ _ _ _ => (pg_name (i := 4) sc_rest_of.nd rfl (.inl rfl))) (fun _ _ _ _ _ => pts_nil) (fun _ _ _ _ _ => pe_to (pe_g c_book_by g (hr.mono (by decide)) pass0 (pa_cons (pv 0) (pa_cons (pv 1) (pa_cons (pe_g c_counts_by g (hr.mono (by decide)) pass0 (pa_cons (pv 3) (pa_cons (pe_op op_sub (pv 2) (pv 4)) pa_nil))) pa_nil))))))))))), ?_⟩
  refine ⟨.ref l, rfl, .ref m, rfl, l, m, zs, ws, rfl, t1, tT, el, em, bz, bw, nd, fun H1 g1 => ?_⟩
  refine ⟨.int (h : Nat), rfl, (h : Int), rfl, by omega, ?_⟩
  have el1 := g1.lst (by simp) el
  have em1 := g1.lst (by simp) em
  refine ⟨.ref l, rfl, l, _, rfl, .inl (.inl (.inl el1)), .ref m, rfl, m, _, rfl, .inl (.inl (.inl em1)), .int (h : Nat), rfl, .ref t, rfl, ?_⟩
  refine ⟨t, hp, zs.length, ws.length, h, by rw [List.length_map, List.length_map]; rfl, g1.tabs _ t2, g1.tabs _ t3, lt.grow0 g1, ok, by omega, by omega, fun H2 g2 => ⟨true, rfl, iteF ?_⟩⟩
  have g12 := g1.trans g2
  refine ⟨.int (h : Nat), rfl, (h : Int), rfl, by omega, by omega, fun D1 n1 => ?_⟩
  refine lc_it walk_range (fun i H' => Grow [] H2 H' ∧ NewLL H2 H' D1 ((List.range i).map fun p => (bookOf zs ws h hp p).map V.str)) ⟨grow_new n1, NewLL.nil n1⟩ (fun _ _ _ _ => trivial) (fun i x H3 H4 hi hp3 hy => ?_) (fun H3 hp3 => ?_)
  · obtain ⟨gj, nl⟩ := hp3
    obtain ⟨rfl, rfl⟩ := hy
    have hi : i < h := by simpa using hi
    have g13 := g12.trans gj
    refine ⟨rfl, yes_if ⟨.ref l, rfl, .ref m, rfl, .ref t, rfl, .int (h : Nat), rfl, .int (0 + (i : Int)), rfl, _, _, rfl, rfl, ?_⟩⟩
    refine ⟨t, hp, h - i, by show [V.ref t, V.int ((h : Int) - (0 + (i : Int)))] = [V.ref t, V.int ((h - i : Nat) : Int)]; rw [show (h : Int) - (0 + (i : Int)) = ((h - i : Nat) : Int) by omega], lt.grow0 g13, by have := ok.len; omega, fun r hr => by rw [ok.wide r hr]; omega, fun C H5 fC g5 eC => ?_⟩
    have g15 := g13.trans g5
    refine ⟨l, m, C, zs, ws, hp.map (cnt (h - i)), rfl, g15.lst (by simp) el, g15.lst (by simp) em, eC, by rw [List.length_map, ok.len], up_cnt ok _, by omega, by omega, fun Bk H6 fB g6 eB => ?_⟩
    obtain ⟨acc, a1, a2, a3, a4⟩ := nl.app gj (g5.trans g6) (g5.fresh (by simp) fB) eB
    refine ⟨acc, a1, by rw [a2, List.length_map, List.length_range]; unfold sizeLine; omega, a3, ?_⟩
    rw [List.range_succ, List.map_append]
    exact a4
  · obtain ⟨gj, nl⟩ := hp3
    have e : ((h : Int) - 0).toNat = h := by omega
    try rw [e] at nl
    exact q D1 H3 (g12.trans gj) (nl.back g12)
/-- the heap that a rest tells -/
def heapOf (zs ws : List Str) (rs : List (List Str)) : List (List Nat) := (List.range zs.length).map fun k => (List.range ws.length).map fun j => ((rs.map fun b => cIn zs b 0).filter fun r => decide (j < r.getD k 0)).length
def spHeapOf (K : PySem.W.Frag) (T1 T T4 T5 : Addr) : Sp := fun vs H Q _ => ∃ (l m t : Addr) (zs ws : List Str) (rs : List (List Str)), vs = [.ref l, .ref m, .ref t] ∧ TabG H T1 ∧ TabG H T ∧ TabG H T4 ∧ TabG H T5 ∧
  H l = some (.lst (zs.map V.str)) ∧ H m = some (.lst (ws.map V.str)) ∧ Bk zs ∧ Bk ws ∧ (zs ++ ws).Nodup ∧ LLat H t (rs.map fun b => b.map V.str) ∧ rs ≠ [] ∧ rs.length ≤ 100 ∧ (∀ b ∈ rs, MixOk zs ws b ∧ b.all isNm = true) ∧ (∀ b ∈ rs, (cIn zs b 0).length = zs.length) ∧
  (∀ (i : Nat) (b d : List Str), rs[i]? = some b → rs[i + 1]? = some d → ∀ (k x y : Nat), (cIn zs b 0)[k]? = some x → (cIn zs d 0)[k]? = some y → x ≤ y) ∧
  ∀ D H', Grow [] H H' → NewLL H H' D ((heapOf zs ws rs).map intsN) → Q (.ref D) H'
theorem ok_heap_of {f c T1 T T4 T5 : Addr} {fd : FuncData} (B : Nb mg) (D : DefIs K "heap_of" "heap_of" st_heap_of f fd (.ref c))
    (c_check_sorts : Callee P w K mg base CX0 10 "check_sorts" ["ones", "others"] (spSorts K T1 T)) (c_is_rest : Callee P w K mg base CX0 10 "is_rest" ["ones", "others", "thing"] (spIsRest K T4 T5))
    (c_places_of : Callee P w K mg base CX0 4 "places_of" ["book"] (spPlaces K)) (c_counts_in : Callee P w K mg base CX0 3 "counts_in" ["book", "firsts"] (spCountsIn K))
    (c_rows_above : Callee P w K mg base CX0 3 "rows_above" ["counts", "k", "j"] (spRowsAbove K)) : FnG P w K mg base CX0 11 f fd ["ones", "others", "rest"] (spHeapOf K T1 T T4 T5) := by
  refine D.ok0 (k := 10) sc_heap_of (fun vs H Q E h => ?_) (fun A outer s H vs Q E g hr h => ?_)
  · obtain ⟨l, m, t, zs, ws, rs, rfl, _⟩ := h
    rfl
  obtain ⟨l, m, t, zs, ws, rs, rfl, t1, tT, t4, t5, el, em, bz, bw, nd, lt, ne, r100, ok, clen, up, q⟩ := h
  have zl := bz.len
  have wl := bw.len
  refine ⟨_,
      (pss_cons (ps_expr (pe_g c_check_sorts g (hr.mono (by decide)) pass0 (pa_cons (pv 0) (pa_cons (pv 1) pa_nil))))
      (pss_cons (ps_if (pt_not (pt_val (pe_g c_is_rest g (hr.mono (by decide)) pass0 (pa_cons (pv 0) (pa_cons (pv 1) (pa_cons (pv 2) pa_nil)))))) (
        (pss_one ps_dead)) pss_nil)
      (pss_cons (ps_set (i := 3) sc_heap_of.nd rfl (.inr rfl) (pe_lc (own := [("book", 4)]) (tt := tYes) (g := (gName 4)) rfl sc_heap_of.nd (pi_list (pv 2)) (blkOk_by (N := N_heap_of) (sc := defScope st_heap_of) (by decide +kernel)) (fun _ _ _ _ _ => (pg_name (i := 4) sc_heap_of.nd rfl (.inl rfl))) (fun _ _ _ _ _ => pts_nil) (fun _ _ _ _ _ => pe_to (pe_g c_counts_in g (hr.mono (by decide)) pass0 (pa_cons (pv 4) (pa_cons (pe_g c_places_of g (hr.mono (by decide)) pass0 (pa_cons (pv 0) pa_nil)) pa_nil))))))
      (pss_one (ps_ret (pe_lc (own := [("k", 5)]) (tt := tYes) (g := (gName 5)) rfl sc_heap_of.nd (pi_range1 rfl B.n_range (pa_cons (pe_callB call_len_seq rfl B.n_len PySem.boot_len (pa_cons (pv 0) pa_nil)) pa_nil)) (blkOk_by (N := N_heap_of) (sc := defScope st_heap_of) (by decide +kernel)) (fun _ _ _ _ _ => (pg_name (i := 5) sc_heap_of.nd rfl (.inr rfl))) (fun _ _ _ _ _ => pts_nil) (fun _ _ _ _ _ => pe_to (pe_lc (own := [("j", 6)]) (tt := tYes) (g := (gName 6)) rfl sc_heap_of.nd (pi_range1 rfl B.n_range (pa_cons (pe_callB call_len_seq rfl B.n_len PySem.boot_len (pa_cons (pv 1) pa_nil)) pa_nil)) (blkOk_by (N := N_heap_of) (sc := { kind := ScopeKind.function, names := [(".0", NameKind.local), ("k", NameKind.cell), ("range", NameKind.globalImplicit), ("len", NameKind.globalImplicit), ("counts", NameKind.cell), ("others", NameKind.cell)], isGenerator := false, isCoroutine := false }) (by decide +kernel)) (fun _ _ _ _ _ => (pg_name (i := 6) sc_heap_of.nd rfl (.inl rfl))) (fun _ _ _ _ _ => pts_nil) (fun _ _ _ _ _ => pe_to (pe_g c_rows_above g (hr.mono (by decide)) pass0 (pa_cons (pv 3) (pa_cons (pv 5) (pa_cons (pv 6) pa_nil))))))))))))), ?_⟩
  refine ⟨.ref l, rfl, .ref m, rfl, l, m, zs, ws, rfl, t1, tT, el, em, bz, bw, nd, fun H1 g1 => ?_⟩
  refine ⟨.ref l, rfl, .ref m, rfl, .ref t, rfl, l, m, t, zs, ws, rs, rfl, g1.tabs _ t4, g1.tabs _ t5, g1.lst (by simp) el, g1.lst (by simp) em, lt.grow0 g1, bz, bw, ne, r100, ok, up, fun H2 g2 => ⟨true, rfl, iteF ?_⟩⟩
  have g12 := g1.trans g2
  obtain ⟨as, et, ll⟩ := id (lt.grow0 g12)
  have la : as.length = rs.length := by have := ll.len; rwa [List.length_map] at this
  refine ⟨.ref t, rfl, t, rfl, ⟨_, .inl (.inl et)⟩, fun D1 n1 => ?_⟩
  refine lc_it (walk_list (xs := as.map V.ref)) (fun j H' => Grow [] H2 H' ∧ NewLL H2 H' D1 ((rs.take j).map fun b => intsN (cIn zs b 0))) ⟨grow_new n1, NewLL.nil n1⟩
    (fun j H' _ h => .inl (.inl (h.1.lst (by simp) et))) (fun j x H5 H6 hj hp hy => ?_) (fun H5 hp => ?_)
  · obtain ⟨gj, nl⟩ := hp
    obtain ⟨rfl, ex⟩ := hy
    rw [List.getElem?_map] at ex
    cases ea : as[j]? with
    | none => rw [ea] at ex; cases ex
    | some a =>
      rw [ea] at ex
      cases ex
      have hi := (List.getElem?_eq_some_iff.mp ea).1
      obtain ⟨b, er⟩ : ∃ b, rs[j]? = some b := ⟨_, List.getElem?_eq_getElem (by omega)⟩
      have hb := List.mem_of_getElem? er
      have eA := (ll.grow0 gj).at_ j a (b.map V.str) ea (by rw [List.getElem?_map, er]; rfl)
      have bl := (ok b hb).1.len
      refine ⟨rfl, yes_if ⟨.ref a, rfl, .ref l, rfl, l, zs, rfl, .inl (.inl ((g12.trans gj).lst (by simp) el)), bz.nd, bz.len, fun P0 H7 kvs f0 g7 e0 _ k0 => ?_⟩⟩
      refine ⟨a, P0, b, zs, kvs, rfl, g7.lst (by simp) eA, e0, k0, by omega, fun C H8 fC g8 eC => ?_⟩
      obtain ⟨acc, a1, a2, a3, a4⟩ := nl.app gj (g7.trans g8) (g7.fresh (by simp) fC) eC
      refine ⟨acc, a1, by rw [a2, List.length_map, List.length_take]; unfold sizeLine; omega, a3, ?_⟩
      rw [List.take_add_one, er, List.map_append]
      exact a4
  · obtain ⟨g5, nl⟩ := hp
    rw [List.length_map, la, List.take_length] at nl
    have g15 := g12.trans g5
    have cat : LLat H5 D1 ((rs.map fun b => cIn zs b 0).map intsN) := by
      have := nl.at_
      rwa [show (rs.map fun b => cIn zs b 0).map intsN = rs.map fun b => intsN (cIn zs b 0) by rw [List.map_map]; rfl]
    have el5 := g15.lst (by simp) el
    have em5 := g15.lst (by simp) em
    refine ⟨.ref l, rfl, l, _, rfl, .inl (.inl (.inl el5)), ?_⟩
    dsimp only [tNil]
    refine ⟨_, rfl, by rw [List.length_map]; omega, by rw [List.length_map]; omega, fun D2 n2 => ?_⟩
    refine lc_it walk_range (fun i H' => Grow [] H5 H' ∧ NewLL H5 H' D2 ((List.range i).map fun k => intsN ((List.range ws.length).map fun j => ((rs.map fun b => cIn zs b 0).filter fun r => decide (j < r.getD k 0)).length))) ⟨grow_new n2, NewLL.nil n2⟩ (fun _ _ _ _ => trivial) (fun i x H6 H7 hi hp6 hy => ?_) (fun H6 hp6 => ?_)
    · obtain ⟨gj, nl2⟩ := hp6
      obtain ⟨rfl, rfl⟩ := hy
      have hi : i < zs.length := by
        rw [List.length_map] at hi
        simpa using hi
      have g16 := g15.trans gj
      refine ⟨rfl, yes_if ⟨.ref m, rfl, m, _, rfl, .inl (.inl (.inl (g16.lst (by simp) em))), ?_⟩⟩
      dsimp only [tNil]
      refine ⟨_, rfl, by rw [List.length_map]; omega, by rw [List.length_map]; omega, fun D3 n3 => ?_⟩
      refine lc_it walk_range (fun j H' => Grow [] H7 H' ∧ H' D3 = some (.lst (intsN ((List.range j).map fun j => ((rs.map fun b => cIn zs b 0).filter fun r => decide (j < r.getD i 0)).length)))) ⟨grow_new n3, upd_same⟩ (fun _ _ _ _ => trivial) (fun j x H8 H9 hj hp8 hy => ?_) (fun H8 hp8 => ?_)
      · obtain ⟨gk, eD3⟩ := hp8
        obtain ⟨rfl, rfl⟩ := hy
        have hj : j < ws.length := by
          rw [List.length_map] at hj
          simpa using hj
        refine ⟨rfl, yes_if ⟨.ref D1, rfl, .int (0 + (i : Int)), rfl, .int (0 + (j : Int)), rfl, D1, rs.map (fun b => cIn zs b 0), i, j, by rw [Int.zero_add, Int.zero_add]; rfl, cat.grow0 (gj.trans gk), by rw [List.length_map]; omega, fun r hr => ?_, fun H10 g10 => ?_⟩⟩
        · obtain ⟨b, hb, rfl⟩ := List.mem_map.mp hr
          rw [clen b hb]
          exact hi
        · have eD10 := g10.lst (by simp) eD3
          refine ⟨_, eD10, by rw [intsN_len, List.length_map, List.length_range]; unfold sizeLine; omega, (gk.trans g10).put (fresh_none n3) eD10 (fun ps z => by cases z), ?_⟩
          rw [upd_same, List.range_succ, List.map_append]
          unfold intsN
          rw [List.map_append]
          rfl
      · obtain ⟨gk, eD3⟩ := hp8
        have e : ((((ws.map V.str).length : Nat) : Int) - 0).toNat = ws.length := by rw [List.length_map]; omega
        try rw [e] at eD3
        try rw [show (((ws.map V.str).length : Nat) : Int).toNat = ws.length by rw [List.length_map]; omega] at eD3
        obtain ⟨acc, a1, a2, a3, a4⟩ := nl2.app gj gk (fresh_none n3) eD3
        refine ⟨acc, a1, by rw [a2, List.length_map, List.length_range]; unfold sizeLine; omega, a3, ?_⟩
        rw [List.range_succ, List.map_append]
        exact a4
    · obtain ⟨gj, nl2⟩ := hp6
      try rw [show ((((zs.map V.str).length : Nat) : Int) - 0).toNat = zs.length by rw [List.length_map]; omega] at nl2
      try rw [show (((zs.map V.str).length : Nat) : Int).toNat = zs.length by rw [List.length_map]; omega] at nl2
      refine q D2 H6 (g15.trans gj) ?_
      unfold heapOf
      rw [List.map_map]
      exact nl2.back g15
end

end Lw

namespace Lw
open PySem PySem.Spec PyProof.Rows L2 GxR Gx
/-! ### the rest of a heap and the heap of a rest -/
def restB (zs ws : List Str) (h : Nat) (hp : List (List Nat)) : List (List Str) := (List.range h).map (bookOf zs ws h hp)
section
variable {zs ws : List Str} {h : Nat} {hp : List (List Nat)}
theorem dis_of (nd : (zs ++ ws).Nodup) : (∀ x ∈ ws, x ∉ zs) ∧ ∀ x ∈ zs, x ∉ ws := by
  have := (List.nodup_append.mp nd).2.2
  exact ⟨fun x hx hz => this x hz x hx rfl, fun x hx hw => this x hx x hw rfl⟩
theorem cIn_book (nd : (zs ++ ws).Nodup) (ok : HeapOk zs.length ws.length h hp) (p : Nat) : cIn zs (bookOf zs ws h hp p) 0 = hp.map (cnt (h - p)) :=
  cIn_mix (dis_of nd).1 (by rw [List.length_map, ok.len]) (fun o ho => ho) (up_cnt ok _)
theorem mixOk (nd : (zs ++ ws).Nodup) (ok : HeapOk zs.length ws.length h hp) (p : Nat) : MixOk zs ws (bookOf zs ws h hp p) := by
  have l : zs.length = (hp.map (cnt (h - p))).length := by rw [List.length_map, ok.len]
  refine ⟨?_, mix_ones (dis_of nd).1 l fun o ho => ho, ?_⟩
  · have := mix_len l (up_cnt ok (h - p))
    rw [Nat.sub_zero] at this
    exact this
  · have := mix_others l (dis_of nd).2 (up_cnt ok (h - p))
    rw [List.drop_zero] at this
    exact this
theorem book_nm (bz : Bk zs) (bw : Bk ws) (p : Nat) : (bookOf zs ws h hp p).all isNm = true := by
  rw [List.all_eq_true]
  intro x hx
  rcases mix_mem hx with h | h
  · exact List.all_eq_true.mp bw.nm x h
  · exact List.all_eq_true.mp bz.nm x h
theorem rest_ok (bz : Bk zs) (bw : Bk ws) (nd : (zs ++ ws).Nodup) (ok : HeapOk zs.length ws.length h hp) : (∀ b ∈ restB zs ws h hp, MixOk zs ws b ∧ b.all isNm = true) ∧ ∀ b ∈ restB zs ws h hp, (cIn zs b 0).length = zs.length := by
  refine ⟨fun b hb => ?_, fun b hb => ?_⟩
  · obtain ⟨p, _, rfl⟩ := List.mem_map.mp hb
    exact ⟨mixOk nd ok p, book_nm bz bw p⟩
  · obtain ⟨p, _, rfl⟩ := List.mem_map.mp hb
    rw [cIn_book nd ok, List.length_map, ok.len]
theorem rest_at {i : Nat} {b : List Str} (e : (restB zs ws h hp)[i]? = some b) : i < h ∧ b = bookOf zs ws h hp i := by
  unfold restB at e
  rw [List.getElem?_map] at e
  have hi : i < h := by
    cases hr : (List.range h)[i]? with
    | none => rw [hr] at e; cases e
    | some x =>
      have := (List.getElem?_eq_some_iff.mp hr).1
      rwa [List.length_range] at this
  rw [List.getElem?_range hi] at e
  cases e
  exact ⟨hi, rfl⟩
theorem rest_up (nd : (zs ++ ws).Nodup) (ok : HeapOk zs.length ws.length h hp) (i : Nat) (b d : List Str) (e1 : (restB zs ws h hp)[i]? = some b) (e2 : (restB zs ws h hp)[i + 1]? = some d) (k x y : Nat)
    (hx : (cIn zs b 0)[k]? = some x) (hy : (cIn zs d 0)[k]? = some y) : x ≤ y := by
  obtain ⟨_, rfl⟩ := rest_at e1
  obtain ⟨_, rfl⟩ := rest_at e2
  rw [cIn_book nd ok, List.getElem?_map] at hx hy
  cases hr : hp[k]? with
  | none => rw [hr] at hx; cases hx
  | some row =>
    rw [hr] at hx hy
    cases hx
    cases hy
    exact cnt_anti (by omega) row
theorem filter_rest {q : List Str → Bool} {a : Nat} (hq : ∀ p, p < h → q (bookOf zs ws h hp p) = decide (a ≤ p)) : ((restB zs ws h hp).filter q).length = h - a := by
  unfold restB
  rw [List.filter_map, List.length_map]
  have : (List.range h).filter (q ∘ bookOf zs ws h hp) = (List.range h).filter fun p => decide (a ≤ p) := List.filter_congr fun p hp2 => hq p (List.mem_range.mp hp2)
  rw [this, rows_from]
/-- the heap of the rest is the heap -/
theorem heap_back (nd : (zs ++ ws).Nodup) (ok : HeapOk zs.length ws.length h hp) : heapOf zs ws (restB zs ws h hp) = hp := by
  refine List.ext_getElem? fun k => ?_
  unfold heapOf
  rw [List.getElem?_map]
  by_cases hk : k < zs.length
  · rw [List.getElem?_range hk]
    have hk2 : k < hp.length := by rw [ok.len]; exact hk
    obtain ⟨row, er⟩ : ∃ row, hp[k]? = some row := ⟨_, List.getElem?_eq_getElem hk2⟩
    rw [er]
    have hr := List.mem_of_getElem? er
    show some _ = some row
    congr 1
    refine List.ext_getElem? fun j => ?_
    rw [List.getElem?_map]
    by_cases hj : j < ws.length
    · rw [List.getElem?_range hj]
      obtain ⟨x, ex⟩ : ∃ x, row[j]? = some x := ⟨_, List.getElem?_eq_getElem (by rw [ok.wide row hr]; exact hj)⟩
      rw [ex]
      have hx := ok.top row hr x (List.mem_of_getElem? ex)
      show some _ = some x
      congr 1
      dsimp only
      rw [List.filter_map, List.length_map]
      rw [filter_rest (a := h - x) (q := (fun r : List Nat => decide (j < r.getD k 0)) ∘ fun b => cIn zs b 0) fun p hp2 => ?_]
      · omega
      · show decide (j < (cIn zs (bookOf zs ws h hp p) 0).getD k 0) = _
        rw [cIn_book nd ok, List.getD_eq_getElem?_getD, List.getElem?_map, er]
        show decide (j < cnt (h - p) row) = _
        refine decide_eq_decide.mpr ?_
        rw [cnt_iff _ (ok.fall row hr) ex]
        omega
    · rw [List.getElem?_eq_none (by rw [List.length_range]; omega), List.getElem?_eq_none (by rw [ok.wide row hr]; omega)]
      rfl
  · rw [List.getElem?_eq_none (by rw [List.length_range]; omega), List.getElem?_eq_none (by rw [ok.len]; omega)]
    rfl
/-- .. by where the words stand, too -/
theorem heap_seen (nd : (zs ++ ws).Nodup) (ok : HeapOk zs.length ws.length h hp) {k j : Nat} {o b : Str} {row : List Nat} {x : Nat} (ho : zs[k]? = some o) (hb : ws[j]? = some b) (er : hp[k]? = some row) (ex : row[j]? = some x) :
    ((restB zs ws h hp).filter fun bk => decide (bk.idxOf b < bk.idxOf o)).length = x := by
  have hr := List.mem_of_getElem? er
  have hx := ok.top row hr x (List.mem_of_getElem? ex)
  rw [filter_rest (a := h - x) fun p hp2 => ?_]
  · omega
  · refine decide_eq_decide.mpr ?_
    unfold bookOf
    rw [mix_at (c := cnt (h - p) row) (by rw [List.length_map, ok.len]) (up_cnt ok _) nd ho (by rw [List.getElem?_map, er]; rfl) hb (Nat.zero_le _), cnt_iff _ (ok.fall row hr) ex]
    omega
end

section
variable {P : Program} {w : World} {K : PySem.W.Frag} {mg : Str → Option Value} {base : Heap}
/-! ### the drawing: _law_bowl, _law_dip -/
/-- what is drawn from: a number used up first, then a mixed one; no more than c turns of it -/
def Pot (H : Hp) (p : Addr) (c : Int) : Prop := ∃ a b k : Int, H p = some (.lst [.int a, .int b, .int k]) ∧ 0 ≤ b ∧ b < 2 ^ 110 ∧ 0 ≤ k ∧ k ≤ c
theorem Pot.mono {H : Hp} {p : Addr} {c c' : Int} (h : Pot H p c) (l : c ≤ c') : Pot H p c' := by
  obtain ⟨a, b, k, e, b1, b2, b3, b4⟩ := h
  exact ⟨a, b, k, e, b1, b2, b3, by omega⟩
theorem Pot.new {H : Hp} {p q : Addr} {o : HO} {c : Int} (h : Pot H p c) (n : H q = none) : Pot (upd H q o) p c := by
  obtain ⟨a, b, k, e, r⟩ := h
  exact ⟨a, b, k, by rw [upd_ne (ne_of_none e n)]; exact e, r⟩
theorem Pot.at {H : Hp} {p q : Addr} {o : HO} {c : Int} (h : Pot H p c) (n : p ≠ q) : Pot (upd H q o) p c := by
  obtain ⟨a, b, k, e, r⟩ := h
  exact ⟨a, b, k, by rw [upd_ne n]; exact e, r⟩
theorem Fresh.back {H H2 : Hp} {D p : Addr} {c : Int} (fr : Fresh H2 D) (g : Grow [p] H H2) (h : Pot H2 p c) : Fresh H D := by
  obtain ⟨a, b, k, e, _⟩ := h
  have n := fr.ne e (fun ps z => by cases z)
  exact g.fresh (by simpa using n.symm) fr
theorem fig_step {f x M A B : Int} (f0 : 0 ≤ f) (f1 : f < A) (x0 : 0 ≤ x) (x1 : x < M) (hM : M ≤ B) : 0 ≤ f * M + x ∧ f * M + x < A * B := by
  have M0 : 0 ≤ M := by omega
  have h1 : 0 ≤ f * M := Int.mul_nonneg f0 M0
  have h2 : (f + 1) * M ≤ A * M := Int.mul_le_mul_of_nonneg_right (by omega) M0
  have h3 : A * M ≤ A * B := Int.mul_le_mul_of_nonneg_left hM (by omega)
  rw [Int.add_mul, Int.one_mul] at h2
  omega
def spBowl (K : PySem.W.Frag) : Sp := fun vs H Q _ => ∃ (s : Addr) (ns : List Int), vs = [.ref s] ∧ SqL K H s (ns.map V.int) ∧ ∀ p H', Fresh H p → Grow [] H H' → Pot H' p 0 → Q (.ref p) H'
theorem ok_law_bowl {f c : Addr} {fd : FuncData} (B : Nb mg) (D : DefIs K "_law_bowl" "_law_bowl" st_law_bowl f fd (.ref c)) : FnG P w K mg base CX0 3 f fd ["script"] (spBowl K) := by
  refine D.ok0 (k := 2) sc_law_bowl (fun vs H Q E h => ?_) (fun A outer s H vs Q E g hr h => ?_)
  · obtain ⟨s, ns, rfl, _⟩ := h
    rfl
  obtain ⟨l, ns, rfl, hl, q⟩ := h
  refine ⟨_,
      (pss_cons (ps_set (i := 1) sc_law_bowl.nd rfl (.inl rfl) pe_int)
      (pss_cons (ps_set (i := 2) sc_law_bowl.nd rfl (.inl rfl) pe_int)
      (pss_cons (ps_for PassesOwn.never rfl (pi_list (pe_slice sl_list (pv 0) po_none (po_some pe_int))) (pg_name (i := 3) sc_law_bowl.nd rfl (.inl rfl)) (
        (pss_cons (ps_set (i := 1) sc_law_bowl.nd rfl (.inl rfl) (pe_op op_add (pe_op op_mulX (pv 1) (pe_op op_powX (pe_op op_powX pe_int pe_int) pe_int)) (pe_op op_mod (pe_callB (call_max2 rfl) rfl B.n_max (by decide +kernel) (pa_cons pe_int (pa_cons (pe_op op_sub (pe_callB call_abs rfl B.n_abs (by decide +kernel) (pa_cons (pv 3) pa_nil)) (pe_op op_powX pe_int pe_int)) pa_nil))) (pe_op op_powX (pe_op op_powX pe_int pe_int) pe_int))))
        (pss_one (ps_set (i := 2) sc_law_bowl.nd rfl (.inl rfl) (pe_op op_mod (pe_op op_add (pe_op op_add (pe_op op_mulX (pv 2) pe_int) (pv 3)) pe_int) pe_int))))))
      (pss_one (ps_ret (pe_lst (pa_cons (pv 1) (pa_cons (pv 2) (pa_cons pe_int pa_nil))))))))), ?_⟩
  obtain ⟨M, hM⟩ : ∃ M : Int, ((10 : Int) ^ (45 : Int).toNat) ^ (9 : Int).toNat = M := ⟨_, rfl⟩
  have M0 : 0 < M := by rw [← hM]; decide +kernel
  have M1 : M ≤ 2 ^ 1347 := by rw [← hM]; decide +kernel
  have bM : Builtin.Int.intBits M ≤ 1348 := bits_le (by decide) (by
    have e : (2 : Int) ^ 1348 = 2 ^ 1347 * 2 := by rw [Int.pow_succ]
    have e2 : ((2 ^ 1348 : Nat) : Int) = (2 : Int) ^ 1348 := by rw [Int.natCast_pow]; rfl
    have : (M.natAbs : Int) < ((2 ^ 1348 : Nat) : Int) := by rw [e2, e]; omega
    exact Int.ofNat_lt.mp this)
  have cp1 : CPowX 10 45 := ⟨by decide, by decide⟩
  have cp2 : CPowX ((10 : Int) ^ (45 : Int).toNat) 9 := ⟨by decide, by decide +kernel⟩
  have cp3 : CPowX 10 18 := ⟨by decide, by decide⟩
  refine ⟨.ref l, rfl, 45, rfl, l, _, rfl, hl, fun L nL => ?_⟩
  have eL : upd H L (.lst (cutV (ns.map V.int) none (some 45))) L = some (.lst ((ns.take 45).map V.int)) := by rw [upd_same, show (45 : Int) = ((45 : Nat) : Int) from rfl, cut_hi, List.map_take]
  have gL := grow_new (ex := []) (o := .lst (cutV (ns.map V.int) none (some 45))) nL
  generalize upd H L (HO.lst (cutV (ns.map V.int) none (some 45))) = H1 at eL gL ⊢
  refine ⟨L, rfl, ⟨_, .inl (.inl eL)⟩, ?_⟩
  refine for_it (walk_list (xs := (ns.take 45).map V.int)) (fun i σ H' => ∃ (x : Option V) (f d : Int), σ = [some (.ref l), some (.int f), some (.int d), x] ∧ H' = H1 ∧ 0 ≤ f ∧ f < 2 ^ (1347 * i) ∧ 0 ≤ d ∧ d < 2 ^ 108) ⟨none, 0, 57885161, rfl, rfl, by decide, by decide, by decide, by decide⟩
    (fun i σ H' _ h => by
      obtain ⟨_, _, _, _, rfl, _⟩ := h
      exact .inl (.inl eL)) (fun i x σ H2 H3 hi hp hy => ?_) (fun σ H' hp => ?_)
  · obtain ⟨x0, fg, d, rfl, rfl, f0, f1, d0, d1⟩ := hp
    obtain ⟨rfl, ex⟩ := hy
    rw [List.getElem?_map] at ex
    rw [List.length_map, List.length_take] at hi
    cases ec : (ns.take 45)[i]? with
    | none => rw [ec] at ex; cases ex
    | some cell =>
      rw [ec] at ex
      cases ex
      have bf : Builtin.Int.intBits fg ≤ 1347 * i + 1 := bits_le (by omega) (by
        have e2 : ((2 ^ (1347 * i + 1) : Nat) : Int) = (2 : Int) ^ (1347 * i) * 2 := by rw [Int.natCast_pow, ← Int.pow_succ]; rfl
        have : (fg.natAbs : Int) < ((2 ^ (1347 * i + 1) : Nat) : Int) := by rw [e2]; omega
        exact Int.ofNat_lt.mp this)
      have cm : CMulX fg M := by
        unfold CMulX
        omega
      have bd : Builtin.Int.intBits d ≤ 108 := bits_le (by decide) (by omega)
      have cm2 : CMulX d 6700417 := by
        have : Builtin.Int.intBits 6700417 ≤ 23 := bits_le (by decide) (by decide)
        unfold CMulX
        omega
      have cm' : CMulX fg (((10 : Int) ^ (45 : Int).toNat) ^ (9 : Int).toNat) := by rw [hM]; exact cm
      have M0' : 0 < (((10 : Int) ^ (45 : Int).toNat) ^ (9 : Int).toNat) := by rw [hM]; exact M0
      refine ⟨.int fg, rfl, 10, 45, rfl, rfl, cp1, _, 9, rfl, rfl, cp2, _, _, rfl, rfl, cm', .int cell, rfl, cell, rfl, 10, 18, rfl, rfl, cp3, _, _, rfl, rfl, _, _, rfl, 10, 45, rfl, rfl, cp1, _, 9, rfl, rfl, cp2, _, _, rfl, rfl, M0', _, _, rfl, rfl, ?_⟩
      refine ⟨.int d, rfl, _, _, rfl, rfl, cm2, .int cell, rfl, _, _, rfl, rfl, _, _, rfl, rfl, _, _, rfl, rfl, (by decide : (0 : Int) < 162259276829213363391578010288127), ?_⟩
      obtain ⟨y, hy⟩ : ∃ y : Int, (if (if cell < 0 then -cell else cell) - 10 ^ (18 : Int).toNat > 0 then (if cell < 0 then -cell else cell) - 10 ^ (18 : Int).toNat else 0) = y := ⟨_, rfl⟩
      have hs := fig_step (x := y % M) f0 f1 (Int.emod_nonneg _ (by omega)) (Int.emod_lt_of_pos _ M0) M1
      have e3 : (2 : Int) ^ (1347 * (i + 1)) = 2 ^ (1347 * i) * 2 ^ 1347 := by rw [← Int.pow_add, Nat.mul_add, Nat.mul_one]
      have h1 := Int.emod_nonneg (d * 6700417 + cell + 211) (show (162259276829213363391578010288127 : Int) ≠ 0 by decide)
      have h2 := Int.emod_lt_of_pos (d * 6700417 + cell + 211) (show (0 : Int) < 162259276829213363391578010288127 by decide)
      refine ⟨_, _, _, rfl, rfl, ?_, ?_, h1, ?_⟩
      · rw [hM, hy]
        exact hs.1
      · rw [hM, hy, e3]
        exact hs.2
      · obtain ⟨z, hz⟩ : ∃ z, (d * 6700417 + cell + 211) % 162259276829213363391578010288127 = z := ⟨_, rfl⟩
        rw [hz] at h2 ⊢
        omega
  · obtain ⟨x0, fg, d, rfl, rfl, f0, f1, d0, d1⟩ := hp
    refine ⟨_, rfl, _, rfl, by show 3 ≤ sizeLine; decide, fun p np => ?_⟩
    exact q p _ (gL.fresh (by simp) (fresh_none np)) (gL.new np) ⟨fg, d, 0, upd_same, d0, by omega, by omega, by omega⟩
def spDip (K : PySem.W.Frag) : Sp := fun vs H Q _ => ∃ (p : Addr) (m c : Int), vs = [.ref p, .int m] ∧ 1 ≤ m ∧ m < 2 ^ 30 ∧ c ≤ 2 ^ 30 ∧ Pot H p c ∧ ∀ v H', 0 ≤ v → v < m → Grow [p] H H' → Pot H' p (c + 1) → Q (.int v) H'
theorem ok_law_dip {f c : Addr} {fd : FuncData} (B : Nb mg) (D : DefIs K "_law_dip" "_law_dip" st_law_dip f fd (.ref c)) : FnG P w K mg base CX0 3 f fd ["bowl", "many"] (spDip K) := by
  refine D.ok0 (k := 2) sc_law_dip (fun vs H Q E h => ?_) (fun A outer s H vs Q E g hr h => ?_)
  · obtain ⟨p, m, c, rfl, _⟩ := h
    rfl
  obtain ⟨p, m, c, rfl, m1, m2, c1, ⟨a, b, k, e, b1, b2, k1, k2⟩, q⟩ := h
  refine ⟨_,
      (pss_cons (ps_if (pt_cmpR (op_gt) (pe_ix ix_list (pv 0) pe_int (fun _ _ => rfl)) pe_int (nomark _)) (
        (pss_cons (ps_set (i := 2) sc_law_dip.nd rfl (.inl rfl) (pe_op op_mod (pe_ix ix_list (pv 0) pe_int (fun _ _ => rfl)) (pv 1)))
        (pss_cons (ps_asg (pe_op op_fdiv (pe_ix ix_list (pv 0) pe_int (fun _ _ => rfl)) (pv 1)) (pg_sub (pv 0) pe_int set_list))
        (pss_one (ps_ret (pv 2)))))) pss_nil)
      (pss_cons (ps_asg (pe_op op_add (pe_ix ix_list (pv 0) pe_int (fun _ _ => rfl)) pe_int) (pg_sub (pv 0) pe_int set_list))
      (pss_cons (ps_set (i := 3) sc_law_dip.nd rfl (.inl rfl) (pe_op op_mod (pe_op op_powX (pe_op op_add (pe_ix ix_list (pv 0) pe_int (fun _ _ => rfl)) (pe_op op_mulX pe_int (pe_ix ix_list (pv 0) pe_int (fun _ _ => rfl)))) pe_int) pe_int))
      (pss_cons (ps_set (i := 3) sc_law_dip.nd rfl (.inl rfl) (pe_op op_mod (pe_op op_powX (pe_op op_add (pv 3) (pe_op op_mulX pe_int (pe_ix ix_list (pv 0) pe_int (fun _ _ => rfl)))) pe_int) pe_int))
      (pss_one (ps_ret (pe_op op_mod (pe_op op_fdiv (pv 3) pe_int) (pv 1)))))))), ?_⟩
  have sq : ∀ {H' : Hp} {x y z : Int}, H' p = some (.lst [.int x, .int y, .int z]) → SqL K H' p [.int x, .int y, .int z] := fun h => .inl (.inl h)
  refine ⟨.ref p, rfl, p, _, 0, .int a, rfl, rfl, sq e, rfl, _, _, rfl, rfl, _, rfl, ite2 (fun ha => ?_) fun _ => ?_⟩
  · refine ⟨.ref p, rfl, p, _, 0, .int a, rfl, rfl, sq e, rfl, .int m, rfl, _, _, rfl, rfl, m1, .ref p, rfl, p, _, 0, .int a, rfl, rfl, sq e, rfl, .int m, rfl, _, _, rfl, rfl, ⟨m1, m2⟩, .ref p, rfl, p, _, 0, 0, rfl, rfl, e, rfl, .int (a % m), rfl, ?_⟩
    exact q _ _ (Int.emod_nonneg _ (by omega)) (Int.emod_lt_of_pos _ m1) (grow_at e (fun ps z => by cases z) (by simp)) ⟨_, _, _, upd_same, b1, b2, k1, by omega⟩
  · refine ⟨.ref p, rfl, p, _, 2, .int k, rfl, rfl, sq e, rfl, _, _, rfl, rfl, .ref p, rfl, p, _, 2, 2, rfl, rfl, e, rfl, ?_⟩
    have e2 : upd H p (.lst [.int a, .int b, .int (k + 1)]) p = some (.lst [.int a, .int b, .int (k + 1)]) := upd_same
    have fin : ∀ x : Int, Q (.int (x / 1048573 % m)) (upd H p (.lst [.int a, .int b, .int (k + 1)])) := fun x =>
      q _ _ (Int.emod_nonneg _ (by omega)) (Int.emod_lt_of_pos _ m1) (grow_at e (fun ps z => by cases z) (by simp)) ⟨_, _, _, e2, b1, b2, by omega, by omega⟩
    have bk : Builtin.Int.intBits (k + 1) ≤ 31 := bits_le (by decide) (by omega)
    have cm1 : CMulX 2147483647 (k + 1) := by
      have : Builtin.Int.intBits 2147483647 ≤ 31 := bits_le (by decide) (by decide)
      unfold CMulX
      omega
    have cm2 : CMulX 524287 (k + 1) := by
      have : Builtin.Int.intBits 524287 ≤ 20 := bits_le (by decide) (by decide)
      unfold CMulX
      omega
    have cp1 : CPowX (b + 2147483647 * (k + 1)) 3 := by
      have : Builtin.Int.intBits (b + 2147483647 * (k + 1)) ≤ 111 := bits_le (by decide) (by omega)
      exact ⟨by decide, by omega⟩
    have cp2 : ∀ y : Int, CPowX (y % 170141183460469231731687303715884105727 + 524287 * (k + 1)) 3 := fun y => by
      have h1 := Int.emod_nonneg y (show (170141183460469231731687303715884105727 : Int) ≠ 0 by decide)
      have h2 := Int.emod_lt_of_pos y (show (0 : Int) < 170141183460469231731687303715884105727 by decide)
      obtain ⟨x, hx⟩ : ∃ x, y % 170141183460469231731687303715884105727 = x := ⟨_, rfl⟩
      rw [hx] at h1 h2 ⊢
      have : Builtin.Int.intBits (x + 524287 * (k + 1)) ≤ 129 := bits_le (by decide) (by omega)
      exact ⟨by decide, by omega⟩
    refine ⟨.ref p, rfl, p, _, 1, .int b, rfl, rfl, sq e2, rfl, .ref p, rfl, p, _, 2, .int (k + 1), rfl, rfl, sq e2, rfl, _, _, rfl, rfl, cm1, _, _, rfl, rfl, _, _, rfl, rfl, cp1, _, _, rfl, rfl, (by decide : (0 : Int) < 170141183460469231731687303715884105727), ?_⟩
    exact ⟨.int _, rfl, .ref p, rfl, p, _, 2, .int (k + 1), rfl, rfl, sq e2, rfl, _, _, rfl, rfl, cm2, _, _, rfl, rfl, _, _, rfl, rfl, cp2 _, _, _, rfl, rfl, (by decide : (0 : Int) < 618970019642690137449562111), .int _, rfl, _, _, rfl, rfl, (⟨by decide, by decide⟩ : CDiv _ 1048573), .int m, rfl, _, _, rfl, rfl, m1, fin _⟩
end

end Lw

namespace Lw
open PySem PySem.Spec PyProof.Rows L2 GxR Gx
section
variable {P : Program} {w : World} {K : PySem.W.Frag} {mg : Str → Option Value} {base : Heap}
/-! ### _law_names, _law_sorts -/
def namesA : List Str := ["shout", "hear", "net", "none", "open", "a", "an", "ana", "anna", "bo", "b", "word", "book", "lane"]
def namesB : List Str := ["rest", "zzzzzzzz", "z", "step", "join", "mouth", "eightlet"]
def letter (k : Nat) : Str := ⟨#[97 + k]⟩
def nmJ (k : Nat) : Str := (letter (k / 26) ++ ("j" : Str)) ++ letter (k % 26)
theorem letters_at : ∀ k : Nat, k < 26 → ("abcdefghijklmnopqrstuvwxyz" : Str).cps.toList[k]? = some (97 + k) := by decide +kernel
def namesC (n : Nat) : List Str := (namesA ++ namesB) ++ (List.range n).map nmJ
theorem namesC_nm51 : (namesC 51).all isNm = true := by decide +kernel
theorem namesC_nd51 : (namesC 51).Nodup := by decide +kernel
theorem namesC_sub {n : Nat} (h : n ≤ 51) : (namesC n).Sublist (namesC 51) := (List.Sublist.refl _).append ((List.range_sublist.mpr h).map nmJ)
theorem namesC_nd {n : Nat} (h : n ≤ 51) : (namesC n).Nodup := namesC_nd51.sublist (namesC_sub h)
theorem namesC_nm {n : Nat} (h : n ≤ 51) : (namesC n).all isNm = true := List.all_eq_true.mpr fun x hx => List.all_eq_true.mp namesC_nm51 x ((namesC_sub h).subset hx)
theorem namesC_len (n : Nat) : (namesC n).length = 21 + n := by
  unfold namesC
  rw [List.length_append, List.length_map, List.length_range]
  rfl
def spNames (K : PySem.W.Frag) : Sp := fun vs H Q _ => ∃ (p : Addr) (m : Nat) (c : Int), vs = [.ref p, .int m] ∧ m ≤ 72 ∧ Pot H p c ∧ c ≤ 2 ^ 20 ∧
  ∀ (D : Addr) (H' : Hp) (ys : List Str), Fresh H D → Grow [p] H H' → H' D = some (.lst (ys.map V.str)) → ys.Nodup → ys.all isNm = true → ys.length = m → Pot H' p (c + 80) → Q (.ref D) H'
theorem ok_law_names {f c : Addr} {fd : FuncData} (B : Nb mg) (D : DefIs K "_law_names" "_law_names" st_law_names f fd (.ref c))
    (c_law_dip : Callee P w K mg base CX0 3 "_law_dip" ["bowl", "many"] (spDip K)) : FnG P w K mg base CX0 4 f fd ["bowl", "many"] (spNames K) := by
  refine D.ok0 (k := 3) sc_law_names (fun vs H Q E h => ?_) (fun A outer s H vs Q E g hr h => ?_)
  · obtain ⟨p, m, c, rfl, _⟩ := h
    rfl
  obtain ⟨p, m, c, rfl, hm, hp, hc, q⟩ := h
  refine ⟨_,
      (pss_cons (ps_set (i := 2) sc_law_names.nd rfl (.inr rfl) (pe_lst (pa_cons pe_str (pa_cons pe_str (pa_cons pe_str (pa_cons pe_str (pa_cons pe_str (pa_cons pe_str (pa_cons pe_str (pa_cons pe_str (pa_cons pe_str (pa_cons pe_str (pa_cons pe_str (pa_cons pe_str (pa_cons pe_str (pa_cons pe_str pa_nil))))))))))))))))
      (pss_cons (ps_set (i := 2) sc_law_names.nd rfl (.inr rfl) (pe_op op_cat (pv 2) (pe_lst (pa_cons pe_str (pa_cons pe_str (pa_cons pe_str (pa_cons pe_str (pa_cons pe_str (pa_cons pe_str (pa_cons pe_str pa_nil))))))))))
      (pss_cons (ps_set (i := 3) sc_law_names.nd rfl (.inr rfl) pe_str)
      (pss_cons (ps_set (i := 2) sc_law_names.nd rfl (.inr rfl) (pe_op op_cat (pv 2) (pe_lc (own := [("k", 4)]) (tt := tYes) (g := (gName 4)) rfl sc_law_names.nd (pi_range1 rfl B.n_range (pa_cons (pe_callB (call_max2 rfl) rfl B.n_max (by decide +kernel) (pa_cons pe_int (pa_cons (pe_op op_sub (pv 1) pe_int) pa_nil))) pa_nil)) (blkOk_by (N := N_law_names) (sc := defScope st_law_names) (by decide +kernel)) (fun _ _ _ _ _ => (pg_name (i := 4) sc_law_names.nd rfl (.inl rfl))) (fun _ _ _ _ _ => pts_nil) (fun _ _ _ _ _ => pe_to (pe_op op_add_str (pe_op op_add_str (pe_ix ix_str (pv 3) (pe_op op_fdiv (pv 4) pe_int) (fun _ _ => rfl)) pe_str) (pe_ix ix_str (pv 3) (pe_op op_mod (pv 4) pe_int) (fun _ _ => rfl)))))))
      (pss_one (ps_ret (pe_lc (own := [("k", 4)]) (tt := tYes) (g := (gName 4)) rfl sc_law_names.nd (pi_range1 rfl B.n_range (pa_cons (pv 1) pa_nil)) (blkOk_by (N := N_law_names) (sc := defScope st_law_names) (by decide +kernel)) (fun _ _ _ _ _ => (pg_name (i := 4) sc_law_names.nd rfl (.inl rfl))) (fun _ _ _ _ _ => pts_nil) (fun _ _ _ _ _ => pe_to (pe_bm PySem.F.plainAttrs_list PySem.F.slot_list_pop PySem.F.type_list_pop mt_popAt (pv 2) (pa_cons (pe_g c_law_dip g (hr.mono (by decide)) pass0 (pa_cons (pv 0) (pa_cons (pe_callB call_len_seq rfl B.n_len PySem.boot_len (pa_cons (pv 2) pa_nil)) pa_nil))) pa_nil)))))))))), ?_⟩
  obtain ⟨pa, pb, pk, ep, pr⟩ := id hp
  refine ⟨by show 14 ≤ sizeLine; decide, fun A1 n1 => ⟨.ref A1, rfl, by show 7 ≤ sizeLine; decide, fun A2 n2 => ?_⟩⟩
  have e1 : upd (upd H A1 (.lst (namesA.map V.str))) A2 (.lst (namesB.map V.str)) A1 = some (.lst (namesA.map V.str)) := by
    rw [upd_ne (ne_of_none upd_same n2)]
    exact upd_same
  refine ⟨A1, A2, _, _, rfl, rfl, e1, upd_same, by decide, fun A3 n3 => ?_⟩
  have g3 := ((grow_new (ex := []) (o := .lst (namesA.map V.str)) n1).new (o := .lst (namesB.map V.str)) n2).new (o := .lst (namesA.map V.str ++ namesB.map V.str)) n3
  have e3 : upd (upd (upd H A1 (.lst (namesA.map V.str))) A2 (.lst (namesB.map V.str))) A3 (.lst (namesA.map V.str ++ namesB.map V.str)) A3 = some (.lst ((namesA ++ namesB).map V.str)) := by rw [upd_same, List.map_append]
  refine ⟨.ref A3, rfl, .int m, rfl, _, _, rfl, rfl, _, _, rfl, ?_⟩
  obtain ⟨n, en, hn⟩ : ∃ n : Nat, (if ((m : Int) - 21 > 0) then (m : Int) - 21 else 0) = (n : Nat) ∧ n = m - 21 := by
    by_cases h : (m : Int) - 21 > 0
    · exact ⟨m - 21, by rw [if_pos h]; omega, rfl⟩
    · exact ⟨0, by rw [if_neg h]; rfl, by omega⟩
  rw [en]
  refine ⟨n, rfl, by omega, by omega, fun A4 n4 => ?_⟩
  have f4 : Fresh (upd (upd (upd H A1 (.lst (namesA.map V.str))) A2 (.lst (namesB.map V.str))) A3 (.lst (namesA.map V.str ++ namesB.map V.str))) A4 := fresh_none n4
  have A43 : A3 ≠ A4 := ne_of_none e3 n4
  have f4H : Fresh H A4 := g3.fresh0 n4
  refine lc_it walk_range (fun i H' => Grow [] H H' ∧ H' A3 = some (.lst ((namesA ++ namesB).map V.str)) ∧ H' A4 = some (.lst (((List.range i).map nmJ).map V.str))) ⟨g3.new n4, by rw [upd_ne A43]; exact e3, upd_same⟩ (fun _ _ _ _ => trivial) (fun i x H4 H5 hi hp4 hy => ?_) (fun H4 hp4 => ?_)
  · obtain ⟨g1, eA3, e1⟩ := hp4
    obtain ⟨rfl, rfl⟩ := hy
    have hi : i < n := by simpa using hi
    refine ⟨rfl, yes_if ?_⟩
    have ci : ((0 : Int) + (i : Int)) / 26 = ((i / 26 : Nat) : Int) := by omega
    have cj : ((0 : Int) + (i : Int)) % 26 = ((i % 26 : Nat) : Int) := by omega
    refine ⟨.str "abcdefghijklmnopqrstuvwxyz", rfl, .int (0 + i), rfl, _, _, rfl, rfl, (⟨by decide, by decide⟩ : CDiv _ 26), _, _, 97 + i / 26, rfl, rfl, by decide, ?_, _, _, rfl, rfl, (by show 2 ≤ sizeLine; decide), .str "abcdefghijklmnopqrstuvwxyz", rfl, .int (0 + i), rfl, _, _, rfl, rfl, (by decide : (0 : Int) < 26), _, _, 97 + i % 26, rfl, rfl, by decide, ?_, _, _, rfl, rfl, (by show 3 ≤ sizeLine; decide), _, e1, ?_, g1.put f4H e1 (fun ps z => by cases z), ?_, ?_⟩
    · rw [ci]
      exact atI_nat (letters_at _ (by omega))
    · rw [cj]
      exact atI_nat (letters_at _ (by omega))
    · rw [List.length_map, List.length_map, List.length_range]
      unfold sizeLine
      omega
    · rw [upd_ne A43]
      exact eA3
    · rw [upd_same, List.range_succ, List.map_append, List.map_append]
      rfl
  obtain ⟨g4, e34, e44⟩ := hp4
  try rw [show ((n : Int) - 0).toNat = n by omega] at e44
  try rw [show ((n : Int)).toNat = n by omega] at e44
  refine ⟨A3, A4, _, _, rfl, rfl, e34, e44, by rw [List.length_map, List.length_map, List.length_map, List.length_range]; show 21 + n ≤ sizeLine; unfold sizeLine; omega, fun P1 nP => ?_⟩
  rw [← List.map_append]
  have g1 := g4.new (o := .lst ((namesA ++ namesB ++ (List.range n).map nmJ).map V.str)) nP
  have n51 : n ≤ 51 := by omega
  obtain ⟨pl, hpl⟩ : ∃ pl, namesA ++ namesB ++ (List.range n).map nmJ = pl := ⟨_, rfl⟩
  have pnd : pl.Nodup := by rw [← hpl]; exact namesC_nd n51
  have pnm : pl.all isNm = true := by rw [← hpl]; exact namesC_nm n51
  have pln : pl.length = 21 + n := by rw [← hpl]; exact namesC_len n
  rw [hpl] at g1 ⊢
  have f1 : Fresh H P1 := g4.fresh (by simp) (fresh_none nP)
  have p1 : P1 ≠ p := (f1.ne ep (fun ps z => by cases z)).symm
  have eP0 : upd H4 P1 (.lst (pl.map V.str)) P1 = some (.lst (pl.map V.str)) := upd_same
  generalize upd H4 P1 (HO.lst (pl.map V.str)) = H5 at g1 eP0 ⊢
  refine ⟨.int m, rfl, m, rfl, by omega, by omega, fun D1 nD => ?_⟩
  have fD : Fresh H D1 := g1.fresh0 nD
  have pD : D1 ≠ p := (fD.ne ep (fun ps z => by cases z)).symm
  have P1D : P1 ≠ D1 := ne_of_none eP0 nD
  have g2 := g1.new (o := .lst []) nD
  have pot2 : Pot (upd H5 D1 (.lst [])) p c := ⟨pa, pb, pk, g2.lst (by simp) ep, pr⟩
  refine lc_it walk_range (fun k H' => ∃ fs ls : List Str, fs.length = k ∧ (fs ++ ls).Perm pl ∧ H' P1 = some (.lst (ls.map V.str)) ∧ H' D1 = some (.lst (fs.map V.str)) ∧ Pot H' p (c + k) ∧ Grow [p] H H') ⟨[], pl, rfl, .refl _, by rw [upd_ne P1D]; exact eP0, upd_same, pot2.mono (by omega), g2.any⟩
    (fun _ _ _ _ => trivial) (fun k x H4 H5 hk hw hy => ?_) (fun H4 hw => ?_)
  · obtain ⟨fs, ls, lf, pm, eP1, eD1, pot, gr4⟩ := hw
    obtain ⟨rfl, rfl⟩ := hy
    have ll : fs.length + ls.length = pl.length := by have := pm.length_eq; rwa [List.length_append] at this
    have hk' : k < m := by omega
    refine ⟨rfl, yes_if ⟨.ref P1, rfl, tyl eP1, .ref p, rfl, .ref P1, rfl, P1, _, rfl, .inl (.inl (.inl eP1)), p, _, _, rfl, by rw [List.length_map]; omega, by rw [List.length_map]; omega, by omega, pot, fun v H6 v0 v1 g6 pot6 => ?_⟩⟩
    rw [List.length_map] at v1
    have eP6 := g6.lst (by simpa using p1) eP1
    have eD6 := g6.lst (by simpa using pD) eD1
    have hv : v.toNat < ls.length := by omega
    refine ⟨P1, _, v, v.toNat, .str ls[v.toNat], rfl, rfl, eP6, by omega, by omega, seqIndex_nat v0 (by rw [List.length_map]; exact v1), by rw [List.getElem?_map, List.getElem?_eq_getElem hv]; rfl, ?_⟩
    have g7 := (gr4.trans g6).put (o := .lst ((ls.map V.str).eraseIdx v.toNat)) f1 eP6 (fun ps z => by cases z)
    have eD7 : upd H6 P1 (.lst ((ls.map V.str).eraseIdx v.toNat)) D1 = some (.lst (fs.map V.str)) := by rw [upd_ne P1D.symm]; exact eD6
    refine ⟨_, eD7, by rw [List.length_map]; unfold sizeLine; omega, fs ++ [ls[v.toNat]], ls.eraseIdx v.toNat, by rw [List.length_append, lf]; rfl, ?_, ?_, by rw [upd_same, List.map_append]; rfl, ?_, g7.put fD eD7 (fun ps z => by cases z)⟩
    · rw [List.append_assoc]
      exact (List.Perm.append_left fs (erase_perm ls v.toNat hv)).trans pm
    · rw [upd_ne P1D, upd_same, erase_map]
    · have := ((pot6.at (o := .lst ((ls.map V.str).eraseIdx v.toNat)) p1.symm).at (o := .lst (fs.map V.str ++ [.str ls[v.toNat]])) pD.symm)
      exact this.mono (by omega)
  · obtain ⟨fs, ls, lf, pm, eP1, eD1, pot, gr4⟩ := hw
    refine q D1 H4 fs fD gr4 eD1 ?_ ?_ (by omega) (pot.mono (by omega))
    · exact (List.nodup_append.mp (pm.nodup_iff.mpr pnd)).1
    · exact List.all_eq_true.mpr fun x hx => List.all_eq_true.mp pnm x (pm.mem_iff.mp (List.mem_append_left _ hx))
def spTwo (K : PySem.W.Frag) : Sp := fun vs H Q _ => ∃ (p : Addr) (n0 : Nat) (c : Int), vs = [.ref p, .int (n0 : Nat)] ∧ n0 ≤ 36 ∧ Pot H p c ∧ c ≤ 2 ^ 19 ∧
  ∀ (D l m : Addr) (H' : Hp) (zs ws : List Str), Fresh H D → Fresh H l → Fresh H m → Grow [p] H H' → H' D = some (.lst [.ref l, .ref m]) → H' l = some (.lst (zs.map V.str)) → H' m = some (.lst (ws.map V.str)) → Bk zs → Bk ws → (zs ++ ws).Nodup → zs.length ≤ n0 → ws.length ≤ n0 → Pot H' p (c + 90) → Q (.ref D) H'
theorem ok_law_sorts {f c : Addr} {fd : FuncData} (B : Nb mg) (D : DefIs K "_law_sorts" "_law_sorts" st_law_sorts f fd (.ref c))
    (c_law_dip : Callee P w K mg base CX0 3 "_law_dip" ["bowl", "many"] (spDip K)) (c_law_names : Callee P w K mg base CX0 4 "_law_names" ["bowl", "many"] (spNames K)) : FnG P w K mg base CX0 5 f fd ["bowl", "most"] (spTwo K) := by
  refine D.ok0 (k := 4) sc_law_sorts (fun vs H Q E h => ?_) (fun A outer s H vs Q E g hr h => ?_)
  · obtain ⟨p, n0, c, rfl, _⟩ := h
    rfl
  obtain ⟨p, n0, c, rfl, h36, hp, hc, q⟩ := h
  refine ⟨_,
      (pss_cons (ps_setLc (i := 2) (own := [("turn", 3)]) (tt := tYes) (g := (gName 3)) rfl sc_law_sorts.nd rfl rfl (sw_true rfl rfl rfl (by decide +kernel)) (pi_range1 rfl B.n_range (pa_cons pe_int pa_nil)) (blkOk_by (N := N_law_sorts) (sc := defScope st_law_sorts) (by decide +kernel)) (fun _ _ _ _ _ => (pg_name (i := 3) sc_law_sorts.nd rfl (.inl rfl))) (fun _ _ _ _ _ => pts_nil) (fun _ _ _ _ _ => pe_to (pe_g c_law_dip g (hr.mono (by decide)) pass0 (pa_cons (pv 0) (pa_cons (pe_op op_add (pv 1) pe_int) pa_nil)))))
      (pss_cons (ps_set (i := 4) sc_law_sorts.nd rfl (.inl rfl) (pe_g c_law_names g (hr.mono (by decide)) pass0 (pa_cons (pv 0) (pa_cons (pe_op op_add (pe_ix ix_list (pv 2) pe_int (fun _ _ => rfl)) (pe_ix ix_list (pv 2) pe_int (fun _ _ => rfl))) pa_nil))))
      (pss_one (ps_ret (pe_lst (pa_cons (pe_slice sl_list (pv 4) po_none (po_some (pe_ix ix_list (pv 2) pe_int (fun _ _ => rfl)))) (pa_cons (pe_slice sl_list (pv 4) (po_some (pe_ix ix_list (pv 2) pe_int (fun _ _ => rfl))) po_none) pa_nil))))))), ?_⟩
  have npot : ∀ {H' : Hp} {D : Addr} {k : Int}, Fresh H' D → Pot H' p k → D ≠ p := fun f h => by
    obtain ⟨x, y, z, e, _⟩ := h
    exact (f.ne e (fun ps z => by cases z)).symm
  refine ⟨2, rfl, by decide, by decide, fun D1 n1 => ?_⟩
  have Dp := npot (fresh_none n1) hp
  refine lc_it walk_range (fun i H' => ∃ ns : List Nat, Grow [p] H H' ∧ H' D1 = some (.lst (intsN ns)) ∧ ns.length = i ∧ (∀ n ∈ ns, n ≤ n0) ∧ Pot H' p (c + i)) ⟨[], grow_new n1, upd_same, rfl, fun x h => (by cases h), (hp.new n1).mono (by omega)⟩
    (fun _ _ _ _ => trivial) (fun i x H2 H3 hi hp2 hy => ?_) (fun H2 hp2 => ?_)
  · obtain ⟨ns, gj, eD, ln, hns, potj⟩ := hp2
    obtain ⟨rfl, rfl⟩ := hy
    have hi : i < 2 := hi
    refine ⟨rfl, yes_if ⟨.ref p, rfl, .int (n0 : Nat), rfl, _, _, rfl, rfl, p, _, _, rfl, by omega, by omega, by omega, potj, fun v H4 v0 v1 g4 pot4 => ?_⟩⟩
    have v1 : v < (n0 : Int) + 1 := v1
    have eD4 := g4.lst (by simpa using Dp) eD
    refine ⟨_, eD4, by rw [intsN_len]; unfold sizeLine; omega, ns ++ [v.toNat], (gj.trans g4).put (fresh_none n1) eD4 (fun ps z => by cases z), ?_, ?_, ?_, ?_⟩
    · rw [upd_same]
      unfold intsN
      rw [List.map_append]
      show some (HO.lst (_ ++ [V.int v])) = some (HO.lst (_ ++ [V.int ((v.toNat : Nat) : Int)]))
      rw [Int.toNat_of_nonneg v0]
    · rw [List.length_append, ln]
      rfl
    · intro n hn
      rcases List.mem_append.mp hn with h | h
      · exact hns n h
      · rw [List.mem_singleton.mp h]
        omega
    · exact (pot4.at Dp.symm).mono (by omega)
  · obtain ⟨ns, g2, eD, ln, hns, pot2⟩ := hp2
    have ln : ns.length = 2 := ln
    match ns, ln with
    | [x, y], _ =>
      have hx := hns x (by simp)
      have hy := hns y (by simp)
      refine ⟨.ref p, rfl, .ref D1, rfl, D1, _, 0, .int (x : Nat), rfl, rfl, .inl (.inl eD), rfl, .ref D1, rfl, D1, _, 1, .int (y : Nat), rfl, rfl, .inl (.inl eD), rfl, _, _, rfl, rfl, ?_⟩
      refine ⟨p, x + y, _, rfl, by omega, pot2, by omega, fun N H3 ys fN g3 eN nd nm ly pot3 => ?_⟩
      have fNH := Fresh.back fN g2 pot2
      have Np := npot fN pot2
      have eD3 := g3.lst (by simpa using Dp) eD
      refine ⟨.ref N, rfl, .ref D1, rfl, D1, _, 0, .int (x : Nat), rfl, rfl, .inl (.inl eD3), rfl, (x : Int), rfl, N, _, rfl, .inl (.inl eN), fun L nL => ?_⟩
      rw [cut_hi, ← List.map_take]
      have gL := grow_new (ex := []) (o := .lst ((ys.take x).map V.str)) nL
      have eL : upd H3 L (.lst ((ys.take x).map V.str)) L = some (.lst ((ys.take x).map V.str)) := upd_same
      have LpN := npot (fresh_none nL) pot3
      have pot4 := pot3.new (o := .lst ((ys.take x).map V.str)) nL
      have eN4 := gL.lst (by simp) eN
      have eD4 := gL.lst (by simp) eD3
      have gr4 := (g2.trans g3).trans (gL.any (ex := [p]))
      have fL := Fresh.back (fresh_none nL) (g2.trans g3) pot3
      generalize upd H3 L (HO.lst ((ys.take x).map V.str)) = H4 at eL pot4 eN4 eD4 gr4 ⊢
      refine ⟨.ref N, rfl, .ref D1, rfl, D1, _, 0, .int (x : Nat), rfl, rfl, .inl (.inl eD4), rfl, (x : Int), rfl, N, _, rfl, .inl (.inl eN4), fun M nM => ?_⟩
      rw [cut_lo, ← List.map_drop]
      have gM := grow_new (ex := []) (o := .lst ((ys.drop x).map V.str)) nM
      have eM : upd H4 M (.lst ((ys.drop x).map V.str)) M = some (.lst ((ys.drop x).map V.str)) := upd_same
      have eL5 := gM.lst (by simp) eL
      have pot5 := pot4.new (o := .lst ((ys.drop x).map V.str)) nM
      have fM := Fresh.back (fresh_none nM) gr4 pot4
      have gr5 := gr4.trans (gM.any (ex := [p]))
      generalize upd H4 M (HO.lst ((ys.drop x).map V.str)) = H5 at eM eL5 pot5 gr5 ⊢
      refine ⟨by show 2 ≤ sizeLine; decide, fun R nR => ?_⟩
      have hsub1 : (ys.take x).Sublist ys := List.take_sublist _ _
      have hsub2 : (ys.drop x).Sublist ys := List.drop_sublist _ _
      refine q R L M _ (ys.take x) (ys.drop x) (Fresh.back (fresh_none nR) gr5 pot5) fL fM (gr5.new nR) upd_same (by rw [upd_ne (ne_of_none eL5 nR)]; exact eL5) (by rw [upd_ne (ne_of_none eM nR)]; exact eM)
        ⟨List.all_eq_true.mpr fun z hz => List.all_eq_true.mp nm z (hsub1.subset hz), nd.sublist hsub1, by rw [List.length_take]; omega⟩ ⟨List.all_eq_true.mpr fun z hz => List.all_eq_true.mp nm z (hsub2.subset hz), nd.sublist hsub2, by rw [List.length_drop]; omega⟩
        (by rw [List.take_append_drop]; exact nd) (by rw [List.length_take]; omega) (by rw [List.length_drop]; omega) ((pot5.new nR).mono ?_)
      show c + ((2 : Nat) : Int) + 80 ≤ c + 90
      omega
end

end Lw

namespace Lw
open PySem PySem.Spec PyProof.Rows L2 GxR Gx
/-! ### _law_heap -/
theorem NewLL.growP {H H1 H2 : Hp} {D p : Addr} {c : Int} {rs : List (List V)} (h : NewLL H H1 D rs) (pt : Pot H p c) (g : Grow [p] H1 H2) : NewLL H H2 D rs := by
  obtain ⟨f, as, e, l, nd, fa⟩ := h
  obtain ⟨x, y, z, ep, _⟩ := pt
  have ne : ∀ {D : Addr}, Fresh H D → D ≠ p := fun f => (f.ne ep (fun ps z => by cases z)).symm
  exact ⟨f, as, g.lst (by simpa using ne f) e, l.grow g fun a ha => by simpa using ne (fa a ha).1, nd, fa⟩
theorem NewLL.appP {H H1 H2 : Hp} {D C p : Addr} {c : Int} {rs : List (List V)} {r : List V} (h : NewLL H H1 D rs) (pt : Pot H p c) (g : Grow [p] H H1) (g2 : Grow [p] H1 H2) (fC : Fresh H1 C) (fC0 : Fresh H C) (eC : H2 C = some (.lst r)) :
    ∃ acc, H2 D = some (.lst acc) ∧ acc.length = rs.length ∧ Grow [p] H (upd H2 D (.lst (acc ++ [.ref C]))) ∧ NewLL H (upd H2 D (.lst (acc ++ [.ref C]))) D (rs ++ [r]) := by
  have h2 := h.growP pt g2
  obtain ⟨f, as, e, l, nd, fa⟩ := h
  obtain ⟨_, as2, e2, l2, _, _⟩ := h2
  obtain ⟨x, y, z, ep, _⟩ := pt
  have ne : ∀ {D : Addr}, Fresh H D → D ≠ p := fun f => (f.ne ep (fun ps z => by cases z)).symm
  have e2' := g2.lst (by simpa using ne f) e
  have eas : as2 = as := by
    rw [e2'] at e2
    have e3 := List.map_inj_right (f := V.ref) (fun a b q => by cases q; rfl) |>.mp (HO.lst.inj (Option.some.inj e2))
    exact e3.symm
  subst eas
  have CD : C ≠ D := (fC.ne e (fun ps z => by cases z)).symm
  have gP := grow_at (ex := [D]) (o := .lst (as2.map V.ref ++ [.ref C])) e2 (fun ps z => by cases z) (by simp)
  refine ⟨_, e2, by rw [List.length_map]; exact l.len, (g.trans g2).put f e2 (fun ps z => by cases z), f, as2 ++ [C], ?_, ?_, ?_, ?_⟩
  · rw [upd_same, List.map_append]
    rfl
  · refine LL.push (l2.grow gP fun d hd => by simpa using (fa d hd).2) ?_
    rw [upd_ne CD]
    exact eC
  · refine List.nodup_append.mpr ⟨nd, List.nodup_cons.mpr ⟨by simp, List.nodup_nil⟩, fun x hx y hy z => ?_⟩
    rw [List.mem_singleton.mp hy] at z
    obtain ⟨i, hi⟩ := List.mem_iff_getElem?.mp hx
    have hil := (List.getElem?_eq_some_iff.mp hi).1
    have := l.at_ i x (rs[i]'(by rw [← l.len]; exact hil)) hi (List.getElem?_eq_getElem _)
    exact (fC.ne this (fun ps z => by cases z)) z
  · intro a ha
    rcases List.mem_append.mp ha with h | h
    · exact fa a h
    · rw [List.mem_singleton.mp h]
      exact ⟨fC0, CD⟩
theorem rep_flat : ∀ n : Nat, (List.replicate n [V.int 0]).flatten = List.replicate n (V.int ((0 : Nat) : Int))
  | 0 => rfl
  | n + 1 => by
    rw [List.replicate_succ, List.replicate_succ, List.flatten_cons, rep_flat n]
    rfl
section
variable {P : Program} {w : World} {K : PySem.W.Frag} {mg : Str → Option Value} {base : Heap}
def spDraw (K : PySem.W.Frag) : Sp := fun vs H Q _ => ∃ (p : Addr) (m wd h : Nat) (c : Int), vs = [.ref p, .int (m : Nat), .int (wd : Nat), .int (h : Nat)] ∧ m ≤ 36 ∧ wd ≤ 36 ∧ h ≤ 100 ∧ Pot H p c ∧ c ≤ 2 ^ 19 ∧
  ∀ (D : Addr) (H' : Hp) (hp : List (List Nat)), Grow [p] H H' → NewLL H H' D (hp.map intsN) → HeapOk m wd h hp → Pot H' p (c + 2600) → Q (.ref D) H'
theorem ok_law_heap {f c : Addr} {fd : FuncData} (B : Nb mg) (D : DefIs K "_law_heap" "_law_heap" st_law_heap f fd (.ref c))
    (c_law_dip : Callee P w K mg base CX0 3 "_law_dip" ["bowl", "many"] (spDip K)) : FnG P w K mg base CX0 4 f fd ["bowl", "many", "wide", "hands"] (spDraw K) := by
  refine D.ok0 (k := 3) sc_law_heap (fun vs H Q E h => ?_) (fun A outer s H vs Q E g hr h => ?_)
  · obtain ⟨p, m, wd, h, c, rfl, _⟩ := h
    rfl
  obtain ⟨p, m, wd, h, c, rfl, m5, w5, h100, hp, hc, q⟩ := h
  refine ⟨_,
      (pss_cons (ps_set (i := 4) sc_law_heap.nd rfl (.inl rfl) (pe_lst pa_nil))
      (pss_cons (ps_set (i := 5) sc_law_heap.nd rfl (.inl rfl) (pe_op op_rep (pe_lst (pa_cons pe_int pa_nil)) (pv 2)))
      (pss_cons (ps_for PassesOwn.never rfl (pi_range1 rfl B.n_range (pa_cons (pv 1) pa_nil)) (pg_name (i := 6) sc_law_heap.nd rfl (.inl rfl)) (
        (pss_cons (ps_set (i := 7) sc_law_heap.nd rfl (.inl rfl) (pe_lst pa_nil))
        (pss_cons (ps_set (i := 8) sc_law_heap.nd rfl (.inl rfl) (pv 3))
        (pss_cons (ps_for PassesOwn.never rfl (pi_range1 rfl B.n_range (pa_cons (pv 2) pa_nil)) (pg_name (i := 9) sc_law_heap.nd rfl (.inl rfl)) (
          (pss_cons (ps_set (i := 10) sc_law_heap.nd rfl (.inl rfl) (pe_op op_add (pe_ix ix_list (pv 5) (pv 9) (fun _ _ => rfl)) (pe_g c_law_dip g (hr.mono (by decide)) pass0 (pa_cons (pv 0) (pa_cons (pe_op op_add (pe_op op_sub (pv 8) (pe_ix ix_list (pv 5) (pv 9) (fun _ _ => rfl))) pe_int) pa_nil)))))
          (pss_cons (ps_set (i := 8) sc_law_heap.nd rfl (.inl rfl) (pe_ix ix_list (pe_lst (pa_cons (pe_ix ix_list (pv 5) (pv 9) (fun _ _ => rfl)) (pa_cons (pv 8) (pa_cons (pv 10) (pa_cons (pv 10) pa_nil))))) (pe_g c_law_dip g (hr.mono (by decide)) pass0 (pa_cons (pv 0) (pa_cons pe_int pa_nil))) (fun _ _ => rfl)))
          (pss_one (ps_expr (pe_bm PySem.F.plainAttrs_list PySem.F.slot_list_append PySem.F.type_list_append mt_append (pv 7) (pa_cons (pv 8) pa_nil))))))))
        (pss_cons (ps_expr (pe_bm PySem.F.plainAttrs_list PySem.F.slot_list_append PySem.F.type_list_append mt_append (pv 4) (pa_cons (pv 7) pa_nil)))
        (pss_one (ps_set (i := 5) sc_law_heap.nd rfl (.inl rfl) (pv 7)))))))))
      (pss_one (ps_ret (pv 4)))))), ?_⟩
  have npot : ∀ {H' : Hp} {D : Addr} {k : Int}, Fresh H' D → Pot H' p k → D ≠ p := fun f h => by
    obtain ⟨x, y, z, e, _⟩ := h
    exact (f.ne e (fun ps z => by cases z)).symm
  refine ⟨by show 0 ≤ sizeLine; decide, fun F nF => ?_⟩
  have Fp := npot (fresh_none nF) hp
  have potF := hp.new (o := .lst []) nF
  have nlF := NewLL.nil nF
  refine ⟨by show 1 ≤ sizeLine; decide, fun Z nZ => ⟨.int (wd : Nat), rfl, Z, (wd : Int), _, rfl, rfl, upd_same, by omega, by omega, by rw [Int.toNat_natCast]; show 1 * wd ≤ sizeLine; unfold sizeLine; omega, fun A nA => ?_⟩⟩
  have eA : upd (upd (upd H F (.lst [])) Z (.lst [.int 0])) A (.lst (List.replicate ((wd : Int).toNat) [V.int 0]).flatten) A = some (.lst (intsN (List.replicate wd 0))) := by
    rw [upd_same, Int.toNat_natCast]
    congr 2
    unfold intsN
    rw [List.map_replicate, rep_flat]
  have gA := ((grow_new (ex := []) (o := .lst [.int 0]) nZ).new (o := .lst (List.replicate ((wd : Int).toNat) [V.int 0]).flatten) nA)
  have nl0 := nlF.grow gA
  have gr0 : Grow [p] H (upd (upd (upd H F (.lst [])) Z (.lst [.int 0])) A (.lst (List.replicate ((wd : Int).toNat) [V.int 0]).flatten)) := ((grow_new nF).trans gA).any
  have pot0 := (potF.new (o := .lst [.int 0]) nZ).new (o := .lst (List.replicate ((wd : Int).toNat) [V.int 0]).flatten) nA
  have Ap := npot (fresh_none nA) (potF.new (o := .lst [.int 0]) nZ)
  generalize upd (upd (upd H F (.lst [])) Z (.lst [.int 0])) A (.lst (List.replicate ((wd : Int).toNat) [V.int 0]).flatten) = H1 at eA nl0 gr0 pot0 ⊢
  refine ⟨.int (m : Nat), rfl, m, rfl, by omega, by omega, ?_⟩
  refine for_it walk_range (fun i σ H' => ∃ (A : Addr) (x1 x2 x3 x4 x5 : Option V) (ah : List Nat) (hp : List (List Nat)), σ = [some (.ref p), some (.int (m : Nat)), some (.int (wd : Nat)), some (.int (h : Nat)), some (.ref F), some (.ref A), x1, x2, x3, x4, x5] ∧ A ≠ p ∧ H' A = some (.lst (intsN ah)) ∧ ah.length = wd ∧ (∀ n ∈ ah, n ≤ h) ∧ ah.Pairwise (fun a b => b ≤ a) ∧
      NewLL H H' F (hp.map intsN) ∧ HeapOk i wd h hp ∧ (∀ r ∈ hp, ∀ (k x y : Nat), r[k]? = some x → ah[k]? = some y → x ≤ y) ∧ Grow [p] H H' ∧ Pot H' p (c + 72 * (i : Nat)))
    ⟨A, none, none, none, none, none, List.replicate wd 0, [], rfl, Ap, eA, List.length_replicate, fun n hn => by rw [(List.mem_replicate.mp hn).2]; omega, List.pairwise_replicate.mpr (.inr (Nat.le_refl _)), nl0, ⟨rfl, fun r h => (by cases h), fun r h => (by cases h), fun r h => (by cases h), .nil⟩, fun r h => (by cases h), gr0, pot0.mono (by omega)⟩
    (fun _ _ _ _ _ => trivial) (fun i x σ H2 H3 hi hp2 hy => ?_) (fun σ H2 hp2 => ?_)
  · obtain ⟨A, x1, x2, x3, x4, x5, ah, hps, rfl, Ap, eA, lah, tah, pah, nl, ok, upah, gr, pot⟩ := hp2
    obtain ⟨rfl, rfl⟩ := hy
    have hi : i < m := by simpa using hi
    refine ⟨by show 0 ≤ sizeLine; decide, fun R nR => ?_⟩
    have Rp := npot (fresh_none nR) pot
    have fRH := Fresh.back (fresh_none nR) gr pot
    have pot3 := pot.new (o := .lst []) nR
    have eA3 : upd H3 R (.lst []) A = some (.lst (intsN ah)) := by rw [upd_ne (ne_of_none eA nR)]; exact eA
    have AR : A ≠ R := ne_of_none eA nR
    refine ⟨.int (h : Nat), rfl, .int (wd : Nat), rfl, wd, rfl, by omega, by omega, ?_⟩
    refine for_it walk_range (fun j σ H' => ∃ (x4 x5 : Option V) (t : Nat) (rw_ : List Nat), σ = [some (.ref p), some (.int (m : Nat)), some (.int (wd : Nat)), some (.int (h : Nat)), some (.ref F), some (.ref A), some (.int (0 + (i : Int))), some (.ref R), some (.int (t : Nat)), x4, x5] ∧ H' R = some (.lst (intsN rw_)) ∧ rw_.length = j ∧ t ≤ h ∧ (∀ x ∈ rw_, t ≤ x ∧ x ≤ h) ∧ rw_.Pairwise (fun a b => b ≤ a) ∧
        (∀ (k y : Nat), j ≤ k → ah[k]? = some y → y ≤ t) ∧ (∀ (k x y : Nat), ah[k]? = some x → rw_[k]? = some y → x ≤ y) ∧ H' A = some (.lst (intsN ah)) ∧ Grow [p] H3 H' ∧ Pot H' p (c + 72 * (i : Nat) + 2 * (j : Nat)))
      ⟨x4, x5, h, [], rfl, upd_same, rfl, Nat.le_refl _, fun x hx => (by cases hx), .nil, fun k y _ e => tah y (List.mem_of_getElem? e), fun k x y _ e => (by cases e), eA3, (grow_new nR), pot3.mono (by omega)⟩
      (fun _ _ _ _ _ => trivial) (fun j x σ H4 H5 hj hp4 hy => ?_) (fun σ H4 hp4 => ?_)
    · obtain ⟨x4, x5, t, rw_, rfl, eR, lrw, th, brw, prw, ahle, rwge, eA5, gj, pot5⟩ := hp4
      obtain ⟨rfl, rfl⟩ := hy
      have hj : j < wd := by simpa using hj
      obtain ⟨a0, ea0⟩ : ∃ a0, ah[j]? = some a0 := ⟨_, List.getElem?_eq_getElem (by omega)⟩
      have ha0 := ahle j a0 (Nat.le_refl _) ea0
      have hat : atI (intsN ah) (0 + (j : Int)) = some (.int (a0 : Nat)) := by
        rw [Int.zero_add]
        exact atI_nat (by unfold intsN; rw [List.getElem?_map, ea0]; rfl)
      refine ⟨.ref A, rfl, .int (0 + (j : Int)), rfl, A, _, _, _, rfl, rfl, .inl (.inl eA5), hat, .ref p, rfl, .int (t : Nat), rfl, .ref A, rfl, .int (0 + (j : Int)), rfl, A, _, _, _, rfl, rfl, .inl (.inl eA5), hat, _, _, rfl, rfl, _, _, rfl, rfl, p, _, _, rfl, by omega, by omega, by omega, pot5, fun v H6 v0 v1 g6 pot6 => ?_⟩
      have eA6 := g6.lst (by simpa using Ap) eA5
      have eR6 := g6.lst (by simpa using Rp) eR
      refine ⟨_, _, rfl, rfl, .ref A, rfl, .int (0 + (j : Int)), rfl, A, _, _, _, rfl, rfl, .inl (.inl eA6), hat, .int (t : Nat), rfl, .int ((a0 : Int) + v), rfl, .int ((a0 : Int) + v), rfl, by show 4 ≤ sizeLine; decide, fun L nL => ?_⟩
      have Lp := npot (fresh_none nL) pot6
      refine ⟨.ref p, rfl, p, 4, _, rfl, by decide, by decide, by omega, pot6.new nL, fun v4 H7 v40 v41 g7 pot7 => ?_⟩
      have eL7 := g7.lst (by simpa using Lp) (upd_same (H := H6) (a := L) (o := .lst [.int (a0 : Nat), .int (t : Nat), .int ((a0 : Int) + v), .int ((a0 : Int) + v)]))
      obtain ⟨t2, ht2, t2a, t2b⟩ : ∃ t2 : Nat, atI [V.int (a0 : Nat), V.int (t : Nat), V.int ((a0 : Int) + v), V.int ((a0 : Int) + v)] v4 = some (.int (t2 : Nat)) ∧ a0 ≤ t2 ∧ t2 ≤ t := by
        have ev : (a0 : Int) + v = ((a0 + v.toNat : Nat) : Int) := by omega
        obtain h | h | h | h : v4 = 0 ∨ v4 = 1 ∨ v4 = 2 ∨ v4 = 3 := by omega
        · subst h; exact ⟨a0, rfl, by omega, by omega⟩
        · subst h; exact ⟨t, rfl, by omega, by omega⟩
        · subst h; exact ⟨a0 + v.toNat, by rw [ev]; rfl, by omega, by omega⟩
        · subst h; exact ⟨a0 + v.toNat, by rw [ev]; rfl, by omega, by omega⟩
      have g67 : Grow [p] H6 H7 := ((grow_new nL).any).trans g7
      have eA7 := g67.lst (by simpa using Ap) eA6
      have eR7 := g67.lst (by simpa using Rp) eR6
      have g57 := (gj.trans g6).trans g67
      refine ⟨L, _, _, _, rfl, rfl, .inl (.inl eL7), ht2, .ref R, rfl, tyl eR7, .int (t2 : Nat), rfl, ?_⟩
      dsimp only [tNil]
      refine ⟨R, _, _, rfl, rfl, eR7, by rw [intsN_len, lrw]; unfold sizeLine; omega, _, _, t2, rw_ ++ [t2], rfl, ?_, ?_, by omega, ?_, ?_, ?_, ?_, ?_, g57.put (fresh_none nR) eR7 (fun ps z => by cases z), ?_⟩
      · rw [upd_same]
        unfold intsN
        rw [List.map_append]
        rfl
      · rw [List.length_append, lrw]
        rfl
      · intro x hx
        rcases List.mem_append.mp hx with h | h
        · have := brw x h
          omega
        · rw [List.mem_singleton.mp h]
          omega
      · rw [List.pairwise_append]
        refine ⟨prw, List.pairwise_singleton _ _, fun x hx y hy => ?_⟩
        rw [List.mem_singleton.mp hy]
        have := brw x hx
        omega
      · intro k y hk e
        obtain ⟨h1, e1⟩ := List.getElem?_eq_some_iff.mp ea0
        obtain ⟨h2, e2⟩ := List.getElem?_eq_some_iff.mp e
        have := List.pairwise_iff_getElem.mp pah j k h1 h2 (by omega)
        rw [e1, e2] at this
        omega
      · intro k x y ex ey
        by_cases hk : k < rw_.length
        · rw [List.getElem?_append_left hk] at ey
          exact rwge k x y ex ey
        · have hl := (List.getElem?_eq_some_iff.mp ey).1
          rw [List.length_append] at hl
          have ek : k = j := by simp only [List.length_cons, List.length_nil] at hl; omega
          subst ek
          rw [List.getElem?_append_right (by omega), lrw, Nat.sub_self] at ey
          cases ey
          rw [ea0] at ex
          cases ex
          exact t2a
      · rw [upd_ne AR]
        exact eA7
      · exact (pot7.at Rp.symm).mono (by omega)
    · obtain ⟨x4, x5, t, rw_, rfl, eR, lrw, th, brw, prw, ahle, rwge, eA5, gj, pot5⟩ := hp4
      try rw [show ((wd : Int) - 0).toNat = wd by omega] at lrw pot5
      try rw [show ((wd : Int)).toNat = wd by omega] at lrw pot5
      have upr : ∀ r ∈ hps, ∀ (k x y : Nat), r[k]? = some x → rw_[k]? = some y → x ≤ y := fun r hr k x y ex ey => by
        have hk := (List.getElem?_eq_some_iff.mp ey).1
        obtain ⟨z, ez⟩ : ∃ z, ah[k]? = some z := ⟨_, List.getElem?_eq_getElem (by omega)⟩
        have h1 := upah r hr k x z ex ez
        have h2 := rwge k z y ez ey
        omega
      obtain ⟨acc, a1, a2, a3, a4⟩ := nl.appP hp gr gj (fresh_none nR) fRH eR
      have FR : F ≠ R := (fRH : Fresh H R) |> fun _ => by
        obtain ⟨fF, as, e, _, _, fa⟩ := nl
        exact ne_of_none e nR
      refine ⟨.ref F, rfl, tyl a1, .ref R, rfl, ?_⟩
      dsimp only [tNil]
      refine ⟨F, _, _, rfl, rfl, a1, by rw [a2, List.length_map, ok.len]; unfold sizeLine; omega, ?_⟩
      refine ⟨.ref R, rfl, R, _, _, _, _, _, rw_, hps ++ [rw_], rfl, Rp, ?_, lrw, fun n hn => (brw n hn).2, prw, ?_, ⟨?_, ?_, ?_, ?_, ?_⟩, ?_, a3, ?_⟩
      · rw [upd_ne FR.symm]
        exact eR
      · rw [List.map_append]
        exact a4
      · rw [List.length_append, ok.len]
        rfl
      · intro r hr
        rcases List.mem_append.mp hr with h | h
        · exact ok.wide r h
        · rw [List.mem_singleton.mp h]
          exact lrw
      · intro r hr
        rcases List.mem_append.mp hr with h | h
        · exact ok.top r h
        · rw [List.mem_singleton.mp h]
          exact fun n hn => (brw n hn).2
      · intro r hr
        rcases List.mem_append.mp hr with h | h
        · exact ok.fall r h
        · rw [List.mem_singleton.mp h]
          exact prw
      · rw [List.pairwise_append]
        refine ⟨ok.up, List.pairwise_singleton _ _, fun r hr s hs => ?_⟩
        rw [List.mem_singleton.mp hs]
        exact upr r hr
      · intro r hr
        rcases List.mem_append.mp hr with h | h
        · exact upr r h
        · rw [List.mem_singleton.mp h]
          intro k x y e1 e2
          rw [e1] at e2
          cases e2
          exact Nat.le_refl _
      · exact (pot5.at Fp.symm).mono (by omega)
  · obtain ⟨A, x1, x2, x3, x4, x5, ah, hps, rfl, Ap, eA, lah, tah, pah, nl, ok, upah, gr, pot⟩ := hp2
    try rw [show ((m : Int) - 0).toNat = m by omega] at ok pot
    try rw [show ((m : Int)).toNat = m by omega] at ok pot
    exact ⟨.ref F, rfl, q F H2 hps gr nl ok (pot.mono (by omega))⟩
end

/-! ### the line said backwards; a hand more at an end -/
section
/-- how many numbers of cs are no greater than j -/
def below (cs : List Nat) (j : Nat) : Nat := (cs.filter fun c => decide (c ≤ j)).length
theorem cIn_conj {others : List Str} : ∀ {os : List Str} {cs : List Nat} {a n : Nat}, os.length = cs.length → (∀ o ∈ os, o ∉ others) → Up others.length cs a →
    cIn others (mix others os cs a) n = (List.range' a (others.length - a)).map fun j => n + below cs j
  | [], [], a, n, _, _, _ => by
    show cIn others (others.drop a) n = (List.range' a (others.length - a)).map fun j => n + 0
    have e : ∀ (xs : List Str) (n : Nat), (∀ x ∈ xs, x ∈ others) → cIn others xs n = List.replicate xs.length n := by
      intro xs
      induction xs with
      | nil => intro n _; rfl
      | cons x r ih =>
        intro n h
        show (if x ∈ others then n :: cIn others r n else cIn others r (n + 1)) = _
        rw [if_pos (h x List.mem_cons_self), ih n fun y hy => h y (List.mem_cons_of_mem _ hy)]
        rfl
    rw [e _ _ fun x hx => List.mem_of_mem_drop hx, List.length_drop, Nat.add_zero, List.map_const', List.length_range']
  | o :: os, c :: cs, a, n, l, h, u => by
    have l : os.length = cs.length := Nat.succ.inj l
    have h1 := u.1
    have h2 := Up.le u.2
    have e : ∀ (xs ys : List Str) (n : Nat), (∀ x ∈ xs, x ∈ others) → cIn others (xs ++ ys) n = List.replicate xs.length n ++ cIn others ys n := by
      intro xs ys
      induction xs with
      | nil => intro n _; rfl
      | cons x r ih =>
        intro n h
        show (if x ∈ others then n :: cIn others (r ++ ys) n else cIn others (r ++ ys) (n + 1)) = _
        rw [if_pos (h x List.mem_cons_self), ih n fun y hy => h y (List.mem_cons_of_mem _ hy)]
        rfl
    rw [mix, e _ _ _ fun x hx => List.mem_of_mem_drop (List.mem_of_mem_take hx), List.length_take, List.length_drop, Nat.min_eq_left (by omega)]
    have e2 : cIn others (o :: mix others os cs c) n = cIn others (mix others os cs c) (n + 1) := by
      show (if o ∈ others then _ else _) = _
      rw [if_neg (h o List.mem_cons_self)]
    rw [e2, cIn_conj l (fun x hx => h x (List.mem_cons_of_mem _ hx)) u.2]
    rw [show others.length - a = (c - a) + (others.length - c) by omega, ← List.range'_append, Nat.one_mul, show a + (c - a) = c by omega, List.map_append]
    congr 1
    · refine (List.eq_replicate_iff.mpr ⟨by rw [List.length_map, List.length_range'], fun b hb => ?_⟩).symm
      obtain ⟨j, hj, rfl⟩ := List.mem_map.mp hb
      have hj := List.mem_range'_1.mp hj
      have : below (c :: cs) j = 0 := by
        unfold below
        rw [List.filter_eq_nil_iff.mpr fun x hx => ?_]
        · rfl
        · have : c ≤ x := by
            rcases List.mem_cons.mp hx with rfl | hx
            · exact Nat.le_refl _
            · exact (Up.mem u.2 hx).1
          simp
          omega
      rw [this]
      rfl
    · refine List.map_congr_left fun j hj => ?_
      have hj := List.mem_range'_1.mp hj
      unfold below
      rw [List.filter_cons_of_pos (p := fun c => decide (c ≤ j)) (decide_eq_true (by omega)), List.length_cons]
      omega
/-- a book is told by the numbers of the others ahead of each of the ones -/
theorem mix_of {others ones : List Str} (dis : ∀ x ∈ others, x ∉ ones) : ∀ {L os : List Str} {a : Nat}, L.filter (fun x => decide (x ∈ ones)) = os → L.filter (fun x => decide (x ∈ others)) = others.drop a → (∀ x ∈ L, x ∈ ones ∨ x ∈ others) → a ≤ others.length →
    L = mix others os (cIn ones L a) a
  | [], os, a, h1, h2, _, _ => by
    rw [List.filter_nil] at h1 h2
    subst h1
    show [] = others.drop a
    exact h2
  | x :: L, os, a, h1, h2, h3, ha => by
    by_cases hx : x ∈ ones
    · have hn : x ∉ others := fun z => dis x z hx
      rw [List.filter_cons_of_pos (p := fun x => decide (x ∈ ones)) (decide_eq_true hx)] at h1
      rw [List.filter_cons_of_neg (p := fun x => decide (x ∈ others)) (by simpa using hn)] at h2
      subst h1
      have ih := mix_of dis (L := L) rfl h2 (fun y hy => h3 y (List.mem_cons_of_mem _ hy)) ha
      show _ = mix others (x :: _) (if x ∈ ones then a :: cIn ones L a else _) a
      rw [if_pos hx, mix, Nat.sub_self, List.take_zero, List.nil_append, ← ih]
    · have ho : x ∈ others := (h3 x List.mem_cons_self).resolve_left hx
      rw [List.filter_cons_of_neg (p := fun x => decide (x ∈ ones)) (by simpa using hx)] at h1
      rw [List.filter_cons_of_pos (p := fun x => decide (x ∈ others)) (decide_eq_true ho)] at h2
      have hlt : a < others.length := by
        have := congrArg List.length h2
        rw [List.length_cons, List.length_drop] at this
        omega
      have hd : others.drop a = others[a] :: others.drop (a + 1) := List.drop_eq_getElem_cons hlt
      rw [hd] at h2
      have h2a := (List.cons.inj h2).1
      have h2b := (List.cons.inj h2).2
      have ih := mix_of dis (L := L) h1 h2b (fun y hy => h3 y (List.mem_cons_of_mem _ hy)) hlt
      show _ = mix others os (if x ∈ ones then _ else cIn ones L (a + 1)) a
      rw [if_neg hx]
      have step : ∀ {os : List Str} {cs : List Nat}, (∀ c ∈ cs, a + 1 ≤ c) → mix others os cs a = others[a] :: mix others os cs (a + 1) := by
        intro os cs hcs
        cases os with
        | nil => cases cs <;> exact hd
        | cons p os =>
          cases cs with
          | nil => exact hd
          | cons c cs =>
            have hc := hcs c List.mem_cons_self
            rw [mix, mix, hd, show c - a = (c - (a + 1)) + 1 by omega, List.take_succ_cons]
            rfl
      have ge : ∀ (xs : List Str) (n c : Nat), c ∈ cIn ones xs n → n ≤ c := by
        intro xs
        induction xs with
        | nil => intro n c h; cases h
        | cons y r ih =>
          intro n c h
          have h : c ∈ (if y ∈ ones then n :: cIn ones r n else cIn ones r (n + 1)) := h
          by_cases hy : y ∈ ones
          · rw [if_pos hy] at h
            rcases List.mem_cons.mp h with rfl | h
            · exact Nat.le_refl _
            · exact ih n c h
          · rw [if_neg hy] at h
            have := ih (n + 1) c h
            omega
      rw [step (ge L (a + 1)), ← ih, h2a]
end
section
variable {zs ws : List Str} {h : Nat} {hp : List (List Nat)}
/-- the heap of the line said backwards -/
def backH (m w h : Nat) (hp : List (List Nat)) : List (List Nat) := (List.range w).map fun b => (List.range m).map fun a => h - (hp.getD a []).getD b 0
theorem back_row {m w h : Nat} {hp : List (List Nat)} {b : Nat} {row : List Nat} (e : (backH m w h hp)[b]? = some row) : b < w ∧ row = (List.range m).map fun a => h - (hp.getD a []).getD b 0 := by
  unfold backH at e
  rw [List.getElem?_map] at e
  by_cases hb : b < w
  · rw [List.getElem?_range hb] at e
    cases e
    exact ⟨hb, rfl⟩
  · rw [List.getElem?_eq_none (by rw [List.length_range]; omega)] at e
    cases e
theorem heap_num {m w h : Nat} {hp : List (List Nat)} (ok : HeapOk m w h hp) {a b : Nat} (ha : a < m) (hb : b < w) : ∃ row, hp[a]? = some row ∧ row ∈ hp ∧ hp.getD a [] = row ∧ row[b]? = some ((hp.getD a []).getD b 0) ∧ (hp.getD a []).getD b 0 ≤ h := by
  have hl : a < hp.length := by rw [ok.len]; exact ha
  have e1 : hp[a]? = some hp[a] := List.getElem?_eq_getElem hl
  have e2 : hp.getD a [] = hp[a] := by rw [List.getD_eq_getElem?_getD, e1]; rfl
  have wl := ok.wide _ (List.getElem_mem hl)
  have e3 : hp[a][b]? = some (hp[a].getD b 0) := by
    rw [List.getD_eq_getElem?_getD, List.getElem?_eq_getElem (by omega)]
    rfl
  refine ⟨hp[a], e1, List.getElem_mem hl, e2, by rw [e2]; exact e3, ?_⟩
  rw [e2]
  exact ok.top _ (List.getElem_mem hl) _ (List.mem_of_getElem? e3)
theorem back_ok {m w h : Nat} {hp : List (List Nat)} (ok : HeapOk m w h hp) : HeapOk w m h (backH m w h hp) := by
  have rows : ∀ row ∈ backH m w h hp, ∃ b, b < w ∧ row = (List.range m).map fun a => h - (hp.getD a []).getD b 0 := fun row hr => by
    obtain ⟨b, e⟩ := List.mem_iff_getElem?.mp hr
    exact ⟨b, back_row e⟩
  refine ⟨by unfold backH; rw [List.length_map, List.length_range], fun row hr => ?_, fun row hr n hn => ?_, fun row hr => ?_, ?_⟩
  · obtain ⟨b, _, rfl⟩ := rows row hr
    rw [List.length_map, List.length_range]
  · obtain ⟨b, _, rfl⟩ := rows row hr
    obtain ⟨a, _, rfl⟩ := List.mem_map.mp hn
    omega
  · obtain ⟨b, hb, rfl⟩ := rows row hr
    rw [List.pairwise_map, List.pairwise_iff_getElem]
    intro i j hi hj hij
    rw [List.length_range] at hi hj
    rw [List.getElem_range, List.getElem_range]
    obtain ⟨r1, e1, m1, d1, n1, _⟩ := heap_num ok hi hb
    obtain ⟨r2, e2, m2, d2, n2, _⟩ := heap_num ok hj hb
    obtain ⟨q1, q2⟩ := List.getElem?_eq_some_iff.mp e1
    obtain ⟨q3, q4⟩ := List.getElem?_eq_some_iff.mp e2
    have := List.pairwise_iff_getElem.mp ok.up i j q1 q3 hij b _ _ (by rw [q2]; exact n1) (by rw [q4]; exact n2)
    omega
  · rw [List.pairwise_iff_getElem]
    intro i j hi hj hij k x y ex ey
    obtain ⟨b1, r1⟩ := back_row (List.getElem?_eq_getElem hi)
    obtain ⟨b2, r2⟩ := back_row (List.getElem?_eq_getElem hj)
    rw [r1, List.getElem?_map] at ex
    rw [r2, List.getElem?_map] at ey
    by_cases hk : k < m
    · rw [List.getElem?_range hk] at ex ey
      cases ex
      cases ey
      obtain ⟨r, e, mr, d, n1, _⟩ := heap_num ok hk b1
      rw [d] at n1
      show h - (hp.getD k []).getD i 0 ≤ h - (hp.getD k []).getD j 0
      rw [d]
      obtain ⟨q1, q2⟩ := List.getElem?_eq_some_iff.mp n1
      obtain ⟨q3, q4⟩ := List.getElem?_eq_some_iff.mp (show r[j]? = some (r.getD j 0) by
        rw [List.getD_eq_getElem?_getD, List.getElem?_eq_getElem (by have := ok.wide r mr; omega)]; rfl)
      have := List.pairwise_iff_getElem.mp (ok.fall r mr) i j q1 q3 hij
      rw [q2, q4] at this
      omega
    · rw [List.getElem?_eq_none (by rw [List.length_range]; omega)] at ex
      cases ex
/-- the books of the line said backwards are its own from the back -/
theorem back_book (nd : (zs ++ ws).Nodup) (ok : HeapOk zs.length ws.length h hp) {p : Nat} (hp2 : p < h) : bookOf ws zs h (backH zs.length ws.length h hp) p = bookOf zs ws h hp (h - 1 - p) := by
  obtain ⟨q, hq⟩ : ∃ q, q = h - 1 - p := ⟨_, rfl⟩
  rw [← hq]
  have M := mixOk nd ok q
  have l : zs.length = (hp.map (cnt (h - q))).length := by rw [List.length_map, ok.len]
  have e1 := mix_of (others := zs) (ones := ws) (dis_of nd).2 (L := bookOf zs ws h hp q) (os := ws) (a := 0) (mix_others l (dis_of nd).2 (up_cnt ok _)) (by rw [List.drop_zero]; exact mix_ones (dis_of nd).1 l fun o ho => ho)
    (fun x hx => mix_mem hx) (Nat.zero_le _)
  rw [e1]
  unfold bookOf
  congr 1
  rw [cIn_conj l (dis_of nd).2 (up_cnt ok _), Nat.sub_zero]
  refine List.ext_getElem? fun b => ?_
  rw [List.getElem?_map, List.getElem?_map]
  by_cases hb : b < ws.length
  · have : (backH zs.length ws.length h hp)[b]? = some ((List.range zs.length).map fun a => h - (hp.getD a []).getD b 0) := by
      unfold backH
      rw [List.getElem?_map, List.getElem?_range hb]
      rfl
    rw [this, List.getElem?_range' hb]
    show some _ = some _
    congr 1
    rw [Nat.one_mul, Nat.zero_add]
    show _ = 0 + below (hp.map (cnt (h - q))) b
    rw [Nat.zero_add]
    unfold cnt below
    rw [List.filter_map, List.length_map, List.filter_map, List.length_map]
    have e2 : hp = (List.range zs.length).map fun a => hp.getD a [] := by
      refine List.ext_getElem? fun a => ?_
      rw [List.getElem?_map]
      by_cases ha : a < zs.length
      · rw [List.getElem?_range ha, List.getElem?_eq_getElem (by rw [ok.len]; exact ha)]
        show some _ = some (hp.getD a [])
        rw [List.getD_eq_getElem?_getD, List.getElem?_eq_getElem (by rw [ok.len]; exact ha)]
        rfl
      · rw [List.getElem?_eq_none (by rw [ok.len]; omega), List.getElem?_eq_none (by rw [List.length_range]; omega)]
        rfl
    conv => rhs; rw [e2]
    rw [List.filter_map, List.length_map]
    congr 1
    refine List.filter_congr fun a ha => ?_
    have ha := List.mem_range.mp ha
    obtain ⟨row, er, mr, d, n, le⟩ := heap_num ok ha hb
    have := cnt_iff (h - q) (ok.fall row mr) n
    refine decide_eq_decide.mpr ?_
    show h - p ≤ h - (hp.getD a []).getD b 0 ↔ cnt (h - q) (hp.getD a []) ≤ b
    rw [d] at n le this ⊢
    omega
  · rw [List.getElem?_eq_none (by rw [(back_ok ok).len]; omega), List.getElem?_eq_none (by rw [List.length_range']; omega)]
    rfl
theorem back_rest (nd : (zs ++ ws).Nodup) (ok : HeapOk zs.length ws.length h hp) : restB ws zs h (backH zs.length ws.length h hp) = (restB zs ws h hp).reverse := by
  unfold restB
  refine List.ext_getElem? fun p => ?_
  by_cases hp2 : p < h
  · rw [List.getElem?_reverse (by rw [List.length_map, List.length_range]; exact hp2), List.length_map, List.length_range, List.getElem?_map, List.getElem?_map, List.getElem?_range hp2, List.getElem?_range (by omega)]
    show some _ = some _
    rw [back_book nd ok hp2]
  · rw [List.getElem?_eq_none (by rw [List.length_map, List.length_range]; omega), List.getElem?_eq_none (by rw [List.length_reverse, List.length_map, List.length_range]; omega)]
/-- numbers changed alike -/
theorem map_ok {m w h g : Nat} {hp : List (List Nat)} (ok : HeapOk m w h hp) {f : Nat → Nat} (up : ∀ x y, x ≤ y → y ≤ h → f x ≤ f y) (top : ∀ x, x ≤ h → f x ≤ g) : HeapOk m w g (hp.map (List.map f)) := by
  refine ⟨by rw [List.length_map, ok.len], fun row hr => ?_, fun row hr n hn => ?_, fun row hr => ?_, ?_⟩
  · obtain ⟨r, h1, rfl⟩ := List.mem_map.mp hr
    rw [List.length_map, ok.wide r h1]
  · obtain ⟨r, h1, rfl⟩ := List.mem_map.mp hr
    obtain ⟨x, hx, rfl⟩ := List.mem_map.mp hn
    exact top x (ok.top r h1 x hx)
  · obtain ⟨r, h1, rfl⟩ := List.mem_map.mp hr
    rw [List.pairwise_map]
    exact (ok.fall r h1).imp_of_mem fun ha hb hab => up _ _ hab (ok.top r h1 _ ha)
  · rw [List.pairwise_map]
    refine ok.up.imp_of_mem fun {r s} hr hs hrs k x y ex ey => ?_
    rw [List.getElem?_map] at ex ey
    cases e1 : r[k]? with
    | none => rw [e1] at ex; cases ex
    | some a =>
      cases e2 : s[k]? with
      | none => rw [e2] at ey; cases ey
      | some b =>
        rw [e1] at ex
        rw [e2] at ey
        cases ex
        cases ey
        exact up _ _ (hrs k a b e1 e2) (ok.top s hs b (List.mem_of_getElem? e2))
theorem cnt_map {t u : Nat} {f : Nat → Nat} {row : List Nat} (h : ∀ x ∈ row, u ≤ f x ↔ t ≤ x) : cnt u (row.map f) = cnt t row := by
  unfold cnt
  rw [List.filter_map, List.length_map]
  congr 1
  exact List.filter_congr fun x hx => decide_eq_decide.mpr (h x hx)
theorem book_map {m w g p q : Nat} {f : Nat → Nat} (ok : HeapOk m w h hp) (e : ∀ x, x ≤ h → (g - p ≤ f x ↔ h - q ≤ x)) : bookOf zs ws g (hp.map (List.map f)) p = bookOf zs ws h hp q := by
  unfold bookOf
  congr 1
  rw [List.map_map]
  refine List.map_congr_left fun row hr => ?_
  exact cnt_map fun x hx => e x (ok.top row hr x hx)
def upLast (x : Nat) : Nat := x + if 0 < x then 1 else 0
def upFirst (h x : Nat) : Nat := x + if x = h then 1 else 0
theorem last_ok {m w h : Nat} {hp : List (List Nat)} (ok : HeapOk m w h hp) : HeapOk m w (h + 1) (hp.map (List.map upLast)) :=
  map_ok ok (fun x y h1 _ => by unfold upLast; split <;> split <;> omega) fun x hx => by unfold upLast; split <;> omega
theorem first_ok {m w h : Nat} {hp : List (List Nat)} (ok : HeapOk m w h hp) : HeapOk m w (h + 1) (hp.map (List.map (upFirst h))) :=
  map_ok ok (fun x y h1 h2 => by unfold upFirst; split <;> split <;> omega) fun x hx => by unfold upFirst; split <;> omega
theorem last_rest {m w : Nat} (ok : HeapOk m w h hp) (h1 : 1 ≤ h) : restB zs ws (h + 1) (hp.map (List.map upLast)) = restB zs ws h hp ++ [bookOf zs ws h hp (h - 1)] := by
  unfold restB
  rw [List.range_succ, List.map_append]
  congr 1
  · refine List.map_congr_left fun p hp2 => ?_
    have hp2 := List.mem_range.mp hp2
    exact book_map ok fun x hx => by unfold upLast; split <;> omega
  · show [_] = [_]
    rw [book_map (q := h - 1) ok fun x hx => by unfold upLast; split <;> omega]
theorem first_rest {m w : Nat} (ok : HeapOk m w h hp) (h1 : 1 ≤ h) : restB zs ws (h + 1) (hp.map (List.map (upFirst h))) = bookOf zs ws h hp 0 :: restB zs ws h hp := by
  unfold restB
  rw [List.range_succ_eq_map, List.map_cons, List.map_map]
  congr 1
  · exact book_map ok fun x hx => by unfold upFirst; split <;> omega
  · refine List.map_congr_left fun p hp2 => ?_
    have hp2 := List.mem_range.mp hp2
    exact book_map ok fun x hx => by unfold upFirst; split <;> omega
end

end Lw

namespace Lw
open PySem PySem.Spec PyProof.Rows L2 GxR Gx
/-! ### the product of a box -/

/-- the product along a row, the product over all rows -/
def rowP (i : Nat) : Nat → Nat → Nat
  | 0, _ => 1
  | j + 1, c => rowP i j c * (i + (j + 1) + c - 1)
def boxP : Nat → Nat → Nat → Nat
  | 0, _, _ => 1
  | i + 1, b, c => boxP i b c * rowP (i + 1) b c
def fac : Nat → Nat
  | 0 => 1
  | n + 1 => fac n * (n + 1)
def sfac : Nat → Nat
  | 0 => 1
  | n + 1 => sfac n * fac n
theorem fac_pos : ∀ n, 0 < fac n
  | 0 => by decide
  | n + 1 => Nat.mul_pos (fac_pos n) (Nat.succ_pos n)
theorem sfac_pos : ∀ n, 0 < sfac n
  | 0 => by decide
  | n + 1 => Nat.mul_pos (sfac_pos n) (fac_pos n)
theorem rowP_fac (i c : Nat) : ∀ b, rowP (i + 1) b c * fac (i + c) = fac (i + b + c)
  | 0 => by rw [rowP, Nat.one_mul, Nat.add_zero]
  | b + 1 => by
    have ih := rowP_fac i c b
    rw [rowP, show i + 1 + (b + 1) + c - 1 = i + b + c + 1 by omega, Nat.mul_right_comm, ih, show i + (b + 1) + c = i + b + c + 1 by omega, fac]
theorem boxP_sfac (b c : Nat) : ∀ a, boxP a b c * (sfac (a + c) * sfac (b + c)) = sfac (a + b + c) * sfac c
  | 0 => by rw [boxP, Nat.one_mul, Nat.zero_add, Nat.zero_add, Nat.mul_comm]
  | a + 1 => by
    have ih := boxP_sfac b c a
    have h := rowP_fac a c b
    rw [boxP, show a + 1 + c = (a + c) + 1 by omega, show a + 1 + b + c = (a + b + c) + 1 by omega, sfac, sfac]
    have e : boxP a b c * rowP (a + 1) b c * (sfac (a + c) * fac (a + c) * sfac (b + c)) = boxP a b c * (sfac (a + c) * sfac (b + c)) * (rowP (a + 1) b c * fac (a + c)) := by
      simp only [Nat.mul_assoc, Nat.mul_comm, Nat.mul_left_comm]
    rw [e, ih, h]
    simp only [Nat.mul_assoc, Nat.mul_comm, Nat.mul_left_comm]
def boxN (a b c : Nat) : Nat := sfac (a + b + c) * sfac a * sfac b * sfac c
def boxD (a b c : Nat) : Nat := sfac (a + b) * sfac (a + c) * sfac (b + c)
theorem rowP_pos (i : Nat) : ∀ (b c : Nat), 0 < rowP (i + 1) b c
  | 0, _ => Nat.one_pos
  | b + 1, c => Nat.mul_pos (rowP_pos i b c) (by omega)
theorem boxP_pos : ∀ (a b c : Nat), 0 < boxP a b c
  | 0, _, _ => Nat.one_pos
  | a + 1, b, c => Nat.mul_pos (boxP_pos a b c) (rowP_pos a b c)
theorem boxD_pos (a b c : Nat) : 0 < boxD a b c := Nat.mul_pos (Nat.mul_pos (sfac_pos _) (sfac_pos _)) (sfac_pos _)
theorem box_cross (a b c : Nat) : boxP a b c * boxD a b c = boxP a b 0 * boxN a b c := by
  have h1 := boxP_sfac b c a
  have h2 := boxP_sfac b 0 a
  rw [Nat.add_zero, Nat.add_zero, Nat.add_zero] at h2
  have e1 : boxP a b c * boxD a b c = boxP a b c * (sfac (a + c) * sfac (b + c)) * sfac (a + b) := by
    unfold boxD
    simp only [Nat.mul_assoc, Nat.mul_comm, Nat.mul_left_comm]
  have e2 : boxP a b 0 * boxN a b c = boxP a b 0 * (sfac a * sfac b) * (sfac (a + b + c) * sfac c) := by
    unfold boxN
    simp only [Nat.mul_assoc, Nat.mul_comm, Nat.mul_left_comm]
  have e3 : sfac 0 = 1 := rfl
  rw [e1, e2, h1, h2, e3, Nat.mul_one]
  simp only [Nat.mul_assoc, Nat.mul_comm, Nat.mul_left_comm]
/-- how many rests -/
def boxM (a b c : Nat) : Nat := boxP a b c / boxP a b 0
theorem boxM_eq (a b c : Nat) : boxM a b c = boxN a b c / boxD a b c := by
  unfold boxM
  rw [← Nat.mul_div_mul_right (boxP a b c) (boxP a b 0) (boxD_pos a b c), box_cross, Nat.mul_div_mul_left _ _ (boxP_pos a b 0)]
theorem boxM_rot (a b c : Nat) : boxM a b c = boxM b c a := by
  rw [boxM_eq, boxM_eq]
  unfold boxN boxD
  rw [show b + c + a = a + b + c by omega, show b + a = a + b by omega, show c + a = a + c by omega]
  congr 1 <;> simp only [Nat.mul_assoc, Nat.mul_comm, Nat.mul_left_comm]
theorem boxM_swap (a b c : Nat) : boxM a b c = boxM b a c := by
  rw [boxM_eq, boxM_eq]
  unfold boxN boxD
  rw [show b + a + c = a + b + c by omega, show b + a = a + b by omega]
  congr 1 <;> simp only [Nat.mul_assoc, Nat.mul_comm, Nat.mul_left_comm]
theorem rowP_le (i : Nat) : ∀ (b c : Nat), rowP (i + 1) b 0 ≤ rowP (i + 1) b c
  | 0, _ => Nat.le_refl _
  | b + 1, c => Nat.mul_le_mul (rowP_le i b c) (by omega)
theorem boxM_up (a b c : Nat) : boxM a b c ≤ boxM (a + 1) b c := by
  unfold boxM
  rw [boxP, boxP]
  have h0 := rowP_pos a b 0
  rw [← Nat.mul_div_mul_right (boxP a b c) (boxP a b 0) h0]
  exact Nat.div_le_div_right (Nat.mul_le_mul_left _ (rowP_le a b c))
theorem rowP_mono (i c : Nat) : ∀ {b d : Nat}, b ≤ d → rowP (i + 1) b c ≤ rowP (i + 1) d c := by
  intro b d h
  induction d with
  | zero => rw [Nat.le_zero.mp h]; exact Nat.le_refl _
  | succ d ih =>
    by_cases e : b = d + 1
    · rw [e]; exact Nat.le_refl _
    · refine Nat.le_trans (ih (by omega)) ?_
      rw [rowP]
      exact Nat.le_mul_of_pos_right _ (by omega)
theorem boxP_mono (c : Nat) : ∀ {a e b d : Nat}, a ≤ e → b ≤ d → boxP a b c ≤ boxP e d c := by
  intro a e
  induction e generalizing a with
  | zero =>
    intro b d h _
    rw [Nat.le_zero.mp h]
    exact Nat.le_refl _
  | succ e ih =>
    intro b d h hb
    by_cases q : a = e + 1
    · rw [q, boxP, boxP]
      exact Nat.mul_le_mul (ih (Nat.le_refl _) hb) (rowP_mono e c hb)
    · refine Nat.le_trans (ih (by omega) hb) ?_
      rw [boxP]
      exact Nat.le_mul_of_pos_right _ (rowP_pos e d c)
theorem box40 : boxP 40 40 0 < 2 ^ 8900 := by decide +kernel
theorem box40c : boxP 40 40 40 < 2 ^ 12000 := by decide +kernel
theorem rowP_monoC (i : Nat) {c d : Nat} (h : c ≤ d) : ∀ b, rowP (i + 1) b c ≤ rowP (i + 1) b d
  | 0 => Nat.le_refl _
  | b + 1 => Nat.mul_le_mul (rowP_monoC i h b) (by omega)
theorem boxP_monoC {c d : Nat} (h : c ≤ d) (b : Nat) : ∀ a, boxP a b c ≤ boxP a b d
  | 0 => Nat.le_refl _
  | a + 1 => Nat.mul_le_mul (boxP_monoC h b a) (rowP_monoC a h b)
theorem box_small {i j b c : Nat} (hi : i < 40) (hj : j ≤ b) (hb : b ≤ 40) (hc : c ≤ 40) : boxP i b c * rowP (i + 1) j c < 2 ^ 12000 :=
  Nat.lt_of_le_of_lt (Nat.le_trans (Nat.mul_le_mul_left _ (rowP_mono i c hj)) (Nat.le_trans (boxP_mono c (a := i + 1) (e := 40) (b := b) (d := 40) hi hb) (boxP_monoC hc 40 40))) box40c

section
variable {P : Program} {w : World} {K : PySem.W.Frag} {mg : Str → Option Value} {base : Heap}
def spManyR (K : PySem.W.Frag) : Sp := fun vs H Q _ => ∃ a b h : Nat, vs = [.int (a : Nat), .int (b : Nat), .int (h : Nat)] ∧ a ≤ 40 ∧ b ≤ 40 ∧ 1 ≤ h ∧ h ≤ 40 ∧ Q (.int (boxM a b h : Nat)) H
theorem ok_how_many_rests {f c : Addr} {fd : FuncData} (B : Nb mg) (D : DefIs K "how_many_rests" "how_many_rests" st_how_many_rests f fd (.ref c)) {tk : Tok} (k_MOST_WORDS : mg "MOST_WORDS" = some (.int 100 tk))
    (c_is_whole : Callee P w K mg base CX0 1 "is_whole" ["thing", "least"] (spWhole K)) (c_check_hands : Callee P w K mg base CX0 2 "check_hands" ["thing"] (spHandsNo K)) : FnG P w K mg base CX0 3 f fd ["ones", "others", "hands"] (spManyR K) := by
  refine D.ok0 (k := 2) sc_how_many_rests (fun vs H Q E h => ?_) (fun A outer s H vs Q E g hr h => ?_)
  · obtain ⟨a, b, h, rfl, _⟩ := h
    rfl
  obtain ⟨a, b, h, rfl, ha, hb, h1, h40, q⟩ := h
  refine ⟨_,
      (pss_cons (ps_if (PW.pt (pw_or (pt_not (pt_val (pe_g c_is_whole g (hr.mono (by decide)) pass0 (pa_cons (pv 0) (pa_cons pe_int pa_nil))))) (pw_or1 (pt_not (pt_val (pe_g c_is_whole g (hr.mono (by decide)) pass0 (pa_cons (pv 1) (pa_cons pe_int pa_nil)))))))) (
        (pss_one ps_dead)) pss_nil)
      (pss_cons (ps_expr (pe_g c_check_hands g (hr.mono (by decide)) pass0 (pa_cons (pv 2) pa_nil)))
      (pss_cons (ps_if (PW.pt (pw_or (pt_cmpR (op_gt) (pv 0) (pe_glob (v := .int 100) rfl k_MOST_WORDS ⟨_, rfl⟩) (nomark _)) (pw_or1 (pt_cmpR (op_gt) (pv 1) (pe_glob (v := .int 100) rfl k_MOST_WORDS ⟨_, rfl⟩) (nomark _))))) (
        (pss_one ps_dead)) pss_nil)
      (pss_cons (ps_set (i := 3) sc_how_many_rests.nd rfl (.inl rfl) pe_int)
      (pss_cons (ps_set (i := 4) sc_how_many_rests.nd rfl (.inl rfl) pe_int)
      (pss_cons (ps_for PassesOwn.never rfl (pi_range2 rfl B.n_range (pa_cons pe_int (pa_cons (pe_op op_add (pv 0) pe_int) pa_nil))) (pg_name (i := 5) sc_how_many_rests.nd rfl (.inl rfl)) (
        (pss_one (ps_for PassesOwn.never rfl (pi_range2 rfl B.n_range (pa_cons pe_int (pa_cons (pe_op op_add (pv 1) pe_int) pa_nil))) (pg_name (i := 6) sc_how_many_rests.nd rfl (.inl rfl)) (
          (pss_cons (ps_set (i := 3) sc_how_many_rests.nd rfl (.inl rfl) (pe_op op_mulW (pv 3) (pe_op op_sub (pe_op op_add (pe_op op_add (pv 5) (pv 6)) (pv 2)) pe_int)))
          (pss_one (ps_set (i := 4) sc_how_many_rests.nd rfl (.inl rfl) (pe_op op_mulW (pv 4) (pe_op op_sub (pe_op op_add (pv 5) (pv 6)) pe_int))))))))))
      (pss_one (ps_ret (pe_op op_fdivW (pv 3) (pv 4)))))))))), ?_⟩
  refine ⟨.int (a : Nat), rfl, (a : Int), 0, rfl, ?_⟩
  rw [decide_eq_true (by omega : (0 : Int) ≤ (a : Nat))]
  refine ⟨true, rfl, iteF ⟨.int (b : Nat), rfl, (b : Int), 0, rfl, ?_⟩⟩
  rw [decide_eq_true (by omega : (0 : Int) ≤ (b : Nat))]
  refine ⟨true, rfl, iteF ⟨.int (h : Nat), rfl, (h : Int), rfl, by omega, ?_⟩⟩
  refine ⟨.int (a : Nat), rfl, _, _, rfl, rfl, _, rfl, ite2 (fun z => absurd (of_decide_eq_true z) (by omega)) fun _ => ?_⟩
  refine ⟨.int (b : Nat), rfl, _, _, rfl, rfl, _, rfl, ite2 (fun z => absurd (of_decide_eq_true z) (by omega)) fun _ => ?_⟩
  refine ⟨.int (a : Nat), rfl, _, _, rfl, rfl, (1 : Int), (a : Int) + 1, rfl, ⟨by decide, by decide, by omega, by omega⟩, ?_⟩
  rw [show ((a : Int) + 1 - 1).toNat = a by omega]
  refine for_it walk_range (fun i σ H' => ∃ x1 x2 : Option V, σ = [some (.int (a : Nat)), some (.int (b : Nat)), some (.int (h : Nat)), some (.int (boxP i b h : Nat)), some (.int (boxP i b 0 : Nat)), x1, x2] ∧ H' = H) ⟨none, none, rfl, rfl⟩
    (fun _ _ _ _ _ => trivial) (fun i x σ H2 H3 hi hp hy => ?_) (fun σ H2 hp => ?_)
  · obtain ⟨x1, x2, rfl, rfl⟩ := hp
    obtain ⟨rfl, rfl⟩ := hy
    refine ⟨.int (b : Nat), rfl, _, _, rfl, rfl, (1 : Int), (b : Int) + 1, rfl, ⟨by decide, by decide, by omega, by omega⟩, ?_⟩
    rw [show ((b : Int) + 1 - 1).toNat = b by omega]
    refine for_it walk_range (fun j σ H' => ∃ x2 : Option V, σ = [some (.int (a : Nat)), some (.int (b : Nat)), some (.int (h : Nat)), some (.int (boxP i b h * rowP (i + 1) j h : Nat)), some (.int (boxP i b 0 * rowP (i + 1) j 0 : Nat)), some (.int (1 + (i : Int))), x2] ∧ H' = H3) ⟨x2, by
        show _ = [_, _, _, some (V.int ((boxP i b h * 1 : Nat) : Int)), some (V.int ((boxP i b 0 * 1 : Nat) : Int)), _, _]
        rw [Nat.mul_one, Nat.mul_one]
        rfl, rfl⟩
      (fun _ _ _ _ _ => trivial) (fun j x σ H4 H5 hj hp4 hy => ?_) (fun σ H4 hp4 => ?_)
    · obtain ⟨x2, rfl, rfl⟩ := hp4
      obtain ⟨rfl, rfl⟩ := hy
      have s1 := box_small (c := h) (Nat.lt_of_lt_of_le hi ha) (Nat.le_of_lt hj) hb h40
      have s2 := box_small (c := 0) (Nat.lt_of_lt_of_le hi ha) (Nat.le_of_lt hj) hb (by omega)
      have e1 : ((boxP i b h * rowP (i + 1) (j + 1) h : Nat) : Int) = ((boxP i b h * rowP (i + 1) j h : Nat) : Int) * (1 + (i : Int) + (1 + (j : Int)) + (h : Int) - 1) := by
        rw [rowP, ← Nat.mul_assoc, Int.natCast_mul]
        congr 1
        omega
      have e2 : ((boxP i b 0 * rowP (i + 1) (j + 1) 0 : Nat) : Int) = ((boxP i b 0 * rowP (i + 1) j 0 : Nat) : Int) * (1 + (i : Int) + (1 + (j : Int)) - 1) := by
        rw [rowP, ← Nat.mul_assoc, Int.natCast_mul]
        congr 1
        omega
      rw [e1, e2]
      generalize boxP i b h * rowP (i + 1) j h = u1 at s1 ⊢
      generalize boxP i b 0 * rowP (i + 1) j 0 = u2 at s2 ⊢
      have small : ∀ x : Int, 0 ≤ x → x < 2 ^ 20 → x.natAbs < 2 ^ 20 := fun x x0 x1 => by
        have e : ((2 ^ 20 : Nat) : Int) = 2 ^ 20 := by decide
        omega
      have hj : j < b := hj
      have hi : i < a := hi
      exact ⟨.int (u1 : Nat), rfl, .int (1 + (i : Int)), rfl, .int (1 + (j : Int)), rfl, _, _, rfl, rfl, .int (h : Nat), rfl, _, _, rfl, rfl, _, _, rfl, rfl, _, _, rfl, rfl, wide_mul (a := 12000) (b := 20) s1 (small _ (by omega) (by omega)) (by decide) (by decide) (by decide),
        .int (u2 : Nat), rfl, .int (1 + (i : Int)), rfl, .int (1 + (j : Int)), rfl, _, _, rfl, rfl, _, _, rfl, rfl, _, _, rfl, rfl, wide_mul (a := 12000) (b := 20) s2 (small _ (by omega) (by omega)) (by decide) (by decide) (by decide), _, rfl, rfl⟩
    · obtain ⟨x2, rfl, rfl⟩ := hp4
      exact ⟨_, _, rfl, rfl⟩
  · obtain ⟨x1, x2, rfl, rfl⟩ := hp
    refine ⟨.int (boxP a b h : Nat), rfl, .int (boxP a b 0 : Nat), rfl, _, _, rfl, rfl, wide_div (b := 8900) (by have := boxP_pos a b 0; omega) ?_ (by decide) (by decide), ?_⟩
    · exact Nat.lt_of_le_of_lt (boxP_mono 0 ha hb) box40
    · show Q (V.int (((boxP a b h : Nat) : Int) / ((boxP a b 0 : Nat) : Int))) H2
      rw [← Int.natCast_ediv]
      exact q
end

end Lw

namespace Lw
open PySem PySem.Spec PyProof.Rows L2 GxR Gx
/-! ### lists of lists, shown and compared -/
theorem Fine.int {i : Int} (h : i.natAbs < 10 ^ 7) : Fine (.int i) 0 0 := by
  refine ⟨rfl, ?_, rfl, ?_, Nat.le_refl _, Nat.le_refl _⟩
  · show decide (i.natAbs.log2 < 1920) = true
    exact decide_eq_true (PySem.Flt.log2_lt_of (by decide) (Nat.lt_trans h (by decide)))
  · show decide ((PyData.shown (.int i)).length ≤ 8) = true
    refine decide_eq_true ?_
    have t7 := int_text_length_le10 (a := i) (k := 7) (by decide) h
    have e8 : (PyData.shown (.int i)).length = (toString i).length := PySem.ofString_length (toString i)
    omega
def encV : V → PyData
  | .str z => .str z
  | .int i => .int i
  | _ => .none
/-- a name or a small number -/
def ValOk (v : V) : Prop := (∃ z, v = .str z ∧ isNm z = true) ∨ ∃ i : Int, v = .int i ∧ 0 ≤ i ∧ i ≤ 1000
def RowsOk (rs : List (List V)) : Prop := rs.length ≤ 100 ∧ ∀ r ∈ rs, r.length ≤ 80 ∧ ∀ v ∈ r, ValOk v
def rowsD (rs : List (List V)) : PyData := .list (rs.map fun r => .list (r.map encV))
theorem dp_vals {K : PySem.W.Frag} {H : Hp} : ∀ {r : List V}, (∀ v ∈ r, ValOk v) → DpAll K H r (r.map encV)
  | [], _ => .nil
  | v :: r, h => by
    refine .cons ?_ (dp_vals fun x hx => h x (List.mem_cons_of_mem _ hx))
    rcases h v List.mem_cons_self with ⟨z, rfl, _⟩ | ⟨i, rfl, _⟩
    · exact .str z
    · exact .int i
theorem LL.dpV {K : PySem.W.Frag} {H : Hp} : ∀ {as : List Addr} {rs : List (List V)}, LL H as rs → (∀ r ∈ rs, ∀ v ∈ r, ValOk v) → DpAll K H (as.map V.ref) (rs.map fun r => PyData.list (r.map encV))
  | [], [], _, _ => .nil
  | [], _ :: _, h, _ => by have := h.len; simp at this
  | _ :: _, [], h, _ => by have := h.len; simp at this
  | a :: as, r :: rs, h, ok => .cons (.lst (.inl (.inl (h.at_ 0 a _ rfl rfl))) (dp_vals (ok r List.mem_cons_self))) (LL.dpV ⟨Nat.succ.inj h.len, fun i b q e1 e2 => h.at_ (i + 1) b q e1 e2⟩ fun q hq => ok q (List.mem_cons_of_mem _ hq))
theorem LLat.dp {K : PySem.W.Frag} {H : Hp} {a : Addr} {rs : List (List V)} (h : LLat H a rs) (ok : RowsOk rs) : Dp K H (.ref a) (rowsD rs) := by
  obtain ⟨as, e, l⟩ := h
  exact .lst (.inl (.inl e)) (l.dpV fun r hr => (ok.2 r hr).2)
theorem fine_row {r : List V} (h : ∀ v ∈ r, ValOk v) (l : r.length ≤ 80) : Fine (.list (r.map encV)) 1 720 := Fine.list (n := 0) (m := 8) (fun d hd => by
  obtain ⟨v, hv, rfl⟩ := List.mem_map.mp hd
  rcases h v hv with ⟨z, rfl, hz⟩ | ⟨i, rfl, h0, h1⟩
  · exact fine_name hz
  · have f := Fine.int (i := i) (by omega)
    exact ⟨f.lay, f.show_, f.nod, f.leaves, f.deep, Nat.le_trans f.bulk (by decide)⟩) (by rw [List.length_map]; omega)
theorem fine_rows {rs : List (List V)} (ok : RowsOk rs) : Fine (rowsD rs) 2 72100 := Fine.list (n := 1) (m := 720) (fun d hd => by
  obtain ⟨r, hr, rfl⟩ := List.mem_map.mp hd
  exact fine_row (ok.2 r hr).2 (ok.2 r hr).1) (by rw [List.length_map]; have := ok.1; omega)
theorem repr_fine {K : PySem.W.Frag} {H : Hp} {x : V} {d : PyData} {n m : Nat} {Q : VK} (h : Dp K H x d) (f : Fine d n m) (hn : n ≤ 60) (hm : 10 * m + 8 ≤ sizeLine) (q : Q (.str d.shown) H) : rRepr K [x] H Q :=
  ⟨x, d, rfl, h, f.show_, f.nod, Nat.le_trans f.deep hn, f.shown hm, q⟩

theorem rows_heap {m w h : Nat} {hp : List (List Nat)} (ok : HeapOk m w h hp) (hm : m ≤ 36) (hw : w ≤ 36) (hh : h ≤ 99) : RowsOk (hp.map intsN) := by
  refine ⟨by rw [List.length_map, ok.len]; omega, fun r hr => ?_⟩
  obtain ⟨row, hrow, rfl⟩ := List.mem_map.mp hr
  refine ⟨by rw [intsN_len, ok.wide row hrow]; omega, fun v hv => ?_⟩
  obtain ⟨n, hn, rfl⟩ := List.mem_map.mp hv
  have := ok.top row hrow n hn
  exact .inr ⟨(n : Nat), rfl, by omega, by omega⟩
def restV (zs ws : List Str) (h : Nat) (hp : List (List Nat)) : List (List V) := (restB zs ws h hp).map fun b => b.map V.str
theorem restV_len {zs ws : List Str} {h : Nat} {hp : List (List Nat)} : (restV zs ws h hp).length = h := by unfold restV restB; rw [List.length_map, List.length_map, List.length_range]
theorem restV_eq {zs ws : List Str} {h : Nat} {hp : List (List Nat)} : (List.range h).map (fun p => (bookOf zs ws h hp p).map V.str) = restV zs ws h hp := by unfold restV restB; rw [List.map_map]; rfl
theorem rows_rest {zs ws : List Str} {h : Nat} {hp : List (List Nat)} (bz : Bk zs) (bw : Bk ws) (nd : (zs ++ ws).Nodup) (ok : HeapOk zs.length ws.length h hp) (z36 : zs.length ≤ 36) (w36 : ws.length ≤ 36) (h99 : h ≤ 99) : RowsOk (restV zs ws h hp) := by
  refine ⟨by rw [restV_len]; omega, fun r hr => ?_⟩
  rw [← restV_eq] at hr
  obtain ⟨p, _, rfl⟩ := List.mem_map.mp hr
  refine ⟨by rw [List.length_map, (mixOk nd ok p).len]; omega, fun v hv => ?_⟩
  obtain ⟨z, hz, rfl⟩ := List.mem_map.mp hv
  exact .inl ⟨z, rfl, List.all_eq_true.mp (book_nm bz bw p) z hz⟩
theorem rest_heap {K : PySem.W.Frag} {H : Hp} {T1 T T4 T5 l m t : Addr} {zs ws : List Str} {h : Nat} {hp : List (List Nat)} (t1 : TabG H T1) (tT : TabG H T) (t4 : TabG H T4) (t5 : TabG H T5) (el : H l = some (.lst (zs.map V.str))) (em : H m = some (.lst (ws.map V.str)))
    (bz : Bk zs) (bw : Bk ws) (nd : (zs ++ ws).Nodup) (lt : LLat H t (restV zs ws h hp)) (ok : HeapOk zs.length ws.length h hp) (h1 : 1 ≤ h) (h99 : h ≤ 99) {Q : VK} {E : XK}
    (q : ∀ D H', Grow [] H H' → NewLL H H' D (hp.map intsN) → Q (.ref D) H') : spHeapOf K T1 T T4 T5 [.ref l, .ref m, .ref t] H Q E := by
  have rbl : (restB zs ws h hp).length = h := by unfold restB; rw [List.length_map, List.length_range]
  have rbn : restB zs ws h hp ≠ [] := by
    intro z
    rw [z] at rbl
    simp at rbl
    omega
  refine ⟨l, m, t, zs, ws, restB zs ws h hp, rfl, t1, tT, t4, t5, el, em, bz, bw, nd, lt, rbn, by omega, (rest_ok bz bw nd ok).1, (rest_ok bz bw nd ok).2, rest_up nd ok, fun D H' g nl => q D H' g ?_⟩
  rw [heap_back nd ok] at nl
  exact nl
theorem LL.rev {H : Hp} {as : List Addr} {rs : List (List V)} (h : LL H as rs) : LL H as.reverse rs.reverse := by
  refine ⟨by rw [List.length_reverse, List.length_reverse, h.len], fun i a r e q => ?_⟩
  have hi := (List.getElem?_eq_some_iff.mp e).1
  rw [List.length_reverse] at hi
  rw [List.getElem?_reverse hi] at e
  rw [List.getElem?_reverse (by rw [← h.len]; exact hi), ← h.len] at q
  exact h.at_ _ a r e q
theorem LL.both {H : Hp} {as bs : List Addr} {rs qs : List (List V)} (h : LL H as rs) (h2 : LL H bs qs) : LL H (as ++ bs) (rs ++ qs) := by
  refine ⟨by rw [List.length_append, List.length_append, h.len, h2.len], fun i a r e q => ?_⟩
  by_cases hi : i < as.length
  · rw [List.getElem?_append_left hi] at e
    rw [List.getElem?_append_left (by rw [← h.len]; exact hi)] at q
    exact h.at_ i a r e q
  · rw [List.getElem?_append_right (by omega)] at e
    rw [List.getElem?_append_right (by rw [← h.len]; omega), ← h.len] at q
    exact h2.at_ _ a r e q
theorem LL.dropN {H : Hp} {as : List Addr} {rs : List (List V)} (h : LL H as rs) (n : Nat) : LL H (as.drop n) (rs.drop n) :=
  ⟨by rw [List.length_drop, List.length_drop, h.len], fun i a r e q => h.at_ (n + i) a r (by rw [← e, List.getElem?_drop]) (by rw [← q, List.getElem?_drop])⟩
theorem LL.takeN {H : Hp} {as : List Addr} {rs : List (List V)} (h : LL H as rs) (n : Nat) : LL H (as.take n) (rs.take n) := by
  refine ⟨by rw [List.length_take, List.length_take, h.len], fun i a r e q => ?_⟩
  rw [List.getElem?_take] at e q
  by_cases hi : i < n
  · rw [if_pos hi] at e q
    exact h.at_ i a r e q
  · rw [if_neg hi] at e
    cases e
theorem cut_last (xs : List V) : cutV xs (some (-1)) none = xs.drop (xs.length - 1) := by
  unfold cutV
  rw [show HT.sIx xs.length 0 (some (-1)) = xs.length - 1 by show (if (-1 : Int) < 0 then ((-1 : Int) + (xs.length : Int)).toNat else min (-1 : Int).toNat xs.length) = _; rw [if_pos (by decide)]; omega, HT.sIx_none]
  exact List.take_of_length_le (by rw [List.length_drop]; omega)
theorem Pot.grow0 {H H' : Hp} {p : Addr} {c : Int} (h : Pot H p c) (g : Grow [] H H') : Pot H' p c := by
  obtain ⟨a, b, k, e, r⟩ := h
  exact ⟨a, b, k, g.lst (by simp) e, r⟩
theorem restV_rev {zs ws : List Str} {h : Nat} {hp : List (List Nat)} (nd : (zs ++ ws).Nodup) (ok : HeapOk zs.length ws.length h hp) : restV ws zs h (backH zs.length ws.length h hp) = (restV zs ws h hp).reverse := by
  unfold restV
  rw [back_rest nd ok, List.map_reverse]
theorem restV_last {zs ws : List Str} {h m w : Nat} {hp : List (List Nat)} (ok : HeapOk m w h hp) (h1 : 1 ≤ h) : restV zs ws (h + 1) (hp.map (List.map upLast)) = restV zs ws h hp ++ (restV zs ws h hp).drop (h - 1) := by
  have e : (restV zs ws h hp).drop (h - 1) = [(bookOf zs ws h hp (h - 1)).map V.str] := by
    rw [← restV_eq, ← List.map_drop]
    rw [show (List.range h).drop (h - 1) = [h - 1] by
      obtain ⟨k, rfl⟩ : ∃ k, h = k + 1 := ⟨h - 1, by omega⟩
      rw [Nat.add_sub_cancel, List.range_succ, List.drop_append_of_le_length (by rw [List.length_range]; exact Nat.le_refl _), List.drop_of_length_le (by rw [List.length_range]; exact Nat.le_refl _)]
      rfl]
    rfl
  rw [e]
  unfold restV
  rw [last_rest ok h1, List.map_append]
  rfl
theorem restV_first {zs ws : List Str} {h m w : Nat} {hp : List (List Nat)} (ok : HeapOk m w h hp) (h1 : 1 ≤ h) : restV zs ws (h + 1) (hp.map (List.map (upFirst h))) = (restV zs ws h hp).take 1 ++ restV zs ws h hp := by
  have e : (restV zs ws h hp).take 1 = [(bookOf zs ws h hp 0).map V.str] := by
    rw [← restV_eq, ← List.map_take]
    obtain ⟨k, rfl⟩ : ∃ k, h = k + 1 := ⟨h - 1, by omega⟩
    rw [List.range_succ_eq_map]
    rfl
  rw [e]
  unfold restV
  rw [first_rest ok h1]
  rfl

section
variable {P : Program} {w : World} {K : PySem.W.Frag} {mg : Str → Option Value} {base : Heap}
/-! ### _law_backwards -/
def spBack (K : PySem.W.Frag) : Sp := fun vs H Q _ => ∃ (t : Addr) (m wd h : Nat) (hp : List (List Nat)), vs = [.ref t, .int (m : Nat), .int (wd : Nat), .int (h : Nat)] ∧ m ≤ 36 ∧ wd ≤ 36 ∧ LLat H t (hp.map intsN) ∧ HeapOk m wd h hp ∧
  ∀ D H', Grow [] H H' → NewLL H H' D ((backH m wd h hp).map intsN) → Q (.ref D) H'
theorem ok_law_backwards {f c : Addr} {fd : FuncData} (B : Nb mg) (D : DefIs K "_law_backwards" "_law_backwards" st_law_backwards f fd (.ref c)) : FnG P w K mg base CX0 4 f fd ["heap", "many", "wide", "hands"] (spBack K) := by
  refine D.ok0 (k := 3) sc_law_backwards (fun vs H Q E h => ?_) (fun A outer s H vs Q E g hr h => ?_)
  · obtain ⟨t, m, wd, h, hp, rfl, _⟩ := h
    rfl
  obtain ⟨t, m, wd, h, hp, rfl, m36, w36, lt, ok, q⟩ := h
  refine ⟨_,
      (pss_cons (ps_set (i := 4) sc_law_backwards.nd rfl (.inl rfl) (pe_lst pa_nil))
      (pss_cons (ps_for PassesOwn.never rfl (pi_range1 rfl B.n_range (pa_cons (pv 2) pa_nil)) (pg_name (i := 5) sc_law_backwards.nd rfl (.inr rfl)) (
        (pss_one (ps_expr (pe_bm PySem.F.plainAttrs_list PySem.F.slot_list_append PySem.F.type_list_append mt_append (pv 4) (pa_cons (pe_lc (own := [("a", 6)]) (tt := tYes) (g := (gName 6)) rfl sc_law_backwards.nd (pi_range1 rfl B.n_range (pa_cons (pv 1) pa_nil)) (blkOk_by (N := N_law_backwards) (sc := defScope st_law_backwards) (by decide +kernel)) (fun _ _ _ _ _ => (pg_name (i := 6) sc_law_backwards.nd rfl (.inl rfl))) (fun _ _ _ _ _ => pts_nil) (fun _ _ _ _ _ => pe_to (pe_op op_sub (pv 3) (pe_ix ix_list (pe_ix ix_list (pv 0) (pv 6) (fun _ _ => rfl)) (pv 5) (fun _ _ => rfl))))) pa_nil))))))
      (pss_one (ps_ret (pv 4))))), ?_⟩
  refine ⟨by show 0 ≤ sizeLine; decide, fun F nF => ?_⟩
  refine ⟨.int (wd : Nat), rfl, wd, rfl, by omega, by omega, ?_⟩
  refine for_it walk_range (fun i σ H' => ∃ x1 x2 : Option V, σ = [some (.ref t), some (.int (m : Nat)), some (.int (wd : Nat)), some (.int (h : Nat)), some (.ref F), x1, x2] ∧ Grow [] H H' ∧ NewLL H H' F (((backH m wd h hp).take i).map intsN)) ⟨none, none, rfl, grow_new nF, NewLL.nil nF⟩
    (fun _ _ _ _ _ => trivial) (fun i x σ H2 H3 hi hp2 hy => ?_) (fun σ H2 hp2 => ?_)
  · obtain ⟨x1, x2, rfl, gj, nl⟩ := hp2
    obtain ⟨rfl, rfl⟩ := hy
    have hi : i < wd := by simpa using hi
    obtain ⟨as, et, ll⟩ := id (lt.grow0 gj)
    have la : as.length = hp.length := by have := ll.len; rwa [List.length_map] at this
    obtain ⟨acc0, eF, _⟩ : ∃ acc : List V, H3 F = some (.lst acc) ∧ True := by
      obtain ⟨_, as, e, _⟩ := nl
      exact ⟨_, e, trivial⟩
    refine ⟨.ref F, rfl, tyl eF, .int (m : Nat), rfl, m, rfl, by omega, by omega, fun D1 n1 => ?_⟩
    refine lc_it walk_range (fun j H' => Grow [] H3 H' ∧ H' D1 = some (.lst (intsN ((List.range j).map fun a => h - (hp.getD a []).getD i 0)))) ⟨grow_new n1, upd_same⟩ (fun _ _ _ _ => trivial) (fun j x H4 H5 hj hp4 hy => ?_) (fun H4 hp4 => ?_)
    · obtain ⟨g4, eD⟩ := hp4
      obtain ⟨rfl, rfl⟩ := hy
      have hj : j < m := by simpa using hj
      obtain ⟨row, er, mr, d, n, le⟩ := heap_num ok hj hi
      obtain ⟨ra, ea⟩ : ∃ ra, as[j]? = some ra := ⟨_, List.getElem?_eq_getElem (by rw [la, ok.len]; exact hj)⟩
      have eR := (ll.grow0 g4).at_ j ra (intsN row) ea (by rw [List.getElem?_map, er]; rfl)
      have et4 := g4.lst (by simp) et
      rw [d] at n le
      have a1 : atI (as.map V.ref) (0 + (j : Int)) = some (.ref ra) := by
        rw [Int.zero_add]
        exact atI_nat (by rw [List.getElem?_map, ea]; rfl)
      have a2 : atI (intsN row) (0 + (i : Int)) = some (.int (row.getD i 0 : Nat)) := by
        rw [Int.zero_add]
        exact atI_nat (by unfold intsN; rw [List.getElem?_map, n]; rfl)
      refine ⟨rfl, yes_if ⟨.int (h : Nat), rfl, .ref t, rfl, .int (0 + (j : Int)), rfl, t, _, _, _, rfl, rfl, .inl (.inl et4), a1, .int (0 + (i : Int)), rfl, ra, _, _, _, rfl, rfl, .inl (.inl eR), a2, _, _, rfl, rfl, _, eD, ?_, g4.put (fresh_none n1) eD (fun ps z => by cases z), ?_⟩⟩
      · rw [intsN_len, List.length_map, List.length_range]
        unfold sizeLine
        omega
      · rw [upd_same, List.range_succ, List.map_append]
        unfold intsN
        rw [List.map_append]
        show some (HO.lst (_ ++ [V.int ((h : Int) - (row.getD i 0 : Nat))])) = some (HO.lst (_ ++ [V.int ((h - (hp.getD j []).getD i 0 : Nat) : Int)]))
        rw [d, show (h : Int) - (row.getD i 0 : Nat) = ((h - row.getD i 0 : Nat) : Int) by omega]
    · obtain ⟨g4, eD⟩ := hp4
      try rw [show ((m : Int) - 0).toNat = m by omega] at eD
      try rw [show ((m : Int)).toNat = m by omega] at eD
      obtain ⟨acc, a1, a2, a3, a4⟩ := nl.app gj g4 (fresh_none n1) eD
      dsimp only [tNil]
      refine ⟨F, _, _, rfl, rfl, a1, by rw [a2, List.length_map, List.length_take]; unfold sizeLine; omega, _, _, rfl, a3, ?_⟩
      have e : (backH m wd h hp).take (i + 1) = (backH m wd h hp).take i ++ [(List.range m).map fun a => h - (hp.getD a []).getD i 0] := by
        rw [List.take_add_one]
        congr 1
        unfold backH
        rw [List.getElem?_map, List.getElem?_range hi]
        rfl
      rw [e, List.map_append]
      exact a4
  · obtain ⟨x1, x2, rfl, g2, nl⟩ := hp2
    try rw [show ((wd : Int) - 0).toNat = wd by omega] at nl
    try rw [show ((wd : Int)).toNat = wd by omega] at nl
    rw [List.take_of_length_le (by rw [(back_ok ok).len]; omega)] at nl
    exact ⟨.ref F, rfl, q F H2 g2 nl⟩
end

end Lw

namespace Lw
open PySem PySem.Spec PyProof.Rows L2 GxR Gx
def flagLast (x : Nat) : Nat := if 0 < x then 1 else 0
def flagFirst (h x : Nat) : Nat := if x = h then 1 else 0
section
variable {P : Program} {w : World} {K : PySem.W.Frag} {mg : Str → Option Value} {base : Heap}
/-! ### _law_line_right -/
def spLine (K : PySem.W.Frag) (T1 T T2 T3 T4 T5 : Addr) : Sp := fun vs H Q _ => ∃ (p : Addr) (c : Int), vs = [.ref p] ∧ TabG H T1 ∧ TabG H T ∧ TabG H T2 ∧ TabG H T3 ∧ TabG H T4 ∧ TabG H T5 ∧ Pot H p c ∧ c ≤ 1000 ∧
  ∀ H', Grow [p] H H' → Pot H' p (c + 3000) → Q (.bl true) H'
theorem ok_law_line_right {f c T1 T T2 T3 T4 T5 : Addr} {fd : FuncData} (B : Nb mg) (D : DefIs K "_law_line_right" "_law_line_right" st_law_line_right f fd (.ref c))
    (c_rest_of : Callee P w K mg base CX0 11 "rest_of" ["ones", "others", "hands", "heap"] (spRestOf K T1 T T2 T3)) (c_heap_of : Callee P w K mg base CX0 11 "heap_of" ["ones", "others", "rest"] (spHeapOf K T1 T T4 T5))
    (c_law_dip : Callee P w K mg base CX0 3 "_law_dip" ["bowl", "many"] (spDip K)) (c_law_sorts : Callee P w K mg base CX0 5 "_law_sorts" ["bowl", "most"] (spTwo K))
    (c_law_heap : Callee P w K mg base CX0 4 "_law_heap" ["bowl", "many", "wide", "hands"] (spDraw K)) (c_law_backwards : Callee P w K mg base CX0 4 "_law_backwards" ["heap", "many", "wide", "hands"] (spBack K)) : FnG P w K mg base CX0 12 f fd ["bowl"] (spLine K T1 T T2 T3 T4 T5) := by
  refine D.ok0 (k := 11) sc_law_line_right (fun vs H Q E h => ?_) (fun A outer s H vs Q E g hr h => ?_)
  · obtain ⟨p, c, rfl, _⟩ := h
    rfl
  obtain ⟨p, c, rfl, t1, tT, t2, t3, t4, t5, hp, hc, q⟩ := h
  refine ⟨_,
      (pss_cons (ps_asg (pe_g c_law_sorts g (hr.mono (by decide)) pass0 (pa_cons (pv 0) (pa_cons (pe_ix ix_list (pe_lst (pa_cons pe_int (pa_cons pe_int (pa_cons pe_int (pa_cons pe_int pa_nil))))) (pe_g c_law_dip g (hr.mono (by decide)) pass0 (pa_cons (pv 0) (pa_cons pe_int pa_nil))) (fun _ _ => rfl)) pa_nil))) (pg_unl rfl (pgs_cons (pg_name (i := 1) sc_law_line_right.nd rfl (.inl rfl)) (pgs_cons (pg_name (i := 2) sc_law_line_right.nd rfl (.inr rfl)) pgs_nil))))
      (pss_cons (ps_set (i := 3) sc_law_line_right.nd rfl (.inr rfl) (pe_op op_add pe_int (pe_g c_law_dip g (hr.mono (by decide)) pass0 (pa_cons (pv 0) (pa_cons (pe_ix ix_list (pe_lst (pa_cons pe_int (pa_cons pe_int (pa_cons pe_int pa_nil)))) (pe_g c_law_dip g (hr.mono (by decide)) pass0 (pa_cons (pv 0) (pa_cons pe_int pa_nil))) (fun _ _ => rfl)) pa_nil)))))
      (pss_cons (ps_set (i := 4) sc_law_line_right.nd rfl (.inr rfl) (pe_g c_law_heap g (hr.mono (by decide)) pass0 (pa_cons (pv 0) (pa_cons (pe_callB call_len_seq rfl B.n_len PySem.boot_len (pa_cons (pv 1) pa_nil)) (pa_cons (pe_callB call_len_seq rfl B.n_len PySem.boot_len (pa_cons (pv 2) pa_nil)) (pa_cons (pv 3) pa_nil))))))
      (pss_cons (ps_set (i := 5) sc_law_line_right.nd rfl (.inl rfl) (pe_g c_rest_of g (hr.mono (by decide)) pass0 (pa_cons (pv 1) (pa_cons (pv 2) (pa_cons (pv 3) (pa_cons (pv 4) pa_nil))))))
      (pss_cons (ps_if (PW.pt (pw_or (pt_cmpR (op_ne) (pe_callB call_len_seq rfl B.n_len PySem.boot_len (pa_cons (pv 5) pa_nil)) (pv 3) (nomark _)) (pw_or1 (pt_cmpR (op_neD hr.units) (pe_g c_heap_of g (hr.mono (by decide)) pass0 (pa_cons (pv 1) (pa_cons (pv 2) (pa_cons (pv 5) pa_nil)))) (pv 4) (nomark _))))) (
        (pss_one (ps_ret pe_bl))) pss_nil)
      (pss_cons (ps_set (i := 6) sc_law_line_right.nd rfl (.inl rfl) (pe_g c_law_backwards g (hr.mono (by decide)) pass0 (pa_cons (pv 4) (pa_cons (pe_callB call_len_seq rfl B.n_len PySem.boot_len (pa_cons (pv 1) pa_nil)) (pa_cons (pe_callB call_len_seq rfl B.n_len PySem.boot_len (pa_cons (pv 2) pa_nil)) (pa_cons (pv 3) pa_nil))))))
      (pss_cons (ps_if (PW.pt (pw_or (pt_cmpR (op_neD hr.units) (pe_g c_heap_of g (hr.mono (by decide)) pass0 (pa_cons (pv 2) (pa_cons (pv 1) (pa_cons (pe_revL (pv 5)) pa_nil)))) (pv 6) (nomark _)) (pw_or1 (pt_cmpR (op_neD hr.units) (pe_g c_rest_of g (hr.mono (by decide)) pass0 (pa_cons (pv 2) (pa_cons (pv 1) (pa_cons (pv 3) (pa_cons (pv 6) pa_nil))))) (pe_revL (pv 5)) (nomark _))))) (
        (pss_one (ps_ret pe_bl))) pss_nil)
      (pss_cons (ps_set (i := 7) sc_law_line_right.nd rfl (.inl rfl) (pe_g c_heap_of g (hr.mono (by decide)) pass0 (pa_cons (pv 1) (pa_cons (pv 2) (pa_cons (pe_op op_cat (pv 5) (pe_slice sl_list (pv 5) (po_some (pe_un un_neg pe_int)) po_none)) pa_nil)))))
      (pss_cons (ps_set (i := 8) sc_law_line_right.nd rfl (.inr rfl) (pe_lc (own := [("row", 9)]) (tt := tYes) (g := (gName 9)) rfl sc_law_line_right.nd (pi_list (pv 4)) (blkOk_by (N := N_law_line_right) (sc := defScope st_law_line_right) (by decide +kernel)) (fun _ _ _ _ _ => (pg_name (i := 9) sc_law_line_right.nd rfl (.inl rfl))) (fun _ _ _ _ _ => pts_nil) (fun _ _ _ _ _ => pe_to (pe_lc (own := [("number", 10)]) (tt := tYes) (g := (gName 10)) rfl sc_law_line_right.nd (pi_list (pv 9)) (blkOk_by (N := N_law_line_right) (sc := { kind := ScopeKind.function, names := [(".0", NameKind.local), ("row", NameKind.local)], isGenerator := false, isCoroutine := false }) (by decide +kernel)) (fun _ _ _ _ _ => (pg_name (i := 10) sc_law_line_right.nd rfl (.inl rfl))) (fun _ _ _ _ _ => pts_nil) (fun _ _ _ _ _ => pe_to (pe_callTy call_int1 rfl B.n_int (by decide +kernel) (pa_cons (pe_cmpR (op_gt) (pv 10) pe_int (nomark _)) pa_nil)))))))
      (pss_cons (ps_if (pt_cmpR (op_neD hr.units) (pv 7) (pe_lc (own := [("a", 11)]) (tt := tYes) (g := (gName 11)) rfl sc_law_line_right.nd (pi_range1 rfl B.n_range (pa_cons (pe_callB call_len_seq rfl B.n_len PySem.boot_len (pa_cons (pv 1) pa_nil)) pa_nil)) (blkOk_by (N := N_law_line_right) (sc := defScope st_law_line_right) (by decide +kernel)) (fun _ _ _ _ _ => (pg_name (i := 11) sc_law_line_right.nd rfl (.inr rfl))) (fun _ _ _ _ _ => pts_nil) (fun _ _ _ _ _ => pe_to (pe_lc (own := [("b", 12)]) (tt := tYes) (g := (gName 12)) rfl sc_law_line_right.nd (pi_range1 rfl B.n_range (pa_cons (pe_callB call_len_seq rfl B.n_len PySem.boot_len (pa_cons (pv 2) pa_nil)) pa_nil)) (blkOk_by (N := N_law_line_right) (sc := { kind := ScopeKind.function, names := [(".0", NameKind.local), ("a", NameKind.cell), ("range", NameKind.globalImplicit), ("len", NameKind.globalImplicit), ("heap", NameKind.cell), ("last", NameKind.cell), ("others", NameKind.cell)], isGenerator := false, isCoroutine := false }) (by decide +kernel)) (fun _ _ _ _ _ => (pg_name (i := 12) sc_law_line_right.nd rfl (.inl rfl))) (fun _ _ _ _ _ => pts_nil) (fun _ _ _ _ _ => pe_to (pe_op op_add (pe_ix ix_list (pe_ix ix_list (pv 4) (pv 11) (fun _ _ => rfl)) (pv 12) (fun _ _ => rfl)) (pe_ix ix_list (pe_ix ix_list (pv 8) (pv 11) (fun _ _ => rfl)) (pv 12) (fun _ _ => rfl))))))) (nomark _)) (
        (pss_one (ps_ret pe_bl))) pss_nil)
      (pss_cons (ps_set (i := 13) sc_law_line_right.nd rfl (.inr rfl) (pe_lc (own := [("row", 9)]) (tt := tYes) (g := (gName 9)) rfl sc_law_line_right.nd (pi_list (pv 4)) (blkOk_by (N := N_law_line_right) (sc := defScope st_law_line_right) (by decide +kernel)) (fun _ _ _ _ _ => (pg_name (i := 9) sc_law_line_right.nd rfl (.inl rfl))) (fun _ _ _ _ _ => pts_nil) (fun _ _ _ _ _ => pe_to (pe_lc (own := [("number", 10)]) (tt := tYes) (g := (gName 10)) rfl sc_law_line_right.nd (pi_list (pv 9)) (blkOk_by (N := N_law_line_right) (sc := { kind := ScopeKind.function, names := [(".0", NameKind.local), ("row", NameKind.local), ("hands", NameKind.cell)], isGenerator := false, isCoroutine := false }) (by decide +kernel)) (fun _ _ _ _ _ => (pg_name (i := 10) sc_law_line_right.nd rfl (.inl rfl))) (fun _ _ _ _ _ => pts_nil) (fun _ _ _ _ _ => pe_to (pe_callTy call_int1 rfl B.n_int (by decide +kernel) (pa_cons (pe_cmpR (op_eq) (pv 10) (pv 3) (nomark _)) pa_nil)))))))
      (pss_cons (ps_set (i := 7) sc_law_line_right.nd rfl (.inl rfl) (pe_g c_heap_of g (hr.mono (by decide)) pass0 (pa_cons (pv 1) (pa_cons (pv 2) (pa_cons (pe_op op_cat (pe_slice sl_list (pv 5) po_none (po_some pe_int)) (pv 5)) pa_nil)))))
      (pss_one (ps_ret (pe_cmpR (op_eqD hr.units) (pv 7) (pe_lc (own := [("a", 11)]) (tt := tYes) (g := (gName 11)) rfl sc_law_line_right.nd (pi_range1 rfl B.n_range (pa_cons (pe_callB call_len_seq rfl B.n_len PySem.boot_len (pa_cons (pv 1) pa_nil)) pa_nil)) (blkOk_by (N := N_law_line_right) (sc := defScope st_law_line_right) (by decide +kernel)) (fun _ _ _ _ _ => (pg_name (i := 11) sc_law_line_right.nd rfl (.inr rfl))) (fun _ _ _ _ _ => pts_nil) (fun _ _ _ _ _ => pe_to (pe_lc (own := [("b", 12)]) (tt := tYes) (g := (gName 12)) rfl sc_law_line_right.nd (pi_range1 rfl B.n_range (pa_cons (pe_callB call_len_seq rfl B.n_len PySem.boot_len (pa_cons (pv 2) pa_nil)) pa_nil)) (blkOk_by (N := N_law_line_right) (sc := { kind := ScopeKind.function, names := [(".0", NameKind.local), ("a", NameKind.cell), ("range", NameKind.globalImplicit), ("len", NameKind.globalImplicit), ("first", NameKind.cell), ("heap", NameKind.cell), ("others", NameKind.cell)], isGenerator := false, isCoroutine := false }) (by decide +kernel)) (fun _ _ _ _ _ => (pg_name (i := 12) sc_law_line_right.nd rfl (.inl rfl))) (fun _ _ _ _ _ => pts_nil) (fun _ _ _ _ _ => pe_to (pe_op op_add (pe_ix ix_list (pe_ix ix_list (pv 4) (pv 11) (fun _ _ => rfl)) (pv 12) (fun _ _ => rfl)) (pe_ix ix_list (pe_ix ix_list (pv 13) (pv 11) (fun _ _ => rfl)) (pv 12) (fun _ _ => rfl))))))) (nomark _)))))))))))))))), ?_⟩
  have npot : ∀ {H' : Hp} {D : Addr} {k : Int}, Fresh H' D → Pot H' p k → D ≠ p := fun f h => by
    obtain ⟨x, y, z, e, _⟩ := h
    exact (f.ne e (fun ps z => by cases z)).symm
  -- the two books
  refine ⟨.ref p, rfl, by show 4 ≤ sizeLine; decide, fun M1 nM1 => ?_⟩
  have M1p := npot (fresh_none nM1) hp
  refine ⟨.ref p, rfl, p, 4, c, rfl, by decide, by decide, by omega, hp.new nM1, fun v1 H1 v10 v11 g1 pot1 => ?_⟩
  have eM1 := g1.lst (by simpa using M1p) (upd_same (H := H) (a := M1) (o := .lst [.int 4, .int 4, .int 12, .int 36]))
  obtain ⟨n0, hn0, n36⟩ : ∃ n : Nat, atI [V.int 4, V.int 4, V.int 12, V.int 36] v1 = some (.int (n : Nat)) ∧ n ≤ 36 := by
    obtain h | h | h | h : v1 = 0 ∨ v1 = 1 ∨ v1 = 2 ∨ v1 = 3 := by omega
    · subst h; exact ⟨4, rfl, by decide⟩
    · subst h; exact ⟨4, rfl, by decide⟩
    · subst h; exact ⟨12, rfl, by decide⟩
    · subst h; exact ⟨36, rfl, by decide⟩
  have gr1 : Grow [p] H H1 := ((grow_new nM1).any).trans g1
  refine ⟨M1, _, _, _, rfl, rfl, .inl (.inl eM1), hn0, p, n0, _, rfl, n36, pot1, by omega, fun D0 l m H2 zs ws f0 fl fm g2 e0 el em bz bw nd zn wn pot2 => ?_⟩
  have z36 : zs.length ≤ 36 := by omega
  have w36 : ws.length ≤ 36 := by omega
  have lp := npot fl pot1
  have mp := npot fm pot1
  have gr2 := gr1.trans g2
  refine ⟨D0, _, rfl, .inl (.inl e0), rfl, _, _, rfl, _, _, rfl, rfl, ?_⟩
  -- the hands
  refine ⟨.ref p, rfl, by show 3 ≤ sizeLine; decide, fun M2 nM2 => ?_⟩
  have M2p := npot (fresh_none nM2) pot2
  refine ⟨.ref p, rfl, p, 3, _, rfl, by decide, by decide, by omega, pot2.new nM2, fun v2 H3 v20 v21 g3 pot3 => ?_⟩
  have eM2 := g3.lst (by simpa using M2p) (upd_same (H := H2) (a := M2) (o := .lst [.int 5, .int 40, .int 98]))
  obtain ⟨n2, hn2, n2a, n2b⟩ : ∃ n : Int, atI [V.int 5, V.int 40, V.int 98] v2 = some (.int n) ∧ 1 ≤ n ∧ n ≤ 98 := by
    obtain h | h | h : v2 = 0 ∨ v2 = 1 ∨ v2 = 2 := by omega
    · subst h; exact ⟨5, rfl, by decide, by decide⟩
    · subst h; exact ⟨40, rfl, by decide, by decide⟩
    · subst h; exact ⟨98, rfl, by decide, by decide⟩
  have g23 : Grow [p] H2 H3 := ((grow_new nM2).any).trans g3
  refine ⟨M2, _, _, _, rfl, rfl, .inl (.inl eM2), hn2, p, n2, _, rfl, n2a, by omega, by omega, pot3, fun v3 H4 v30 v31 g4 pot4 => ⟨_, _, rfl, rfl, ?_⟩⟩
  obtain ⟨h, hh⟩ : ∃ h : Nat, (1 : Int) + v3 = (h : Nat) := ⟨(1 + v3).toNat, by omega⟩
  dsimp only
  rw [hh]
  have h1 : 1 ≤ h := by omega
  have h98 : h ≤ 98 := by omega
  have g24 := g23.trans g4
  have el4 := g24.lst (by simpa using lp) el
  have em4 := g24.lst (by simpa using mp) em
  have gr4 := gr2.trans g24
  -- the heap
  refine ⟨.ref p, rfl, .ref l, rfl, l, _, rfl, .inl (.inl (.inl el4)), .ref m, rfl, m, _, rfl, .inl (.inl (.inl em4)), .int (h : Nat), rfl, ?_⟩
  refine ⟨p, zs.length, ws.length, h, _, by rw [List.length_map, List.length_map]; rfl, z36, w36, by omega, pot4, by omega, fun T0 H5 hp g5 nlT ok pot5 => ?_⟩
  have el5 := g5.lst (by simpa using lp) el4
  have em5 := g5.lst (by simpa using mp) em4
  have gr5 := gr4.trans g5
  have lt5 := nlT.at_
  have potZ : ∀ {H' : Hp}, Grow [] H5 H' → Pot H' p (c + 3000) := fun g => (pot5.grow0 g).mono (by omega)
  have fin : ∀ {H' : Hp}, Grow [] H5 H' → Q (.bl true) H' := fun g => q _ (gr5.trans g.any) (potZ g)
  have u1 := gr5.tabs _ t1
  have uT := gr5.tabs _ tT
  have u2 := gr5.tabs _ t2
  have u3 := gr5.tabs _ t3
  have u4 := gr5.tabs _ t4
  have u5 := gr5.tabs _ t5
  clear pot5 g5 gr5 gr4 g24 g4 pot4 g23 g3 pot3 gr2 g2 pot2 gr1 g1 pot1 el em el4 em4 nlT potZ
  have nd' : (ws ++ zs).Nodup := (List.perm_append_comm.nodup_iff).mp nd
  have okB := back_ok ok
  have okR := rows_rest bz bw nd ok z36 w36 (by omega)
  have okH := rows_heap ok z36 w36 (by omega : h ≤ 99)
  have okK := rows_heap okB w36 z36 (by omega : h ≤ 99)
  have fR := fine_rows okR
  have fH := fine_rows okH
  have fK := fine_rows okK
  have okV : RowsOk (restV zs ws h hp).reverse := ⟨by rw [List.length_reverse]; exact okR.1, fun r hr => okR.2 r (List.mem_reverse.mp hr)⟩
  have fV := fine_rows okV
  -- there and back
  refine ⟨.ref l, rfl, .ref m, rfl, .int (h : Nat), rfl, .ref T0, rfl, l, m, T0, zs, ws, hp, h, rfl, u1, uT, u2, u3, el5, em5, bz, bw, nd, lt5, ok, h1, by omega, fun R H6 g6 nlR => ?_⟩
  rw [restV_eq] at nlR
  obtain ⟨as, eR, lR⟩ := id nlR.at_
  have las : as.length = h := by have := lR.len; rwa [restV_len] at this
  refine ⟨.ref R, rfl, R, _, rfl, .inl (.inl (.inl eR)), .int (h : Nat), rfl, rfl, ?_⟩
  rw [List.length_map, las, decide_eq_true rfl]
  refine ⟨false, rfl, iteF ?_⟩
  refine ⟨.ref l, rfl, .ref m, rfl, .ref R, rfl, ?_⟩
  dsimp only [tNil]
  refine rest_heap (g6.tabs _ u1) (g6.tabs _ uT) (g6.tabs _ u4) (g6.tabs _ u5) (g6.lst (by simp) el5) (g6.lst (by simp) em5) bz bw nd nlR.at_ ok h1 (by omega) fun C H7 g7 nlC => ?_
  have g57 := g6.trans g7
  refine ⟨.ref T0, rfl, _, _, nlC.at_.dp okH, (lt5.grow0 g57).dp okH, fH.shaped (by decide), fH.shaped (by decide), ?_⟩
  rw [fH.eqv]
  refine ⟨false, rfl, iteF ?_⟩
  -- backwards
  have el7 := g57.lst (by simp) el5
  have em7 := g57.lst (by simp) em5
  refine ⟨.ref T0, rfl, .ref l, rfl, l, _, rfl, .inl (.inl (.inl el7)), .ref m, rfl, m, _, rfl, .inl (.inl (.inl em7)), .int (h : Nat), rfl, ?_⟩
  refine ⟨T0, zs.length, ws.length, h, hp, by rw [List.length_map, List.length_map]; rfl, z36, w36, lt5.grow0 g57, ok, fun Bk0 H8 g8 nlB => ?_⟩
  have g58 := g57.trans g8
  have g68 := g7.trans g8
  have eR8 := g68.lst (by simp) eR
  refine ⟨.ref m, rfl, .ref l, rfl, .ref R, rfl, R, _, rfl, .inl (.inl eR8), fun V1 nV1 => ?_⟩
  have gV := grow_new (ex := []) (o := .lst (as.map V.ref).reverse) nV1
  have latV : LLat (upd H8 V1 (.lst (as.map V.ref).reverse)) V1 (restV ws zs h (backH zs.length ws.length h hp)) := by
    rw [restV_rev nd ok]
    exact ⟨as.reverse, by rw [upd_same, List.map_reverse], ((lR.grow0 g68).grow0 gV).rev⟩
  have nlB9 := nlB.grow gV
  have g59 := g58.trans gV
  have g69 := g68.trans gV
  generalize upd H8 V1 (HO.lst (as.map V.ref).reverse) = H9 at gV latV nlB9 g59 g69 ⊢
  dsimp only [tNil]
  refine rest_heap (g59.tabs _ u1) (g59.tabs _ uT) (g59.tabs _ u4) (g59.tabs _ u5) (g59.lst (by simp) em5) (g59.lst (by simp) el5) bw bz nd' latV okB h1 (by omega) fun C2 Ha ga nlC2 => ?_
  refine ⟨.ref Bk0, rfl, _, _, nlC2.at_.dp okK, (nlB9.grow ga).at_.dp okK, fK.shaped (by decide), fK.shaped (by decide), ?_⟩
  rw [fK.eqv]
  refine ⟨false, rfl, iteF ?_⟩
  have g5a := g59.trans ga
  have g6a := g69.trans ga
  refine ⟨.ref m, rfl, .ref l, rfl, .int (h : Nat), rfl, .ref Bk0, rfl, m, l, Bk0, ws, zs, _, h, rfl, g5a.tabs _ u1, g5a.tabs _ uT, g5a.tabs _ u2, g5a.tabs _ u3, g5a.lst (by simp) em5, g5a.lst (by simp) el5, bw, bz, nd', (nlB9.grow ga).at_, okB, h1, by omega, fun R2 Hb gb nlR2 => ?_⟩
  rw [restV_eq, restV_rev nd ok] at nlR2
  have g6b := g6a.trans gb
  have eRb := g6b.lst (by simp) eR
  refine ⟨.ref R, rfl, R, _, rfl, .inl (.inl eRb), fun V2 nV2 => ?_⟩
  have gV2 := grow_new (ex := []) (o := .lst (as.map V.ref).reverse) nV2
  have latV2 : LLat (upd Hb V2 (.lst (as.map V.ref).reverse)) V2 (restV zs ws h hp).reverse := ⟨as.reverse, by rw [upd_same, List.map_reverse], ((lR.grow0 g6b).grow0 gV2).rev⟩
  refine ⟨_, _, (nlR2.grow gV2).at_.dp okV, latV2.dp okV, fV.shaped (by decide), fV.shaped (by decide), ?_⟩
  rw [fV.eqv]
  refine ⟨false, rfl, iteF ?_⟩
  have g6c := g6b.trans gV2
  have g5c := g6.trans g6c
  clear nlR2 latV2 nlC2 nlB9 latV nlB nlC
  generalize upd Hb V2 (HO.lst (as.map V.ref).reverse) = Hc at gV2 g6c g5c ⊢
  have eRc := g6c.lst (by simp) eR
  -- a hand more at the last end
  refine ⟨.ref l, rfl, .ref m, rfl, .ref R, rfl, .ref R, rfl, 1, rfl, -1, rfl, R, _, rfl, .inl (.inl eRc), fun L1 nL1 => ?_⟩
  rw [cut_last, List.length_map, las, ← List.map_drop]
  have gL1 := grow_new (ex := []) (o := .lst ((as.drop (h - 1)).map V.ref)) nL1
  have g6d := g6c.trans gL1
  have eRd := g6d.lst (by simp) eR
  have eLd : upd Hc L1 (.lst ((as.drop (h - 1)).map V.ref)) L1 = some (.lst ((as.drop (h - 1)).map V.ref)) := upd_same
  generalize upd Hc L1 (HO.lst ((as.drop (h - 1)).map V.ref)) = Hd at gL1 g6d eRd eLd ⊢
  refine ⟨R, L1, _, _, rfl, rfl, eRd, eLd, by rw [List.length_map, List.length_map, List.length_drop]; unfold sizeLine; omega, fun S1 nS1 => ?_⟩
  rw [← List.map_append]
  have gS1 := grow_new (ex := []) (o := .lst ((as ++ as.drop (h - 1)).map V.ref)) nS1
  have okL := last_ok ok
  have okF := first_ok ok
  have latS : LLat (upd Hd S1 (.lst ((as ++ as.drop (h - 1)).map V.ref))) S1 (restV zs ws (h + 1) (hp.map (List.map upLast))) := by
    rw [restV_last ok h1]
    have := (lR.grow0 g6d).grow0 gS1
    exact ⟨_, upd_same, this.both (this.dropN (h - 1))⟩
  have g6e := g6d.trans gS1
  generalize upd Hd S1 (HO.lst ((as ++ as.drop (h - 1)).map V.ref)) = He at gS1 latS g6e ⊢
  have g5e := g6.trans g6e
  dsimp only [tNil]
  refine rest_heap (g5e.tabs _ u1) (g5e.tabs _ uT) (g5e.tabs _ u4) (g5e.tabs _ u5) (g5e.lst (by simp) el5) (g5e.lst (by simp) em5) bz bw nd latS okL (by omega) (by omega) fun C3 Hf gf nlC3 => ?_
  have g6f := g6e.trans gf
  have g5f := g6.trans g6f
  obtain ⟨ah, eTHg, lTHg⟩ := id (lt5.grow0 g5f)
  have lahHg : ah.length = hp.length := by have := lTHg.len; rwa [List.length_map] at this
  refine ⟨.ref T0, rfl, T0, rfl, ⟨_, .inl (.inl eTHg)⟩, fun F_nlHg n1 => ?_⟩
  refine lc_it (walk_list (xs := ah.map V.ref)) (fun j H' => Grow [] Hf H' ∧ NewLL Hf H' F_nlHg (((hp.take j).map (List.map flagLast)).map intsN)) ⟨grow_new n1, NewLL.nil n1⟩
    (fun j H' _ h => .inl (.inl (h.1.lst (by simp) eTHg))) (fun j x K7 K8 hj hp7 hy => ?_) (fun Hg hp7 => ?_)
  · obtain ⟨gj, nl⟩ := hp7
    obtain ⟨rfl, ex⟩ := hy
    rw [List.getElem?_map] at ex
    cases ea : ah[j]? with
    | none => rw [ea] at ex; cases ex
    | some ra =>
      rw [ea] at ex
      cases ex
      have hi := (List.getElem?_eq_some_iff.mp ea).1
      obtain ⟨row, er⟩ : ∃ row, hp[j]? = some row := ⟨_, List.getElem?_eq_getElem (by omega)⟩
      have mr := List.mem_of_getElem? er
      have wr := ok.wide row mr
      have eRw := (lTHg.grow0 gj).at_ j ra (intsN row) ea (by rw [List.getElem?_map, er]; rfl)
      refine ⟨rfl, yes_if ⟨.ref ra, rfl, ra, rfl, ⟨_, .inl (.inl eRw)⟩, fun D2 n2 => ?_⟩⟩
      refine lc_it (walk_list (xs := intsN row)) (fun i H' => Grow [] K8 H' ∧ H' D2 = some (.lst (intsN ((row.take i).map flagLast)))) ⟨grow_new n2, upd_same⟩
        (fun i H' _ h => .inl (.inl (h.1.lst (by simp) eRw))) (fun i x K9 Ka hi hp9 hy => ?_) (fun K9 hp9 => ?_)
      · obtain ⟨gi, eD⟩ := hp9
        obtain ⟨rfl, ex⟩ := hy
        unfold intsN at ex
        rw [List.getElem?_map] at ex
        cases en : row[i]? with
        | none => rw [en] at ex; cases ex
        | some n =>
          rw [en] at ex
          cases ex
          have hiw : i < row.length := (List.getElem?_eq_some_iff.mp en).1
          refine ⟨rfl, yes_if ⟨.int (n : Nat), rfl, _, _, rfl, rfl, .inr ⟨_, rfl, _, eD, ?_, gi.put (fresh_none n2) eD (fun ps z => by cases z), ?_⟩⟩⟩
          · rw [intsN_len, List.length_map, List.length_take]
            unfold sizeLine
            omega
          · rw [upd_same, List.take_add_one, en, List.map_append]
            unfold intsN
            rw [List.map_append]
            show some (HO.lst (_ ++ [V.int (if decide ((0 : Int) < (n : Nat)) = true then 1 else 0)])) = some (HO.lst (_ ++ [V.int ((flagLast n : Nat) : Int)]))
            unfold flagLast
            by_cases h0 : 0 < n
            · rw [if_pos h0, if_pos (decide_eq_true (by omega))]
              rfl
            · rw [if_neg h0, if_neg (by simpa using h0)]
              rfl
      · obtain ⟨gi, eD⟩ := hp9
        rw [intsN_len, List.take_length] at eD
        obtain ⟨acc, a1, a2, a3, a4⟩ := nl.app gj gi (fresh_none n2) eD
        have oklen := ok.len
        refine ⟨acc, a1, by rw [a2, List.length_map, List.length_map, List.length_take]; unfold sizeLine; omega, a3, ?_⟩
        rw [List.take_add_one, er, List.map_append, List.map_append]
        exact a4
  obtain ⟨gHg, nlHg⟩ := hp7
  rw [List.length_map, lahHg, List.take_length] at nlHg
  have g5Hg := g5f.trans gHg
  have nlC3g := nlC3.grow gHg
  refine ⟨.ref C3, rfl, ?_⟩
  refine ⟨.ref l, rfl, l, _, rfl, .inl (.inl (.inl (g5Hg.lst (by simp) el5))), ?_⟩
  dsimp only [tNil]
  refine ⟨_, rfl, by rw [List.length_map]; omega, by rw [List.length_map]; omega, fun S2 n1 => ?_⟩
  refine lc_it walk_range (fun j H' => Grow [] Hg H' ∧ NewLL Hg H' S2 (((hp.take j).map (List.map upLast)).map intsN)) ⟨grow_new n1, NewLL.nil n1⟩
    (fun _ _ _ _ => trivial) (fun j x K7 K8 hj hp7 hy => ?_) (fun Hh hp7 => ?_)
  · obtain ⟨gj, nl⟩ := hp7
    obtain ⟨rfl, rfl⟩ := hy
    have hj : j < zs.length := by
      rw [List.length_map] at hj
      simpa using hj
    obtain ⟨row, er⟩ : ∃ row, hp[j]? = some row := ⟨_, List.getElem?_eq_getElem (by rw [ok.len]; exact hj)⟩
    have mr := List.mem_of_getElem? er
    have wr := ok.wide row mr
    have g5k := g5Hg.trans gj
    refine ⟨rfl, yes_if ⟨.ref m, rfl, m, _, rfl, .inl (.inl (.inl (g5k.lst (by simp) em5))), ?_⟩⟩
    dsimp only [tNil]
    refine ⟨_, rfl, by rw [List.length_map]; omega, by rw [List.length_map]; omega, fun D2 n2 => ?_⟩
    refine lc_it walk_range (fun i H' => Grow [] K8 H' ∧ H' D2 = some (.lst (intsN ((row.take i).map upLast)))) ⟨grow_new n2, upd_same⟩
      (fun _ _ _ _ => trivial) (fun i x K9 Ka hi hp9 hy => ?_) (fun K9 hp9 => ?_)
    · obtain ⟨gi, eD⟩ := hp9
      obtain ⟨rfl, rfl⟩ := hy
      have hi : i < ws.length := by
        rw [List.length_map] at hi
        simpa using hi
      obtain ⟨n, en⟩ : ∃ n, row[i]? = some n := ⟨_, List.getElem?_eq_getElem (by omega)⟩
      have gx := gj.trans gi
      obtain ⟨a1, ea1, l1⟩ := lt5.grow0 (g5Hg.trans gx)
      obtain ⟨a2, ea2, l2⟩ := nlHg.at_.grow0 gx
      have la1 : a1.length = hp.length := by have := l1.len; rwa [List.length_map] at this
      have la2 : a2.length = hp.length := by have := l2.len; rwa [List.length_map, List.length_map] at this
      obtain ⟨r1, e1⟩ : ∃ r1, a1[j]? = some r1 := ⟨_, List.getElem?_eq_getElem (by rw [la1, ok.len]; exact hj)⟩
      obtain ⟨r2, e2⟩ : ∃ r2, a2[j]? = some r2 := ⟨_, List.getElem?_eq_getElem (by rw [la2, ok.len]; exact hj)⟩
      have q1 := l1.at_ j r1 (intsN row) e1 (by rw [List.getElem?_map, er]; rfl)
      have q2 := l2.at_ j r2 (intsN (row.map flagLast)) e2 (by rw [List.getElem?_map, List.getElem?_map, er]; rfl)
      have b1 : atI (a1.map V.ref) (0 + (j : Int)) = some (.ref r1) := by
        rw [Int.zero_add]
        exact atI_nat (by rw [List.getElem?_map, e1]; rfl)
      have b2 : atI (a2.map V.ref) (0 + (j : Int)) = some (.ref r2) := by
        rw [Int.zero_add]
        exact atI_nat (by rw [List.getElem?_map, e2]; rfl)
      have b3 : atI (intsN row) (0 + (i : Int)) = some (.int (n : Nat)) := by
        rw [Int.zero_add]
        exact atI_nat (by unfold intsN; rw [List.getElem?_map, en]; rfl)
      have b4 : atI (intsN (row.map flagLast)) (0 + (i : Int)) = some (.int (flagLast n : Nat)) := by
        rw [Int.zero_add]
        exact atI_nat (by unfold intsN; rw [List.getElem?_map, List.getElem?_map, en]; rfl)
      refine ⟨rfl, yes_if ⟨.ref T0, rfl, .int (0 + (j : Int)), rfl, T0, _, _, _, rfl, rfl, .inl (.inl ea1), b1, .int (0 + (i : Int)), rfl, r1, _, _, _, rfl, rfl, .inl (.inl q1), b3, .ref F_nlHg, rfl, .int (0 + (j : Int)), rfl, F_nlHg, _, _, _, rfl, rfl, .inl (.inl ea2), b2, .int (0 + (i : Int)), rfl, r2, _, _, _, rfl, rfl, .inl (.inl q2), b4, _, _, rfl, rfl, _, eD, ?_, gi.put (fresh_none n2) eD (fun ps z => by cases z), ?_⟩⟩
      · rw [intsN_len, List.length_map, List.length_take]
        unfold sizeLine
        omega
      · rw [upd_same, List.take_add_one, en, List.map_append]
        unfold intsN
        rw [List.map_append]
        show some (HO.lst (_ ++ [V.int ((n : Int) + (flagLast n : Nat))])) = some (HO.lst (_ ++ [V.int ((n + flagLast n : Nat) : Int)]))
        rw [Int.natCast_add]
    · obtain ⟨gi, eD⟩ := hp9
      try rw [show ((((ws.map V.str).length : Nat) : Int) - 0).toNat = row.length by rw [List.length_map]; omega] at eD
      try rw [show (((ws.map V.str).length : Nat) : Int).toNat = row.length by rw [List.length_map]; omega] at eD
      rw [List.take_length] at eD
      obtain ⟨acc, a1, a2, a3, a4⟩ := nl.app gj gi (fresh_none n2) eD
      have oklen := ok.len
      refine ⟨acc, a1, by rw [a2, List.length_map, List.length_map, List.length_take]; unfold sizeLine; omega, a3, ?_⟩
      rw [List.take_add_one, er, List.map_append, List.map_append]
      exact a4
  obtain ⟨gHh, nlHh⟩ := hp7
  try rw [show ((((zs.map V.str).length : Nat) : Int) - 0).toNat = hp.length by rw [List.length_map, ok.len]; omega] at nlHh
  try rw [show (((zs.map V.str).length : Nat) : Int).toNat = hp.length by rw [List.length_map, ok.len]; omega] at nlHh
  rw [List.take_length] at nlHh
  have g5Hh := g5Hg.trans gHh
  have okX := rows_heap okL z36 w36 (by omega)
  have fX := fine_rows okX
  refine ⟨_, _, (nlC3g.grow gHh).at_.dp okX, nlHh.at_.dp okX, fX.shaped (by decide), fX.shaped (by decide), ?_⟩
  rw [fX.eqv]
  refine ⟨false, rfl, iteF ?_⟩
  have g6h := (g6f.trans gHg).trans gHh
  clear nlC3 nlC3g nlHg nlHh latS
  -- a hand more at the first end
  obtain ⟨ah, eTHi, lTHi⟩ := id (lt5.grow0 g5Hh)
  have lahHi : ah.length = hp.length := by have := lTHi.len; rwa [List.length_map] at this
  refine ⟨.ref T0, rfl, T0, rfl, ⟨_, .inl (.inl eTHi)⟩, fun F_nlHi n1 => ?_⟩
  refine lc_it (walk_list (xs := ah.map V.ref)) (fun j H' => Grow [] Hh H' ∧ NewLL Hh H' F_nlHi (((hp.take j).map (List.map (flagFirst h))).map intsN)) ⟨grow_new n1, NewLL.nil n1⟩
    (fun j H' _ h => .inl (.inl (h.1.lst (by simp) eTHi))) (fun j x K7 K8 hj hp7 hy => ?_) (fun Hi hp7 => ?_)
  · obtain ⟨gj, nl⟩ := hp7
    obtain ⟨rfl, ex⟩ := hy
    rw [List.getElem?_map] at ex
    cases ea : ah[j]? with
    | none => rw [ea] at ex; cases ex
    | some ra =>
      rw [ea] at ex
      cases ex
      have hi := (List.getElem?_eq_some_iff.mp ea).1
      obtain ⟨row, er⟩ : ∃ row, hp[j]? = some row := ⟨_, List.getElem?_eq_getElem (by omega)⟩
      have mr := List.mem_of_getElem? er
      have wr := ok.wide row mr
      have eRw := (lTHi.grow0 gj).at_ j ra (intsN row) ea (by rw [List.getElem?_map, er]; rfl)
      refine ⟨rfl, yes_if ⟨.ref ra, rfl, ra, rfl, ⟨_, .inl (.inl eRw)⟩, fun D2 n2 => ?_⟩⟩
      refine lc_it (walk_list (xs := intsN row)) (fun i H' => Grow [] K8 H' ∧ H' D2 = some (.lst (intsN ((row.take i).map (flagFirst h))))) ⟨grow_new n2, upd_same⟩
        (fun i H' _ h => .inl (.inl (h.1.lst (by simp) eRw))) (fun i x K9 Ka hi hp9 hy => ?_) (fun K9 hp9 => ?_)
      · obtain ⟨gi, eD⟩ := hp9
        obtain ⟨rfl, ex⟩ := hy
        unfold intsN at ex
        rw [List.getElem?_map] at ex
        cases en : row[i]? with
        | none => rw [en] at ex; cases ex
        | some n =>
          rw [en] at ex
          cases ex
          have hiw : i < row.length := (List.getElem?_eq_some_iff.mp en).1
          refine ⟨rfl, yes_if ⟨.int (n : Nat), rfl, .int (h : Nat), rfl, rfl, .inr ⟨_, rfl, _, eD, ?_, gi.put (fresh_none n2) eD (fun ps z => by cases z), ?_⟩⟩⟩
          · rw [intsN_len, List.length_map, List.length_take]
            unfold sizeLine
            omega
          · rw [upd_same, List.take_add_one, en, List.map_append]
            unfold intsN
            rw [List.map_append]
            show some (HO.lst (_ ++ [V.int (if decide (V.int (n : Nat) = V.int (h : Nat)) = true then 1 else 0)])) = some (HO.lst (_ ++ [V.int ((flagFirst h n : Nat) : Int)]))
            unfold flagFirst
            by_cases h0 : n = h
            · rw [if_pos h0, if_pos (decide_eq_true (by rw [h0]))]
              rfl
            · rw [if_neg h0, if_neg (by
                intro z
                have z := V.int.inj (of_decide_eq_true z)
                omega)]
              rfl
      · obtain ⟨gi, eD⟩ := hp9
        rw [intsN_len, List.take_length] at eD
        obtain ⟨acc, a1, a2, a3, a4⟩ := nl.app gj gi (fresh_none n2) eD
        have oklen := ok.len
        refine ⟨acc, a1, by rw [a2, List.length_map, List.length_map, List.length_take]; unfold sizeLine; omega, a3, ?_⟩
        rw [List.take_add_one, er, List.map_append, List.map_append]
        exact a4
  obtain ⟨gHi, nlHi⟩ := hp7
  rw [List.length_map, lahHi, List.take_length] at nlHi
  have g5Hi := g5Hh.trans gHi
  have g6i := g6h.trans gHi
  have eRi := g6i.lst (by simp) eR
  refine ⟨.ref l, rfl, .ref m, rfl, .ref R, rfl, 1, rfl, R, _, rfl, .inl (.inl eRi), fun L2 nL2 => ?_⟩
  rw [show (1 : Int) = ((1 : Nat) : Int) from rfl, cut_hi, ← List.map_take]
  have gL2 := grow_new (ex := []) (o := .lst ((as.take 1).map V.ref)) nL2
  have g6j := g6i.trans gL2
  have eRj := g6j.lst (by simp) eR
  have eLj : upd Hi L2 (.lst ((as.take 1).map V.ref)) L2 = some (.lst ((as.take 1).map V.ref)) := upd_same
  have nlJ := nlHi.grow gL2
  generalize upd Hi L2 (HO.lst ((as.take 1).map V.ref)) = Hj at gL2 g6j eRj eLj nlJ ⊢
  refine ⟨.ref R, rfl, L2, R, _, _, rfl, rfl, eLj, eRj, by rw [List.length_map, List.length_map, List.length_take]; unfold sizeLine; omega, fun S3 nS3 => ?_⟩
  rw [← List.map_append]
  have gS3 := grow_new (ex := []) (o := .lst ((as.take 1 ++ as).map V.ref)) nS3
  have latS : LLat (upd Hj S3 (.lst ((as.take 1 ++ as).map V.ref))) S3 (restV zs ws (h + 1) (hp.map (List.map (upFirst h)))) := by
    rw [restV_first ok h1]
    have := (lR.grow0 g6j).grow0 gS3
    exact ⟨_, upd_same, (this.takeN 1).both this⟩
  have g6k := g6j.trans gS3
  have nlK := nlJ.grow gS3
  generalize upd Hj S3 (HO.lst ((as.take 1 ++ as).map V.ref)) = Hk at gS3 latS g6k nlK ⊢
  have g5k := g6.trans g6k
  dsimp only [tNil]
  refine rest_heap (g5k.tabs _ u1) (g5k.tabs _ uT) (g5k.tabs _ u4) (g5k.tabs _ u5) (g5k.lst (by simp) el5) (g5k.lst (by simp) em5) bz bw nd latS okF (by omega) (by omega) fun C4 Hl gl nlC4 => ?_
  have g5l := g5k.trans gl
  have nlL := nlK.grow gl
  refine ⟨.ref C4, rfl, ?_⟩
  refine ⟨.ref l, rfl, l, _, rfl, .inl (.inl (.inl (g5l.lst (by simp) el5))), ?_⟩
  dsimp only [tNil]
  refine ⟨_, rfl, by rw [List.length_map]; omega, by rw [List.length_map]; omega, fun S4 n1 => ?_⟩
  refine lc_it walk_range (fun j H' => Grow [] Hl H' ∧ NewLL Hl H' S4 (((hp.take j).map (List.map (upFirst h))).map intsN)) ⟨grow_new n1, NewLL.nil n1⟩
    (fun _ _ _ _ => trivial) (fun j x K7 K8 hj hp7 hy => ?_) (fun Hm hp7 => ?_)
  · obtain ⟨gj, nl⟩ := hp7
    obtain ⟨rfl, rfl⟩ := hy
    have hj : j < zs.length := by
      rw [List.length_map] at hj
      simpa using hj
    obtain ⟨row, er⟩ : ∃ row, hp[j]? = some row := ⟨_, List.getElem?_eq_getElem (by rw [ok.len]; exact hj)⟩
    have mr := List.mem_of_getElem? er
    have wr := ok.wide row mr
    have g5k := g5l.trans gj
    refine ⟨rfl, yes_if ⟨.ref m, rfl, m, _, rfl, .inl (.inl (.inl (g5k.lst (by simp) em5))), ?_⟩⟩
    dsimp only [tNil]
    refine ⟨_, rfl, by rw [List.length_map]; omega, by rw [List.length_map]; omega, fun D2 n2 => ?_⟩
    refine lc_it walk_range (fun i H' => Grow [] K8 H' ∧ H' D2 = some (.lst (intsN ((row.take i).map (upFirst h))))) ⟨grow_new n2, upd_same⟩
      (fun _ _ _ _ => trivial) (fun i x K9 Ka hi hp9 hy => ?_) (fun K9 hp9 => ?_)
    · obtain ⟨gi, eD⟩ := hp9
      obtain ⟨rfl, rfl⟩ := hy
      have hi : i < ws.length := by
        rw [List.length_map] at hi
        simpa using hi
      obtain ⟨n, en⟩ : ∃ n, row[i]? = some n := ⟨_, List.getElem?_eq_getElem (by omega)⟩
      have gx := gj.trans gi
      obtain ⟨a1, ea1, l1⟩ := lt5.grow0 (g5l.trans gx)
      obtain ⟨a2, ea2, l2⟩ := nlL.at_.grow0 gx
      have la1 : a1.length = hp.length := by have := l1.len; rwa [List.length_map] at this
      have la2 : a2.length = hp.length := by have := l2.len; rwa [List.length_map, List.length_map] at this
      obtain ⟨r1, e1⟩ : ∃ r1, a1[j]? = some r1 := ⟨_, List.getElem?_eq_getElem (by rw [la1, ok.len]; exact hj)⟩
      obtain ⟨r2, e2⟩ : ∃ r2, a2[j]? = some r2 := ⟨_, List.getElem?_eq_getElem (by rw [la2, ok.len]; exact hj)⟩
      have q1 := l1.at_ j r1 (intsN row) e1 (by rw [List.getElem?_map, er]; rfl)
      have q2 := l2.at_ j r2 (intsN (row.map (flagFirst h))) e2 (by rw [List.getElem?_map, List.getElem?_map, er]; rfl)
      have b1 : atI (a1.map V.ref) (0 + (j : Int)) = some (.ref r1) := by
        rw [Int.zero_add]
        exact atI_nat (by rw [List.getElem?_map, e1]; rfl)
      have b2 : atI (a2.map V.ref) (0 + (j : Int)) = some (.ref r2) := by
        rw [Int.zero_add]
        exact atI_nat (by rw [List.getElem?_map, e2]; rfl)
      have b3 : atI (intsN row) (0 + (i : Int)) = some (.int (n : Nat)) := by
        rw [Int.zero_add]
        exact atI_nat (by unfold intsN; rw [List.getElem?_map, en]; rfl)
      have b4 : atI (intsN (row.map (flagFirst h))) (0 + (i : Int)) = some (.int ((flagFirst h) n : Nat)) := by
        rw [Int.zero_add]
        exact atI_nat (by unfold intsN; rw [List.getElem?_map, List.getElem?_map, en]; rfl)
      refine ⟨rfl, yes_if ⟨.ref T0, rfl, .int (0 + (j : Int)), rfl, T0, _, _, _, rfl, rfl, .inl (.inl ea1), b1, .int (0 + (i : Int)), rfl, r1, _, _, _, rfl, rfl, .inl (.inl q1), b3, .ref F_nlHi, rfl, .int (0 + (j : Int)), rfl, F_nlHi, _, _, _, rfl, rfl, .inl (.inl ea2), b2, .int (0 + (i : Int)), rfl, r2, _, _, _, rfl, rfl, .inl (.inl q2), b4, _, _, rfl, rfl, _, eD, ?_, gi.put (fresh_none n2) eD (fun ps z => by cases z), ?_⟩⟩
      · rw [intsN_len, List.length_map, List.length_take]
        unfold sizeLine
        omega
      · rw [upd_same, List.take_add_one, en, List.map_append]
        unfold intsN
        rw [List.map_append]
        show some (HO.lst (_ ++ [V.int ((n : Int) + ((flagFirst h) n : Nat))])) = some (HO.lst (_ ++ [V.int ((n + (flagFirst h) n : Nat) : Int)]))
        rw [Int.natCast_add]
    · obtain ⟨gi, eD⟩ := hp9
      try rw [show ((((ws.map V.str).length : Nat) : Int) - 0).toNat = row.length by rw [List.length_map]; omega] at eD
      try rw [show (((ws.map V.str).length : Nat) : Int).toNat = row.length by rw [List.length_map]; omega] at eD
      rw [List.take_length] at eD
      obtain ⟨acc, a1, a2, a3, a4⟩ := nl.app gj gi (fresh_none n2) eD
      have oklen := ok.len
      refine ⟨acc, a1, by rw [a2, List.length_map, List.length_map, List.length_take]; unfold sizeLine; omega, a3, ?_⟩
      rw [List.take_add_one, er, List.map_append, List.map_append]
      exact a4
  obtain ⟨gHm, nlHm⟩ := hp7
  try rw [show ((((zs.map V.str).length : Nat) : Int) - 0).toNat = hp.length by rw [List.length_map, ok.len]; omega] at nlHm
  try rw [show (((zs.map V.str).length : Nat) : Int).toNat = hp.length by rw [List.length_map, ok.len]; omega] at nlHm
  rw [List.take_length] at nlHm
  have g5Hm := g5l.trans gHm
  have okY := rows_heap okF z36 w36 (by omega)
  have fY := fine_rows okY
  refine ⟨_, _, (nlC4.grow gHm).at_.dp okY, nlHm.at_.dp okY, fY.shaped (by decide), fY.shaped (by decide), ?_⟩
  rw [fY.eqv]
  exact fin g5Hm
end

end Lw

namespace Lw
open PySem PySem.Spec PyProof.Rows L2 GxR Gx
/-! ### law -/
section
variable {P : Program} {w : World} {K : PySem.W.Frag} {mg : Str → Option Value} {base : Heap}
theorem four_lay (i j k l : Int) : PyData.canLay0 (.list [.int i, .int j, .int k, .int l]) = true := by
  simp [PyData.canLay0, PyData.canLayAll0]
theorem dp_ints4 {K : PySem.W.Frag} {H : Hp} {L : Addr} {i j k l : Int} (e : H L = some (.lst [.int i, .int j, .int k, .int l])) : Dp K H (.ref L) (.list [.int i, .int j, .int k, .int l]) :=
  .lst (.inl (.inl e)) (.cons (.int i) (.cons (.int j) (.cons (.int k) (.cons (.int l) .nil))))
theorem four_shaped (i j k l : Int) : SeqAt.shaped (.list [.int i, .int j, .int k, .int l]) = true := by
  simp [SeqAt.shaped, PyData.canLay0, PyData.canLayAll0, PyData.depth, PyData.depthAll]
def spLaw (K : PySem.W.Frag) (T1 T T2 T3 T4 T5 : Addr) : Sp := fun vs H Q _ => ∃ (a : Addr) (ns : List Int), vs = [.ref a] ∧ TabG H T1 ∧ TabG H T ∧ TabG H T2 ∧ TabG H T3 ∧ TabG H T4 ∧ TabG H T5 ∧ SqL K H a (ns.map V.int) ∧ ∀ (H' : Hp), Grow [] H H' → Q (.bl true) H'
theorem ok_law {f c T1 T T2 T3 T4 T5 : Addr} {fd : FuncData} (B : Nb mg) (D : DefIs K "law" "law" st_law f fd (.ref c))
    (c_law_bowl : Callee P w K mg base CX0 3 "_law_bowl" ["script"] (spBowl K)) (c_law_line_right : Callee P w K mg base CX0 12 "_law_line_right" ["bowl"] (spLine K T1 T T2 T3 T4 T5)) (c_law_dip : Callee P w K mg base CX0 3 "_law_dip" ["bowl", "many"] (spDip K))
    (c_how_many_rests : Callee P w K mg base CX0 3 "how_many_rests" ["ones", "others", "hands"] (spManyR K)) :
    FnG P w K mg base CX0 13 f fd ["script"] (spLaw K T1 T T2 T3 T4 T5) := by
  refine D.ok0 (k := 12) sc_law (fun vs H Q E h => ?_) (fun A outer s H vs Q E g hr h => ?_)
  · obtain ⟨a, ns, rfl, _⟩ := h
    rfl
  obtain ⟨a, ns, rfl, t1, tT, t2, t3, t4, t5, ha, q⟩ := h
  refine ⟨_,
      (pss_cons (ps_set (i := 1) sc_law.nd rfl (.inr rfl) (pe_g c_law_bowl g (hr.mono (by decide)) pass0 (pa_cons (pv 0) pa_nil)))
      (pss_cons (ps_if (pt_not (pt_val (pe_g c_law_line_right g (hr.mono (by decide)) pass0 (pa_cons (pv 1) pa_nil)))) (
        (pss_one (ps_ret pe_bl))) pss_nil)
      (pss_cons (ps_for PassesOwn.never rfl (pi_range1 rfl B.n_range (pa_cons pe_int pa_nil)) (pg_name (i := 2) sc_law.nd rfl (.inl rfl)) (
        (pss_cons (ps_asg (pe_lc (own := [("turn", 6)]) (tt := tYes) (g := (gName 6)) rfl sc_law.nd (pi_range1 rfl B.n_range (pa_cons pe_int pa_nil)) (blkOk_by (N := N_law) (sc := defScope st_law) (by decide +kernel)) (fun _ _ _ _ _ => (pg_name (i := 6) sc_law.nd rfl (.inl rfl))) (fun _ _ _ _ _ => pts_nil) (fun _ _ _ _ _ => pe_to (pe_op op_add pe_int (pe_g c_law_dip g (hr.mono (by decide)) pass0 (pa_cons (pv 1) (pa_cons (pe_ix ix_list (pe_lst (pa_cons pe_int (pa_cons pe_int (pa_cons pe_int pa_nil)))) (pe_g c_law_dip g (hr.mono (by decide)) pass0 (pa_cons (pv 1) (pa_cons pe_int pa_nil))) (fun _ _ => rfl)) pa_nil)))))) (pg_unl rfl (pgs_cons (pg_name (i := 3) sc_law.nd rfl (.inl rfl)) (pgs_cons (pg_name (i := 4) sc_law.nd rfl (.inl rfl)) (pgs_cons (pg_name (i := 5) sc_law.nd rfl (.inl rfl)) pgs_nil)))))
        (pss_cons (ps_set (i := 7) sc_law.nd rfl (.inl rfl) (pe_lst (pa_cons (pe_g c_how_many_rests g (hr.mono (by decide)) pass0 (pa_cons (pv 3) (pa_cons (pv 4) (pa_cons (pv 5) pa_nil)))) (pa_cons (pe_g c_how_many_rests g (hr.mono (by decide)) pass0 (pa_cons (pv 4) (pa_cons (pv 5) (pa_cons (pv 3) pa_nil)))) (pa_cons (pe_g c_how_many_rests g (hr.mono (by decide)) pass0 (pa_cons (pv 5) (pa_cons (pv 3) (pa_cons (pv 4) pa_nil)))) (pa_cons (pe_g c_how_many_rests g (hr.mono (by decide)) pass0 (pa_cons (pv 5) (pa_cons (pv 4) (pa_cons (pv 3) pa_nil)))) pa_nil))))))
        (pss_one (ps_if (PW.pt (pw_or (pt_cmpR (op_neD hr.units) (pv 7) (pe_op op_rep (pe_lst (pa_cons (pe_ix ix_list (pv 7) pe_int (fun _ _ => rfl)) pa_nil)) pe_int) (nomark _)) (pw_or1 (pt_cmpR (op_lt) (pe_g c_how_many_rests g (hr.mono (by decide)) pass0 (pa_cons (pv 3) (pa_cons (pv 4) (pa_cons (pv 5) pa_nil)))) (pe_g c_how_many_rests g (hr.mono (by decide)) pass0 (pa_cons (pv 3) (pa_cons (pe_op op_sub (pv 4) pe_int) (pa_cons (pv 5) pa_nil)))) (nomark _))))) (
          (pss_one (ps_ret pe_bl))) pss_nil))))))
      (pss_one (ps_ret pe_bl))))), ?_⟩
  have npot : ∀ {H' : Hp} {p D : Addr} {c : Int}, Fresh H' D → Pot H' p c → D ≠ p := fun f h => by
    obtain ⟨x, y, z, e, _⟩ := h
    exact (f.ne e (fun ps z => by cases z)).symm
  refine ⟨.ref a, rfl, a, ns, rfl, ha, fun p H1 fp g1 pot1 => ?_⟩
  refine ⟨.ref p, rfl, p, 0, rfl, g1.tabs _ t1, g1.tabs _ tT, g1.tabs _ t2, g1.tabs _ t3, g1.tabs _ t4, g1.tabs _ t5, pot1, by decide, fun H2 g2 pot2 => ?_⟩
  refine ⟨true, rfl, iteF ?_⟩
  have gr2 : Grow [] H H2 := ((g1.any (ex := [p])).trans g2).drop fp
  refine ⟨2, rfl, by decide, by decide, ?_⟩
  refine for_it walk_range (fun i σ H' => ∃ x2 x3 x4 x5 x6 x7 : Option V, σ = [some (.ref a), some (.ref p), x2, x3, x4, x5, x6, x7] ∧ Grow [] H H' ∧ Pot H' p (3000 + 6 * (i : Nat))) ⟨none, none, none, none, none, none, rfl, gr2, pot2.mono (by omega)⟩
    (fun _ _ _ _ _ => trivial) (fun i x σ H3 H4 hi hp2 hy => ?_) (fun σ H3 hp2 => ?_)
  · obtain ⟨x2, x3, x4, x5, x6, x7, rfl, gr, pot⟩ := hp2
    obtain ⟨rfl, rfl⟩ := hy
    have hi : i < 2 := hi
    refine ⟨3, rfl, by decide, by decide, fun D1 n1 => ?_⟩
    have D1p := npot (fresh_none n1) pot
    refine lc_it walk_range (fun j H' => ∃ ns : List Nat, Grow [p] H4 H' ∧ H' D1 = some (.lst (intsN ns)) ∧ ns.length = j ∧ (∀ n ∈ ns, 1 ≤ n ∧ n ≤ 40) ∧ Pot H' p (3000 + 6 * (i : Nat) + 2 * (j : Nat)))
      ⟨[], grow_new n1, upd_same, rfl, fun x h => (by cases h), (pot.new n1).mono (by omega)⟩ (fun _ _ _ _ => trivial) (fun j x H5 H6 hj hp5 hy => ?_) (fun H5 hp5 => ?_)
    · obtain ⟨ns, gj, eD, ln, hns, potj⟩ := hp5
      obtain ⟨rfl, rfl⟩ := hy
      have hj : j < 3 := hj
      refine ⟨rfl, yes_if ⟨.ref p, rfl, by show 3 ≤ sizeLine; decide, fun M nM => ?_⟩⟩
      have Mp := npot (fresh_none nM) potj
      refine ⟨.ref p, rfl, p, 3, _, rfl, by decide, by decide, by omega, potj.new nM, fun v H7 v0 v1 g7 pot7 => ?_⟩
      have eM := g7.lst (by simpa using Mp) (upd_same (H := H6) (a := M) (o := .lst [.int 6, .int 20, .int 40]))
      obtain ⟨n, hn, n0, n40⟩ : ∃ n : Int, atI [V.int 6, V.int 20, V.int 40] v = some (.int n) ∧ 1 ≤ n ∧ n ≤ 40 := by
        obtain h | h | h : v = 0 ∨ v = 1 ∨ v = 2 := by omega
        · subst h; exact ⟨6, rfl, by decide, by decide⟩
        · subst h; exact ⟨20, rfl, by decide, by decide⟩
        · subst h; exact ⟨40, rfl, by decide, by decide⟩
      have g67 : Grow [p] H6 H7 := ((grow_new nM).any).trans g7
      refine ⟨M, _, _, _, rfl, rfl, .inl (.inl eM), hn, p, n, _, rfl, n0, by omega, by omega, pot7, fun u H8 u0 u1 g8 pot8 => ⟨_, _, rfl, rfl, ?_⟩⟩
      have g68 := g67.trans g8
      have eD8 := g68.lst (by simpa using D1p) eD
      refine ⟨_, eD8, by rw [intsN_len, ln]; unfold sizeLine; omega, ns ++ [(1 + u).toNat], (gj.trans g68).put (fresh_none n1) eD8 (fun ps z => by cases z), ?_, ?_, ?_, ?_⟩
      · rw [upd_same]
        unfold intsN
        rw [List.map_append]
        show some (HO.lst (_ ++ [V.int (1 + u)])) = some (HO.lst (_ ++ [V.int (((1 + u).toNat : Nat) : Int)]))
        rw [Int.toNat_of_nonneg (by omega)]
      · rw [List.length_append, ln]
        rfl
      · intro m hm
        rcases List.mem_append.mp hm with h | h
        · exact hns m h
        · rw [List.mem_singleton.mp h]
          omega
      · exact (pot8.at D1p.symm).mono (by omega)
    · obtain ⟨ns, g5, eD, ln, hns, pot5⟩ := hp5
      have ln : ns.length = 3 := ln
      have gr5 : Grow [] H H5 := ((gr.any (ex := [p])).trans g5).drop fp
      match ns, ln with
      | [a1, b1, c1], _ =>
        obtain ⟨a0, a40⟩ := hns a1 (by simp)
        obtain ⟨b0, b40⟩ := hns b1 (by simp)
        obtain ⟨c0, c40⟩ := hns c1 (by simp)
        refine ⟨D1, _, rfl, .inl (.inl eD), rfl, _, _, rfl, _, _, rfl, _, _, rfl, rfl, ?_⟩
        refine ⟨.int (a1 : Nat), rfl, .int (b1 : Nat), rfl, .int (c1 : Nat), rfl, a1, b1, c1, rfl, a40, b40, c0, c40, ?_⟩
        refine ⟨.int (b1 : Nat), rfl, .int (c1 : Nat), rfl, .int (a1 : Nat), rfl, b1, c1, a1, rfl, b40, c40, a0, a40, ?_⟩
        refine ⟨.int (c1 : Nat), rfl, .int (a1 : Nat), rfl, .int (b1 : Nat), rfl, c1, a1, b1, rfl, c40, a40, b0, b40, ?_⟩
        refine ⟨.int (c1 : Nat), rfl, .int (b1 : Nat), rfl, .int (a1 : Nat), rfl, c1, b1, a1, rfl, c40, b40, a0, a40, ?_⟩
        refine ⟨by show 4 ≤ sizeLine; decide, fun Cn nC => ?_⟩
        rw [show boxM b1 c1 a1 = boxM a1 b1 c1 from (boxM_rot a1 b1 c1).symm, show boxM c1 a1 b1 = boxM a1 b1 c1 from boxM_rot c1 a1 b1, show boxM c1 b1 a1 = boxM a1 b1 c1 from (boxM_swap c1 b1 a1).trans (boxM_rot a1 b1 c1).symm]
        have hup : boxM a1 (b1 - 1) c1 ≤ boxM a1 b1 c1 := by
          rw [boxM_swap a1 (b1 - 1) c1, boxM_swap a1 b1 c1]
          have := boxM_up (b1 - 1) a1 c1
          rwa [show b1 - 1 + 1 = b1 by omega] at this
        obtain ⟨N, hN⟩ : ∃ N, boxM a1 b1 c1 = N := ⟨_, rfl⟩
        rw [hN] at hup ⊢
        have gC := grow_new (ex := []) (o := .lst [.int (N : Nat), .int (N : Nat), .int (N : Nat), .int (N : Nat)]) nC
        have eC : upd H5 Cn (.lst [.int (N : Nat), .int (N : Nat), .int (N : Nat), .int (N : Nat)]) Cn = some (.lst [.int (N : Nat), .int (N : Nat), .int (N : Nat), .int (N : Nat)]) := upd_same
        have pot6 := pot5.new (o := .lst [.int (N : Nat), .int (N : Nat), .int (N : Nat), .int (N : Nat)]) nC
        have gr6 := gr5.trans gC
        generalize upd H5 Cn (HO.lst [V.int (N : Nat), V.int (N : Nat), V.int (N : Nat), V.int (N : Nat)]) = H6 at eC pot6 gr6 ⊢
        refine ⟨.ref Cn, rfl, .ref Cn, rfl, Cn, _, 0, .int (N : Nat), rfl, rfl, .inl (.inl eC), rfl, by show 1 ≤ sizeLine; decide, fun Z nZ => ?_⟩
        refine ⟨Z, 4, _, rfl, rfl, upd_same, by decide, by decide, by show 4 ≤ sizeLine; decide, fun Y nY => ?_⟩
        have eY : upd (upd H6 Z (.lst [.int (N : Nat)])) Y (.lst (List.replicate ((4 : Int).toNat) [V.int (N : Nat)]).flatten) Y = some (.lst [.int (N : Nat), .int (N : Nat), .int (N : Nat), .int (N : Nat)]) := upd_same
        have gY := (grow_new (ex := []) (o := .lst [.int (N : Nat)]) nZ).new (o := .lst (List.replicate ((4 : Int).toNat) [V.int (N : Nat)]).flatten) nY
        refine ⟨_, _, dp_ints4 (gY.lst (by simp) eC), dp_ints4 eY, four_shaped _ _ _ _, four_shaped _ _ _ _, ?_⟩
        rw [PySem.SeqAt.eqv_refl _ (four_lay _ _ _ _)]
        refine ⟨false, rfl, iteF ?_⟩
        refine ⟨.int (a1 : Nat), rfl, .int (b1 : Nat), rfl, .int (c1 : Nat), rfl, a1, b1, c1, rfl, a40, b40, c0, c40, ?_⟩
        rw [hN]
        refine ⟨.int (a1 : Nat), rfl, .int (b1 : Nat), rfl, _, _, rfl, rfl, .int (c1 : Nat), rfl, a1, b1 - 1, c1, ?_, a40, by omega, c0, c40, ?_⟩
        · show [V.int (a1 : Nat), V.int ((b1 : Int) - 1), V.int (c1 : Nat)] = [V.int (a1 : Nat), V.int ((b1 - 1 : Nat) : Int), V.int (c1 : Nat)]
          rw [show (b1 : Int) - 1 = ((b1 - 1 : Nat) : Int) by omega]
        · refine ⟨_, _, rfl, rfl, _, rfl, ite2 (fun z => absurd (of_decide_eq_true z) (by omega)) fun _ => ?_⟩
          refine ⟨_, _, _, _, _, _, rfl, gr6.trans gY, (pot6.grow0 gY).mono ?_⟩
          show 3000 + 6 * (i : Int) + 2 * ((3 : Nat) : Int) ≤ 3000 + 6 * ((i + 1 : Nat) : Int)
          omega
  · obtain ⟨x2, x3, x4, x5, x6, x7, rfl, gr, pot⟩ := hp2
    exact q H3 gr
end
theorem law_start {K : PySem.W.Frag} {H : Hp} {a : Addr} {ns : List Int} {c1 c2 c3 c4 c5 c6 : Addr × Addr} (t : ∀ p ∈ [c1, c2, c3, c4, c5, c6], TabG H p.2) (_ : ns.length ≤ 63) (_ : ∀ z ∈ ns, Builtin.Int.intBits z ≤ 1048576) (h : SqL K H a (ns.map V.int)) :
    spLaw K c1.2 c2.2 c6.2 c5.2 c4.2 c3.2 [.ref a] H (fun v _ => v = .bl true) E0 := ⟨a, ns, rfl, t _ (by simp), t _ (by simp), t _ (by simp), t _ (by simp), t _ (by simp), t _ (by simp), h, fun _ _ => rfl⟩

end Lw
namespace Lw
open PySem PySem.Spec PyProof.Rows L2 GxR Gx
/-! ### the head -/
def d_is_name : He.DefD := ⟨("is_name", none), "is_name", "is_name", defArgs st_is_name, defBody st_is_name, defScope st_is_name, [], []⟩
def d_are_unlike_names : He.DefD := ⟨("are_unlike_names", none), "are_unlike_names", "are_unlike_names", defArgs st_are_unlike_names, defBody st_are_unlike_names, defScope st_are_unlike_names, [], []⟩
def d_is_book : He.DefD := ⟨("is_book", none), "is_book", "is_book", defArgs st_is_book, defBody st_is_book, defScope st_is_book, [], []⟩
def d_is_whole : He.DefD := ⟨("is_whole", none), "is_whole", "is_whole", defArgs st_is_whole, defBody st_is_whole, defScope st_is_whole, [], []⟩
def d_is_spot : He.DefD := ⟨("is_spot", none), "is_spot", "is_spot", defArgs st_is_spot, defBody st_is_spot, defScope st_is_spot, [], []⟩
def d_places_of : He.DefD := ⟨("places_of", none), "places_of", "places_of", defArgs st_places_of, defBody st_places_of, defScope st_places_of, [], []⟩
def d_heap_of : He.DefD := ⟨("heap_of", none), "heap_of", "heap_of", defArgs st_heap_of, defBody st_heap_of, defScope st_heap_of, [], []⟩
def d_rest_of : He.DefD := ⟨("rest_of", none), "rest_of", "rest_of", defArgs st_rest_of, defBody st_rest_of, defScope st_rest_of, [], []⟩
def d_how_many_rests : He.DefD := ⟨("how_many_rests", none), "how_many_rests", "how_many_rests", defArgs st_how_many_rests, defBody st_how_many_rests, defScope st_how_many_rests, [], []⟩
def d_check_sorts : He.DefD := ⟨("check_sorts", none), "check_sorts", "check_sorts", defArgs st_check_sorts, defBody st_check_sorts, defScope st_check_sorts, [], []⟩
def d_check_hands : He.DefD := ⟨("check_hands", none), "check_hands", "check_hands", defArgs st_check_hands, defBody st_check_hands, defScope st_check_hands, [], []⟩
def d_is_rest : He.DefD := ⟨("is_rest", none), "is_rest", "is_rest", defArgs st_is_rest, defBody st_is_rest, defScope st_is_rest, [], []⟩
def d_is_mixed : He.DefD := ⟨("is_mixed", none), "is_mixed", "is_mixed", defArgs st_is_mixed, defBody st_is_mixed, defScope st_is_mixed, [], []⟩
def d_counts_in : He.DefD := ⟨("counts_in", none), "counts_in", "counts_in", defArgs st_counts_in, defBody st_counts_in, defScope st_counts_in, [], []⟩
def d_are_steps : He.DefD := ⟨("are_steps", none), "are_steps", "are_steps", defArgs st_are_steps, defBody st_are_steps, defScope st_are_steps, [], []⟩
def d_rows_above : He.DefD := ⟨("rows_above", none), "rows_above", "rows_above", defArgs st_rows_above, defBody st_rows_above, defScope st_rows_above, [], []⟩
def d_is_heap : He.DefD := ⟨("is_heap", none), "is_heap", "is_heap", defArgs st_is_heap, defBody st_is_heap, defScope st_is_heap, [], []⟩
def d_is_heap_row : He.DefD := ⟨("is_heap_row", none), "is_heap_row", "is_heap_row", defArgs st_is_heap_row, defBody st_is_heap_row, defScope st_is_heap_row, [], []⟩
def d_counts_by : He.DefD := ⟨("counts_by", none), "counts_by", "counts_by", defArgs st_counts_by, defBody st_counts_by, defScope st_counts_by, [], []⟩
def d_book_by : He.DefD := ⟨("book_by", none), "book_by", "book_by", defArgs st_book_by, defBody st_book_by, defScope st_book_by, [], []⟩
def d_law_bowl : He.DefD := ⟨("_law_bowl", none), "_law_bowl", "_law_bowl", defArgs st_law_bowl, defBody st_law_bowl, defScope st_law_bowl, [], []⟩
def d_law_dip : He.DefD := ⟨("_law_dip", none), "_law_dip", "_law_dip", defArgs st_law_dip, defBody st_law_dip, defScope st_law_dip, [], []⟩
def d_law_names : He.DefD := ⟨("_law_names", none), "_law_names", "_law_names", defArgs st_law_names, defBody st_law_names, defScope st_law_names, [], []⟩
def d_law_sorts : He.DefD := ⟨("_law_sorts", none), "_law_sorts", "_law_sorts", defArgs st_law_sorts, defBody st_law_sorts, defScope st_law_sorts, [], []⟩
def d_law_heap : He.DefD := ⟨("_law_heap", none), "_law_heap", "_law_heap", defArgs st_law_heap, defBody st_law_heap, defScope st_law_heap, [], []⟩
def d_law_backwards : He.DefD := ⟨("_law_backwards", none), "_law_backwards", "_law_backwards", defArgs st_law_backwards, defBody st_law_backwards, defScope st_law_backwards, [], []⟩
def d_law_line_right : He.DefD := ⟨("_law_line_right", none), "_law_line_right", "_law_line_right", defArgs st_law_line_right, defBody st_law_line_right, defScope st_law_line_right, [], []⟩
def d_law : He.DefD := ⟨("law", none), "law", "law", defArgs st_law, defBody st_law, defScope st_law, [], []⟩
def hdDefs : List He.DefD := [d_is_name, d_are_unlike_names, d_is_book, d_is_whole, d_is_spot, d_places_of, d_heap_of, d_rest_of, d_how_many_rests, d_check_sorts, d_check_hands, d_is_rest, d_is_mixed, d_counts_in, d_are_steps, d_rows_above, d_is_heap, d_is_heap_row, d_counts_by, d_book_by, d_law_bowl, d_law_dip, d_law_names, d_law_sorts, d_law_heap, d_law_backwards, d_law_line_right, d_law]
def hdFacts : List He.Fa := [.glo "is_name", .glo "are_unlike_names", .glo "is_book", .glo "is_whole", .glo "is_spot", .glo "places_of", .glo "heap_of", .glo "rest_of", .glo "how_many_rests", .glo "check_sorts", .glo "check_hands", .glo "is_rest", .glo "is_mixed", .glo "counts_in", .glo "are_steps", .glo "rows_above", .glo "is_heap", .glo "is_heap_row", .glo "counts_by", .glo "book_by", .glo "_law_bowl", .glo "_law_dip", .glo "_law_names", .glo "_law_sorts", .glo "_law_heap", .glo "_law_backwards", .glo "_law_line_right", .glo "law", .free "abs", .free "all", .free "enumerate", .free "int", .free "len", .free "list", .free "max", .free "range", .free "set", .free "str", .free "type", .free "zip", .int "MOST_LETTERS" 8, .int "MOST_WORDS" 100]
def hdTabs : List He.Defn := [("is_name", none), ("are_unlike_names", none), ("is_rest", none), ("is_mixed", none), ("is_heap", none), ("is_heap_row", none)]
def hdLoose : List Str := (["ApartError", "NoBook", "NoNumber", "TooMany", "Common", "NoLine", "NoHeap", "MOST_LETTERS", "MOST_WORDS", "is_name", "are_unlike_names", "is_book", "is_whole", "is_spot", "places_of", "heap_of", "rest_of", "how_many_rests", "check_sorts", "check_hands"] : List Str) ++ (["is_rest", "is_mixed", "counts_in", "are_steps", "rows_above", "is_heap", "is_heap_row", "counts_by", "book_by", "_law_bowl", "_law_dip", "_law_names", "_law_sorts", "_law_heap", "_law_backwards", "_law_line_right"] : List Str)
abbrev hdRow : PySem.W.OpenRow := PySem.W.OpenLaw.row PySem.Challenge.rw_heardapart_k58_whole_heaps_turned
abbrev hdView : Program := PySem.W.view hdRow.prog [41]
abbrev hdTop : DefRec := HandSHeadRun.topDef hdRow.prog 41
abbrev hdHook : PySem.W.Hook := He.hookX 4 hdFacts hdDefs [] hdTabs fun _ => true
def hdOb (s : PySem.W.SharedT) : He.AlX := He.obsX 4 hdFacts hdDefs [] hdTabs (fun _ => true) (HandSHeadRun.getT s)
theorem hdOb_eq (s : PySem.W.SharedT) : hdOb s = hdHook.obs s.abs := He.obsX_eq (HandSHeadRun.getT_eq s)
theorem hdRun (w : World) : HandSHeadRun.RunEq hdRow hdView hdHook hdOb 4000 hdLoose w := by
  intro os
  kernel_rfl
theorem triples_none : TriplesOk (#[] : Array Value).toList := trivial
/-- the law's promise, from the head's word -/
theorem hd_all {w : World} {K : PySem.W.Frag} {h : Heap} {mg : Str → Option Value} {f : Addr} (X : K.In h) (G : h.Ns mainGlobals mg) (hfa : mg ("law" : Str) = some (.ref f)) (c : He.SaysX hdFacts hdDefs [] hdTabs (fun _ => true) w h K) :
    LawG PySem.Challenge.rw_heardapart_k58_whole_heaps_turned w K 13 63 "script" mg f h := by
  have glo : ∀ x : Str, He.Fa.glo x ∈ hdFacts → mg x = some (.ref (He.ga K x)) := fun x hx => He.glo_ok X G (c.t.d.facts hx)
  have free : ∀ x : Str, He.Fa.free x ∈ hdFacts → mg x = none := fun x hx => He.free_ok X G (c.t.d.facts hx)
  have e := hfa.symm.trans (glo "law" (by simp [hdFacts]))
  cases e
  obtain ⟨fd_is_name, F_is_name⟩ := c.t.d.def_ 0 (d := d_is_name) rfl
  have D_is_name : DefIs K "is_name" "is_name" st_is_name _ fd_is_name _ := DefIs.of (p := ("is_name", none)) F_is_name
  have b_is_name : Binds K fd_is_name ["thing"] [] := D_is_name.binds fun _ _ _ _ _ us hl => match us, hl with | [_], _ => rfl
  have g_is_name := glo "is_name" (by simp [hdFacts])
  obtain ⟨fd_are_unlike_names, F_are_unlike_names⟩ := c.t.d.def_ 1 (d := d_are_unlike_names) rfl
  have D_are_unlike_names : DefIs K "are_unlike_names" "are_unlike_names" st_are_unlike_names _ fd_are_unlike_names _ := DefIs.of (p := ("are_unlike_names", none)) F_are_unlike_names
  have b_are_unlike_names : Binds K fd_are_unlike_names ["thing"] [] := D_are_unlike_names.binds fun _ _ _ _ _ us hl => match us, hl with | [_], _ => rfl
  have g_are_unlike_names := glo "are_unlike_names" (by simp [hdFacts])
  obtain ⟨fd_is_book, F_is_book⟩ := c.t.d.def_ 2 (d := d_is_book) rfl
  have D_is_book : DefIs K "is_book" "is_book" st_is_book _ fd_is_book _ := DefIs.of (p := ("is_book", none)) F_is_book
  have b_is_book : Binds K fd_is_book ["thing"] [] := D_is_book.binds fun _ _ _ _ _ us hl => match us, hl with | [_], _ => rfl
  have g_is_book := glo "is_book" (by simp [hdFacts])
  obtain ⟨fd_is_whole, F_is_whole⟩ := c.t.d.def_ 3 (d := d_is_whole) rfl
  have D_is_whole : DefIs K "is_whole" "is_whole" st_is_whole _ fd_is_whole _ := DefIs.of (p := ("is_whole", none)) F_is_whole
  have b_is_whole : Binds K fd_is_whole ["thing", "least"] [] := D_is_whole.binds fun _ _ _ _ _ us hl => match us, hl with | [_, _], _ => rfl
  have g_is_whole := glo "is_whole" (by simp [hdFacts])
  obtain ⟨fd_is_spot, F_is_spot⟩ := c.t.d.def_ 4 (d := d_is_spot) rfl
  have D_is_spot : DefIs K "is_spot" "is_spot" st_is_spot _ fd_is_spot _ := DefIs.of (p := ("is_spot", none)) F_is_spot
  have b_is_spot : Binds K fd_is_spot ["thing", "roads"] [] := D_is_spot.binds fun _ _ _ _ _ us hl => match us, hl with | [_, _], _ => rfl
  have g_is_spot := glo "is_spot" (by simp [hdFacts])
  obtain ⟨fd_places_of, F_places_of⟩ := c.t.d.def_ 5 (d := d_places_of) rfl
  have D_places_of : DefIs K "places_of" "places_of" st_places_of _ fd_places_of _ := DefIs.of (p := ("places_of", none)) F_places_of
  have b_places_of : Binds K fd_places_of ["book"] [] := D_places_of.binds fun _ _ _ _ _ us hl => match us, hl with | [_], _ => rfl
  have g_places_of := glo "places_of" (by simp [hdFacts])
  obtain ⟨fd_heap_of, F_heap_of⟩ := c.t.d.def_ 6 (d := d_heap_of) rfl
  have D_heap_of : DefIs K "heap_of" "heap_of" st_heap_of _ fd_heap_of _ := DefIs.of (p := ("heap_of", none)) F_heap_of
  have b_heap_of : Binds K fd_heap_of ["ones", "others", "rest"] [] := D_heap_of.binds fun _ _ _ _ _ us hl => match us, hl with | [_, _, _], _ => rfl
  have g_heap_of := glo "heap_of" (by simp [hdFacts])
  obtain ⟨fd_rest_of, F_rest_of⟩ := c.t.d.def_ 7 (d := d_rest_of) rfl
  have D_rest_of : DefIs K "rest_of" "rest_of" st_rest_of _ fd_rest_of _ := DefIs.of (p := ("rest_of", none)) F_rest_of
  have b_rest_of : Binds K fd_rest_of ["ones", "others", "hands", "heap"] [] := D_rest_of.binds fun _ _ _ _ _ us hl => match us, hl with | [_, _, _, _], _ => rfl
  have g_rest_of := glo "rest_of" (by simp [hdFacts])
  obtain ⟨fd_how_many_rests, F_how_many_rests⟩ := c.t.d.def_ 8 (d := d_how_many_rests) rfl
  have D_how_many_rests : DefIs K "how_many_rests" "how_many_rests" st_how_many_rests _ fd_how_many_rests _ := DefIs.of (p := ("how_many_rests", none)) F_how_many_rests
  have b_how_many_rests : Binds K fd_how_many_rests ["ones", "others", "hands"] [] := D_how_many_rests.binds fun _ _ _ _ _ us hl => match us, hl with | [_, _, _], _ => rfl
  have g_how_many_rests := glo "how_many_rests" (by simp [hdFacts])
  obtain ⟨fd_check_sorts, F_check_sorts⟩ := c.t.d.def_ 9 (d := d_check_sorts) rfl
  have D_check_sorts : DefIs K "check_sorts" "check_sorts" st_check_sorts _ fd_check_sorts _ := DefIs.of (p := ("check_sorts", none)) F_check_sorts
  have b_check_sorts : Binds K fd_check_sorts ["ones", "others"] [] := D_check_sorts.binds fun _ _ _ _ _ us hl => match us, hl with | [_, _], _ => rfl
  have g_check_sorts := glo "check_sorts" (by simp [hdFacts])
  obtain ⟨fd_check_hands, F_check_hands⟩ := c.t.d.def_ 10 (d := d_check_hands) rfl
  have D_check_hands : DefIs K "check_hands" "check_hands" st_check_hands _ fd_check_hands _ := DefIs.of (p := ("check_hands", none)) F_check_hands
  have b_check_hands : Binds K fd_check_hands ["thing"] [] := D_check_hands.binds fun _ _ _ _ _ us hl => match us, hl with | [_], _ => rfl
  have g_check_hands := glo "check_hands" (by simp [hdFacts])
  obtain ⟨fd_is_rest, F_is_rest⟩ := c.t.d.def_ 11 (d := d_is_rest) rfl
  have D_is_rest : DefIs K "is_rest" "is_rest" st_is_rest _ fd_is_rest _ := DefIs.of (p := ("is_rest", none)) F_is_rest
  have b_is_rest : Binds K fd_is_rest ["ones", "others", "thing"] [] := D_is_rest.binds fun _ _ _ _ _ us hl => match us, hl with | [_, _, _], _ => rfl
  have g_is_rest := glo "is_rest" (by simp [hdFacts])
  obtain ⟨fd_is_mixed, F_is_mixed⟩ := c.t.d.def_ 12 (d := d_is_mixed) rfl
  have D_is_mixed : DefIs K "is_mixed" "is_mixed" st_is_mixed _ fd_is_mixed _ := DefIs.of (p := ("is_mixed", none)) F_is_mixed
  have b_is_mixed : Binds K fd_is_mixed ["ones", "others", "thing"] [] := D_is_mixed.binds fun _ _ _ _ _ us hl => match us, hl with | [_, _, _], _ => rfl
  have g_is_mixed := glo "is_mixed" (by simp [hdFacts])
  obtain ⟨fd_counts_in, F_counts_in⟩ := c.t.d.def_ 13 (d := d_counts_in) rfl
  have D_counts_in : DefIs K "counts_in" "counts_in" st_counts_in _ fd_counts_in _ := DefIs.of (p := ("counts_in", none)) F_counts_in
  have b_counts_in : Binds K fd_counts_in ["book", "firsts"] [] := D_counts_in.binds fun _ _ _ _ _ us hl => match us, hl with | [_, _], _ => rfl
  have g_counts_in := glo "counts_in" (by simp [hdFacts])
  obtain ⟨fd_are_steps, F_are_steps⟩ := c.t.d.def_ 14 (d := d_are_steps) rfl
  have D_are_steps : DefIs K "are_steps" "are_steps" st_are_steps _ fd_are_steps _ := DefIs.of (p := ("are_steps", none)) F_are_steps
  have b_are_steps : Binds K fd_are_steps ["row", "later"] [] := D_are_steps.binds fun _ _ _ _ _ us hl => match us, hl with | [_, _], _ => rfl
  have g_are_steps := glo "are_steps" (by simp [hdFacts])
  obtain ⟨fd_rows_above, F_rows_above⟩ := c.t.d.def_ 15 (d := d_rows_above) rfl
  have D_rows_above : DefIs K "rows_above" "rows_above" st_rows_above _ fd_rows_above _ := DefIs.of (p := ("rows_above", none)) F_rows_above
  have b_rows_above : Binds K fd_rows_above ["counts", "k", "j"] [] := D_rows_above.binds fun _ _ _ _ _ us hl => match us, hl with | [_, _, _], _ => rfl
  have g_rows_above := glo "rows_above" (by simp [hdFacts])
  obtain ⟨fd_is_heap, F_is_heap⟩ := c.t.d.def_ 16 (d := d_is_heap) rfl
  have D_is_heap : DefIs K "is_heap" "is_heap" st_is_heap _ fd_is_heap _ := DefIs.of (p := ("is_heap", none)) F_is_heap
  have b_is_heap : Binds K fd_is_heap ["many", "width", "hands", "thing"] [] := D_is_heap.binds fun _ _ _ _ _ us hl => match us, hl with | [_, _, _, _], _ => rfl
  have g_is_heap := glo "is_heap" (by simp [hdFacts])
  obtain ⟨fd_is_heap_row, F_is_heap_row⟩ := c.t.d.def_ 17 (d := d_is_heap_row) rfl
  have D_is_heap_row : DefIs K "is_heap_row" "is_heap_row" st_is_heap_row _ fd_is_heap_row _ := DefIs.of (p := ("is_heap_row", none)) F_is_heap_row
  have b_is_heap_row : Binds K fd_is_heap_row ["width", "hands", "thing"] [] := D_is_heap_row.binds fun _ _ _ _ _ us hl => match us, hl with | [_, _, _], _ => rfl
  have g_is_heap_row := glo "is_heap_row" (by simp [hdFacts])
  obtain ⟨fd_counts_by, F_counts_by⟩ := c.t.d.def_ 18 (d := d_counts_by) rfl
  have D_counts_by : DefIs K "counts_by" "counts_by" st_counts_by _ fd_counts_by _ := DefIs.of (p := ("counts_by", none)) F_counts_by
  have b_counts_by : Binds K fd_counts_by ["heap", "least"] [] := D_counts_by.binds fun _ _ _ _ _ us hl => match us, hl with | [_, _], _ => rfl
  have g_counts_by := glo "counts_by" (by simp [hdFacts])
  obtain ⟨fd_book_by, F_book_by⟩ := c.t.d.def_ 19 (d := d_book_by) rfl
  have D_book_by : DefIs K "book_by" "book_by" st_book_by _ fd_book_by _ := DefIs.of (p := ("book_by", none)) F_book_by
  have b_book_by : Binds K fd_book_by ["ones", "others", "counts"] [] := D_book_by.binds fun _ _ _ _ _ us hl => match us, hl with | [_, _, _], _ => rfl
  have g_book_by := glo "book_by" (by simp [hdFacts])
  obtain ⟨fd_law_bowl, F_law_bowl⟩ := c.t.d.def_ 20 (d := d_law_bowl) rfl
  have D_law_bowl : DefIs K "_law_bowl" "_law_bowl" st_law_bowl _ fd_law_bowl _ := DefIs.of (p := ("_law_bowl", none)) F_law_bowl
  have b_law_bowl : Binds K fd_law_bowl ["script"] [] := D_law_bowl.binds fun _ _ _ _ _ us hl => match us, hl with | [_], _ => rfl
  have g_law_bowl := glo "_law_bowl" (by simp [hdFacts])
  obtain ⟨fd_law_dip, F_law_dip⟩ := c.t.d.def_ 21 (d := d_law_dip) rfl
  have D_law_dip : DefIs K "_law_dip" "_law_dip" st_law_dip _ fd_law_dip _ := DefIs.of (p := ("_law_dip", none)) F_law_dip
  have b_law_dip : Binds K fd_law_dip ["bowl", "many"] [] := D_law_dip.binds fun _ _ _ _ _ us hl => match us, hl with | [_, _], _ => rfl
  have g_law_dip := glo "_law_dip" (by simp [hdFacts])
  obtain ⟨fd_law_names, F_law_names⟩ := c.t.d.def_ 22 (d := d_law_names) rfl
  have D_law_names : DefIs K "_law_names" "_law_names" st_law_names _ fd_law_names _ := DefIs.of (p := ("_law_names", none)) F_law_names
  have b_law_names : Binds K fd_law_names ["bowl", "many"] [] := D_law_names.binds fun _ _ _ _ _ us hl => match us, hl with | [_, _], _ => rfl
  have g_law_names := glo "_law_names" (by simp [hdFacts])
  obtain ⟨fd_law_sorts, F_law_sorts⟩ := c.t.d.def_ 23 (d := d_law_sorts) rfl
  have D_law_sorts : DefIs K "_law_sorts" "_law_sorts" st_law_sorts _ fd_law_sorts _ := DefIs.of (p := ("_law_sorts", none)) F_law_sorts
  have b_law_sorts : Binds K fd_law_sorts ["bowl", "most"] [] := D_law_sorts.binds fun _ _ _ _ _ us hl => match us, hl with | [_, _], _ => rfl
  have g_law_sorts := glo "_law_sorts" (by simp [hdFacts])
  obtain ⟨fd_law_heap, F_law_heap⟩ := c.t.d.def_ 24 (d := d_law_heap) rfl
  have D_law_heap : DefIs K "_law_heap" "_law_heap" st_law_heap _ fd_law_heap _ := DefIs.of (p := ("_law_heap", none)) F_law_heap
  have b_law_heap : Binds K fd_law_heap ["bowl", "many", "wide", "hands"] [] := D_law_heap.binds fun _ _ _ _ _ us hl => match us, hl with | [_, _, _, _], _ => rfl
  have g_law_heap := glo "_law_heap" (by simp [hdFacts])
  obtain ⟨fd_law_backwards, F_law_backwards⟩ := c.t.d.def_ 25 (d := d_law_backwards) rfl
  have D_law_backwards : DefIs K "_law_backwards" "_law_backwards" st_law_backwards _ fd_law_backwards _ := DefIs.of (p := ("_law_backwards", none)) F_law_backwards
  have b_law_backwards : Binds K fd_law_backwards ["heap", "many", "wide", "hands"] [] := D_law_backwards.binds fun _ _ _ _ _ us hl => match us, hl with | [_, _, _, _], _ => rfl
  have g_law_backwards := glo "_law_backwards" (by simp [hdFacts])
  obtain ⟨fd_law_line_right, F_law_line_right⟩ := c.t.d.def_ 26 (d := d_law_line_right) rfl
  have D_law_line_right : DefIs K "_law_line_right" "_law_line_right" st_law_line_right _ fd_law_line_right _ := DefIs.of (p := ("_law_line_right", none)) F_law_line_right
  have b_law_line_right : Binds K fd_law_line_right ["bowl"] [] := D_law_line_right.binds fun _ _ _ _ _ us hl => match us, hl with | [_], _ => rfl
  have g_law_line_right := glo "_law_line_right" (by simp [hdFacts])
  obtain ⟨fd_law, F_law⟩ := c.t.d.def_ 27 (d := d_law) rfl
  have D_law : DefIs K "law" "law" st_law _ fd_law _ := DefIs.of (p := ("law", none)) F_law
  have b_law : Binds K fd_law ["script"] [] := D_law.binds fun _ _ _ _ _ us hl => match us, hl with | [_], _ => rfl
  have g_law := glo "law" (by simp [hdFacts])
  have B : Nb mg := ⟨free "abs" (by simp [hdFacts]), free "all" (by simp [hdFacts]), free "enumerate" (by simp [hdFacts]), free "int" (by simp [hdFacts]), free "len" (by simp [hdFacts]), free "list" (by simp [hdFacts]), free "max" (by simp [hdFacts]), free "range" (by simp [hdFacts]), free "set" (by simp [hdFacts]), free "str" (by simp [hdFacts]), free "type" (by simp [hdFacts]), free "zip" (by simp [hdFacts])⟩
  obtain ⟨tk_MOST_LETTERS, k_MOST_LETTERS⟩ := He.int_ok X G (c.t.d.facts (f := .int "MOST_LETTERS" 8) (by simp [hdFacts]))
  obtain ⟨tk_MOST_WORDS, k_MOST_WORDS⟩ := He.int_ok X G (c.t.d.facts (f := .int "MOST_WORDS" 100) (by simp [hdFacts]))
  refine ⟨fd_law, [He.cT K ("is_name", none), He.cT K ("are_unlike_names", none), He.cT K ("is_rest", none), He.cT K ("is_mixed", none), He.cT K ("is_heap", none), He.cT K ("is_heap_row", none)], (spLaw K (He.cT K ("is_name", none)).2 (He.cT K ("are_unlike_names", none)).2 (He.cT K ("is_heap_row", none)).2 (He.cT K ("is_heap", none)).2 (He.cT K ("is_mixed", none)).2 (He.cT K ("is_rest", none)).2), fun p hp => ?_, fun s u => ?_, fun H a ns hl hbits hT hS => law_start (fun p hp => ⟨#[], hT p hp, triples_none⟩) hl hbits hS, fun base KX GX TB => ?_⟩
  · obtain ⟨q, hq, rfl⟩ := List.mem_map.mp (show p ∈ hdTabs.map (He.cT K) from hp)
    exact ⟨c.empty q hq, c.out q hq, PySem.W.codeHd_of_K X (c.hd q hq)⟩
  · exact FunD.bindsA (ps := ["script"]) F_law (fun _ _ _ _ _ _ us hl => match us, hl with | [_], _ => rfl) s [u] rfl
  · have X_is_name := TB _ List.mem_cons_self
    have X_are_unlike_names := TB _ (List.mem_cons_of_mem _ List.mem_cons_self)
    have X_is_rest := TB _ (List.mem_cons_of_mem _ (List.mem_cons_of_mem _ List.mem_cons_self))
    have X_is_mixed := TB _ (List.mem_cons_of_mem _ (List.mem_cons_of_mem _ (List.mem_cons_of_mem _ List.mem_cons_self)))
    have X_is_heap := TB _ (List.mem_cons_of_mem _ (List.mem_cons_of_mem _ (List.mem_cons_of_mem _ (List.mem_cons_of_mem _ List.mem_cons_self))))
    have X_is_heap_row := TB _ (List.mem_cons_of_mem _ (List.mem_cons_of_mem _ (List.mem_cons_of_mem _ (List.mem_cons_of_mem _ (List.mem_cons_of_mem _ List.mem_cons_self)))))
    have c_is_name : Callee PySem.Challenge.rw_heardapart_k58_whole_heaps_turned.prog w K mg base CX0 4 "is_name" ["thing"] (spIsName K (He.cT K ("is_name", none)).2) := ⟨_, fd_is_name, ok_is_name B D_is_name X_is_name k_MOST_LETTERS, g_is_name, F_is_name.kp, b_is_name⟩
    have c_are_unlike_names : Callee PySem.Challenge.rw_heardapart_k58_whole_heaps_turned.prog w K mg base CX0 8 "are_unlike_names" ["thing"] (spUnlike K (He.cT K ("is_name", none)).2 (He.cT K ("are_unlike_names", none)).2) := ⟨_, fd_are_unlike_names, ok_are_unlike_names B D_are_unlike_names X_are_unlike_names c_is_name, g_are_unlike_names, F_are_unlike_names.kp, b_are_unlike_names⟩
    have c_is_book : Callee PySem.Challenge.rw_heardapart_k58_whole_heaps_turned.prog w K mg base CX0 9 "is_book" ["thing"] (spUnlike K (He.cT K ("is_name", none)).2 (He.cT K ("are_unlike_names", none)).2) := ⟨_, fd_is_book, ok_is_book D_is_book c_are_unlike_names, g_is_book, F_is_book.kp, b_is_book⟩
    have c_places_of : Callee PySem.Challenge.rw_heardapart_k58_whole_heaps_turned.prog w K mg base CX0 4 "places_of" ["book"] (spPlaces K) := ⟨_, fd_places_of, ok_places_of B D_places_of, g_places_of, F_places_of.kp, b_places_of⟩
    have c_is_whole : Callee PySem.Challenge.rw_heardapart_k58_whole_heaps_turned.prog w K mg base CX0 1 "is_whole" ["thing", "least"] (spWhole K) := ⟨_, fd_is_whole, ok_is_whole B D_is_whole, g_is_whole, F_is_whole.kp, b_is_whole⟩
    have c_is_spot : Callee PySem.Challenge.rw_heardapart_k58_whole_heaps_turned.prog w K mg base CX0 2 "is_spot" ["thing", "roads"] (spSpot K) := ⟨_, fd_is_spot, ok_is_spot B D_is_spot c_is_whole, g_is_spot, F_is_spot.kp, b_is_spot⟩
    have c_check_sorts : Callee PySem.Challenge.rw_heardapart_k58_whole_heaps_turned.prog w K mg base CX0 10 "check_sorts" ["ones", "others"] (spSorts K (He.cT K ("is_name", none)).2 (He.cT K ("are_unlike_names", none)).2) := ⟨_, fd_check_sorts, ok_check_sorts B D_check_sorts c_is_book, g_check_sorts, F_check_sorts.kp, b_check_sorts⟩
    have c_check_hands : Callee PySem.Challenge.rw_heardapart_k58_whole_heaps_turned.prog w K mg base CX0 2 "check_hands" ["thing"] (spHandsNo K) := ⟨_, fd_check_hands, ok_check_hands B D_check_hands c_is_whole, g_check_hands, F_check_hands.kp, b_check_hands⟩
    have c_are_steps : Callee PySem.Challenge.rw_heardapart_k58_whole_heaps_turned.prog w K mg base CX0 3 "are_steps" ["row", "later"] (spSteps K) := ⟨_, fd_are_steps, ok_are_steps B D_are_steps, g_are_steps, F_are_steps.kp, b_are_steps⟩
    have c_counts_by : Callee PySem.Challenge.rw_heardapart_k58_whole_heaps_turned.prog w K mg base CX0 3 "counts_by" ["heap", "least"] (spCountsBy K) := ⟨_, fd_counts_by, ok_counts_by B D_counts_by, g_counts_by, F_counts_by.kp, b_counts_by⟩
    have c_rows_above : Callee PySem.Challenge.rw_heardapart_k58_whole_heaps_turned.prog w K mg base CX0 3 "rows_above" ["counts", "k", "j"] (spRowsAbove K) := ⟨_, fd_rows_above, ok_rows_above B D_rows_above, g_rows_above, F_rows_above.kp, b_rows_above⟩
    have c_counts_in : Callee PySem.Challenge.rw_heardapart_k58_whole_heaps_turned.prog w K mg base CX0 3 "counts_in" ["book", "firsts"] (spCountsIn K) := ⟨_, fd_counts_in, ok_counts_in B D_counts_in, g_counts_in, F_counts_in.kp, b_counts_in⟩
    have c_book_by : Callee PySem.Challenge.rw_heardapart_k58_whole_heaps_turned.prog w K mg base CX0 3 "book_by" ["ones", "others", "counts"] (spBookBy K) := ⟨_, fd_book_by, ok_book_by B D_book_by, g_book_by, F_book_by.kp, b_book_by⟩
    have c_is_heap_row : Callee PySem.Challenge.rw_heardapart_k58_whole_heaps_turned.prog w K mg base CX0 6 "is_heap_row" ["width", "hands", "thing"] (spHeapRow K (He.cT K ("is_heap_row", none)).2) := ⟨_, fd_is_heap_row, ok_is_heap_row B D_is_heap_row X_is_heap_row c_is_spot c_are_steps, g_is_heap_row, F_is_heap_row.kp, b_is_heap_row⟩
    have c_is_heap : Callee PySem.Challenge.rw_heardapart_k58_whole_heaps_turned.prog w K mg base CX0 10 "is_heap" ["many", "width", "hands", "thing"] (spIsHeap K (He.cT K ("is_heap_row", none)).2 (He.cT K ("is_heap", none)).2) := ⟨_, fd_is_heap, ok_is_heap B D_is_heap X_is_heap c_is_heap_row c_are_steps, g_is_heap, F_is_heap.kp, b_is_heap⟩
    have c_is_mixed : Callee PySem.Challenge.rw_heardapart_k58_whole_heaps_turned.prog w K mg base CX0 6 "is_mixed" ["ones", "others", "thing"] (spMixed K (He.cT K ("is_mixed", none)).2) := ⟨_, fd_is_mixed, ok_is_mixed B D_is_mixed X_is_mixed c_places_of, g_is_mixed, F_is_mixed.kp, b_is_mixed⟩
    have c_is_rest : Callee PySem.Challenge.rw_heardapart_k58_whole_heaps_turned.prog w K mg base CX0 10 "is_rest" ["ones", "others", "thing"] (spIsRest K (He.cT K ("is_mixed", none)).2 (He.cT K ("is_rest", none)).2) := ⟨_, fd_is_rest, ok_is_rest B D_is_rest X_is_rest c_is_mixed c_places_of c_counts_in c_are_steps, g_is_rest, F_is_rest.kp, b_is_rest⟩
    have c_rest_of : Callee PySem.Challenge.rw_heardapart_k58_whole_heaps_turned.prog w K mg base CX0 11 "rest_of" ["ones", "others", "hands", "heap"] (spRestOf K (He.cT K ("is_name", none)).2 (He.cT K ("are_unlike_names", none)).2 (He.cT K ("is_heap_row", none)).2 (He.cT K ("is_heap", none)).2) := ⟨_, fd_rest_of, ok_rest_of B D_rest_of c_check_sorts c_check_hands c_is_heap c_counts_by c_book_by, g_rest_of, F_rest_of.kp, b_rest_of⟩
    have c_heap_of : Callee PySem.Challenge.rw_heardapart_k58_whole_heaps_turned.prog w K mg base CX0 11 "heap_of" ["ones", "others", "rest"] (spHeapOf K (He.cT K ("is_name", none)).2 (He.cT K ("are_unlike_names", none)).2 (He.cT K ("is_mixed", none)).2 (He.cT K ("is_rest", none)).2) := ⟨_, fd_heap_of, ok_heap_of B D_heap_of c_check_sorts c_is_rest c_places_of c_counts_in c_rows_above, g_heap_of, F_heap_of.kp, b_heap_of⟩
    have c_law_bowl : Callee PySem.Challenge.rw_heardapart_k58_whole_heaps_turned.prog w K mg base CX0 3 "_law_bowl" ["script"] (spBowl K) := ⟨_, fd_law_bowl, ok_law_bowl B D_law_bowl, g_law_bowl, F_law_bowl.kp, b_law_bowl⟩
    have c_law_dip : Callee PySem.Challenge.rw_heardapart_k58_whole_heaps_turned.prog w K mg base CX0 3 "_law_dip" ["bowl", "many"] (spDip K) := ⟨_, fd_law_dip, ok_law_dip B D_law_dip, g_law_dip, F_law_dip.kp, b_law_dip⟩
    have c_law_names : Callee PySem.Challenge.rw_heardapart_k58_whole_heaps_turned.prog w K mg base CX0 4 "_law_names" ["bowl", "many"] (spNames K) := ⟨_, fd_law_names, ok_law_names B D_law_names c_law_dip, g_law_names, F_law_names.kp, b_law_names⟩
    have c_law_sorts : Callee PySem.Challenge.rw_heardapart_k58_whole_heaps_turned.prog w K mg base CX0 5 "_law_sorts" ["bowl", "most"] (spTwo K) := ⟨_, fd_law_sorts, ok_law_sorts B D_law_sorts c_law_dip c_law_names, g_law_sorts, F_law_sorts.kp, b_law_sorts⟩
    have c_law_heap : Callee PySem.Challenge.rw_heardapart_k58_whole_heaps_turned.prog w K mg base CX0 4 "_law_heap" ["bowl", "many", "wide", "hands"] (spDraw K) := ⟨_, fd_law_heap, ok_law_heap B D_law_heap c_law_dip, g_law_heap, F_law_heap.kp, b_law_heap⟩
    have c_how_many_rests : Callee PySem.Challenge.rw_heardapart_k58_whole_heaps_turned.prog w K mg base CX0 3 "how_many_rests" ["ones", "others", "hands"] (spManyR K) := ⟨_, fd_how_many_rests, ok_how_many_rests B D_how_many_rests k_MOST_WORDS c_is_whole c_check_hands, g_how_many_rests, F_how_many_rests.kp, b_how_many_rests⟩
    have c_law_backwards : Callee PySem.Challenge.rw_heardapart_k58_whole_heaps_turned.prog w K mg base CX0 4 "_law_backwards" ["heap", "many", "wide", "hands"] (spBack K) := ⟨_, fd_law_backwards, ok_law_backwards B D_law_backwards, g_law_backwards, F_law_backwards.kp, b_law_backwards⟩
    have c_law_line_right : Callee PySem.Challenge.rw_heardapart_k58_whole_heaps_turned.prog w K mg base CX0 12 "_law_line_right" ["bowl"] (spLine K (He.cT K ("is_name", none)).2 (He.cT K ("are_unlike_names", none)).2 (He.cT K ("is_heap_row", none)).2 (He.cT K ("is_heap", none)).2 (He.cT K ("is_mixed", none)).2 (He.cT K ("is_rest", none)).2) := ⟨_, fd_law_line_right, ok_law_line_right B D_law_line_right c_rest_of c_heap_of c_law_dip c_law_sorts c_law_heap c_law_backwards, g_law_line_right, F_law_line_right.kp, b_law_line_right⟩
    exact ok_law B D_law c_law_bowl c_law_line_right c_law_dip c_how_many_rests
end Lw
open PyProof.Rows PySem PySem.W PySem.Calls
theorem PySem.Challenge.cw_heardapart_k58_whole_heaps_turned_holds : PySem.Challenge.rw_heardapart_k58_whole_heaps_turned.Holds := by
  w_on; o_law
  refine HandSHeadRun.head_any (r := Lw.hdRow) (q := Lw.hdView) (H := Lw.hdHook) (ob := Lw.hdOb) (M := 4000) (loose := Lw.hdLoose) (d := Lw.hdTop) (kwd := []) Lw.hdOb_eq
    (by kernel_rfl) (fun s => by kernel_rfl) Lw.hdRun (by kernel_rfl) (by kernel_rfl) (by kernel_rfl) (by rfl) (by first | assumption | decide +kernel) (by decide +kernel) ⟨rfl, rfl, rfl, rfl, rfl, by decide +kernel⟩ ?hw ?hc
  case hw => w_witness2
  case hc =>
    refine Gx.walk_GE (l := PySem.Challenge.rw_heardapart_k58_whole_heaps_turned) (n := 63) (k := 13) (x := "script") rfl (by decide) (by kernel_rfl) ⟨rfl, by decide, by decide⟩ ?F
    intro w mg fa h Y G hmg0
    obtain ⟨K, KX, c⟩ := Y
    have hmg : mg ("law" : PySem.Str) = some (.ref fa) := by
      have e : Lw.hdTop.name = ("law" : PySem.Str) := by kernel_rfl
      rw [← e]
      exact hmg0
    exact ⟨K, KX, Lw.hd_all KX G hmg c⟩

