import PyProof.Rows.All
import Wide.All
import OpenK.AllK
import Wide.FinOn
import HandS.AnyAll
import HandS.GenOver
import HandS.GenList
import HandS.ForMost
import HandS.ForExc
import HandS.Walk
import HandS.SortRule
import HandS.SortInts
import HandS.Wide
import HandS.TupAny
import HandS.TupMul
import HandS.Deep
import HandS.Zip
import HandS.Rev
import KE.GoesEnum
import HandS.Style
import HandS.ExcInit
import HandS.ExcField
import HandS.TryMany
import HandS.WordsExc
import HandS.More
import HandS.IsInst
import HandS.Defaults
import HandS.SetFor
import KE.GoesMore
import HandS.Conv
import HandS.Gcd
import HandS.Dict
import KE.KDictWalk
import PyProof.Rows.SetFrom
import PyProof.P3In
import HandS.CallSlots
import KE.DataMinMax
import HandS.NamedTupSort
import HandS.DictComp
import HandS.ListItems
import KE.KDictList
import PyProof.DictValues
import KE.SortData
import PyProof.AutoSeq1
import KE.KMathGC
import PyProof.Rows.SortShell
import HandS.EndTab
import KE.KNest
import PySem.Challenge.RW_boutstairs_k01_fields_and_their_errors
set_option Elab.async false
set_option linter.all false
set_option maxRecDepth 100000
set_option maxHeartbeats 4000000
namespace L2
open PySem PySem.Spec PyProof.Rows GenW
abbrev Cx.gen (X : Cx) (s : Shared) (H : Hp) (scope : Scope) (genv : Env) (fp : List Addr) (pn : List (Addr × Obj)) : Cx :=
  { X with A := X.A.in1.in1.deeper genv, s_0 := s, H_0 := H, env := genv, outer := X.stack, stack := genv :: X.stack, ex := fp, fn := fun x => scope.names.lookup x == some .cell, pn := pn, xe := fun _ _ => False }
section
variable {X : Cx} {pins : List (Addr × Obj)} {σ : St} {H : Hp} {s : Shared}
theorem gen_start {scope : Scope} {own : List (Str × Nat)} {fp : List Addr} {code : Value} {s5 : Shared} {it : Value} {a : Addr} {ob : Obj} (I : Inv X pins σ H s) (ok : BlkOk X.N X.env.scope scope own) (hcell : ∀ y ∈ scope.names, y.2 ≠ .cell) (hN : X.N.Nodup)
    (hfp : ∀ b ∈ fp, FpOk X pins H b ∧ b < s.heap.objs.size) (hns : s5.heap.Ns s.heap.objs.size (fun y => if y = ".0" then some it else none)) (kp : ∀ b o, s.heap.get? b = some o → s5.heap.get? b = some o) (hos : s5.os = s.os) (hb : AllBare s5.gens)
    (ha : s.heap.objs.size < a) (hao : s5.heap.get? a = some ob) (hoc : ∀ v, ob.data ≠ .cell v) :
    Inv (X.gen s H scope (genEnv scope (cloFrom X.env.cells scope.names []) s.heap.objs.size code builtinsNs X.env) fp [(a, ob)]) [] (wipe σ (own.map (·.2))) H s5 := by
  have hfree : ∀ y ∈ scope.names, y.2 = .free → ∃ c, X.env.cells.lookup y.1 = some c := fun y hy e => by
    rcases ok.free y hy e with k | k
    · exact I.ok.has _ (.inl k)
    · exact I.ok.has _ (.inr k)
  generalize hcenv : genEnv scope (cloFrom X.env.cells scope.names []) s.heap.objs.size code builtinsNs X.env = cenv
  have hL : cenv.locals = s.heap.objs.size := by rw [← hcenv]; rfl
  have hcl : cenv.cells = cloFrom X.env.cells scope.names [] := by rw [← hcenv]; rfl
  have hsc : cenv.scope = scope := by rw [← hcenv]; rfl
  have cm : ∀ {y c}, cenv.cells.lookup y = some c → X.env.cells.lookup y = some c ∧ c < s.heap.objs.size := fun {y c} hm => by
    rw [hcl] at hm
    rcases cloFrom_mem (PySem.mem_of_lookup hm) with hm | ⟨h1, rfl⟩
    · cases hm
    · obtain ⟨c, hc⟩ := hfree _ h1 rfl
      rw [hc]
      obtain ⟨w, z⟩ := I.cell _ _ hc
      exact ⟨rfl, z.lt⟩
  have look : ∀ {y}, scope.names.lookup y = some .free → ∃ c, cenv.cells.lookup y = some c ∧ X.env.cells.lookup y = some c := fun {y} hl => by
    have hy : (y, NameKind.free) ∈ scope.names := PySem.mem_of_lookup hl
    obtain ⟨c', e'⟩ := mem_lookup (cloFrom_has (cells := X.env.cells) (acc := []) hy)
    rw [← hcl] at e'
    exact ⟨c', e', (cm e').1⟩
  have okB : (X.gen s H scope cenv fp [(a, ob)]).Ok := by
    refine ⟨I.ok.mod, by show cenv.scope.kind = _; rw [hsc]; exact ok.kind, by show cenv.globals = _; rw [← hcenv]; exact I.ok.glob, by show cenv.builtins = _; rw [← hcenv]; rfl, by show s.heap.objs.size ≤ cenv.locals; rw [hL]; exact Nat.le_refl _,
      fun y z c e1 e2 => ?_, fun y hy => ?_, fun y c z e => ?_, fun q => I.ok.hd q, Around.frames_deeper (A := X.A.in1.in1) I.ok.frames, .inr ⟨rfl, ?_⟩, fun b hb => ⟨?_, fun y c e z => ?_⟩, I.bs, Nat.le_trans I.ok.bsz I.sz, fun b o e hb => ?_, fun b hb z => ?_, I.stack, I.stkFree⟩
    · exact I.ok.inj y z c (cm (show cenv.cells.lookup y = some c from e1)).1 (cm (show cenv.cells.lookup z = some c from e2)).1
    · have hy : cenv.scope.names.lookup y = some .cell ∨ cenv.scope.names.lookup y = some .free := hy
      rw [hsc] at hy
      rcases hy with hy | hy
      · exact absurd rfl (hcell _ (PySem.mem_of_lookup hy))
      · obtain ⟨c, h1, _⟩ := look hy
        exact ⟨c, h1⟩
    · have z : (scope.names.lookup y == some NameKind.cell) = true := z
      have z : scope.names.lookup y = some .cell := by simpa using z
      exact absurd rfl (hcell _ (PySem.mem_of_lookup z))
    · show cenv.frame = some cenv.locals
      rw [← hcenv]; rfl
    · show b ≠ cenv.locals
      rw [hL]; exact Nat.ne_of_lt (hfp b hb).2
    · exact (hfp b hb).1.2.2.2.2.1 y c (cm (show cenv.cells.lookup y = some c from e)).1 z
    · rcases (hfp b hb).1.2.2.2.1 with z | z
      · exact I.ok.noex b o e z
      · exact absurd (Nat.lt_of_lt_of_le (Heap.lt_size e) (Nat.le_trans I.ok.bsz z)) (Nat.lt_irrefl _)
    · rcases List.mem_cons.mp (I.stkSub b z) with z | z
      · exact (hfp b hb).1.2.1 z
      · exact (hfp b hb).1.2.2.1 z
  refine ⟨okB, hos, hb, Un.kept kp, ⟨_, by show Heap.Ns _ cenv.locals _; rw [hL]; exact hns, fun i y av e1 e2 e3 => ?_⟩, fun y c e => ?_, ?_, fun y c e => ?_, fun p hp => ?_, I.hok.kept kp, by rw [wipe_length]; exact I.len⟩
  · obtain ⟨e2, hne⟩ := wipe_some e2
    have e3 : Vis cenv.scope y := e3
    rw [hsc] at e3
    have no : ∀ k, scope.names.lookup y = some k → ¬ (k = .local ∨ k = .cell) := fun k e hh => by
      rcases ok.own _ (PySem.mem_of_lookup e) hh with e' | e'
      · obtain ⟨p, hp, hpy⟩ := List.mem_map.mp e'
        have e3 := ok.ix p hp
        have : p.1 = y := hpy
        rw [this] at e3
        exact hne (List.mem_map.mpr ⟨p, hp, nodup_ix hN e3 e1⟩)
      · exact e' (List.mem_of_getElem? e1)
    have hfr : scope.names.lookup y = some .free := by
      rcases e3 with e3 | e3 | e3
      · exact absurd (.inl rfl) (no _ e3)
      · exact absurd (.inr rfl) (no _ e3)
      · exact e3
    obtain ⟨m, hn, hl⟩ := I.loc
    have hvis : Vis X.env.scope y := (ok.free _ (PySem.mem_of_lookup hfr) rfl).elim (fun k => .inr (.inl k)) (fun k => .inr (.inr k))
    obtain ⟨w, r, q⟩ := hl i y av e1 e2 hvis
    refine ⟨w, r, .inr ⟨.inr (by show cenv.scope.names.lookup y = _; rw [hsc]; exact hfr), ?_⟩⟩
    obtain ⟨c, h1, h2⟩ := look hfr
    rcases q with ⟨k, _⟩ | ⟨_, c', e', z⟩
    · have k : X.env.scope.names.lookup y = some .local := k
      rcases ok.free _ (PySem.mem_of_lookup hfr) rfl with k' | k' <;> rw [show X.env.scope.names.lookup y = _ from k'] at k <;> cases k
    · rw [h2] at e'; cases e'
      exact ⟨c, h1, z.keeps kp⟩
  · obtain ⟨w, z⟩ := I.cell y c (cm (show cenv.cells.lookup y = some c from e)).1
    exact ⟨w, z.keeps kp⟩
  · show H cenv.locals = none
    rw [hL]; exact I.hok.fresh (Nat.le_refl _)
  · exact I.freeC y c (cm (show cenv.cells.lookup y = some c from e)).1
  · have hp : p ∈ [(a, ob)] ++ ([] : List (Addr × Obj)) := hp
    have hp : p = (a, ob) := by simpa using hp
    subst hp
    refine ⟨hao, I.hok.fresh (Nat.le_of_lt ha), ?_, fun hm => ?_, hoc⟩
    · show a ≠ cenv.locals
      rw [hL]; exact Nat.ne_of_gt ha
    · rcases List.mem_cons.mp (I.stkSub a hm) with z | z
      · have := I.lt
        rw [← z] at this
        exact absurd (Nat.lt_trans this ha) (Nat.lt_irrefl _)
      · exact I.nofs (Nat.le_of_lt ha) z
def GJ (X : Cx) (σ : St) (fp : List Addr) (tn : Nat → Heap → Prop) (g : Nat) (W : Nat → Hp → Prop) (i : Nat) (s : Shared) : Prop := ∃ H', Inv X [] σ H' s ∧ tn i s.heap ∧ (∀ b ∈ fp, H' b = none) ∧ g < s.gens.size ∧ W i H'
def GE (X : Cx) (σ : St) (g : Nat) (W : Nat → Hp → Prop) (i : Nat) (s : Shared) : Prop := ∃ H', Inv X [] σ H' s ∧ g < s.gens.size ∧ W i H'
def GV (X : Cx) (σ : St) (V : Hp → Prop) (s : Shared) : Prop := ∃ H', Inv X [] σ H' s ∧ V H'
def gY (J : Nat → Shared → Prop) (JV : Shared → Prop) (g n : Nat) : Protocol := fun m s₀ v s kap => ∃ i b, (i < n ∧ i + m = n) ∧ v = .bool b ∧ (b = true → J (i + 1) s ∧ ∀ gs' : GenState, gs'.bare = true → kap (.send .none) ((s.setGen g gs').setGen g .running)) ∧ (b = false → JV s)
theorem Inv.gens {g' : Array GenState} (I : Inv X pins σ H s) (hg : AllBare g') : Inv X pins σ H { s with gens := g' } :=
  I.call (h' := s.heap) (g' := g') (t' := s.toks) (d' := s.drawn) (ch := []) (Un.refl) I.hok hg fun b hb => absurd hb (by simp)
theorem GJ.woken {fp : List Addr} {tn : Nat → Heap → Prop} {g : Nat} {W : Nat → Hp → Prop} {i : Nat} {gs' : GenState} (j : GJ X σ fp tn g W i s) (hb : gs'.bare = true) : GJ X σ fp tn g W i ((s.setGen g gs').setGen g .running) := by
  obtain ⟨H', I, t, n, lt, w⟩ := j
  exact ⟨H', I.gens (allBare_setGen (allBare_setGen I.bare hb) rfl), t, n, by rw [setGen_size, setGen_size]; exact lt, w⟩
end
section
variable {X : Cx} {fp : List Addr} {tn : Nat → Heap → Prop} {elt tg iter : Expr} {scope : Scope} {pos : Pos} {it : Addr} {J : It} {te : TE} {gg : TG} {σ : St} {g n : Nat} {V : Hp → Prop} {W : Nat → Hp → Prop} {A : Around} {vs : List Nat}
theorem seg_genx (hA : ∀ c, c = Code.compLoop (.GeneratorExp elt [⟨tg, iter, [], 0⟩] scope pos) 0 (.ref it) .none X.env ∨ c = Code.compStart (.GeneratorExp elt [⟨tg, iter, [], 0⟩] scope pos) 0 (.ref it) .none X.env → A.over c [] = X.A)
    (hc : X.calm = true) (hxe : X.xe = fun _ _ => False) (hco : X.env.scope.isCoroutine = false) (T : Turn X.prog X.w X.K tg J fp it tn) (pg : PG X tg gg) (pe : PE X elt te) (hex : X.ex = fp) (hpn : ∀ b ∈ fp, ∀ p ∈ X.pn, p.1 ≠ b)
    (turn : ∀ i H, i ≤ n → W i H → (i = n ∧ J.stop i H) ∨ (i < n ∧ J.go i H ∧ ∀ x H', J.yld i H x H' → gg x (wipe σ vs) H' fun σ2 H2 => wipe σ2 vs = wipe σ vs ∧ te σ2 H2 fun y H4 => ∃ b, y = .bl b ∧ (b = true → W (i + 1) H4) ∧ (b = false → V H4))) :
    ∀ (k i : Nat) (s₀ s : Shared), n - i = k → i ≤ n → GJ X (wipe σ vs) fp tn g W i s →
      Seg (model X.prog X.w) A (fun m s₀ r s => r = .ok .next ∧ (m = 1 ∧ GE X (wipe σ vs) g W n s)) (gY (GJ X (wipe σ vs) fp tn g W) (GV X (wipe σ vs) V) g n) (n - i + 1) s₀
        (.compLoop (.GeneratorExp elt [⟨tg, iter, [], 0⟩] scope pos) 0 (.ref it) .none X.env)
        ((model X.prog X.w).den (.compLoop (.GeneratorExp elt [⟨tg, iter, [], 0⟩] scope pos) 0 (.ref it) .none X.env)) [] s := by
  have stat : ∀ {σ' : St} {H' : Hp} {s' : Shared}, Inv X [] σ' H' s' → (∀ b ∈ fp, H' b = none) → ∀ b ∈ fp, FpOk X [] H' b := fun {σ' H' s'} I' hn b hb =>
    ⟨hn b hb, (I'.ok.exf b (hex ▸ hb)).1, I'.ok.exfs b (hex ▸ hb), .inl (hex ▸ hb), fun x c e => (I'.ok.exf b (hex ▸ hb)).2 x c e, fun p hp => by rw [List.append_nil] at hp; exact hpn b hb p hp⟩
  intro k
  induction k with
  | zero =>
    intro i s₀ s hk hi hj
    have hin : i = n := by omega
    subst hin
    obtain ⟨H5, I5, st5, n5, lt5, w5⟩ := hj
    show Seg _ A _ _ _ s₀ _ ((compTurn (.GeneratorExp elt [⟨tg, iter, [], 0⟩] scope pos) 0 (.ref it) .none X.env).onRaise (leaving X.env)) [] s
    rw [compTurn_gen, Sem.onRaise_eq_wrap]
    refine seg_bind_wrap (wpAny_standAt ?_)
    refine seg_bind_wrap ?_
    rw [hA _ (.inl rfl)]
    rcases turn i H5 (Nat.le_refl _) w5 with ⟨_, stop⟩ | ⟨lt, _⟩
    · refine wpAny_gsz (n := g + 1) lt5 ?_
      refine thnF (T.done X rfl rfl rfl hc i [] s _ H5 (fun _ _ => False) I5 (stat I5 n5) st5 stop) fun r s6 ⟨hr, I6⟩ lt6 => ?_
      subst hr
      exact seg_end (.ok .next) ⟨rfl, by omega, H5, I6, lt6, w5⟩
    · exact absurd lt (Nat.lt_irrefl _)
  | succ k ih =>
    intro i s₀ s hk hi hj
    have hlt : i < n := by omega
    obtain ⟨H5, I5, st5, n5, lt5, w5⟩ := hj
    show Seg _ A _ _ _ s₀ _ ((compTurn (.GeneratorExp elt [⟨tg, iter, [], 0⟩] scope pos) 0 (.ref it) .none X.env).onRaise (leaving X.env)) [] s
    rw [compTurn_gen, Sem.onRaise_eq_wrap]
    refine seg_bind_wrap (wpAny_standAt ?_)
    refine seg_bind_wrap ?_
    rw [hA _ (.inl rfl)]
    rcases turn i H5 hi w5 with ⟨e, _⟩ | ⟨_, go, step⟩
    · exact absurd e (Nat.ne_of_lt hlt)
    refine wpAny_gsz (n := g + 1) lt5 ?_
    refine thnF (T.item X rfl rfl rfl hc i [] s _ H5 (fun _ _ => False) I5 (stat I5 n5) st5 go) fun r s6 ⟨u, hr, h6⟩ lt6 => ?_
    subst hr
    refine seg_bind_wrap ?_
    rw [hA _ (.inl rfl)]
    refine wpAny_gsz (n := g + 1) lt6 ?_
    refine thnF h6 fun _ s7 ⟨x, H7, I7, r7, y7, st7, n7⟩ lt7 => ?_
    have I7' := I7.pinned (stat I7 n7) (T.obj _ _ st7)
    refine seg_bind_wrap ?_
    rw [hA _ (.inl rfl)]
    refine wpAny_gsz (n := g + 1) lt7 ?_
    have hg := pg.run _ s7 _ H7 x u _ I7' r7 (step x H7 y7)
    rw [hxe] at hg
    refine thnF hg fun _ s8 ⟨σ8, H8, I8, hw8, q8⟩ lt8 => ?_
    refine seg_bind_wrap (wpAny_tests_nil ?_)
    simp only [if_true]
    have hy : ∀ v, yieldOut X.env v = yieldValue v := fun v => by simp only [yieldOut, hco, Bool.false_eq_true, if_false]
    simp only [hy]
    rw [Sem.bind_eq_wrap', Sem.bind_eq_wrap', Sem.wrap_wrap, Sem.wrap_wrap]
    refine seg_wrap ?_
    rw [hA _ (.inl rfl)]
    refine wpAny_gsz (n := g + 1) lt8 ?_
    have he := pe.run _ s8 σ8 H8 _ I8 q8
    rw [hxe] at he
    refine thnF he fun z s10 ⟨yv, H10, I10, r10, b, ey, nx, nv⟩ lt10 => ?_
    subst ey
    obtain rfl : z = Value.bool b := r10
    have pin' : ∀ b ∈ fp, ∀ o, s7.heap.get? b = some o → s10.heap.get? b = some o ∧ H10 b = none := fun b hb o e =>
      let z := I10.pin (b, o) (List.mem_append_right _ (List.mem_append_right _ (mem_pinsAt hb e)))
      ⟨z.1, z.2.1⟩
    have hl : (wipe σ vs).length = σ8.length := by rw [← hw8, wipe_length]
    have Iw : Inv X [] (wipe σ vs) H10 s10 := (I10.unpinned (pins := [])).weak hl (fun j v e => by
      rw [← hw8] at e
      exact (wipe_some e).1)
    have Jn : b = true → GJ X (wipe σ vs) fp tn g W (i + 1) s10 := fun hb => by
      refine ⟨H10, Iw, T.keep _ _ _ st7 fun b hb o e => (pin' b hb o e).1, fun b hb => ?_, lt10, nx hb⟩
      obtain ⟨o, e, _⟩ := T.obj _ _ st7 b hb
      exact (pin' b hb o e).2
    refine seg_at (seg_yield (n := n - i) rfl rfl rfl ⟨i, b, ⟨hlt, by omega⟩, rfl, fun hbt => ⟨Jn hbt, fun gs' hb => ?_⟩, fun hbf => ⟨H10, Iw, nv hbf⟩⟩)
    rw [show n - i = (n - (i + 1)) + 1 by omega]
    exact seg_again rfl (ih (i + 1) _ _ (by omega) hlt ((Jn hbt).woken hb))
end
end L2
namespace L2
open PySem PySem.Spec PyProof.Rows GenW GxR
section
variable {prog : Program} {w : World} {A : Around}
theorem codeAny_all_loopI {R : Result → Shared → Prop} {it : Value} {n : Nat} (St : Nat → Shared → Prop) (Fi No : Shared → Prop)
    (item : ∀ i s, i < n → St i s → wpAny (model prog w) A.in1 (pyNext it) (fun o s' => ∃ b, o = some (.bool b) ∧ (b = true → St (i + 1) s') ∧ (b = false → No s')) (fun _ _ => False) s)
    (done : ∀ s, St n s → wpAny (model prog w) A.in1 (pyNext it) (fun o s' => o = none ∧ Fi s') (fun _ _ => False) s)
    (hT : ∀ s', Fi s' → R (.ok (.ret (.bool true))) s') (hF : ∀ s', No s' → R (.ok (.ret (.bool false))) s') :
    ∀ (k i : Nat) (s : Shared), n - i = k → i ≤ n → St i s → codeAny (model prog w) A (.builtin "all.loop" ⟨[it], []⟩) R s := by
  intro k
  induction k with
  | zero =>
    intro i s hk hi hst
    have hin : i = n := by omega
    subst hin
    refine codeAny_builtin F.entry_all_loop ?_
    rw [Around.under_plainId F.plain_all_loop _]
    show wpAny _ A.in1 (pyNext it >>= _) _ _ s
    refine wpAny_bind (thnF (done s hst) fun o s' ⟨ho, hf⟩ => ?_)
    subst ho
    exact wpAny_bind (wpAny_rule (wpAny_pure (hT s' hf)))
  | succ k ih =>
    intro i s hk hi hst
    have hlt : i < n := by omega
    refine codeAny_builtin F.entry_all_loop ?_
    rw [Around.under_plainId F.plain_all_loop _]
    show wpAny _ A.in1 (pyNext it >>= _) _ _ s
    refine wpAny_bind (thnF (item i s hlt hst) fun o s' ⟨b, ho, hst', hno⟩ => ?_)
    subst ho
    refine wpAny_bind (wpAny_holding (wpAny_truthy_bool ?_))
    refine wpAny_bind (wpAny_letGo ?_)
    cases b with
    | true =>
      simp only [if_true]
      exact wpAny_pure ⟨plainId_quiet F.plain_all_loop _, ih (i + 1) _ (by omega) hlt (hst' rfl)⟩
    | false =>
      simp only [Bool.false_eq_true, if_false]
      exact wpAny_bind (wpAny_rule (wpAny_pure (hF s' (hno rfl))))
theorem call_all_I {x : Value} {Q : Value → Shared → Prop} {E : Value → Shared → Prop} {s : Shared}
    (h : wpAny (model prog w) A.in1 (pyIter x) (fun it s₂ => ∃ (n : Nat) (St : Nat → Shared → Prop) (Fi No : Shared → Prop), St 0 s₂ ∧
      (∀ i s, i < n → St i s → wpAny (model prog w) A.in1 (pyNext it) (fun o s' => ∃ b, o = some (.bool b) ∧ (b = true → St (i + 1) s') ∧ (b = false → No s')) (fun _ _ => False) s) ∧
      (∀ s, St n s → wpAny (model prog w) A.in1 (pyNext it) (fun o s' => o = none ∧ Fi s') (fun _ _ => False) s) ∧
      (∀ s', Fi s' → Q (.bool true) s') ∧ ∀ s', No s' → Q (.bool false) s') E s) :
    wpAny (model prog w) A (call (.builtin "all") [x]) Q E s := by
  refine call_function_tree F.kind_all F.plain_all F.entry_all (F.args_all1 _) ?_
  unfold Builtin.«all»
  refine wpAny_bind (m := oneArg "all" _) (wpAny_pure ?_)
  refine wpAny_bind (wpAny_mono h (fun it s₂ h₂ => ?_) fun _ _ e => e)
  obtain ⟨n, St, Fi, No, h0, item, done, hT, hF⟩ := h₂
  exact wpAny_pure ⟨plainId_quiet F.plain_all_loop _, codeAny_all_loopI St Fi No item done hT hF n 0 s₂ rfl (Nat.zero_le _) h0⟩
end
section
variable {X : Cx} {fp : List Addr} {tn : Nat → Heap → Prop} {elt tg iter : Expr} {scope : Scope} {pos : Pos} {it : Addr} {J : It} {te : TE} {gg : TG} {σ : St} {g n : Nat} {V : Hp → Prop} {W : Nat → Hp → Prop} {A : Around} {vs : List Nat}
theorem over_genx {A : Around} {env : Env} {gs : List Comprehension} {itv acc : Value} : A.over (.compLoop (.GeneratorExp elt gs scope pos) 0 itv acc env) [] = A.deeper env := by
  first
    | rfl
    | (obtain ⟨hd, d, fr, gs, u⟩ := A; simp [Around.over, Around.deeper, marksOver, frameCount, unitsOf, envsOf, guardsOf, pushEnvs, pushGuards, Code.envs, Code.env?, Code.isFrame, Code.guards, Code.isGuard, Code.weight, Code.frames, Code.isCreation, Code.isCaller, Code.cUnits])
theorem over_genx0 {A : Around} {env : Env} {gs : List Comprehension} {itv acc : Value} : A.over (.compStart (.GeneratorExp elt gs scope pos) 0 itv acc env) [] = A.deeper env := by
  first
    | rfl
    | (obtain ⟨hd, d, fr, gs, u⟩ := A; simp [Around.over, Around.deeper, marksOver, frameCount, unitsOf, envsOf, guardsOf, pushEnvs, pushGuards, Code.envs, Code.env?, Code.isFrame, Code.guards, Code.isGuard, Code.weight, Code.frames, Code.isCreation, Code.isCaller, Code.cUnits])
theorem seg_genxStart (hX : X.A = A.deeper X.env)
    (hc : X.calm = true) (hxe : X.xe = fun _ _ => False) (hco : X.env.scope.isCoroutine = false) (T : Turn X.prog X.w X.K tg J fp it tn) (pg : PG X tg gg) (pe : PE X elt te) (hex : X.ex = fp) (hpn : ∀ b ∈ fp, ∀ p ∈ X.pn, p.1 ≠ b)
    (turn : ∀ i H, i ≤ n → W i H → (i = n ∧ J.stop i H) ∨ (i < n ∧ J.go i H ∧ ∀ x H', J.yld i H x H' → gg x (wipe σ vs) H' fun σ2 H2 => wipe σ2 vs = wipe σ vs ∧ te σ2 H2 fun y H4 => ∃ b, y = .bl b ∧ (b = true → W (i + 1) H4) ∧ (b = false → V H4)))
    {s₀ s : Shared} (hj : GJ X (wipe σ vs) fp tn g W 0 s) :
    Seg (model X.prog X.w) A (fun m s₀ r s => r = .ok .next ∧ (m = 1 ∧ GE X (wipe σ vs) g W n s)) (gY (GJ X (wipe σ vs) fp tn g W) (GV X (wipe σ vs) V) g n) (n - 0 + 1) s₀
      (.compStart (.GeneratorExp elt [⟨tg, iter, [], 0⟩] scope pos) 0 (.ref it) .none X.env)
      ((model X.prog X.w).den (.compStart (.GeneratorExp elt [⟨tg, iter, [], 0⟩] scope pos) 0 (.ref it) .none X.env)) [] s := by
  have loop := seg_genx (elt := elt) (tg := tg) (iter := iter) (scope := scope) (pos := pos) (A := A) (X := X) (it := it) (g := g) (V := V) (fun c hcc => hcc.elim (fun e => by rw [e]; exact over_genx.trans hX.symm) (fun e => by rw [e]; exact over_genx0.trans hX.symm)) hc hxe hco T pg pe hex hpn turn n 0 s₀ s (Nat.sub_zero _) (Nat.zero_le _) hj
  show Seg _ A _ _ _ s₀ _ ((compStart (.GeneratorExp elt [⟨tg, iter, [], 0⟩] scope pos) 0 (.ref it) .none X.env).onRaise (leaving X.env)) [] s
  unfold compStart
  rw [Sem.onRaise_eq_wrap]
  show Seg _ A _ _ _ s₀ _ ((ask >>= _).wrap _ _ _ _) [] s
  refine seg_bind_wrap (wpAny_askSetting ?_)
  obtain ⟨H5, I5, st5, _⟩ := hj
  split
  · exact seg_again rfl loop
  · first
      | exact seg_bind_wrap (wpAny_rule (seg_bind_wrap (wpAny_standAt (seg_bind_wrap (T.self _ 0 s _ _ st5 (seg_again rfl loop))))))
      | (refine seg_bind_wrap (wpAny_rule ?_); show Seg _ A _ _ _ s₀ _ ((standAt iter.pos >>= _).wrap _ _ _ _) [] s; exact seg_bind_wrap (wpAny_standAt (seg_bind_wrap (T.self _ 0 s _ _ st5 (seg_again rfl loop)))))
theorem GJ.set {i : Nat} {s : Shared} {x : GenState} (j : GJ X σ fp tn g W i s) (hb : x.bare = true) : GJ X σ fp tn g W i (s.setGen g x) := by
  obtain ⟨H', I, t, n, lt, w⟩ := j
  exact ⟨H', I.gens (allBare_setGen I.bare hb), t, n, by rw [setGen_size]; exact lt, w⟩
def GSt (M : Model) (A : Around) (X : Cx) (σ : St) (fp : List Addr) (tn : Nat → Heap → Prop) (g n : Nat) (V : Hp → Prop) (W : Nat → Hp → Prop) (i : Nat) (s : Shared) : Prop :=
  GJ X σ fp tn g W i s ∧ ∃ gs, s.gens[g]? = some gs ∧ gs.Goes M A (fun m s₀ r s => r = .ok .next ∧ (m = 1 ∧ GE X σ g W n s)) (gY (GJ X σ fp tn g W) (GV X σ V) g n) (n - i + 1) (.send .none) (s.setGen g .running)
theorem gst_item {a : Addr} {ob : Obj} {i : Nat} {s : Shared} (hh : A.handled = none) (hroom : A.depth < recursionLimit) (hpn : X.pn = [(a, ob)]) (hob : ∃ nm qn, ob.cls = .type "generator" ∧ ob.data = .fields #[.int g 0, nm, qn] ∧ ob.slots = #[]) (hlt : i < n)
    (h : GSt (model X.prog X.w) A.in1 X σ fp tn g n V W i s) : wpAny (model X.prog X.w) A (pyNext (.ref a)) (fun o s' => ∃ b, o = some (.bool b) ∧ (b = true → GSt (model X.prog X.w) A.in1 X σ fp tn g n V W (i + 1) s') ∧ (b = false → GV X σ V s')) (fun _ _ => False) s := by
  obtain ⟨hj, gs, hgs, hgo⟩ := h
  obtain ⟨H5, I5, st5, n5, lt5, w5⟩ := id hj
  have hg : s.heap.IsGen a g := by
    obtain ⟨nm, qn, r⟩ := hob
    exact ⟨ob, nm, qn, (I5.pin (a, ob) (by rw [hpn]; simp)).1, r⟩
  obtain ⟨m, hm⟩ : ∃ m, n - i = m + 1 := ⟨n - i - 1, by omega⟩
  rw [hm] at hgo
  refine wpAny_pyNext_genexpQ (P := fun m s₀ s => m = 1 ∧ GE X σ g W n s) hh I5.nolimit hroom hg hgs hgo (fun v s₁ gs' hb hv => ?_) (fun s₁ hp h' hk => ?_)
  · obtain ⟨i', b, hi', rfl, yes, no⟩ := hv
    have e : i' = i := by omega
    subst e
    refine ⟨b, rfl, fun hbt => ?_, fun hbf => ?_⟩
    · obtain ⟨hj', kap⟩ := yes hbt
      obtain ⟨H6, I6, st6, n6, lt6, w6⟩ := id hj'
      refine ⟨hj'.set hb, gs', setGen_at lt6, ?_⟩
      rw [show n - (i' + 1) + 1 = m + 1 by omega]
      exact kap gs' hb
    · obtain ⟨H6, I6, v6⟩ := no hbf
      exact ⟨H6, I6.gens (allBare_setGen I6.bare hb), v6⟩
  · exact absurd hp.1 (by omega)
theorem gst_done {a : Addr} {ob : Obj} {s : Shared} (hh : A.handled = none) (hroom : A.depth < recursionLimit) (hpn : X.pn = [(a, ob)]) (hob : ∃ nm qn, ob.cls = .type "generator" ∧ ob.data = .fields #[.int g 0, nm, qn] ∧ ob.slots = #[])
    (h : GSt (model X.prog X.w) A.in1 X σ fp tn g n V W n s) : wpAny (model X.prog X.w) A (pyNext (.ref a)) (fun o s' => o = none ∧ ∃ H', Inv X [] σ H' s' ∧ W n H') (fun _ _ => False) s := by
  obtain ⟨hj, gs, hgs, hgo⟩ := h
  obtain ⟨H5, I5, st5, n5, lt5, w5⟩ := id hj
  have hg : s.heap.IsGen a g := by
    obtain ⟨nm, qn, r⟩ := hob
    exact ⟨ob, nm, qn, (I5.pin (a, ob) (by rw [hpn]; simp)).1, r⟩
  rw [Nat.sub_self] at hgo
  refine wpAny_pyNext_genexpQ (P := fun m s₀ s => m = 1 ∧ GE X σ g W n s) hh I5.nolimit hroom hg hgs hgo (fun v s₁ gs' hb hv => ?_) (fun s₁ hp h' hk => ?_)
  · obtain ⟨i', b, hi', _, yes, no⟩ := hv
    omega
  · obtain ⟨_, H6, I6, lt6, w6⟩ := hp
    have I7 : Inv X [] σ H6 (s₁.setGen g .finished) := I6.gens (allBare_setGen I6.bare rfl)
    exact ⟨rfl, H6, I7.call (h' := h') (g' := (s₁.setGen g .finished).gens) (t' := s₁.toks) (d' := s₁.drawn) (ch := []) (Un.kept hk) (I6.hok.kept hk) I7.bare (fun b hb => absurd hb (by simp)), w6⟩
end
def tAllG (P : Addr) (wi : TI) (gg : TG) (te : TE) (vs : List Nat) : TE := fun σ H Q => wi σ H fun J H1 => TabG H1 P ∧ ∀ H2, Tabbed P H1 H2 → ∃ (n : Nat) (V : Hp → Prop) (W : Nat → Hp → Prop), W 0 H2 ∧
  (∀ i H, i ≤ n → W i H → (i = n ∧ J.stop i H) ∨ (i < n ∧ J.go i H ∧ ∀ x H', J.yld i H x H' → gg x (wipe σ vs) H' fun σ2 H2 => wipe σ2 vs = wipe σ vs ∧ te σ2 H2 fun y H4 => ∃ b, y = .bl b ∧ (b = true → W (i + 1) H4) ∧ (b = false → V H4))) ∧
  (∀ H, W n H → Q (.bl true) H) ∧ ∀ H, V H → Q (.bl false) H
section
variable {X : Cx} {elt tg iter : Expr} {scope : Scope} {gpos pos p : Pos} {te : TE} {gg : TG} {wi : TI} {own : List (Str × Nat)} {c P : Addr} {k : Nat}
def ReadyG (X : Cx) (Q : Value → Shared → Prop) (a : Addr) (s5 : Shared) : Prop :=
  ∃ g, s5.heap.IsGen a g ∧ ∃ (n : Nat) (St : Nat → Shared → Prop) (Fi No : Shared → Prop), St 0 s5 ∧
      (∀ i s, i < n → St i s → wpAny (model X.prog X.w) X.A.in1 (pyNext (.ref a)) (fun o s' => ∃ b, o = some (.bool b) ∧ (b = true → St (i + 1) s') ∧ (b = false → No s')) (fun _ _ => False) s) ∧
      (∀ s, St n s → wpAny (model X.prog X.w) X.A.in1 (pyNext (.ref a)) (fun o s' => o = none ∧ Fi s') (fun _ _ => False) s) ∧
      (∀ s', Fi s' → Q (.bool true) s') ∧ ∀ s', No s' → Q (.bool false) s'
theorem gen_all {pins : List (Addr × Obj)} {s : Shared} {σ : St} {H : Hp} {Q : VK} {Q' : Value → Shared → Prop} (hr : Room (k + 4) X.A) (hc : X.calm = true) (hN : X.N.Nodup) (TB : TabB X.base X.mg c P) (hcode : X.env.code = .ref c)
    (hco : scope.isCoroutine = false) (hcell : ∀ y ∈ scope.names, y.2 ≠ .cell) (h0 : scope.names.lookup (".0" : Str) = some NameKind.local) (ok : BlkOk X.N X.env.scope scope own) (hi : PI X tg iter wi)
    (hpg : ∀ (s : Shared) (H : Hp) (cl : List (Str × Addr)) (C : Addr) (code : Value) (fp : List Addr) (pn : List (Addr × Obj)), PG (X.gen s H scope (genEnv scope cl C code builtinsNs X.env) fp pn) tg gg)
    (hpe : ∀ (s : Shared) (H : Hp) (cl : List (Str × Addr)) (C : Addr) (code : Value) (fp : List Addr) (pn : List (Addr × Obj)), PE (X.gen s H scope (genEnv scope cl C code builtinsNs X.env) fp pn) elt te)
    (hs : ∀ v, genFold iter X.env v = pure v) (I : Inv X pins σ H s) (h : tAllG P wi gg te (own.map (·.2)) σ H Q)
    (hQ : ∀ a s5, ReadyG X (EP X pins σ Q) a s5 → Q' (.ref a) s5) :
    wpAny (model X.prog X.w) X.A (eval (.GeneratorExp elt [⟨tg, iter, [], 0⟩] scope gpos) X.env) Q' X.xe s := by
  have hfree : ∀ y ∈ scope.names, y.2 = .free → ∃ c, X.env.cells.lookup y.1 = some c := fun y hy e => by
    rcases ok.free y hy e with k | k
    · exact I.ok.has _ (.inl k)
    · exact I.ok.has _ (.inr k)
  refine wpAny_GeneratorExp_make hco (closure_ok hfree) hcell h0 ok.kind (by have := hr.dp; omega) ?_ hs
  refine thn (hi.run pins s σ H _ I h) fun xv s1 hx => thn hx fun itv s2 h2 => ?_
  obtain ⟨it, fp, tn, J, H2, rfl, I2, T, st2, f2, ⟨ps, hP, ht⟩, q⟩ := h2
  refine ⟨I2.nolimit, ?_⟩
  have hPs : s2.heap.get? P = some { cls := .none, data := .fields ps } := I2.hok P _ hP
  have cd : PySem.W.CodeHd s2.heap c P := TB.code.keeps fun b u e => I2.bk b u e
  have cont : ∀ (code : Value) (h3 : Heap) (tk : Nat) (ps' : Array Value), Heap.ExtBut P s2.heap h3 → s2.heap.objs.size ≤ h3.objs.size → h3.get? P = some { cls := .none, data := .fields ps' } → (∃ more, ps' = ps ++ more) → TriplesOk ps'.toList →
      wpAny (model X.prog X.w) X.A (builtinsFor X.env.globals X.env.builtins) (fun bi s₄ => ∀ h', h'.Ns s₄.heap.objs.size (fun y => if y = ".0" then some (Value.ref it) else none) → Heap.SameBut s₄.heap.objs.size (s₄.heap.push { cls := .type "frame", data := .dict #[] }) h' →
          Q' (.ref h'.objs.size) { s₄ with
            gens := s₄.gens.push (.fresh (.compStart (.GeneratorExp elt [⟨tg, iter, [], 0⟩] scope gpos) 0 (.ref it) .none (genEnv scope (cloFrom X.env.cells scope.names []) s₄.heap.objs.size code bi X.env))),
            toks := s₄.toks + 1 + 1 + 1,
            heap := h'.push { cls := .type "generator", data := .fields #[.int s₄.gens.size 0, .str "<genexpr>" (s₄.toks + 1), .str (X.env.qual ++ "<genexpr>") (s₄.toks + 1 + 1)] } }) X.xe { s2 with heap := h3, toks := tk } := by
    intro code h3 tk ps' hx hsz hP3 hmore ht3
    obtain ⟨bm, ob0, e1, e2, e3, e4, e5, e6, e7, e8⟩ := TB.bm
    obtain ⟨more, rfl⟩ := hmore
    have keep3 : ∀ b u, b ≠ P → s2.heap.get? b = some u → h3.get? b = some u := fun b u hb e => hx b u hb e
    have I4 : Inv X pins σ (upd H2 P (.tbl (ps ++ more))) { s2 with heap := h3, toks := tk } := inv_tab (g' := s2.gens) (d' := s2.drawn) (more := more) I2 hP keep3 hP3 I2.bare
    have tab : Tabbed P H2 (upd H2 P (.tbl (ps ++ more))) := ⟨⟨_, upd_same, ht3⟩, fun b hb => upd_ne hb⟩
    obtain ⟨n, V, W, w0, turn, hT, hF⟩ := q _ tab
    refine wpAny_builtinsFor (m := X.mg) (by rw [I2.ok.glob]; exact (I2.mod.glob.keeps I2.bk).extBut hx TB.gP) e1 e2 (keep3 _ _ e4 (I2.bk _ _ e5)) e6 e7 e8 ?_
    have hPne : ∀ b ∈ fp, b ≠ P := fun b hb e => by
      have z := (f2 b hb).1
      rw [e, hP] at z; cases z
    have sz : ∀ b ∈ fp, b < s2.heap.objs.size := fun b hb => by
      obtain ⟨o, e, _⟩ := T.obj _ _ st2 b hb
      exact Heap.lt_size e
    generalize hH4 : upd H2 P (.tbl (ps ++ more)) = H4 at I4 tab w0
    have n4 : ∀ b ∈ fp, H4 b = none := fun b hb => by rw [← hH4, upd_ne (hPne b hb)]; exact (f2 b hb).1
    generalize hs4 : ({ s2 with heap := h3, toks := tk } : Shared) = s4 at I4 ⊢
    have h4 : s4.heap = h3 := by rw [← hs4]
    have f4 : ∀ b ∈ fp, FpOk X pins H4 b ∧ b < s4.heap.objs.size := fun b hb => ⟨⟨n4 b hb, (f2 b hb).2⟩, by rw [h4]; exact Nat.lt_of_lt_of_le (sz b hb) hsz⟩
    have st4 : tn 0 s4.heap := T.keep _ _ _ st2 fun b hb o e => by rw [h4]; exact keep3 b o (hPne b hb) e
    intro h' hns' hsb
    have hsz' : h'.objs.size = s4.heap.objs.size + 1 := by rw [hsb.1, Heap.size_push]
    have keep' : ∀ b o, s4.heap.get? b = some o → h'.get? b = some o := fun b o e => hsb.extBut b o (Nat.ne_of_lt (Heap.lt_size e)) (Heap.get?_push_of_some _ e)
    generalize hob : ({ cls := .type "generator", data := .fields #[.int s4.gens.size 0, .str "<genexpr>" (s4.toks + 1), .str (X.env.qual ++ "<genexpr>") (s4.toks + 1 + 1)] } : Obj) = ob
    have hobG : ∃ nm qn, ob.cls = .type "generator" ∧ ob.data = .fields #[.int s4.gens.size 0, nm, qn] ∧ ob.slots = #[] := by
      rw [← hob]; exact ⟨_, _, rfl, rfl, rfl⟩
    have keep5 : ∀ b o, s4.heap.get? b = some o → (h'.push ob).get? b = some o := fun b o e => Heap.get?_push_of_some _ (keep' b o e)
    have at5 : (h'.push ob).get? h'.objs.size = some ob := Heap.get?_push_size _ (by rw [← hob]; rfl)
    have I5 := gen_start (code := code) (it := .ref it) (a := h'.objs.size) (ob := ob) (s5 := { s4 with
            gens := s4.gens.push (.fresh (.compStart (.GeneratorExp elt [⟨tg, iter, [], 0⟩] scope gpos) 0 (.ref it) .none (genEnv scope (cloFrom X.env.cells scope.names []) s4.heap.objs.size code builtinsNs X.env))),
            toks := s4.toks + 1 + 1 + 1, heap := h'.push ob }) I4 ok hcell hN f4 (hns'.push _) keep5 rfl (I4.bare.push rfl) (by omega) at5 (fun v e => by rw [← hob] at e; cases e)
    have pg := hpg s4 H4 (cloFrom X.env.cells scope.names []) s4.heap.objs.size code fp [(h'.objs.size, ob)]
    have pe := hpe s4 H4 (cloFrom X.env.cells scope.names []) s4.heap.objs.size code fp [(h'.objs.size, ob)]
    generalize hge : genEnv scope (cloFrom X.env.cells scope.names []) s4.heap.objs.size code builtinsNs X.env = ge at I5 pg pe ⊢
    have hgsc : ge.scope = scope := by rw [← hge]; rfl
    refine hQ _ _ ⟨s4.gens.size, ?_, n, GSt (model X.prog X.w) X.A.in1.in1 (X.gen s4 H4 scope ge fp [(h'.objs.size, ob)]) (wipe σ (own.map (·.2))) fp tn s4.gens.size n V W, fun s' => ∃ H', Inv (X.gen s4 H4 scope ge fp [(h'.objs.size, ob)]) [] (wipe σ (own.map (·.2))) H' s' ∧ W n H', GV (X.gen s4 H4 scope ge fp [(h'.objs.size, ob)]) (wipe σ (own.map (·.2))) V, ?_, ?_, ?_, ?_, ?_⟩
    · obtain ⟨nm, qn, r⟩ := hobG
      exact ⟨ob, nm, qn, at5, r⟩
    · have j0 : GJ (X.gen s4 H4 scope ge fp [(h'.objs.size, ob)]) (wipe σ (own.map (·.2))) fp tn s4.gens.size W 0 _ := ⟨H4, I5, T.keep _ _ _ st4 fun b _ o e => keep5 b o e, n4, by show s4.gens.size < (s4.gens.push _).size; rw [Array.size_push]; exact Nat.lt_succ_self _, w0⟩
      refine ⟨j0, _, Array.getElem?_push_size .., rfl, ?_⟩
      exact seg_genxStart (X := X.gen s4 H4 scope ge fp [(h'.objs.size, ob)]) rfl hc rfl (by show ge.scope.isCoroutine = false; rw [hgsc]; exact hco) T pg pe rfl (fun b hb p hp => by
        have hp : p = (h'.objs.size, ob) := by simpa using hp
        rw [hp]
        exact Nat.ne_of_gt (Nat.lt_trans (f4 b hb).2 (by rw [hsz']; exact Nat.lt_succ_self _))) turn (j0.set rfl)
    · exact fun i s hi h => gst_item (X := X.gen s4 H4 scope ge fp [(h'.objs.size, ob)]) hr.hd (by have := hr.dp; show X.A.depth < _; omega) rfl hobG hi h
    · exact fun s h => gst_done (X := X.gen s4 H4 scope ge fp [(h'.objs.size, ob)]) hr.hd (by have := hr.dp; show X.A.depth < _; omega) rfl hobG h
    · rintro s' ⟨H', I', w'⟩
      exact ⟨.bl true, H', I4.call' (ch := fp) I'.os I'.base I'.hok I'.bare fun b hb => ⟨(f4 b hb).1.2.2.2.1, (f4 b hb).1.2.1, (f4 b hb).1.2.2.2.2.1, (f4 b hb).1.2.2.2.2.2⟩, rfl, hT H' w'⟩
    · rintro s' ⟨H', I', w'⟩
      exact ⟨.bl false, H', I4.call' (ch := fp) I'.os I'.base I'.hok I'.bare fun b hb => ⟨(f4 b hb).1.2.2.2.1, (f4 b hb).1.2.1, (f4 b hb).1.2.2.2.2.1, (f4 b hb).1.2.2.2.2.2⟩, rfl, hF H' w'⟩
  cases hf : codeAmong gpos ps.toList with
  | none =>
    refine wpAny_genexprCodeX hcode (cd.code hPs ht) (cd.tab hPs) hf fun c' h' tk hx hge hlt hco' _ htab' _ => ?_
    obtain ⟨o1, vs, f1, tf, fl, tg, inF, tx, tt, op, _, _, _, _, _, _, _, _, _, htr, _⟩ := hco'
    exact cont _ h' tk _ hx (Nat.le_trans hge (Nat.le_of_lt hlt)) htab'.2 ⟨_, rfl⟩ htr
  | some cv =>
    refine wpAny_genexprCode_hit hcode (cd.code hPs ht) hf ?_
    exact cont cv s2.heap s2.toks ps (Heap.ExtBut.refl _ _) (Nat.le_refl _) hPs ⟨#[], by simp⟩ ht
theorem pe_allG (hr : Room (k + 4) X.A) (hc : X.calm = true) (hN : X.N.Nodup) (hg : Gl X "all") (hm : X.mg "all" = none) (hb : bootBuiltins "all" = some (.builtin "all")) (TB : TabB X.base X.mg c P) (hcode : X.env.code = .ref c)
    (hco : scope.isCoroutine = false) (hcell : ∀ y ∈ scope.names, y.2 ≠ .cell) (h0 : scope.names.lookup (".0" : Str) = some NameKind.local) (ok : BlkOk X.N X.env.scope scope own) (hi : PI X tg iter wi)
    (hpg : ∀ (s : Shared) (H : Hp) (cl : List (Str × Addr)) (C : Addr) (code : Value) (fp : List Addr) (pn : List (Addr × Obj)), PG (X.gen s H scope (genEnv scope cl C code builtinsNs X.env) fp pn) tg gg)
    (hpe : ∀ (s : Shared) (H : Hp) (cl : List (Str × Addr)) (C : Addr) (code : Value) (fp : List Addr) (pn : List (Addr × Obj)), PE (X.gen s H scope (genEnv scope cl C code builtinsNs X.env) fp pn) elt te)
    (hs : ∀ v, genFold iter X.env v = pure v)
    (he : starEach [.GeneratorExp elt [⟨tg, iter, [], 0⟩] scope gpos] X.env = (false, eval (.GeneratorExp elt [⟨tg, iter, [], 0⟩] scope gpos) X.env) :: starEach [] X.env := by rfl) :
    PE X (.Call (.Name "all" p) [.GeneratorExp elt [⟨tg, iter, [], 0⟩] scope gpos] [] pos) (tAllG P wi gg te (own.map (·.2))) := by
  refine ⟨fun pins s σ H Q I h => ?_⟩
  refine wpAny_Call_Name_kw (ld_blt I hg hm hb ?_)
  refine PyProof.Rows.callWith_builtin1 ?_ he (by rfl)
  rw [he]
  show wpAny _ _ (spliced ((false, eval (.GeneratorExp elt [⟨tg, iter, [], 0⟩] scope gpos) X.env) :: backTo pos (starEach [] X.env))) _ _ s
  refine Calls.spliced_cons (gen_all hr hc hN TB hcode hco hcell h0 ok hi hpg hpe hs I h fun a s5 ⟨g, hgen, hR⟩ => ?_)
  refine Calls.spliced_nil ?_
  exact call_all_I (wpAny_pyIter_gen hgen hR)
end
end L2
namespace DL
open PySem L2
inductive D where
  | non | bl (b : Bool) | int (i : Int) | str (x : Str)
  | tup (xs : List D) | lst (xs : List D) | fl (xs : List D) | ins (c : Str) (fs : List (Str × D)) | xc (a dd : Addr) (x : D) | ct (xs : List D) | dk (ks : List (Int × D))
inductive CC where
  | lst (xs : List D) | dk (ks : List (Int × D)) | dt (ks : List (List Int × D))
inductive Sl where
  | no | dat (d : D) | cell (g : Nat)
abbrev Mem := List (Option CC)
structure S where
  r : List Sl
  M : Mem
structure G where
  K : PySem.W.Frag
  CA : Str → Addr
  /-- tables of code objects (they grow) -/
  TA : List Addr
structure Cs where
  cs : List (Option Addr)
  av : List Addr
def Cs.bad (w : Cs) (a : Addr) : Prop := some a ∈ w.cs ∨ a ∈ w.av
mutual
def Rep (g : G) (cs : Cs) (H : Hp) : D → V → Prop
  | .non, v => v = .non
  | .bl b, v => v = .bl b
  | .int i, v => v = .int i
  | .str x, v => v = .str x
  | .tup ds, v => ∃ a vs, v = .ref a ∧ ¬ cs.bad a ∧ H a = some (.tup vs) ∧ Reps g cs H ds vs
  | .lst ds, v => ∃ a vs, v = .ref a ∧ ¬ cs.bad a ∧ H a = some (.lst vs) ∧ Reps g cs H ds vs
  | .fl ds, v => ∃ a vs, v = .ref a ∧ ((¬ cs.bad a ∧ Rd H a (.lst vs)) ∨ ∃ (o : Obj) (its : Array Value) (n : Nat), g.K.lookup a = some o ∧ o.cls = .type "list" ∧ o.dict = none ∧ o.data = .seq its n ∧ its.size ≤ sizeLine ∧ Vals vs its.toList) ∧ Reps g cs H ds vs
  | .ins c fs, v => ∃ a dx fv, v = .ref a ∧ ¬ cs.bad a ∧ H a = some (.ins (g.CA c) dx fv) ∧ RepF g cs H fs fv
  | .ct ds, v => ∃ a vs, v = .ref a ∧ (∃ (o : Obj) (its : Array Value) (n : Nat), g.K.lookup a = some o ∧ o.cls = .type "tuple" ∧ o.data = .seq its n ∧ its.size ≤ sizeLine ∧ Vals vs its.toList) ∧ Reps g cs H ds vs
  | .dk ks, v => ∃ a o kvs, v = .ref a ∧ ¬ cs.bad a ∧ H a = some (.frz o (.dK kvs)) ∧ RepD g cs H ks kvs
  | .xc a dd x, v => ∃ u, v = .ref a ∧ ¬ cs.bad dd ∧ H dd = some (.xd [(("what" : Str), u)]) ∧ Rep g cs H x u
def Reps (g : G) (cs : Cs) (H : Hp) : List D → List V → Prop
  | [], vs => vs = []
  | d :: ds, vs => ∃ v r, vs = v :: r ∧ Rep g cs H d v ∧ Reps g cs H ds r
def RepF (g : G) (cs : Cs) (H : Hp) : List (Str × D) → List (Str × V) → Prop
  | [], vs => vs = []
  | p :: ds, vs => ∃ v r, vs = (p.1, v) :: r ∧ Rep g cs H p.2 v ∧ RepF g cs H ds r
def RepD (g : G) (cs : Cs) (H : Hp) : List (Int × D) → List (Key × V) → Prop
  | [], vs => vs = []
  | p :: ds, vs => ∃ v r, vs = (.inl p.1, v) :: r ∧ Rep g cs H p.2 v ∧ RepD g cs H ds r
end
def NT : HO → Prop
  | .tbl _ => False
  | _ => True
theorem nt_or : ∀ o : HO, NT o ∨ ∃ ps, o = .tbl ps := fun o => by cases o <;> first | exact .inr ⟨_, rfl⟩ | exact .inl trivial
structure HExtC (cs : List (Option Addr)) (H H' : Hp) : Prop where
  keep : ∀ a o, some a ∉ cs → H a = some o → NT o → H' a = some o
  grow : ∀ a ps, some a ∉ cs → H a = some (.tbl ps) → ∃ qs : Array Value, H' a = some (.tbl qs) ∧ (TriplesOk ps.toList → TriplesOk qs.toList)
abbrev HExt (w : Cs) (H H' : Hp) : Prop := HExtC w.cs H H'
theorem HExtC.app {cs : List (Option Addr)} {H H' : Hp} (h : HExtC cs H H') (a : Addr) (o : HO) (n : some a ∉ cs) (e : H a = some o) (nt : NT o := by exact True.intro) : H' a = some o := h.keep a o n e nt
instance (cs : List (Option Addr)) (H H' : Hp) : CoeFun (HExtC cs H H') (fun _ => ∀ a o, some a ∉ cs → H a = some o → (nt : NT o := by exact True.intro) → H' a = some o) := ⟨fun h => @HExtC.app cs H H' h⟩
theorem HExt.all {w : Cs} {H H' : Hp} (h : ∀ a o, some a ∉ w.cs → H a = some o → H' a = some o) : HExt w H H' := ⟨fun a o n e _ => h a o n e, fun a ps n e => ⟨ps, h a _ n e, id⟩⟩
theorem HExt.refl (w : Cs) (H : Hp) : HExt w H H := .all fun _ _ _ h => h
theorem HExt.trans {w : Cs} {H H1 H2 : Hp} (a : HExt w H H1) (b : HExt w H1 H2) : HExt w H H2 := ⟨fun x o n h nt => b.keep x o n (a.keep x o n h nt) nt, fun x ps n h => by
  obtain ⟨m1, e1, t1⟩ := a.grow x ps n h
  obtain ⟨m2, e2, t2⟩ := b.grow x _ n e1
  exact ⟨m2, e2, fun t => t2 (t1 t)⟩⟩
theorem HExt.of_same {w : Cs} {H H' : Hp} (h : Same H H') : HExt w H H' := .all fun a o _ e => h a o e
theorem HExt.ex {w : Cs} {H H' : Hp} (e : HExt w H H') {a : Addr} {o : HO} (n : some a ∉ w.cs) (h : H a = some o) : ∃ o', H' a = some o' := by
  rcases nt_or o with nt | ⟨ps, rfl⟩
  · exact ⟨o, e.keep a o n h nt⟩
  · obtain ⟨m, z, _⟩ := e.grow a ps n h
    exact ⟨_, z⟩
theorem HExt.tab {w : Cs} {H H' : Hp} (e : HExt w H H') {a : Addr} (n : some a ∉ w.cs) (h : GxR.TabG H a) : GxR.TabG H' a := by
  obtain ⟨ps, h, t⟩ := h
  obtain ⟨qs, z, t2⟩ := e.grow a ps n h
  exact ⟨qs, z, t2 t⟩
theorem HExt.non {w : Cs} {H H' : Hp} (e : HExt w H H') {a : Addr} (n : some a ∉ w.cs) (h : H' a = none) : H a = none := by
  cases z : H a with
  | none => rfl
  | some o =>
    obtain ⟨o', q⟩ := e.ex n z
    rw [h] at q; cases q
theorem HExt.updN {w : Cs} {H Hx : Hp} {p : Addr} {o : HO} (e : HExt w H Hx) (n : H p = none) : HExt w H (upd Hx p o) :=
  ⟨fun a u h eo nt => by rw [upd_ne (ne_of_none eo n)]; exact e.keep a u h eo nt, fun a ps h eo => by rw [upd_ne (ne_of_none eo n)]; exact e.grow a ps h eo⟩
theorem HExt.sub {w w' : Cs} {H H' : Hp} (e : HExt w' H H') (h : ∀ a, some a ∉ w.cs → some a ∉ w'.cs) : HExt w H H' := ⟨fun a o n => e.keep a o (h a n), fun a ps n => e.grow a ps (h a n)⟩
theorem HExt.rd {w : Cs} {H H' : Hp} {a : Addr} {u : HO} (e : HExt w H H') (n : ¬ w.bad a) (h : Rd H a u) (nt : NT u := by exact True.intro) : Rd H' a u := by
  have n : some a ∉ w.cs := fun z => n (.inl z)
  rcases h with h | ⟨o, h⟩
  · exact .inl (e _ _ n h nt)
  · exact .inr ⟨o, e _ _ n h⟩
structure Mv (w : Cs) (H : Hp) (w' : Cs) (H' : Hp) : Prop where
  ext : HExt w H H'
  fresh : ∀ a, w'.bad a → w.bad a ∨ H a = none
  pre : ∀ (c : Nat) (x : Option Addr), w.cs[c]? = some x → w'.cs[c]? = some x ∨ w'.cs[c]? = some none
  av : ∀ a, a ∈ w.av → some a ∈ w'.cs → some a ∈ w.cs
  avk : ∀ a, a ∈ w.av → a ∈ w'.av
theorem Mv.refl (w : Cs) (H : Hp) : Mv w H w H := ⟨HExt.refl _ _, fun _ h => .inl h, fun _ _ h => .inl h, fun _ _ h => h, fun _ h => h⟩
theorem Mv.of_ext {w : Cs} {H H' : Hp} (h : HExt w H H') : Mv w H w H' := ⟨h, fun _ h => .inl h, fun _ _ h => .inl h, fun _ _ h => h, fun _ h => h⟩
theorem Mv.of_same {w : Cs} {H H' : Hp} (h : Same H H') : Mv w H w H' := .of_ext (.of_same h)
theorem Mv.keep {w w' : Cs} {H H' : Hp} (m : Mv w H w' H') {a : Addr} {o : HO} (n : ¬ w.bad a) (h : H a = some o) : ¬ w'.bad a := fun z => by
  rcases m.fresh a z with q | q
  · exact n q
  · rw [h] at q; cases q
theorem Mv.at_ {w w' : Cs} {H H' : Hp} (m : Mv w H w' H') {a : Addr} {o : HO} (n : ¬ w.bad a) (h : H a = some o) (nt : NT o := by exact True.intro) : H' a = some o := m.ext.keep a o (fun z => n (.inl z)) h nt
theorem Mv.trans {w w1 w2 : Cs} {H H1 H2 : Hp} (a : Mv w H w1 H1) (b : Mv w1 H1 w2 H2) (hw : ∀ x, x ∈ w.av → some x ∉ w.cs ∧ ∃ o, H x = some o) : Mv w H w2 H2 := by
  have fr : ∀ x, w2.bad x → w.bad x ∨ H x = none := fun x z => by
    rcases b.fresh x z with q | q
    · exact a.fresh x q
    · by_cases c : w.bad x
      · exact .inl c
      · exact .inr (a.ext.non (fun z => c (.inl z)) q)
  have nc : ∀ x o, some x ∉ w.cs → H x = some o → some x ∉ w1.cs := fun x o n h c => by
    rcases a.fresh x (.inl c) with (q | q) | q
    · exact absurd q n
    · exact absurd (a.av x q c) n
    · rw [h] at q; cases q
  refine ⟨⟨fun x o n h nt => b.ext.keep x o (nc x o n h) (a.ext.keep x o n h nt) nt, fun x ps n h => ?_⟩, fr, fun c x e => ?_, fun x hx z => ?_, fun x hx => b.avk x (a.avk x hx)⟩
  · obtain ⟨m1, e1, t1⟩ := a.ext.grow x ps n h
    obtain ⟨m2, e2, t2⟩ := b.ext.grow x _ (nc x _ n h) e1
    exact ⟨m2, e2, fun t => t2 (t1 t)⟩
  · rcases a.pre c x e with q | q
    · exact b.pre c x q
    · rcases b.pre c none q with r | r
      · exact .inr r
      · exact .inr r
  · obtain ⟨n, o, h⟩ := hw x hx
    exfalso
    by_cases c : some x ∈ w1.cs
    · exact n (a.av x hx c)
    · obtain ⟨_, h1⟩ := a.ext.ex n h
      rcases b.fresh x (.inl z) with (q | q) | q
      · exact c q
      · exact c (b.av x q z)
      · rw [h1] at q; cases q
mutual
theorem Rep.genN {g : G} {cs cs' : Cs} {H H' : Hp} (m : ∀ a o, ¬ cs.bad a → H a = some o → NT o → H' a = some o ∧ ¬ cs'.bad a) : ∀ {d : D} {v : V}, Rep g cs H d v → Rep g cs' H' d v
  | .non, _, h => by simpa only [Rep] using h
  | .bl _, _, h => by simpa only [Rep] using h
  | .int _, _, h => by simpa only [Rep] using h
  | .str _, _, h => by simpa only [Rep] using h
  | .tup ds, v, h => by
    simp only [Rep] at h ⊢
    obtain ⟨a, vs, e, n, q, r⟩ := h
    exact ⟨a, vs, e, (m _ _ n q trivial).2, (m _ _ n q trivial).1, Reps.genN m r⟩
  | .lst ds, v, h => by
    simp only [Rep] at h ⊢
    obtain ⟨a, vs, e, n, q, r⟩ := h
    exact ⟨a, vs, e, (m _ _ n q trivial).2, (m _ _ n q trivial).1, Reps.genN m r⟩
  | .fl ds, v, h => by
    simp only [Rep] at h ⊢
    obtain ⟨a, vs, e, n, r⟩ := h
    refine ⟨a, vs, e, ?_, Reps.genN m r⟩
    rcases n with ⟨n, q⟩ | n
    · rcases q with q | ⟨o, q⟩
      · exact .inl ⟨(m _ _ n q trivial).2, .inl (m _ _ n q trivial).1⟩
      · exact .inl ⟨(m _ _ n q trivial).2, .inr ⟨o, (m _ _ n q trivial).1⟩⟩
    · exact .inr n
  | .ins c fs, v, h => by
    simp only [Rep] at h ⊢
    obtain ⟨a, dx, fv, e, n, q, r⟩ := h
    exact ⟨a, dx, fv, e, (m _ _ n q trivial).2, (m _ _ n q trivial).1, RepF.genN m r⟩
  | .dk ks, v, h => by
    simp only [Rep] at h ⊢
    obtain ⟨a, o, kvs, e, n, q, r⟩ := h
    exact ⟨a, o, kvs, e, (m _ _ n q trivial).2, (m _ _ n q trivial).1, RepD.genN m r⟩
  | .xc a dd x, v, h => by
    simp only [Rep] at h ⊢
    obtain ⟨u, e, n, q, r⟩ := h
    exact ⟨u, e, (m _ _ n q trivial).2, (m _ _ n q trivial).1, Rep.genN m r⟩
  | .ct ds, v, h => by
    simp only [Rep] at h ⊢
    obtain ⟨a, vs, e, n, r⟩ := h
    exact ⟨a, vs, e, n, Reps.genN m r⟩
theorem Reps.genN {g : G} {cs cs' : Cs} {H H' : Hp} (m : ∀ a o, ¬ cs.bad a → H a = some o → NT o → H' a = some o ∧ ¬ cs'.bad a) : ∀ {ds : List D} {vs : List V}, Reps g cs H ds vs → Reps g cs' H' ds vs
  | [], _, h => by simpa only [Reps] using h
  | d :: ds, _, h => by
    simp only [Reps] at h ⊢
    obtain ⟨v, r, e, q, z⟩ := h
    exact ⟨v, r, e, Rep.genN m q, Reps.genN m z⟩
theorem RepF.genN {g : G} {cs cs' : Cs} {H H' : Hp} (m : ∀ a o, ¬ cs.bad a → H a = some o → NT o → H' a = some o ∧ ¬ cs'.bad a) : ∀ {ds : List (Str × D)} {vs : List (Str × V)}, RepF g cs H ds vs → RepF g cs' H' ds vs
  | [], _, h => by simpa only [RepF] using h
  | p :: ds, _, h => by
    simp only [RepF] at h ⊢
    obtain ⟨v, r, e, q, z⟩ := h
    exact ⟨v, r, e, Rep.genN m q, RepF.genN m z⟩
theorem RepD.genN {g : G} {cs cs' : Cs} {H H' : Hp} (m : ∀ a o, ¬ cs.bad a → H a = some o → NT o → H' a = some o ∧ ¬ cs'.bad a) : ∀ {ds : List (Int × D)} {vs : List (Key × V)}, RepD g cs H ds vs → RepD g cs' H' ds vs
  | [], _, h => by simpa only [RepD] using h
  | p :: ds, _, h => by
    simp only [RepD] at h ⊢
    obtain ⟨v, r, e, q, z⟩ := h
    exact ⟨v, r, e, Rep.genN m q, RepD.genN m z⟩
end
theorem Rep.gen {g : G} {cs cs' : Cs} {H H' : Hp} (m : ∀ a o, ¬ cs.bad a → H a = some o → H' a = some o ∧ ¬ cs'.bad a) {d : D} {v : V} (h : Rep g cs H d v) : Rep g cs' H' d v := Rep.genN (fun a o n e _ => m a o n e) h
theorem Reps.gen {g : G} {cs cs' : Cs} {H H' : Hp} (m : ∀ a o, ¬ cs.bad a → H a = some o → H' a = some o ∧ ¬ cs'.bad a) {d : List D} {v : List V} (h : Reps g cs H d v) : Reps g cs' H' d v := Reps.genN (fun a o n e _ => m a o n e) h
theorem RepF.gen {g : G} {cs cs' : Cs} {H H' : Hp} (m : ∀ a o, ¬ cs.bad a → H a = some o → H' a = some o ∧ ¬ cs'.bad a) {d : List (Str × D)} {v : List (Str × V)} (h : RepF g cs H d v) : RepF g cs' H' d v := RepF.genN (fun a o n e _ => m a o n e) h
theorem RepD.gen {g : G} {cs cs' : Cs} {H H' : Hp} (m : ∀ a o, ¬ cs.bad a → H a = some o → H' a = some o ∧ ¬ cs'.bad a) {d : List (Int × D)} {v : List (Key × V)} (h : RepD g cs H d v) : RepD g cs' H' d v := RepD.genN (fun a o n e _ => m a o n e) h
theorem Mv.k {w w' : Cs} {H H' : Hp} (m : Mv w H w' H') : ∀ a o, ¬ w.bad a → H a = some o → NT o → H' a = some o ∧ ¬ w'.bad a := fun _ _ n e nt => ⟨m.at_ n e nt, m.keep n e⟩
theorem Rep.mv {g : G} {w w' : Cs} {H H' : Hp} {d : D} {v : V} (h : Rep g w H d v) (m : Mv w H w' H') : Rep g w' H' d v := Rep.genN m.k h
theorem Reps.mv {g : G} {w w' : Cs} {H H' : Hp} {d : List D} {v : List V} (h : Reps g w H d v) (m : Mv w H w' H') : Reps g w' H' d v := Reps.genN m.k h
section
variable {g : G} {cs : Cs} {H : Hp}
theorem Reps.len : ∀ {ds : List D} {vs : List V}, Reps g cs H ds vs → vs.length = ds.length
  | [], _, h => by simp only [Reps] at h; subst h; rfl
  | d :: ds, _, h => by
    simp only [Reps] at h
    obtain ⟨v, r, e, _, z⟩ := h
    subst e
    rw [List.length_cons, List.length_cons, Reps.len z]
theorem Reps.get : ∀ {ds : List D} {vs : List V}, Reps g cs H ds vs → ∀ {i : Nat} {v : V}, vs[i]? = some v → ∃ d, ds[i]? = some d ∧ Rep g cs H d v
  | [], _, h, i, v, e => by simp only [Reps] at h; subst h; simp at e
  | d :: ds, _, h, i, v, e => by
    simp only [Reps] at h
    obtain ⟨w, r, e1, q, z⟩ := h
    subst e1
    cases i with
    | zero => simp at e; subst e; exact ⟨d, rfl, q⟩
    | succ i => simp at e; exact Reps.get z e
theorem Reps.get' : ∀ {ds : List D} {vs : List V}, Reps g cs H ds vs → ∀ {i : Nat} {d : D}, ds[i]? = some d → ∃ v, vs[i]? = some v ∧ Rep g cs H d v
  | [], _, h, i, v, e => by simp at e
  | d :: ds, _, h, i, v, e => by
    simp only [Reps] at h
    obtain ⟨w, r, e1, q, z⟩ := h
    subst e1
    cases i with
    | zero => simp at e; subst e; exact ⟨w, rfl, q⟩
    | succ i => simp at e; exact Reps.get' z e
theorem Reps.nil : Reps g cs H [] [] := by simp only [Reps]
theorem Reps.cons {d : D} {v : V} {ds : List D} {vs : List V} (a : Rep g cs H d v) (b : Reps g cs H ds vs) : Reps g cs H (d :: ds) (v :: vs) := by
  simp only [Reps]
  exact ⟨v, vs, rfl, a, b⟩
theorem Reps.app : ∀ {ds es : List D} {vs ws : List V}, Reps g cs H ds vs → Reps g cs H es ws → Reps g cs H (ds ++ es) (vs ++ ws)
  | [], _, _, _, h, k => by simp only [Reps] at h; subst h; exact k
  | d :: ds, _, _, _, h, k => by
    simp only [Reps] at h
    obtain ⟨v, r, e, q, z⟩ := h
    subst e
    exact Reps.cons q (Reps.app z k)
theorem Reps.drop : ∀ (n : Nat) {ds : List D} {vs : List V}, Reps g cs H ds vs → Reps g cs H (ds.drop n) (vs.drop n)
  | 0, _, _, h => h
  | n + 1, [], _, h => by simp only [Reps] at h; subst h; exact Reps.nil
  | n + 1, d :: ds, _, h => by
    simp only [Reps] at h
    obtain ⟨v, r, e, q, z⟩ := h
    subst e
    exact Reps.drop n z
theorem Reps.take : ∀ (n : Nat) {ds : List D} {vs : List V}, Reps g cs H ds vs → Reps g cs H (ds.take n) (vs.take n)
  | 0, _, _, h => Reps.nil
  | n + 1, [], _, h => by simp only [Reps] at h; subst h; exact Reps.nil
  | n + 1, d :: ds, _, h => by
    simp only [Reps] at h
    obtain ⟨v, r, e, q, z⟩ := h
    subst e
    exact Reps.cons q (Reps.take n z)
theorem Reps.set : ∀ (n : Nat) {ds : List D} {vs : List V} {d : D} {v : V}, Reps g cs H ds vs → Rep g cs H d v → Reps g cs H (ds.set n d) (vs.set n v)
  | _, [], _, _, _, h, k => by simp only [Reps] at h; subst h; exact Reps.nil
  | 0, d :: ds, _, _, _, h, k => by
    simp only [Reps] at h
    obtain ⟨v, r, e, q, z⟩ := h
    subst e
    exact Reps.cons k z
  | n + 1, d :: ds, _, _, _, h, k => by
    simp only [Reps] at h
    obtain ⟨v, r, e, q, z⟩ := h
    subst e
    exact Reps.cons q (Reps.set n z k)
theorem Reps.erase : ∀ (n : Nat) {ds : List D} {vs : List V}, Reps g cs H ds vs → Reps g cs H (ds.eraseIdx n) (vs.eraseIdx n)
  | _, [], _, h => by simp only [Reps] at h; subst h; exact Reps.nil
  | 0, d :: ds, _, h => by
    simp only [Reps] at h
    obtain ⟨v, r, e, q, z⟩ := h
    subst e
    exact z
  | n + 1, d :: ds, _, h => by
    simp only [Reps] at h
    obtain ⟨v, r, e, q, z⟩ := h
    subst e
    exact Reps.cons q (Reps.erase n z)
theorem Reps.of_ints : ∀ (ns : List Int), Reps g cs H (ns.map D.int) (ns.map V.int)
  | [] => Reps.nil
  | n :: ns => Reps.cons (by simp only [Rep]) (Reps.of_ints ns)
theorem Rep.tup {ds : List D} {vs : List V} {a : Addr} (n : ¬ cs.bad a) (h : H a = some (.tup vs)) (r : Reps g cs H ds vs) : Rep g cs H (.tup ds) (.ref a) := by
  simp only [Rep]
  exact ⟨a, vs, rfl, n, h, r⟩
theorem Rep.lst {ds : List D} {vs : List V} {a : Addr} (n : ¬ cs.bad a) (h : H a = some (.lst vs)) (r : Reps g cs H ds vs) : Rep g cs H (.lst ds) (.ref a) := by
  simp only [Rep]
  exact ⟨a, vs, rfl, n, h, r⟩
end
def RepK {α β : Type} (g : G) (w : Cs) (H : Hp) (enc : α → β) : List (α × D) → List (β × V) → Prop
  | [], ws => ws = []
  | p :: ks, ws => ∃ v r, ws = (enc p.1, v) :: r ∧ Rep g w H p.2 v ∧ RepK g w H enc ks r
theorem RepK.genN {α β : Type} {enc : α → β} {g : G} {cs cs' : Cs} {H H' : Hp} (m : ∀ a o, ¬ cs.bad a → H a = some o → NT o → H' a = some o ∧ ¬ cs'.bad a) : ∀ {ks : List (α × D)} {ws : List (β × V)}, RepK g cs H enc ks ws → RepK g cs' H' enc ks ws
  | [], _, h => h
  | _ :: _, _, ⟨v, r, e, q, z⟩ => ⟨v, r, e, Rep.genN m q, RepK.genN m z⟩
theorem RepK.gen {α β : Type} {enc : α → β} {g : G} {cs cs' : Cs} {H H' : Hp} (m : ∀ a o, ¬ cs.bad a → H a = some o → H' a = some o ∧ ¬ cs'.bad a) {ks : List (α × D)} {ws : List (β × V)} (h : RepK g cs H enc ks ws) : RepK g cs' H' enc ks ws := RepK.genN (fun a o n e _ => m a o n e) h
theorem RepK.mv {α β : Type} {enc : α → β} {g : G} {w w' : Cs} {H H' : Hp} {ks : List (α × D)} {ws : List (β × V)} (h : RepK g w H enc ks ws) (m : Mv w H w' H') : RepK g w' H' enc ks ws := RepK.genN m.k h
abbrev encI : Int → L2.Key := Sum.inl
abbrev encT : List Int → List L2.Key := fun ks => ks.map Sum.inl
def CellOk (g : G) (w : Cs) (H : Hp) : CC → Addr → Prop
  | .lst ds, a => ∃ vs, H a = some (.lst vs) ∧ Reps g w H ds vs
  | .dk ks, a => ∃ ws, H a = some (.dK ws) ∧ RepK g w H encI ks ws
  | .dt ks, a => ∃ ws, H a = some (.dT ws) ∧ RepK g w H encT ks ws
def SlOk (g : G) (w : Cs) (H : Hp) (σ : L2.St) (i : Nat) : Sl → Prop
  | .no => True
  | .dat d => ∃ v, σ[i]? = some (some v) ∧ Rep g w H d v
  | .cell c => ∃ a, w.cs[c]? = some (some a) ∧ σ[i]? = some (some (.ref a))
structure MemOk (g : G) (w : Cs) (H : Hp) (M : Mem) : Prop where
  len : w.cs.length = M.length
  at_ : ∀ (c : Nat) (x : CC), M[c]? = some (some x) → ∃ a, w.cs[c]? = some (some a) ∧ CellOk g w H x a
  live : ∀ (c : Nat) (a : Addr), w.cs[c]? = some (some a) → ∃ x, M[c]? = some (some x)
  inj : ∀ (c c' : Nat) (a : Addr), w.cs[c]? = some (some a) → w.cs[c']? = some (some a) → c = c'
  av : ∀ a, a ∈ w.av → some a ∉ w.cs ∧ ∃ o, H a = some o
  tabs : ∀ a, a ∈ g.TA → ¬ w.bad a ∧ GxR.TabG H a
theorem tab_upd {H : Hp} {a p : Addr} {o : HO} (h : GxR.TabG H a) (n : a ≠ p) : GxR.TabG (upd H p o) a := by
  obtain ⟨ps, e, t⟩ := h
  exact ⟨ps, by rw [upd_ne n]; exact e, t⟩
theorem tab_new {H : Hp} {a p : Addr} (h : GxR.TabG H a) (n : H p = none) : a ≠ p := fun z => by
  obtain ⟨ps, e, t⟩ := h
  rw [z, n] at e; cases e
structure RS (g : G) (w : Cs) (H : Hp) (σ : L2.St) (s : S) : Prop where
  len : σ.length = s.r.length
  slot : ∀ (i : Nat) (x : Sl), s.r[i]? = some x → SlOk g w H σ i x
  mem : MemOk g w H s.M
section
variable {g : G} {w w' : Cs} {H H' : Hp} {σ : L2.St} {s : S} {M M' : Mem}
theorem CellOk.tracked {x : CC} {a : Addr} (h : CellOk g w H x a) : ∃ o, H a = some o := by
  cases x with
  | lst ds => obtain ⟨vs, h, _⟩ := h; exact ⟨_, h⟩
  | dk ds => obtain ⟨vs, h, _⟩ := h; exact ⟨_, h⟩
  | dt ds => obtain ⟨vs, h, _⟩ := h; exact ⟨_, h⟩
theorem CellOk.trackedN {x : CC} {a : Addr} (h : CellOk g w H x a) : ∃ o, H a = some o ∧ NT o := by
  cases x with
  | lst ds => obtain ⟨vs, h, _⟩ := h; exact ⟨_, h, trivial⟩
  | dk ds => obtain ⟨vs, h, _⟩ := h; exact ⟨_, h, trivial⟩
  | dt ds => obtain ⟨vs, h, _⟩ := h; exact ⟨_, h, trivial⟩
theorem MemOk.tracked (m : MemOk g w H M) {a : Addr} (h : w.bad a) : ∃ o, H a = some o := by
  rcases h with h | h
  · obtain ⟨c, e⟩ := List.getElem?_of_mem h
    obtain ⟨x, ex⟩ := m.live c a e
    obtain ⟨b, eb, q⟩ := m.at_ c x ex
    rw [e] at eb
    cases eb
    exact q.tracked
  · exact (m.av a h).2
theorem MemOk.fresh (m : MemOk g w H M) {a : Addr} (h : H a = none) : ¬ w.bad a := fun z => by
  obtain ⟨o, e⟩ := m.tracked z
  rw [h] at e
  cases e
theorem CellOk.mv {x : CC} {a : Addr} (h : CellOk g w H x a) (m : Mv w H w' H') (e : H' a = H a) : CellOk g w' H' x a := by
  cases x with
  | lst ds => obtain ⟨vs, q, r⟩ := h; exact ⟨vs, e.trans q, r.mv m⟩
  | dk ds => obtain ⟨vs, q, r⟩ := h; exact ⟨vs, e.trans q, r.mv m⟩
  | dt ds => obtain ⟨vs, q, r⟩ := h; exact ⟨vs, e.trans q, r.mv m⟩
theorem MemOk.same (m : MemOk g w H M) (h : Same H H') : MemOk g w H' M := by
  refine ⟨m.len, fun c x e => ?_, m.live, m.inj, fun a ha => ?_, fun a ha => ?_⟩
  · obtain ⟨a, ea, q⟩ := m.at_ c x e
    obtain ⟨o, eo⟩ := q.tracked
    exact ⟨a, ea, q.mv (.of_same h) ((h _ _ eo).trans eo.symm)⟩
  · obtain ⟨n, o, e⟩ := m.av a ha
    exact ⟨n, o, h _ _ e⟩
  · obtain ⟨n, ps, e, t⟩ := m.tabs a ha
    exact ⟨n, ps, h _ _ e, t⟩
theorem SlOk.mv {i : Nat} {x : Sl} (h : SlOk g w H σ i x) (m : HExt w H H') : SlOk g w H' σ i x := by
  cases x with
  | no => trivial
  | dat d => obtain ⟨v, e, q⟩ := h; exact ⟨v, e, q.mv (.of_ext m)⟩
  | cell c => exact h
theorem RS.same (r : RS g w H σ s) (h : Same H H') : RS g w H' σ s :=
  ⟨r.len, fun i x e => (r.slot i x e).mv (.of_same h), r.mem.same h⟩
theorem HExtC.all_ {H H' : Hp} (e : HExtC [] H H') : HExt w H H' := ⟨fun a o _ => e.keep a o (by simp), fun a ps _ => e.grow a ps (by simp)⟩
theorem MemOk.grown (m : MemOk g w H M) (h : HExtC [] H H') : MemOk g w H' M := by
  refine ⟨m.len, fun c x e => ?_, m.live, m.inj, fun a ha => ?_, fun a ha => ⟨(m.tabs a ha).1, HExt.tab (w := ⟨[], []⟩) h (by simp) (m.tabs a ha).2⟩⟩
  · obtain ⟨a, ea, q⟩ := m.at_ c x e
    obtain ⟨o, eo, nt⟩ := q.trackedN
    exact ⟨a, ea, q.mv (.of_ext h.all_) ((h.keep _ _ (by simp) eo nt).trans eo.symm)⟩
  · obtain ⟨n, o, e⟩ := m.av a ha
    exact ⟨n, HExt.ex (w := ⟨[], []⟩) h (by simp) e⟩
theorem RS.grown (r : RS g w H σ s) (h : HExtC [] H H') : RS g w H' σ s :=
  ⟨r.len, fun i x e => (r.slot i x e).mv h.all_, r.mem.grown h⟩
theorem RS.mem' (r : RS g w H σ s) (h : HExt w H H') (m : MemOk g w H' M') : RS g w H' σ { s with M := M' } :=
  ⟨r.len, fun i x e => (r.slot i x e).mv h, m⟩
theorem RS.put {x : Sl} {o : Option V} {i : Nat} (r : RS g w H σ s) (q : ∀ σ' : L2.St, σ'[i]? = some o → SlOk g w H σ' i x) : RS g w H (σ.set i o) { s with r := s.r.set i x } := by
  refine ⟨by simp [r.len], fun j y e => ?_, r.mem⟩
  have e : (s.r.set i x)[j]? = some y := e
  by_cases hj : i = j
  · subst hj
    have hi : i < s.r.length := by
      have z := (List.getElem?_eq_some_iff.mp e).1
      simpa using z
    rw [List.getElem?_set_self hi] at e
    cases e
    exact q _ (List.getElem?_set_self (by rw [r.len]; exact hi))
  · rw [List.getElem?_set_ne hj] at e
    have z := r.slot j y e
    cases y with
    | no => trivial
    | dat d => obtain ⟨w, e, q⟩ := z; exact ⟨w, by rw [List.getElem?_set_ne hj]; exact e, q⟩
    | cell c => obtain ⟨a, e1, e2⟩ := z; exact ⟨a, e1, by rw [List.getElem?_set_ne hj]; exact e2⟩
theorem RS.set {d : D} {v : V} {i : Nat} (r : RS g w H σ s) (q : Rep g w H d v) : RS g w H (σ.set i (some v)) { s with r := s.r.set i (.dat d) } := r.put fun _ e => ⟨v, e, q⟩
theorem RS.setNo {o : Option V} {i : Nat} (r : RS g w H σ s) : RS g w H (σ.set i o) { s with r := s.r.set i .no } := r.put fun _ _ => trivial
theorem same_upd {p : Addr} {o : HO} (h : H p = none) : Same H (upd H p o) := fun b u e => by
  rw [upd_ne (ne_of_none e h)]
  exact e
abbrev Cs.out (w : Cs) (p : Addr) : Cs := { w with av := p :: w.av }
theorem Cs.out_bad {p a : Addr} (h : (w.out p).bad a) : w.bad a ∨ a = p := by
  rcases h with h | h
  · exact .inl (.inl h)
  · rcases List.mem_cons.mp h with h | h
    · exact .inr h
    · exact .inl (.inr h)
theorem mv_out {p : Addr} (e : HExt w H H') (n : H p = none) : Mv w H (w.out p) H' := by
  refine ⟨e, fun a h => ?_, fun _ _ h => .inl h, fun _ _ h => h, fun _ h => List.mem_cons_of_mem _ h⟩
  rcases Cs.out_bad h with h | h
  · exact .inl h
  · exact .inr (by rw [h]; exact n)
theorem k_in {p : Addr} : ∀ a o, ¬ (w.out p).bad a → H a = some o → H a = some o ∧ ¬ w.bad a := fun a o n e => ⟨e, fun z => n (z.elim .inl fun z => .inr (List.mem_cons_of_mem _ z))⟩
theorem RS.out {p : Addr} {o : HO} (r : RS g w H σ s) (n : H p = none) : RS g (w.out p) (upd H p o) σ s := by
  have m : Mv w H (w.out p) (upd H p o) := mv_out (.of_same (same_upd n)) n
  refine ⟨r.len, fun i x e => ?_, ⟨r.mem.len, fun c x e => ?_, r.mem.live, r.mem.inj, fun a ha => ?_, fun a ha => ⟨fun z => (Cs.out_bad z).elim (r.mem.tabs a ha).1 (tab_new (r.mem.tabs a ha).2 n), tab_upd (r.mem.tabs a ha).2 (tab_new (r.mem.tabs a ha).2 n)⟩⟩⟩
  · have z := r.slot i x e
    cases x with
    | no => trivial
    | dat d => obtain ⟨v, e, q⟩ := z; exact ⟨v, e, q.mv m⟩
    | cell c => exact z
  · obtain ⟨a, ea, q⟩ := r.mem.at_ c x e
    obtain ⟨u, eu⟩ := q.tracked
    exact ⟨a, ea, q.mv m (upd_ne (ne_of_none eu n))⟩
  · rcases List.mem_cons.mp ha with e | ha
    · subst e
      exact ⟨fun z => r.mem.fresh n (.inl z), o, upd_same⟩
    · obtain ⟨z, u, e⟩ := r.mem.av a ha
      exact ⟨z, u, by rw [upd_ne (ne_of_none e n)]; exact e⟩
theorem RS.inn {p : Addr} (r : RS g (w.out p) H σ s) : RS g w H σ s := by
  refine ⟨r.len, fun i x e => ?_, ⟨r.mem.len, fun c x e => ?_, r.mem.live, r.mem.inj, fun a ha => r.mem.av a (List.mem_cons_of_mem _ ha), fun a ha => ⟨fun z => (r.mem.tabs a ha).1 (z.elim .inl fun z => .inr (List.mem_cons_of_mem _ z)), (r.mem.tabs a ha).2⟩⟩⟩
  · have z := r.slot i x e
    cases x with
    | no => trivial
    | dat d => obtain ⟨v, e, q⟩ := z; exact ⟨v, e, Rep.gen k_in q⟩
    | cell c => exact z
  · obtain ⟨a, ea, q⟩ := r.mem.at_ c x e
    cases x with
    | lst ds => obtain ⟨vs, q, r⟩ := q; exact ⟨a, ea, vs, q, Reps.gen k_in r⟩
    | dk ds => obtain ⟨vs, q, r⟩ := q; exact ⟨a, ea, vs, q, RepK.gen k_in r⟩
    | dt ds => obtain ⟨vs, q, r⟩ := q; exact ⟨a, ea, vs, q, RepK.gen k_in r⟩
theorem upd_k {p : Addr} {o : HO} (hp : w.bad p) : ∀ a u, ¬ w.bad a → H a = some u → upd H p o a = some u ∧ ¬ w.bad a := fun a u n e =>
  ⟨by rw [upd_ne (fun z => n (by rw [z]; exact hp))]; exact e, n⟩
theorem CellOk.genN {x : CC} {a : Addr} (h : CellOk g w H x a) (k : ∀ a u, ¬ w.bad a → H a = some u → NT u → H' a = some u ∧ ¬ w'.bad a) (e : H' a = H a) : CellOk g w' H' x a := by
  cases x with
  | lst ds => obtain ⟨vs, q, r⟩ := h; exact ⟨vs, e.trans q, Reps.genN k r⟩
  | dk ds => obtain ⟨vs, q, r⟩ := h; exact ⟨vs, e.trans q, RepK.genN k r⟩
  | dt ds => obtain ⟨vs, q, r⟩ := h; exact ⟨vs, e.trans q, RepK.genN k r⟩
theorem CellOk.gen {x : CC} {a : Addr} (h : CellOk g w H x a) (k : ∀ a u, ¬ w.bad a → H a = some u → H' a = some u ∧ ¬ w'.bad a) (e : H' a = H a) : CellOk g w' H' x a := h.genN (fun a u n q _ => k a u n q) e
theorem RS.updOut {p : Addr} {o : HO} (r : RS g w H σ s) (hp : p ∈ w.av) : RS g w (upd H p o) σ s := by
  have k := upd_k (H := H) (o := o) (w := w) (.inr hp)
  have nc := (r.mem.av p hp).1
  refine ⟨r.len, fun i x e => ?_, ⟨r.mem.len, fun c x e => ?_, r.mem.live, r.mem.inj, fun a ha => ?_, fun a ha => ⟨(r.mem.tabs a ha).1, tab_upd (r.mem.tabs a ha).2 fun z => (r.mem.tabs a ha).1 (.inr (by rw [z]; exact hp))⟩⟩⟩
  · have z := r.slot i x e
    cases x with
    | no => trivial
    | dat d => obtain ⟨v, e, q⟩ := z; exact ⟨v, e, Rep.gen k q⟩
    | cell c => exact z
  · obtain ⟨a, ea, q⟩ := r.mem.at_ c x e
    exact ⟨a, ea, q.gen k (upd_ne fun z => nc (by rw [← z]; exact List.mem_of_getElem? ea))⟩
  · obtain ⟨n, u, e⟩ := r.mem.av a ha
    by_cases h : a = p
    · exact ⟨n, o, by rw [h]; exact upd_same⟩
    · exact ⟨n, u, by rw [upd_ne h]; exact e⟩
theorem RS.updCellG {c : Nat} {p : Addr} {x0 : CC} {o : HO} (r : RS g w H σ s) (hc : w.cs[c]? = some (some p)) (hx : CellOk g w (upd H p o) x0 p) : RS g w (upd H p o) σ { s with M := s.M.set c (some x0) } := by
  have hp : w.bad p := .inl (List.mem_of_getElem? hc)
  have k := upd_k (H := H) (o := o) (w := w) hp
  have hcl : c < s.M.length := by rw [← r.mem.len]; exact (List.getElem?_eq_some_iff.mp hc).1
  refine ⟨r.len, fun i x e => ?_, ⟨by simp [r.mem.len], fun j x e => ?_, fun j a e => ?_, r.mem.inj, fun a ha => ?_, fun a ha => ⟨(r.mem.tabs a ha).1, tab_upd (r.mem.tabs a ha).2 fun z => (r.mem.tabs a ha).1 (by rw [z]; exact hp)⟩⟩⟩
  · have z := r.slot i x e
    cases x with
    | no => trivial
    | dat d => obtain ⟨v, e, q⟩ := z; exact ⟨v, e, Rep.gen k q⟩
    | cell c => exact z
  · have e : (s.M.set c (some x0))[j]? = some (some x) := e
    by_cases hj : c = j
    · subst hj
      rw [List.getElem?_set_self hcl] at e
      cases e
      exact ⟨p, hc, hx⟩
    · rw [List.getElem?_set_ne hj] at e
      obtain ⟨a, ea, q⟩ := r.mem.at_ j x e
      exact ⟨a, ea, q.gen k (upd_ne fun z => hj (r.mem.inj c j p hc (by rw [ea, z])))⟩
  · obtain ⟨x, ex⟩ := r.mem.live j a e
    by_cases hj : c = j
    · subst hj
      exact ⟨_, List.getElem?_set_self hcl⟩
    · exact ⟨x, by show (s.M.set c _)[j]? = _; rw [List.getElem?_set_ne hj]; exact ex⟩
  · obtain ⟨n, u, e⟩ := r.mem.av a ha
    refine ⟨n, u, ?_⟩
    rw [upd_ne fun z => n (by rw [z]; exact List.mem_of_getElem? hc)]
    exact e
theorem RS.updCell {c : Nat} {p : Addr} {ds : List D} {vs : List V} (r : RS g w H σ s) (hc : w.cs[c]? = some (some p)) (hv : Reps g w H ds vs) : RS g w (upd H p (.lst vs)) σ { s with M := s.M.set c (some (.lst ds)) } :=
  r.updCellG hc ⟨vs, upd_same, Reps.gen (upd_k (.inl (List.mem_of_getElem? hc))) hv⟩
theorem upd_cell_ext {c : Nat} {p : Addr} {o : HO} (hc : w.cs[c]? = some (some p)) : HExt w H (upd H p o) := .all fun a u n e => by
  rw [upd_ne fun z => n (by rw [z]; exact List.mem_of_getElem? hc)]
  exact e
abbrev Cs.cell (w : Cs) (p : Addr) : Cs := { w with cs := w.cs ++ [some p] }
theorem Cs.cell_bad {p a : Addr} : (w.cell p).bad a ↔ (w.out p).bad a := by
  simp only [Cs.bad, List.mem_append, List.mem_cons, List.not_mem_nil, or_false, Option.some.injEq]
  constructor
  · rintro ((h | h) | h)
    · exact .inl h
    · exact .inr (.inl h)
    · exact .inr (.inr h)
  · rintro (h | h | h)
    · exact .inl (.inl h)
    · exact .inl (.inr h)
    · exact .inr h
theorem RS.toCellG {p : Addr} {x0 : CC} (r : RS g (w.out p) H σ s) (hp : ¬ w.bad p) (hx : CellOk g (w.out p) H x0 p) :
    RS g (w.cell p) H σ { s with M := s.M ++ [some x0] } := by
  have k : ∀ a u, ¬ (w.out p).bad a → H a = some u → H a = some u ∧ ¬ (w.cell p).bad a := fun a u n e => ⟨e, fun z => n (Cs.cell_bad.mp z)⟩
  have ml : w.cs.length = s.M.length := r.mem.len
  refine ⟨r.len, fun i x e => ?_, ⟨by simp [ml], fun j x e => ?_, fun j a e => ?_, fun j j' a e e' => ?_, fun a ha => ?_, fun a ha => ⟨fun z => (r.mem.tabs a ha).1 (Cs.cell_bad.mp z), (r.mem.tabs a ha).2⟩⟩⟩
  · have z := r.slot i x e
    cases x with
    | no => trivial
    | dat d => obtain ⟨v, e, q⟩ := z; exact ⟨v, e, Rep.gen k q⟩
    | cell c =>
      obtain ⟨a, ea, q⟩ := z
      exact ⟨a, by show (w.cs ++ [some p])[c]? = _; rw [List.getElem?_append_left (List.getElem?_eq_some_iff.mp ea).1]; exact ea, q⟩
  · have e : (s.M ++ [some x0])[j]? = some (some x) := e
    by_cases hj : j < s.M.length
    · rw [List.getElem?_append_left hj] at e
      obtain ⟨a, ea, q⟩ := r.mem.at_ j x e
      exact ⟨a, by show (w.cs ++ [some p])[j]? = _; rw [List.getElem?_append_left (by rw [ml]; exact hj)]; exact ea, q.gen k rfl⟩
    · have hj' : j = s.M.length := by
        have z := (List.getElem?_eq_some_iff.mp e).1
        simp at z
        omega
      subst hj'
      rw [List.getElem?_append_right (Nat.le_refl _), Nat.sub_self] at e
      cases e
      exact ⟨p, by show (w.cs ++ [some p])[s.M.length]? = _; rw [← ml, List.getElem?_append_right (Nat.le_refl _), Nat.sub_self]; rfl, hx.gen k rfl⟩
  · have e : (w.cs ++ [some p])[j]? = some (some a) := e
    by_cases hj : j < s.M.length
    · rw [List.getElem?_append_left (by rw [ml]; exact hj)] at e
      obtain ⟨x, ex⟩ := r.mem.live j a e
      exact ⟨x, by show (s.M ++ [some x0])[j]? = _; rw [List.getElem?_append_left hj]; exact ex⟩
    · have hj' : j = s.M.length := by
        have z := (List.getElem?_eq_some_iff.mp e).1
        simp [ml] at z
        omega
      subst hj'
      exact ⟨_, by show (s.M ++ [some x0])[s.M.length]? = _; rw [List.getElem?_append_right (Nat.le_refl _), Nat.sub_self]; rfl⟩
  · have e : (w.cs ++ [some p])[j]? = some (some a) := e
    have e' : (w.cs ++ [some p])[j']? = some (some a) := e'
    have lst : ∀ i, ¬ i < w.cs.length → (w.cs ++ [some p])[i]? = some (some a) → i = w.cs.length ∧ a = p := fun i hi q => by
      have hi' : i = w.cs.length := by
        have z := (List.getElem?_eq_some_iff.mp q).1
        simp at z
        omega
      subst hi'
      rw [List.getElem?_append_right (Nat.le_refl _), Nat.sub_self] at q
      cases q
      exact ⟨rfl, rfl⟩
    by_cases h1 : j < w.cs.length <;> by_cases h2 : j' < w.cs.length
    · rw [List.getElem?_append_left h1] at e
      rw [List.getElem?_append_left h2] at e'
      exact r.mem.inj j j' a e e'
    · obtain ⟨_, z⟩ := lst j' h2 e'
      rw [List.getElem?_append_left h1, z] at e
      exact absurd (.inl (List.mem_of_getElem? e)) hp
    · obtain ⟨_, z⟩ := lst j h1 e
      rw [List.getElem?_append_left h2, z] at e'
      exact absurd (.inl (List.mem_of_getElem? e')) hp
    · rw [(lst j h1 e).1, (lst j' h2 e').1]
  · obtain ⟨n, o, q⟩ := r.mem.av a (List.mem_cons_of_mem _ ha)
    refine ⟨fun z => ?_, o, q⟩
    rcases List.mem_append.mp z with z | z
    · exact n z
    · have e : a = p := by simpa using z
      exact hp (.inr (by rw [← e]; exact ha))
theorem RS.toCell {p : Addr} {ds : List D} {vs : List V} (r : RS g (w.out p) H σ s) (hp : ¬ w.bad p) (h : H p = some (.lst vs)) (hv : Reps g (w.out p) H ds vs) :
    RS g (w.cell p) H σ { s with M := s.M ++ [some (.lst ds)] } := r.toCellG hp ⟨vs, h, hv⟩
theorem mv_cell {p : Addr} (e : HExt w H H') (n : H p = none) (hp : ¬ w.bad p) : Mv w H (w.cell p) H' := by
  refine ⟨e, fun a h => ?_, fun c x h => .inl ?_, fun a ha z => ?_, fun _ h => h⟩
  · rcases Cs.out_bad (Cs.cell_bad.mp h) with h | h
    · exact .inl h
    · exact .inr (by rw [h]; exact n)
  · show (w.cs ++ [some p])[c]? = _
    rw [List.getElem?_append_left (List.getElem?_eq_some_iff.mp h).1]
    exact h
  · rcases List.mem_append.mp z with z | z
    · exact z
    · have e : a = p := by simpa using z
      exact absurd (.inr (by rw [← e]; exact ha)) hp
end
end DL
namespace DL
open PySem L2
abbrev KX := Str → D → S → Prop
abbrev TD := S → (D → S → Prop) → KX → Prop
abbrev TDB := S → (Bool → S → Prop) → KX → Prop
abbrev TDA := S → (List Sl → S → Prop) → KX → Prop
abbrev RD := D → D → (D → Prop) → Prop
abbrev RU := D → (D → Prop) → Prop
def EOk (g : G) (w : Cs) (H : Hp) (σ : L2.St) (P : D → S → Prop) (Q : VK) : Prop := ∀ d s' H' v, P d s' → HExt w H H' → RS g w H' σ s' → Rep g w H' d v → Q v H'
def BOk (g : G) (w : Cs) (H : Hp) (σ : L2.St) (P : Bool → S → Prop) (Q : Bool → Hp → Prop) : Prop := ∀ b s' H', P b s' → HExt w H H' → RS g w H' σ s' → Q b H'
def XdAt (w : Cs) (H : Hp) (dd : Addr) (v : V) : Prop := ¬ w.bad dd ∧ H dd = some (.xd [(("what" : Str), v)])
def XOk (g : G) (w : Cs) (H : Hp) (σ : L2.St) (P : KX) (W : WX) : Prop := ∀ c x s' H' dd v, P c x s' → HExt w H H' → RS g w H' σ s' → XdAt w H' dd v → Rep g w H' x v → W (.ref (g.CA c)) (some dd) σ H'
def ArgOk (g : G) (w : Cs) (H : Hp) : List Sl → List V → Prop
  | [], vs => vs = []
  | .no :: _, _ => False
  | .dat d :: xs, vs => ∃ v r, vs = v :: r ∧ Rep g w H d v ∧ ArgOk g w H xs r
  | .cell c :: xs, vs => ∃ a r, vs = .ref a :: r ∧ w.cs[c]? = some (some a) ∧ ArgOk g w H xs r
def AOk (g : G) (w : Cs) (H : Hp) (σ : L2.St) (P : List Sl → S → Prop) (Q : List V → Hp → Prop) : Prop := ∀ xs s' H' vs, P xs s' → HExt w H H' → RS g w H' σ s' → ArgOk g w H' xs vs → Q vs H'
def lE (g : G) (W : WX) (td : TD) : TE := fun σ H Q => ∃ w s P PX, RS g w H σ s ∧ td s P PX ∧ EOk g w H σ P Q ∧ XOk g w H σ PX W
def lB (g : G) (W : WX) (td : TDB) : TT := fun σ H Q => ∃ w s P PX, RS g w H σ s ∧ td s P PX ∧ BOk g w H σ P Q ∧ XOk g w H σ PX W
def lA (g : G) (W : WX) (td : TDA) : TA := fun σ H Q => ∃ w s P PX, RS g w H σ s ∧ td s P PX ∧ AOk g w H σ P Q ∧ XOk g w H σ PX W
def FOk (g : G) (w : Cs) (H : Hp) (σ : L2.St) (P : List D → S → Prop) (Q : VK) : Prop := ∀ ds s' H' p vs, P ds s' → HExt w H H' → H p = none → ¬ w.bad p → RS g (w.out p) H' σ s' → H' p = some (.lst vs) → Reps g (w.out p) H' ds vs → Q (.ref p) H'
abbrev TDF := S → (List D → S → Prop) → KX → Prop
def lF (g : G) (W : WX) (td : TDF) : TE := fun σ H Q => ∃ w s P PX, RS g w H σ s ∧ td s P PX ∧ FOk g w H σ P Q ∧ XOk g w H σ PX W
def lR (g : G) (r : RD) : R2 := fun x y H Q => ∃ w d e P, Rep g w H d x ∧ Rep g w H e y ∧ r d e P ∧ (∀ a, H a = none → ¬ w.bad a) ∧ ∀ z v H', P z → Same H H' → Rep g w H' z v → Q v H'
def lU (g : G) (r : RU) : V → Hp → VK → Prop := fun x H Q => ∃ w d P, Rep g w H d x ∧ r d P ∧ (∀ a, H a = none → ¬ w.bad a) ∧ ∀ z v H', P z → Same H H' → Rep g w H' z v → Q v H'
theorem pe_imp {X : Cx} {e : Expr} {t t' : TE} (h : PE X e t) (i : ∀ σ H Q, t' σ H Q → t σ H Q) : PE X e t' := ⟨fun p s σ H Q I q => h.run p s σ H Q I (i σ H Q q)⟩
theorem pt_imp {X : Cx} {e : Expr} {t t' : TT} (h : PT X e t) (i : ∀ σ H Q, t' σ H Q → t σ H Q) : PT X e t' := ⟨fun p s σ H Q I q => h.run p s σ H Q I (i σ H Q q)⟩
theorem pw_imp {X : Cx} {e : Expr} {t t' : TT} (h : PW X e t) (i : ∀ σ H Q, t' σ H Q → t σ H Q) : PW X e t' := ⟨fun wh p s σ H Q I q => h.run wh p s σ H Q I (i σ H Q q)⟩
theorem pa_imp {X : Cx} {e : List Expr} {t t' : TA} (h : PA X e t) (i : ∀ σ H Q, t' σ H Q → t σ H Q) : PA X e t' := ⟨fun pos p s σ H Q I q => h.run pos p s σ H Q I (i σ H Q q)⟩
theorem ps_imp {X : Cx} {e : Stmt} {t t' : TS} (h : PS X e t) (i : ∀ D σ H, t' D σ H → t D σ H) : PS X e t' := ⟨fun p s σ H D I q => h.run p s σ H D I (i D σ H q)⟩
theorem pss_imp {X : Cx} {e : List Stmt} {t t' : TS} (h : PSs X e t) (i : ∀ D σ H, t' D σ H → t D σ H) : PSs X e t' := ⟨fun p s σ H D I q => h.run p s σ H D I (i D σ H q)⟩
section
variable {X : Cx} {g : G} {W : WX} {pos : Pos} {a b c e : Expr} {ta tb tc : TD} {w : Cs} {H H' : Hp} {σ : L2.St} {s : S}
theorem EOk.ext {P : D → S → Prop} {Q : VK} (k : EOk g w H σ P Q) (x : HExt w H H') : EOk g w H' σ P Q := fun d s' H2 v p y => k d s' H2 v p (x.trans y)
theorem BOk.ext {P : Bool → S → Prop} {Q : Bool → Hp → Prop} (k : BOk g w H σ P Q) (x : HExt w H H') : BOk g w H' σ P Q := fun d s' H2 p y => k d s' H2 p (x.trans y)
theorem XOk.ext {P : KX} (k : XOk g w H σ P W) (x : HExt w H H') : XOk g w H' σ P W := fun c d s' H2 dd v p y => k c d s' H2 dd v p (x.trans y)
theorem AOk.ext {P : List Sl → S → Prop} {Q : List V → Hp → Prop} (k : AOk g w H σ P Q) (x : HExt w H H') : AOk g w H' σ P Q := fun d s' H2 v p y => k d s' H2 v p (x.trans y)
@[simp] def dVar (i : Nat) : TD := fun s P _ => ∃ d, s.r[i]? = some (.dat d) ∧ P d s
@[simp] def dC (d : D) : TD := fun s P _ => P d s
theorem de_var (i : Nat) {x : Str} {pos : Pos} (h : PE X (.Name x pos) (tVar i)) : PE X (.Name x pos) (lE g W (dVar i)) := pe_imp h fun σ H Q ⟨w, s, P, PX, r, ⟨d, e, p⟩, k, _⟩ => by
  obtain ⟨v, ev, q⟩ := r.slot i _ e
  exact ⟨v, ev, k d s H v p (HExt.refl _ _) r q⟩
theorem de_c {d : D} {v : V} (h : PE X e (tC v)) (q : ∀ w H, Rep g w H d v) : PE X e (lE g W (dC d)) := pe_imp h fun σ H Q ⟨w, s, P, PX, r, p, k, _⟩ => k d s H v p (HExt.refl _ _) r (q w H)
theorem de_int {i j pos} : PE X (.Constant (.int i) j pos) (lE g W (dC (.int i))) := de_c pe_int fun _ _ => by simp only [Rep]
theorem de_bl {i j pos} : PE X (.Constant (.bool i) j pos) (lE g W (dC (.bl i))) := de_c pe_bl fun _ _ => by simp only [Rep]
theorem de_non {j pos} : PE X (.Constant .none j pos) (lE g W (dC .non)) := de_c pe_non fun _ _ => by simp only [Rep]
theorem de_str {i j pos} : PE X (.Constant (.str i) j pos) (lE g W (dC (.str i))) := de_c pe_str fun _ _ => by simp only [Rep]
@[simp] def dOp (r : RD) (ta tb : TD) : TD := fun s P X => ta s (fun x s1 => tb s1 (fun y s2 => r x y fun z => P z s2) X) X
@[simp] def dUn (r : RU) (ta : TD) : TD := fun s P X => ta s (fun x s1 => r x fun z => P z s1) X
theorem lE_bin {r : R2} {rd : RD} (hr : ∀ x y H Q, lR g rd x y H Q → r x y H Q) : ∀ σ H Q, lE g W (dOp rd ta tb) σ H Q → tOp r (lE g W ta) (lE g W tb) σ H Q := fun σ H Q ⟨w, s, P, PX, rs, h, k, x⟩ =>
  ⟨w, s, _, PX, rs, h, fun d s1 H1 v q e1 rs1 rp => ⟨w, s1, _, PX, rs1, q, fun d2 s2 H2 v2 q2 e2 rs2 rp2 =>
    hr _ _ _ _ ⟨w, d, d2, _, rp.mv (.of_ext e2), rp2, q2, fun a n => rs2.mem.fresh n, fun z u H3 pz sm rz => k z s2 H3 u pz (e1.trans (e2.trans (.of_same sm))) (rs2.same sm) rz⟩, x.ext e1⟩, x⟩
theorem de_op {op : Operator} {r : R2} {rd : RD} (ho : OpR X (binaryOp op) r) (hr : ∀ x y H Q, lR g rd x y H Q → r x y H Q) (ha : PE X a (lE g W ta)) (hb : PE X b (lE g W tb)) : PE X (.BinOp a op b pos) (lE g W (dOp rd ta tb)) :=
  pe_imp (pe_op ho ha hb) (lE_bin hr)
theorem de_un {op : UnaryOp} {r : V → Hp → VK → Prop} {rd : RU} (ho : UnR X (unaryOp op) r) (hr : ∀ x H Q, lU g rd x H Q → r x H Q) (ha : PE X a (lE g W ta)) : PE X (.UnaryOp op a pos) (lE g W (dUn rd ta)) :=
  pe_imp (pe_un ho ha) fun σ H Q ⟨w, s, P, PX, rs, h, k, x⟩ => ⟨w, s, _, PX, rs, h, fun d s1 H1 v q e1 rs1 rp =>
    hr _ _ _ ⟨w, d, _, rp, q, fun a n => rs1.mem.fresh n, fun z u H3 pz sm rz => k z s1 H3 u pz (e1.trans (.of_same sm)) (rs1.same sm) rz⟩, x⟩
theorem de_cmp {op : CmpOp} {r : R2} {rd : RD} (ho : OpR X (compareOp op) r) (hr : ∀ x y H Q, lR g rd x y H Q → r x y H Q) (ha : PE X a (lE g W ta)) (hb : PE X b (lE g W tb)) (hm : behindInMarks op b = false) : PE X (.Compare a [op] [b] pos) (lE g W (dOp rd ta tb)) :=
  pe_imp (pe_cmpR ho ha hb hm) (lE_bin hr)
@[simp] def dT (t : TD) : TDB := fun s P X => t s (fun x s1 => ∃ k, x = .bl k ∧ P k s1) X
theorem lT_of {t : TE} {td : TD} (h : ∀ σ H Q, lE g W td σ H Q → t σ H Q) : ∀ σ H Q, lB g W (dT td) σ H Q → tTest t σ H Q := fun σ H Q ⟨w, s, P, PX, rs, h', k, x⟩ =>
  h _ _ _ ⟨w, s, _, PX, rs, h', fun d s1 H1 v q e1 rs1 rp => by
    obtain ⟨b, e, q⟩ := q
    subst e
    simp only [Rep] at rp
    exact ⟨b, rp, k b s1 H1 q e1 rs1⟩, x⟩
theorem dt_cmp {op : CmpOp} {r : R2} {rd : RD} (ho : OpR X (compareOp op) r) (hr : ∀ x y H Q, lR g rd x y H Q → r x y H Q) (ha : PE X a (lE g W ta)) (hb : PE X b (lE g W tb)) (hm : behindInMarks op b = false) : PT X (.Compare a [op] [b] pos) (lB g W (dT (dOp rd ta tb))) :=
  pt_imp (pt_cmpR ho ha hb hm) (lT_of (lE_bin hr))
@[simp] def dChain (r r' : RD) (ta tb tc : TD) : TD := fun s P X => ta s (fun x s1 => tb s1 (fun y s2 => r x y fun z => ∃ k, z = .bl k ∧ if k = true then tc s2 (fun u s3 => r' y u fun z' => P z' s3) X else P (.bl false) s2) X) X
theorem lE_chain {r r' : R2} {rd rd' : RD} (hr : ∀ x y H Q, lR g rd x y H Q → r x y H Q) (hr' : ∀ x y H Q, lR g rd' x y H Q → r' x y H Q) : ∀ σ H Q, lE g W (dChain rd rd' ta tb tc) σ H Q → tChain r r' (lE g W ta) (lE g W tb) (lE g W tc) σ H Q := fun σ H Q ⟨w, s, P, PX, rs, h, k, x⟩ =>
  ⟨w, s, _, PX, rs, h, fun d s1 H1 v q e1 rs1 rp => ⟨w, s1, _, PX, rs1, q, fun d2 s2 H2 v2 q2 e2 rs2 rp2 =>
    hr _ _ _ _ ⟨w, d, d2, _, rp.mv (.of_ext e2), rp2, q2, fun a n => rs2.mem.fresh n, fun z u H3 pz sm rz => by
      obtain ⟨b, e, pz⟩ := pz
      subst e
      simp only [Rep] at rz
      refine ⟨b, rz, ?_⟩
      have e3 : HExt w H2 H3 := .of_same sm
      cases b with
      | true =>
        rw [if_pos rfl] at pz ⊢
        exact ⟨w, s2, _, PX, rs2.same sm, pz, fun d4 s4 H4 v4 q4 e4 rs4 rp4 => hr' _ _ _ _ ⟨w, d2, d4, _, (rp2.mv (.of_ext e3)).mv (.of_ext e4), rp4, q4, fun a n => rs4.mem.fresh n, fun z5 u5 H5 p5 sm5 r5 =>
          k z5 s4 H5 u5 p5 (e1.trans (e2.trans (e3.trans (e4.trans (.of_same sm5))))) (rs4.same sm5) r5⟩, x.ext (e1.trans (e2.trans e3))⟩
      | false =>
        rw [if_neg Bool.false_ne_true] at pz ⊢
        exact k _ s2 H3 _ pz (e1.trans (e2.trans e3)) (rs2.same sm) (by simp only [Rep])⟩, x.ext e1⟩, x⟩
variable {t u : TDB}
@[simp] def dAnd (t u : TDB) : TDB := fun s P X => t s (fun b s1 => if b = true then u s1 P X else P false s1) X
@[simp] def dOr (t u : TDB) : TDB := fun s P X => t s (fun b s1 => if b = true then P true s1 else u s1 P X) X
@[simp] def dNot (t : TDB) : TDB := fun s P X => t s (fun b s1 => P (!b) s1) X
variable {rest : List Expr}
theorem dw_or1 (ha : PT X a (lB g W t)) : PW X (.BoolOp .Or [a] pos) (lB g W t) := pw_or1 ha
theorem dw_or (ha : PT X a (lB g W t)) (hb : PW X (.BoolOp .Or (b :: rest) pos) (lB g W u)) : PW X (.BoolOp .Or (a :: b :: rest) pos) (lB g W (dOr t u)) := pw_imp (pw_or ha hb) fun σ H Q ⟨w, s, P, PX, rs, h, k, x⟩ =>
  ⟨w, s, _, PX, rs, h, fun b s1 H1 q e1 rs1 => by
    cases b with
    | false =>
      rw [if_neg Bool.false_ne_true] at q ⊢
      exact ⟨w, s1, P, PX, rs1, q, k.ext e1, x.ext e1⟩
    | true =>
      rw [if_pos rfl] at q ⊢
      exact k _ s1 H1 q e1 rs1, x⟩
theorem dt_not (ha : PT X a (lB g W t)) : PT X (.UnaryOp .Not a pos) (lB g W (dNot t)) := pt_imp (pt_not ha) fun σ H Q ⟨w, s, P, PX, rs, h, k, x⟩ =>
  ⟨w, s, _, PX, rs, h, fun b s1 H1 q e1 rs1 => k _ s1 H1 q e1 rs1, x⟩
@[simp] def dAndV (ta tb : TD) : TD := fun s P X => ta s (fun x s1 => ∃ k, x = .bl k ∧ if k = true then tb s1 P X else P (.bl false) s1) X
@[simp] def dOrV (ta tb : TD) : TD := fun s P X => ta s (fun x s1 => ∃ k, x = .bl k ∧ if k = true then P (.bl true) s1 else tb s1 P X) X
@[simp] def dNotV (ta : TD) : TD := fun s P X => ta s (fun x s1 => ∃ k, x = .bl k ∧ P (.bl (!k)) s1) X
theorem de_and (ha : PE X a (lE g W ta)) (hb : PE X (.BoolOp .And (b :: rest) pos) (lE g W tb)) : PE X (.BoolOp .And (a :: b :: rest) pos) (lE g W (dAndV ta tb)) := pe_imp (pe_and ha hb) fun σ H Q ⟨w, s, P, PX, rs, h, k, x⟩ =>
  ⟨w, s, _, PX, rs, h, fun d s1 H1 v q e1 rs1 rp => by
    obtain ⟨b, e, q⟩ := q
    subst e
    simp only [Rep] at rp
    refine ⟨b, rp, ?_⟩
    cases b with
    | true =>
      rw [if_pos rfl] at q ⊢
      exact ⟨w, s1, P, PX, rs1, q, k.ext e1, x.ext e1⟩
    | false =>
      rw [if_neg Bool.false_ne_true] at q ⊢
      exact k _ s1 H1 _ q e1 rs1 (by simp only [Rep]), x⟩
theorem de_not (ha : PE X a (lE g W ta)) : PE X (.UnaryOp .Not a pos) (lE g W (dNotV ta)) := pe_imp (pe_not ha) fun σ H Q ⟨w, s, P, PX, rs, h, k, x⟩ =>
  ⟨w, s, _, PX, rs, h, fun d s1 H1 v q e1 rs1 rp => by
    obtain ⟨b, e, q⟩ := q
    subst e
    simp only [Rep] at rp
    exact ⟨b, rp, k _ s1 H1 _ q e1 rs1 (by simp only [Rep])⟩, x⟩
@[simp] def dIf (t : TDB) (ta tb : TD) : TD := fun s P X => t s (fun b s1 => if b = true then ta s1 P X else tb s1 P X) X
theorem de_if (hc : PT X c (lB g W t)) (ha : PE X a (lE g W ta)) (hb : PE X b (lE g W tb)) : PE X (.IfExp c a b pos) (lE g W (dIf t ta tb)) := pe_imp (pe_ifExp hc ha hb) fun σ H Q ⟨w, s, P, PX, rs, h, k, x⟩ =>
  ⟨w, s, _, PX, rs, h, fun d s1 H1 q e1 rs1 => by
    cases d with
    | true =>
      rw [if_pos rfl] at q ⊢
      exact ⟨w, s1, P, PX, rs1, q, k.ext e1, x.ext e1⟩
    | false =>
      rw [if_neg Bool.false_ne_true] at q ⊢
      exact ⟨w, s1, P, PX, rs1, q, k.ext e1, x.ext e1⟩, x⟩
variable {tr : TDA} {es : List Expr}
@[simp] def dNil : TDA := fun s P _ => P [] s
@[simp] def dCons (ta : TD) (tr : TDA) : TDA := fun s P X => ta s (fun x s1 => tr s1 (fun xs s2 => P (.dat x :: xs) s2) X) X
@[simp] def dConsC (i : Nat) (tr : TDA) : TDA := fun s P X => ∃ c, s.r[i]? = some (.cell c) ∧ tr s (fun xs s2 => P (.cell c :: xs) s2) X
theorem da_nil : PA X [] (lA g W dNil) := pa_imp pa_nil fun σ H Q ⟨w, s, P, PX, rs, h, k, x⟩ => k [] s H [] h (HExt.refl _ _) rs rfl
theorem da_cons (ha : PE X e (lE g W ta)) (hr : PA X es (lA g W tr)) (hs : starEach (e :: es) X.env = (false, eval e X.env) :: starEach es X.env := by rfl) : PA X (e :: es) (lA g W (dCons ta tr)) := pa_imp (pa_cons ha hr hs) fun σ H Q ⟨w, s, P, PX, rs, h, k, x⟩ =>
  ⟨w, s, _, PX, rs, h, fun d s1 H1 v q e1 rs1 rp => ⟨w, s1, _, PX, rs1, q, fun xs s2 H2 vs q2 e2 rs2 rp2 => k _ s2 H2 _ q2 (e1.trans e2) rs2 ⟨v, vs, rfl, rp.mv (.of_ext e2), rp2⟩, x.ext e1⟩, x⟩
theorem da_consC (i : Nat) {n : Str} {p : Pos} (ha : PE X (.Name n p) (tVar i)) (hr : PA X es (lA g W tr)) (hs : starEach ((.Name n p) :: es) X.env = (false, eval (.Name n p) X.env) :: starEach es X.env := by rfl) : PA X ((.Name n p) :: es) (lA g W (dConsC i tr)) := pa_imp (pa_cons ha hr hs) fun σ H Q ⟨w, s, P, PX, rs, ⟨c, ec, h⟩, k, x⟩ => by
  obtain ⟨a, ea, es⟩ := rs.slot i _ ec
  exact ⟨.ref a, es, w, s, _, PX, rs, h, fun xs s2 H2 vs q2 e2 rs2 rp2 => k _ s2 H2 _ q2 e2 rs2 ⟨a, vs, rfl, ea, rp2⟩, x⟩
@[simp] def dats : List Sl → Option (List D)
  | [] => some []
  | .dat d :: r => (dats r).map (d :: ·)
  | _ :: _ => none
theorem dats_map (ds : List D) : dats (ds.map Sl.dat) = some ds := by
  induction ds with
  | nil => rfl
  | cons d ds ih => simp only [List.map_cons, dats, ih, Option.map_some]
theorem ArgOk.reps : ∀ {xs : List Sl} {ds : List D} {vs : List V}, ArgOk g w H xs vs → dats xs = some ds → Reps g w H ds vs
  | [], ds, vs, h, e => by simp only [dats] at e; cases e; have h : vs = [] := h; subst h; exact Reps.nil
  | .no :: _, _, _, h, e => nomatch e
  | .cell _ :: _, _, _, h, e => nomatch e
  | .dat d :: xs, ds, vs, h, e => by
    simp only [dats] at e
    obtain ⟨v, r, ev, q, z⟩ := h
    subst ev
    cases e2 : dats xs with
    | none => rw [e2] at e; cases e
    | some es =>
      rw [e2] at e
      cases e
      exact Reps.cons q (ArgOk.reps z e2)
@[simp] def dTup (t : TDA) : TD := fun s P X => t s (fun xs s1 => ∃ ds, dats xs = some ds ∧ ds.length ≤ sizeLine ∧ P (.tup ds) s1) X
@[simp] def dLst (t : TDA) : TDF := fun s P X => t s (fun xs s1 => ∃ ds, dats xs = some ds ∧ ds.length ≤ sizeLine ∧ P ds s1) X
theorem de_tup {x1} (h : PA X es (lA g W tr)) : PE X (.Tuple es x1 pos) (lE g W (dTup tr)) := pe_imp (pe_tup h) fun σ H Q ⟨w, s, P, PX, rs, h, k, x⟩ =>
  ⟨w, s, _, PX, rs, h, fun xs s1 H1 vs q e1 rs1 rp => by
    obtain ⟨ds, ed, hl, q⟩ := q
    have rp := rp.reps ed
    refine ⟨by rw [rp.len]; exact hl, fun p hp => ?_⟩
    have sm := same_upd (o := .tup vs) hp
    exact k _ s1 _ _ q (e1.trans (.of_same sm)) (rs1.same sm) (Rep.tup (rs1.mem.fresh hp) upd_same (rp.mv (.of_same sm))), x⟩
theorem df_lst (h : PA X es (lA g W tr)) : PE X (.List es pos) (lF g W (dLst tr)) := pe_imp (pe_lst h) fun σ H Q ⟨w, s, P, PX, rs, h, k, x⟩ =>
  ⟨w, s, _, PX, rs, h, fun xs s1 H1 vs q e1 rs1 rp => by
    obtain ⟨ds, ed, hl, q⟩ := q
    have rp := rp.reps ed
    refine ⟨by rw [rp.len]; exact hl, fun p hp => ?_⟩
    have sm := same_upd (o := .lst vs) hp
    have n0 : H p = none := e1.non (fun z => rs1.mem.fresh hp (Or.inl z)) hp
    exact k ds s1 _ p vs q (e1.trans (.of_same sm)) n0 (rs1.mem.fresh hp) (rs1.out hp) upd_same (rp.mv (mv_out (.of_same sm) hp)), x⟩
@[simp] def dF (t : TDF) : TD := fun s P X => t s (fun ds s1 => P (.lst ds) s1) X
variable {tf : TDF}
theorem de_f (h : PE X e (lF g W tf)) : PE X e (lE g W (dF tf)) := pe_imp h fun σ H Q ⟨w, s, P, PX, rs, h, k, x⟩ =>
  ⟨w, s, _, PX, rs, h, fun ds s1 H1 p vs q e1 n0 nb rs1 hp rp => k _ s1 H1 _ q e1 rs1.inn (Rep.lst nb hp (Reps.gen k_in rp)), x⟩
end
end DL
namespace DL
open PySem L2
mutual
def toPy : D → PyData
  | .non => .none
  | .bl b => .bool b
  | .int i => .int i
  | .str x => .str x
  | .tup xs => .tuple (toPys xs)
  | .lst xs => .list (toPys xs)
  | .fl xs => .list (toPys xs)
  | .ins _ _ => .dict []
  | .xc _ _ _ => .dict []
  | .dk _ => .dict []
  | .ct xs => .tuple (toPys xs)
def toPys : List D → List PyData
  | [] => []
  | d :: ds => toPy d :: toPys ds
end
def eqD (d e : D) : Bool := PyData.eqv (toPy d) (toPy e)
def okD (d : D) : Bool := SeqAt.shaped (toPy d)
theorem eqD_refl (d : D) (h : okD d = true) : eqD d d = true := by
  unfold eqD
  exact SeqAt.eqv_refl _ (SeqAt.canLay_of_shaped h)
mutual
theorem Rep.dp {K : PySem.W.Frag} {g : G} {w : Cs} {H : Hp} (hk : g.K = K) : ∀ {d : D} {v : V}, (toPy d).canLay0 = true → Rep g w H d v → Dp K H v (toPy d)
  | .non, v, _, h => by simp only [Rep] at h; subst h; exact .non
  | .bl b, v, _, h => by simp only [Rep] at h; subst h; exact .bl b
  | .int b, v, _, h => by simp only [Rep] at h; subst h; exact .int b
  | .str b, v, _, h => by simp only [Rep] at h; subst h; exact .str b
  | .tup ds, v, c, h => by
    simp only [Rep] at h
    obtain ⟨a, vs, e, n, q, r⟩ := h
    subst e
    simp only [toPy] at c ⊢
    exact .tup (SqT.of q) (Reps.dp hk (by simpa [PyData.canLay0] using c) r)
  | .lst ds, v, c, h => by
    simp only [Rep] at h
    obtain ⟨a, vs, e, n, q, r⟩ := h
    subst e
    simp only [toPy] at c ⊢
    exact .lst (SqL.of q) (Reps.dp hk (by simpa [PyData.canLay0] using c) r)
  | .ct ds, v, c, h => by
    simp only [Rep] at h
    obtain ⟨a, vs, e, n, r⟩ := h
    subst e
    simp only [toPy] at c ⊢
    refine .tup ?_ (Reps.dp hk (by simpa [PyData.canLay0] using c) r)
    rw [← hk]; exact .inr n
  | .fl ds, v, c, h => by
    simp only [Rep] at h
    obtain ⟨a, vs, e, n, r⟩ := h
    subst e
    simp only [toPy] at c ⊢
    refine .lst ?_ (Reps.dp hk (by simpa [PyData.canLay0] using c) r)
    rcases n with ⟨_, n⟩ | n
    · exact .inl n
    · rw [← hk]; exact .inr n
  | .ins _ _, v, c, h => by simp [toPy, PyData.canLay0] at c
  | .xc _ _ _, v, c, h => by simp [toPy, PyData.canLay0] at c
  | .dk _, v, c, h => by simp [toPy, PyData.canLay0] at c
theorem Reps.dp {K : PySem.W.Frag} {g : G} {w : Cs} {H : Hp} (hk : g.K = K) : ∀ {ds : List D} {vs : List V}, PyData.canLayAll0 (toPys ds) = true → Reps g w H ds vs → DpAll K H vs (toPys ds)
  | [], _, _, h => by simp only [Reps] at h; subst h; simp only [toPys]; exact .nil
  | d :: ds, _, c, h => by
    simp only [Reps] at h
    obtain ⟨v, r, e, q, z⟩ := h
    subst e
    simp only [toPys] at c ⊢
    have c : (toPy d).canLay0 = true ∧ PyData.canLayAll0 (toPys ds) = true := by simpa [PyData.canLayAll0] using c
    exact .cons (Rep.dp hk c.1 q) (Reps.dp hk c.2 z)
end
section
variable {X : Cx} {g : G} {W : WX}
abbrev Same0 : ∀ {H : Hp}, Same H H := fun _ _ h => h
@[simp] def rI2 (f : Int → Int → D) : RD := fun x y P => match x, y with
  | .int i, .int j => P (f i j)
  | _, _ => False
@[simp] def rI2c (C : Int → Int → Prop) (f : Int → Int → D) : RD := fun x y P => match x, y with
  | .int i, .int j => C i j ∧ P (f i j)
  | _, _ => False
theorem lI2 {f : Int → Int → Int} {x y : V} {H : Hp} {Q : VK} (h : lR g (rI2 fun i j => .int (f i j)) x y H Q) : rI0 (fun i j => .int (f i j)) x y H Q := by
  obtain ⟨w, d, e, P, rd, re, r, nb, q⟩ := h
  cases d <;> cases e <;> try exact r.elim
  simp only [Rep] at rd re
  exact ⟨_, _, rd, re, q _ _ H r Same0 (by simp only [Rep])⟩
theorem lI2b {f : Int → Int → Bool} {x y : V} {H : Hp} {Q : VK} (h : lR g (rI2 fun i j => .bl (f i j)) x y H Q) : rI0 (fun i j => .bl (f i j)) x y H Q := by
  obtain ⟨w, d, e, P, rd, re, r, nb, q⟩ := h
  cases d <;> cases e <;> try exact r.elim
  simp only [Rep] at rd re
  exact ⟨_, _, rd, re, q _ _ H r Same0 (by simp only [Rep])⟩
theorem lI2c {C : Int → Int → Prop} {f : Int → Int → Int} {x y : V} {H : Hp} {Q : VK} (h : lR g (rI2c C fun i j => .int (f i j)) x y H Q) : rI C (fun i j => .int (f i j)) x y H Q := by
  obtain ⟨w, d, e, P, rd, re, r, nb, q⟩ := h
  cases d <;> cases e <;> try exact r.elim
  simp only [Rep] at rd re
  exact ⟨_, _, rd, re, r.1, q _ _ H r.2 Same0 (by simp only [Rep])⟩
@[simp] def rSubD : RD := rI2 fun i j => .int (i - j)
@[simp] def rMulD : RD := rI2c (fun i j => CMul i j ∨ CMulW i j) fun i j => .int (i * j)
@[simp] def rDivD : RD := rI2c CDivW fun i j => .int (i / j)
@[simp] def rModD : RD := rI2c (fun _ j => 0 < j) fun i j => .int (i % j)
@[simp] def rPowD : RD := rI2c CPow fun i j => .int (i ^ j.toNat)
@[simp] def rShlD : RD := rI2c CPow fun i j => .int (i * 2 ^ j.toNat)
@[simp] def rShrD : RD := rI2c (fun _ j => 0 ≤ j) fun i j => .int (i / 2 ^ j.toNat)
@[simp] def rLtD : RD := rI2 fun i j => .bl (decide (i < j))
@[simp] def rLeD : RD := rI2 fun i j => .bl (decide (i ≤ j))
@[simp] def rGtD : RD := rI2 fun i j => .bl (decide (j < i))
@[simp] def rGeD : RD := rI2 fun i j => .bl (decide (j ≤ i))
section
variable {a b : Expr} {ta tb : TD} {pos : Pos}
theorem de_sub (ha : PE X a (lE g W ta)) (hb : PE X b (lE g W tb)) : PE X (.BinOp a .Sub b pos) (lE g W (dOp rSubD ta tb)) := de_op op_sub (fun _ _ _ _ h => lI2 h) ha hb
theorem de_div (ha : PE X a (lE g W ta)) (hb : PE X b (lE g W tb)) : PE X (.BinOp a .FloorDiv b pos) (lE g W (dOp rDivD ta tb)) := de_op op_fdivW (fun _ _ _ _ h => lI2c h) ha hb
theorem de_mod (ha : PE X a (lE g W ta)) (hb : PE X b (lE g W tb)) : PE X (.BinOp a .Mod b pos) (lE g W (dOp rModD ta tb)) := de_op op_mod (fun _ _ _ _ h => lI2c h) ha hb
theorem de_pow (ha : PE X a (lE g W ta)) (hb : PE X b (lE g W tb)) : PE X (.BinOp a .Pow b pos) (lE g W (dOp rPowD ta tb)) := de_op op_pow (fun _ _ _ _ h => lI2c h) ha hb
@[simp] def rMultD : RD := fun x y P => match x, y with
  | .int i, .int j => (CMul i j ∨ CMulW i j) ∧ P (.int (i * j))
  | .lst a, .int k => (-(2 ^ 63) ≤ k ∧ k < 2 ^ 63 ∧ a.length * k.toNat ≤ sizeLine) ∧ P (.lst (List.replicate k.toNat a).flatten)
  | .tup a, .int k => (a ≠ [] ∧ 2 ≤ k ∧ k ≤ 1000 ∧ a.length ≤ 1000) ∧ P (.tup (List.replicate k.toNat a).flatten)
  | _, _ => False
theorem Reps.rep {w : Cs} {H : Hp} {ds : List D} {vs : List V} (h : Reps g w H ds vs) : ∀ k : Nat, Reps g w H (List.replicate k ds).flatten (List.replicate k vs).flatten
  | 0 => Reps.nil
  | k + 1 => by
    rw [List.replicate_succ, List.replicate_succ, List.flatten_cons, List.flatten_cons]
    exact Reps.app h (Reps.rep h k)
theorem op_mulA : OpR X (binaryOp .Mult) (fun x y H Q => rI CMul (fun i j => .int (i * j)) x y H Q ∨ rI CMulW (fun i j => .int (i * j)) x y H Q ∨ rRep x y H Q ∨ rRepT X.K x y H Q) := op_mul.or (op_mulW.or (op_rep.or op_repT))
theorem de_mul (ha : PE X a (lE g W ta)) (hb : PE X b (lE g W tb)) : PE X (.BinOp a .Mult b pos) (lE g W (dOp rMultD ta tb)) := de_op op_mulA (fun x y H Q h => by
  obtain ⟨w, d, e, P, rd, re, r, nb, q⟩ := h
  cases d <;> cases e <;> try exact r.elim
  · simp only [Rep] at rd re
    obtain ⟨c, r⟩ := r
    rcases c with c | c
    · exact .inl ⟨_, _, rd, re, c, q _ _ H r Same0 (by simp only [Rep])⟩
    · exact .inr (.inl ⟨_, _, rd, re, c, q _ _ H r Same0 (by simp only [Rep])⟩)
  · rename_i ds k
    simp only [Rep] at rd re
    obtain ⟨l, vs, e, n, hl, rv⟩ := rd
    obtain ⟨⟨c1, c2, c3, c4⟩, r⟩ := r
    refine .inr (.inr (.inr ⟨l, k, vs, e, re, SqT.of hl, fun z => c1 (by
      have := rv.len
      rw [z] at this
      exact List.length_eq_zero_iff.mp this.symm), c2, c3, by rw [rv.len]; exact c4, fun p hp => q _ _ _ r (same_upd hp) (Rep.tup (nb p hp) upd_same (Reps.mv (Reps.rep rv _) (.of_same (same_upd hp))))⟩))
  · rename_i ds k
    simp only [Rep] at rd re
    obtain ⟨l, vs, e, n, hl, rv⟩ := rd
    obtain ⟨⟨c1, c2, c3⟩, r⟩ := r
    refine .inr (.inr (.inl ⟨l, k, vs, e, re, hl, c1, c2, by rw [rv.len]; exact c3, fun p hp => q _ _ _ r (same_upd hp) (Rep.lst (nb p hp) upd_same (Reps.mv (Reps.rep rv _) (.of_same (same_upd hp))))⟩))) ha hb
@[simp] def rAddD : RD := fun x y P => match x, y with
  | .int i, .int j => P (.int (i + j))
  | .lst a, .lst b => a.length + b.length ≤ sizeLine ∧ P (.lst (a ++ b))
  | .tup a, .tup b => a.length + b.length ≤ sizeLine ∧ P (.tup (a ++ b))
  | _, _ => False
theorem op_addA : OpR X (binaryOp .Add) (fun x y H Q => rI0 (fun i j => .int (i + j)) x y H Q ∨ rCat x y H Q ∨ rCatA X.K x y H Q) := op_add.or (op_cat.or op_catA)
theorem de_add (ha : PE X a (lE g W ta)) (hb : PE X b (lE g W tb)) : PE X (.BinOp a .Add b pos) (lE g W (dOp rAddD ta tb)) := de_op op_addA (fun x y H Q h => by
  obtain ⟨w, d, e, P, rd, re, r, nb, q⟩ := h
  cases d <;> cases e <;> try exact r.elim
  · simp only [Rep] at rd re
    exact .inl ⟨_, _, rd, re, q _ _ H r Same0 (by simp only [Rep])⟩
  · rename_i ds es
    have rd' := rd
    have re' := re
    simp only [Rep] at rd re
    obtain ⟨l, vs, e, n, hl, rv⟩ := rd
    obtain ⟨l2, vs2, e2, n2, hl2, rv2⟩ := re
    obtain ⟨c, r⟩ := r
    subst e e2
    refine .inr (.inr ⟨l, l2, vs, vs2, rfl, rfl, SqT.of hl, SqT.of hl2, by rw [rv.len, rv2.len]; exact c, fun z => ?_, fun _ z => ?_, fun _ _ p hp => q _ _ _ r (same_upd hp) (Rep.tup (nb p hp) upd_same (Reps.mv (Reps.app rv rv2) (.of_same (same_upd hp))))⟩)
    · subst z
      have e : ds = [] := by
        have z := rv.len
        exact List.length_eq_zero_iff.mp z.symm
      subst e
      exact q _ _ H r Same0 re'
    · subst z
      have e : es = [] := by
        have z := rv2.len
        exact List.length_eq_zero_iff.mp z.symm
      subst e
      rw [List.append_nil] at r
      exact q _ _ H r Same0 rd'
  · simp only [Rep] at rd re
    obtain ⟨l, vs, e, n, hl, rv⟩ := rd
    obtain ⟨l2, vs2, e2, n2, hl2, rv2⟩ := re
    obtain ⟨c, r⟩ := r
    exact .inr (.inl ⟨l, l2, vs, vs2, e, e2, hl, hl2, by rw [rv.len, rv2.len]; exact c, fun p hp => q _ _ _ r (same_upd hp) (Rep.lst (nb p hp) upd_same (Reps.mv (Reps.app rv rv2) (.of_same (same_upd hp))))⟩)) ha hb
@[simp] def rNegD : RU := fun x P => match x with
  | .int i => P (.int (-i))
  | _ => False
theorem de_neg (ha : PE X a (lE g W ta)) : PE X (.UnaryOp .USub a pos) (lE g W (dUn rNegD ta)) := de_un un_neg (fun x H Q h => by
  obtain ⟨w, d, P, rd, r, nb, q⟩ := h
  cases d <;> try exact r.elim
  simp only [Rep] at rd
  exact ⟨_, rd, q _ _ H r Same0 (by simp only [Rep])⟩) ha
@[simp] def rEqD' : RD := fun x y P => okD x = true ∧ okD y = true ∧ P (.bl (eqD x y))
@[simp] def rNeD' : RD := fun x y P => okD x = true ∧ okD y = true ∧ P (.bl (!eqD x y))
theorem l_eq (hk : g.K = X.K) : ∀ x y H Q, lR g rEqD' x y H Q → rEqD X.K x y H Q := fun x y H Q ⟨w, d, e, P, rd, re, ⟨h1, h2, r⟩, nb, q⟩ =>
  ⟨toPy d, toPy e, Rep.dp hk (SeqAt.canLay_of_shaped h1) rd, Rep.dp hk (SeqAt.canLay_of_shaped h2) re, h1, h2, q _ _ H r Same0 (by simp only [Rep]; rfl)⟩
theorem l_ne (hk : g.K = X.K) : ∀ x y H Q, lR g rNeD' x y H Q → rNeD X.K x y H Q := fun x y H Q ⟨w, d, e, P, rd, re, ⟨h1, h2, r⟩, nb, q⟩ =>
  ⟨toPy d, toPy e, Rep.dp hk (SeqAt.canLay_of_shaped h1) rd, Rep.dp hk (SeqAt.canLay_of_shaped h2) re, h1, h2, q _ _ H r Same0 (by simp only [Rep]; rfl)⟩
@[simp] def isNonD : D → Bool
  | .non => true
  | _ => false
@[simp] def rIsN : RD := fun x y P => y = .non ∧ P (.bl (isNonD x))
@[simp] def rIsnotN : RD := fun x y P => y = .non ∧ P (.bl (!isNonD x))
@[simp] def flatD : D → Bool
  | .non | .bl _ | .int _ | .str _ => true
  | _ => false
def inD (d : D) (ds : List D) : Bool := ds.any fun z => eqD z d
@[simp] def rInD' (neg : Bool) : RD := fun x y P => match y with
  | .lst ds => okD x = true ∧ okD (.lst ds) = true ∧ P (.bl (if neg then !inD x ds else inD x ds))
  | .tup ds => flatD x = true ∧ ds.all flatD = true ∧ P (.bl (if neg then !inD x ds else inD x ds))
  | _ => False
end
end
end DL
namespace DL
open PySem L2
section
variable {X : Cx} {g : G} {W : WX} {pos : Pos} {a b c e : Expr} {ta tb tc : TD} {w : Cs} {H H' : Hp} {σ : L2.St} {s : S}
@[simp] def rIxD : RD := fun x y P => match x, y with
  | .lst ds, .int i => ∃ d, atI ds i = some d ∧ P d
  | .tup ds, .int i => ∃ d, atI ds i = some d ∧ P d
  | .fl ds, .int i => ∃ d, atI ds i = some d ∧ P d
  | _, _ => False
theorem Reps.atI {ds : List D} {vs : List V} (r : Reps g w H ds vs) {i : Int} {d : D} (h : L2.atI ds i = some d) : ∃ v, L2.atI vs i = some v ∧ Rep g w H d v := by
  unfold L2.atI at h ⊢
  rw [r.len]
  cases e : ixN ds.length i with
  | none => rw [e] at h; cases h
  | some j =>
    rw [e] at h
    exact r.get' h
theorem l_ix (hk : g.K = X.K) : ∀ x y H Q, lR g rIxD x y H Q → (rIxL X.K x y H Q ∨ rIxT X.K x y H Q) := fun x y H Q ⟨w, d, e, P, rd, re, r, nb, q⟩ => by
  cases d <;> cases e <;> try exact r.elim
  · simp only [Rep] at rd re
    obtain ⟨p, vs, e, n, hp, rv⟩ := rd
    obtain ⟨d, ed, r⟩ := r
    obtain ⟨v, ev, rp⟩ := rv.atI ed
    exact .inr ⟨p, vs, _, v, e, re, SqT.of hp, ev, q _ _ H r Same0 rp⟩
  · simp only [Rep] at rd re
    obtain ⟨p, vs, e, n, hp, rv⟩ := rd
    obtain ⟨d, ed, r⟩ := r
    obtain ⟨v, ev, rp⟩ := rv.atI ed
    exact .inl ⟨p, vs, _, v, e, re, SqL.of hp, ev, q _ _ H r Same0 rp⟩
  · simp only [Rep] at rd re
    obtain ⟨p, vs, e, n, rv⟩ := rd
    obtain ⟨d, ed, r⟩ := r
    obtain ⟨v, ev, rp⟩ := rv.atI ed
    refine .inl ⟨p, vs, _, v, e, re, ?_, ev, q _ _ H r Same0 rp⟩
    rcases n with ⟨_, n⟩ | n
    · exact .inl n
    · rw [← hk]; exact .inr n
theorem ix_A : IxR X (fun x y H Q => rIxL X.K x y H Q ∨ rIxT X.K x y H Q) := ix_list.or ix_tup
theorem de_ix (hk : g.K = X.K) (ha : PE X a (lE g W ta)) (hb : PE X b (lE g W tb)) (hs : PlainIx b) : PE X (.Subscript a b pos) (lE g W (dOp rIxD ta tb)) := pe_imp (pe_ix ix_A ha hb hs) (lE_bin (l_ix hk))
@[simp] def dIxC (i : Nat) (tb : TD) : TD := fun s P X => ∃ c, s.r[i]? = some (.cell c) ∧ tb s (fun y s1 => ∃ ds j d, s1.M[c]? = some (some (.lst ds)) ∧ y = .int j ∧ atI ds j = some d ∧ P d s1) X
theorem de_ixC (i : Nat) {x : Str} {p : Pos} (ha : PE X (.Name x p) (tVar i)) (hb : PE X b (lE g W tb)) (hs : PlainIx b) : PE X (.Subscript (.Name x p) b pos) (lE g W (dIxC i tb)) := pe_imp (pe_ix ix_list ha hb hs) fun σ H Q ⟨w, s, P, PX, rs, ⟨c, ec, h⟩, k, xk⟩ => by
  obtain ⟨a, ea, ev⟩ := rs.slot i _ ec
  refine ⟨.ref a, ev, w, s, _, PX, rs, h, fun d s1 H1 v q e1 rs1 rp => ?_, xk⟩
  obtain ⟨ds, j, d2, em, ed, ei, q⟩ := q
  subst ed
  simp only [Rep] at rp
  obtain ⟨a', ea', vs, hp, rv⟩ := rs1.mem.at_ c _ em
  rw [ea] at ea'
  cases ea'
  obtain ⟨v2, ev2, rp2⟩ := rv.atI ei
  exact ⟨a, vs, j, v2, rfl, rp, SqL.of hp, ev2, k _ s1 H1 _ q e1 rs1 rp2⟩
abbrev TDO := S → (Option Int → S → Prop) → KX → Prop
def lO (g : G) (W : WX) (td : TDO) : TO := fun σ H Q => ∃ w s P PX, RS g w H σ s ∧ td s P PX ∧ (∀ o s' H', P o s' → HExt w H H' → RS g w H' σ s' → Q o H') ∧ XOk g w H σ PX W
@[simp] def dNoPart : TDO := fun s P _ => P none s
@[simp] def dPart (t : TD) : TDO := fun s P X => t s (fun y s1 => ∃ i, y = .int i ∧ P (some i) s1) X
theorem do_none : PO X none (lO g W dNoPart) := ⟨fun pins s σ H Q I ⟨w, s1, P, PX, rs, h, k, x⟩ => po_none.run pins s σ H Q I (k _ s1 H h (HExt.refl _ _) rs)⟩
theorem do_some {t : TD} (h : PE X e (lE g W t)) : PO X (some e) (lO g W (dPart t)) := ⟨fun pins s σ H Q I ⟨w, s1, P, PX, rs, hh, k, x⟩ => (po_some h).run pins s σ H Q I ⟨w, s1, _, PX, rs, hh, fun d s2 H2 v q e1 rs1 rp => by
  obtain ⟨i, e, q⟩ := q
  subst e
  simp only [Rep] at rp
  exact ⟨i, rp, k _ s2 H2 q e1 rs1⟩, x⟩⟩
def cutD (xs : List D) (lo hi : Option Int) : List D := (xs.drop (HT.sIx xs.length 0 lo)).take (HT.sIx xs.length xs.length hi - HT.sIx xs.length 0 lo)
theorem Reps.cut {ds : List D} {vs : List V} (r : Reps g w H ds vs) (lo hi : Option Int) : Reps g w H (cutD ds lo hi) (cutV vs lo hi) := by
  unfold cutD cutV
  rw [r.len]
  exact Reps.take _ (Reps.drop _ r)
variable {lo hi : Option Expr} {tl th : TDO} {p2 : Pos}
theorem fresh0 {p : Addr} (e : HExt w H H') (rs : ¬ w.bad p) (n : H' p = none) : H p = none := by
  exact e.non (fun q => rs (.inl q)) n
@[simp] def dSlL (t : TD) (tl th : TDO) : TDF := fun s P X => t s (fun x s1 => tl s1 (fun l s2 => th s2 (fun u s3 => ∃ ds, x = .lst ds ∧ P (cutD ds l u) s3) X) X) X
theorem df_slice (ha : PE X e (lE g W ta)) (hl : PO X lo (lO g W tl)) (hh : PO X hi (lO g W th)) : PE X (.Subscript e (.Slice lo hi none p2) pos) (lF g W (dSlL ta tl th)) := pe_imp (pe_slice sl_list ha hl hh) fun σ H Q ⟨w, s, P, PX, rs, h, k, x⟩ =>
  ⟨w, s, _, PX, rs, h, fun d s1 H1 v q e1 rs1 rp => ⟨w, s1, _, PX, rs1, q, fun l s2 H2 q e2 rs2 => ⟨w, s2, _, PX, rs2, q, fun u s3 H3 q3 e3 rs3 => by
    obtain ⟨ds, e, q4⟩ := q3
    subst e
    simp only [Rep] at rp
    obtain ⟨a, vs, e, n, ha, rv⟩ := rp
    have ha3 : H3 a = some (.lst vs) := e3 _ _ (fun z => n (.inl z)) (e2 _ _ (fun z => n (.inl z)) ha)
    have rv3 := (Reps.mv rv (.of_ext e2)).mv (.of_ext e3)
    refine ⟨a, vs, e, SqL.of ha3, fun p hp => ?_⟩
    have e0 := e1.trans (e2.trans e3)
    have nb := rs3.mem.fresh hp
    exact k _ s3 _ p _ q4 (e0.trans (.of_same (same_upd hp))) (fresh0 e0 nb hp) nb (rs3.out hp) upd_same ((rv3.cut l u).mv (mv_out (.of_same (same_upd hp)) hp)), (x.ext e1).ext e2⟩, x.ext e1⟩, x⟩
@[simp] def dSlT (t : TD) (tl th : TDO) : TD := fun s P X => t s (fun x s1 => tl s1 (fun l s2 => th s2 (fun u s3 => ∃ ds, x = .tup ds ∧ P (.tup (cutD ds l u)) s3) X) X) X
abbrev RCd := List Sl → Mem → (D → Prop) → Prop
def lC (g : G) (r : RCd) : List V → Hp → VK → Prop := fun vs H Q => ∃ w xs M P, ArgOk g w H xs vs ∧ MemOk g w H M ∧ r xs M P ∧ ∀ z v H', P z → Same H H' → Rep g w H' z v → Q v H'
variable {x : Str} {p : Pos} {es : List Expr} {t : TDA} {id T : String}
@[simp] def dCB (r : RCd) (t : TDA) : TD := fun s P X => t s (fun xs s1 => r xs s1.M fun z => P z s1) X
theorem l_cb {r : List V → Hp → VK → Prop} {rd : RCd} (hr : ∀ vs H Q, lC g rd vs H Q → r vs H Q) : ∀ σ H Q, lE g W (dCB rd t) σ H Q → tCB r (lA g W t) σ H Q := fun σ H Q ⟨w, s, P, PX, rs, h, k, x⟩ =>
  ⟨w, s, _, PX, rs, h, fun xs s1 H1 vs q e1 rs1 ra => hr _ _ _ ⟨w, xs, s1.M, _, ra, rs1.mem, q, fun z v H' pz sm rz => k z s1 H' v pz (e1.trans (.of_same sm)) (rs1.same sm) rz⟩, x⟩
theorem ArgOk.one {d : D} {vs : List V} (h : ArgOk g w H [.dat d] vs) : ∃ v, vs = [v] ∧ Rep g w H d v := by
  obtain ⟨v, r, e, q, z⟩ := h
  have z : r = [] := z
  subst z
  exact ⟨v, e, q⟩
theorem ArgOk.two {d d' : D} {vs : List V} (h : ArgOk g w H [.dat d, .dat d'] vs) : ∃ v v', vs = [v, v'] ∧ Rep g w H d v ∧ Rep g w H d' v' := by
  obtain ⟨v, r, e, q, z⟩ := h
  obtain ⟨v', e', q'⟩ := ArgOk.one z
  subst e'
  exact ⟨v, v', e, q, q'⟩
theorem ArgOk.cell1 {c : Nat} {vs : List V} (h : ArgOk g w H [.cell c] vs) : ∃ a, vs = [.ref a] ∧ w.cs[c]? = some (some a) := by
  obtain ⟨v, r, e, q, z⟩ := h
  have z : r = [] := z
  subst z
  exact ⟨v, e, q⟩
@[simp] def rLenD : RCd := fun xs M P => match xs with
  | [.dat (.lst ds)] => P (.int ds.length)
  | [.dat (.tup ds)] => P (.int ds.length)
  | [.dat (.fl ds)] => P (.int ds.length)
  | [.cell c] => ∃ ds, M[c]? = some (some (.lst ds)) ∧ P (.int ds.length)
  | _ => False
def rLenV (K : PySem.W.Frag) : List V → Hp → VK → Prop := fun xs H Q => ∃ p ys, xs = [.ref p] ∧ (SqL K H p ys ∨ SqT K H p ys) ∧ Q (.int ys.length) H
theorem l_len (hk : g.K = X.K) : ∀ vs H Q, lC g rLenD vs H Q → rLenV X.K vs H Q := fun vs H Q ⟨w, xs, M, P, ha, m, r, q⟩ => by
  match xs, r, ha with
  | [.dat (.lst ds)], r, ha =>
    obtain ⟨v, e, h⟩ := ArgOk.one ha
    subst e
    simp only [Rep] at h
    obtain ⟨p, ys, e, n, hp, rv⟩ := h
    subst e
    exact ⟨p, ys, rfl, .inl (SqL.of hp), q _ _ H r Same0 (by simp only [Rep, rv.len])⟩
  | [.dat (.tup ds)], r, ha =>
    obtain ⟨v, e, h⟩ := ArgOk.one ha
    subst e
    simp only [Rep] at h
    obtain ⟨p, ys, e, n, hp, rv⟩ := h
    subst e
    exact ⟨p, ys, rfl, .inr (SqT.of hp), q _ _ H r Same0 (by simp only [Rep, rv.len])⟩
  | [.dat (.fl ds)], r, ha =>
    obtain ⟨v, e, h⟩ := ArgOk.one ha
    subst e
    simp only [Rep] at h
    obtain ⟨p, ys, e, n, rv⟩ := h
    subst e
    refine ⟨p, ys, rfl, .inl ?_, q _ _ H r Same0 (by simp only [Rep, rv.len])⟩
    rcases n with ⟨_, n⟩ | n
    · exact .inl n
    · rw [← hk]; exact .inr n
  | [.cell c], ⟨ds, em, r⟩, ha =>
    obtain ⟨a, e, ea⟩ := ArgOk.cell1 ha
    subst e
    obtain ⟨a', ea', vs, hp, rv⟩ := m.at_ c _ em
    rw [ea] at ea'
    cases ea'
    exact ⟨a, vs, rfl, .inl (SqL.of hp), q _ _ H r Same0 (by simp only [Rep, rv.len])⟩
theorem de_len (hk : g.K = X.K) (hg : Gl X "len") (hm : X.mg "len" = none) (ha : PA X (e :: es) (lA g W t)) (he : starEach (e :: es) X.env = (false, eval e X.env) :: starEach es X.env := by rfl) (hpl : (backTo pos (starEach es X.env)).any (·.1) = false := by rfl) :
    PE X (.Call (.Name "len" p) (e :: es) [] pos) (lE g W (dCB rLenD t)) := pe_imp (pe_callB call_len_seq hg hm PySem.boot_len ha (by decide) (by decide) he hpl) (l_cb (l_len hk))
@[simp] def r2I (f : Int → Int → Int) : RCd := fun xs M P => match xs with
  | [.dat (.int i), .dat (.int j)] => P (.int (f i j))
  | _ => False
theorem l_2I {f : Int → Int → Int} : ∀ (vs : List V) (H : Hp) (Q : VK), lC g (r2I f) vs H Q → ∃ i j, vs = [.int i, .int j] ∧ Q (.int (f i j)) H := fun vs H Q ⟨w, xs, M, P, ha, m, r, q⟩ => by
  match xs, r, ha with
  | [.dat (.int i), .dat (.int j)], r, ha =>
    obtain ⟨v, v', e, h, h'⟩ := ArgOk.two ha
    simp only [Rep] at h h'
    subst h h' e
    exact ⟨i, j, rfl, q _ _ H r Same0 (by simp only [Rep])⟩
theorem de_max2 (hc : X.calm = true) (hg : Gl X "max") (hm : X.mg "max" = none) (ha : PA X (e :: es) (lA g W t)) (he : starEach (e :: es) X.env = (false, eval e X.env) :: starEach es X.env := by rfl) (hpl : (backTo pos (starEach es X.env)).any (·.1) = false := by rfl) :
    PE X (.Call (.Name "max" p) (e :: es) [] pos) (lE g W (dCB (r2I fun i j => if j > i then j else i) t)) := pe_imp (pe_callB (call_max2 hc) hg hm (by decide +kernel) ha (by decide) (by decide) he hpl) (l_cb l_2I)
theorem de_min2 (hc : X.calm = true) (hg : Gl X "min") (hm : X.mg "min" = none) (ha : PA X (e :: es) (lA g W t)) (he : starEach (e :: es) X.env = (false, eval e X.env) :: starEach es X.env := by rfl) (hpl : (backTo pos (starEach es X.env)).any (·.1) = false := by rfl) :
    PE X (.Call (.Name "min" p) (e :: es) [] pos) (lE g W (dCB (r2I fun i j => if j < i then j else i) t)) := pe_imp (pe_callB (call_min2 hc) hg hm (by decide +kernel) ha (by decide) (by decide) he hpl) (l_cb l_2I)
@[simp] def rIntD : RCd := fun xs M P => match xs with
  | [.dat (.int i)] => P (.int i)
  | [.dat (.bl k)] => P (.int (if k then 1 else 0))
  | _ => False
theorem l_int : ∀ (vs : List V) (H : Hp) (Q : VK), lC g rIntD vs H Q → (∃ i, vs = [.int i] ∧ Q (.int i) H) ∨ ∃ k, vs = [.bl k] ∧ Q (.int (if k then 1 else 0)) H := fun vs H Q ⟨w, xs, M, P, ha, m, r, q⟩ => by
  match xs, r, ha with
  | [.dat (.int i)], r, ha =>
    obtain ⟨v, e, h⟩ := ArgOk.one ha
    simp only [Rep] at h
    subst h e
    exact .inl ⟨i, rfl, q _ _ H r Same0 (by simp only [Rep])⟩
  | [.dat (.bl i)], r, ha =>
    obtain ⟨v, e, h⟩ := ArgOk.one ha
    simp only [Rep] at h
    subst h e
    exact .inr ⟨i, rfl, q _ _ H r Same0 (by simp only [Rep])⟩
theorem de_intc (hg : Gl X "int") (hm : X.mg "int" = none) (ha : PA X (e :: es) (lA g W t)) (he : starEach (e :: es) X.env = (false, eval e X.env) :: starEach es X.env := by rfl) (hpl : (backTo pos (starEach es X.env)).any (·.1) = false := by rfl) :
    PE X (.Call (.Name "int" p) (e :: es) [] pos) (lE g W (dCB rIntD t)) := pe_imp (pe_callTy call_int1 hg hm (by decide +kernel) ha (by decide) (by decide) he hpl) (l_cb l_int)
@[simp] def rTupD : RCd := fun xs M P => match xs with
  | [.dat (.lst ds)] => P (.tup ds)
  | [.dat (.tup ds)] => P (.tup ds)
  | [.cell c] => ∃ ds, M[c]? = some (some (.lst ds)) ∧ P (.tup ds)
  | _ => False
def rTupV (K : PySem.W.Frag) : List V → Hp → VK → Prop := fun xs H Q => ∃ p ys, xs = [.ref p] ∧ ((SqL K H p ys ∧ ∀ l, H l = none → Q (.ref l) (upd H l (.tup ys))) ∨ (SqT K H p ys ∧ Q (.ref p) H))
theorem l_tup : ∀ vs H Q, lC g rTupD vs H Q → rTupV X.K vs H Q := fun vs H Q ⟨w, xs, M, P, ha, m, r, q⟩ => by
  match xs, r, ha with
  | [.dat (.lst ds)], r, ha =>
    obtain ⟨v, e, h⟩ := ArgOk.one ha
    subst e
    simp only [Rep] at h
    obtain ⟨p, ys, e, n, hp, rv⟩ := h
    subst e
    exact ⟨p, ys, rfl, .inl ⟨SqL.of hp, fun l hl => q _ _ _ r (same_upd hl) (Rep.tup (m.fresh hl) upd_same (rv.mv (.of_same (same_upd hl))))⟩⟩
  | [.dat (.tup ds)], r, ha =>
    obtain ⟨v, e, h⟩ := ArgOk.one ha
    subst e
    have h0 := h
    simp only [Rep] at h
    obtain ⟨p, ys, e, n, hp, rv⟩ := h
    subst e
    exact ⟨p, ys, rfl, .inr ⟨SqT.of hp, q _ _ H r Same0 h0⟩⟩
  | [.cell c], ⟨ds, em, r⟩, ha =>
    obtain ⟨a, e, ea⟩ := ArgOk.cell1 ha
    subst e
    obtain ⟨a', ea', vs, hp, rv⟩ := m.at_ c _ em
    rw [ea] at ea'
    cases ea'
    exact ⟨a, vs, rfl, .inl ⟨SqL.of hp, fun l hl => q _ _ _ r (same_upd hl) (Rep.tup (m.fresh hl) upd_same (rv.mv (.of_same (same_upd hl))))⟩⟩
theorem de_tuple (hg : Gl X "tuple") (hm : X.mg "tuple" = none) (ha : PA X (e :: es) (lA g W t)) (he : starEach (e :: es) X.env = (false, eval e X.env) :: starEach es X.env := by rfl) (hpl : (backTo pos (starEach es X.env)).any (·.1) = false := by rfl) :
    PE X (.Call (.Name "tuple" p) (e :: es) [] pos) (lE g W (dCB rTupD t)) := pe_imp (pe_callTy call_tuple_of hg hm (by decide +kernel) ha (by decide) (by decide) he hpl) (l_cb l_tup)
end
end DL
namespace DL
open PySem L2
structure EK where
  nx : S → Prop
  rt : D → S → Prop
  bk : S → Prop
  ct : S → Prop
abbrev TSd := S → EK → KX → Prop
section
variable {X : Cx} {g : G} {W : WX} {pos : Pos} {a b c e : Expr} {ta tb tc : TD} {w : Cs} {H H' : Hp} {σ : L2.St} {s : S}
def NOk (g : G) (w : Cs) (H : Hp) (P : S → Prop) (Q : L2.St → Hp → Prop) : Prop := ∀ s' w' H' σ', P s' → Mv w H w' H' → RS g w' H' σ' s' → Q σ' H'
structure SOk (g : G) (w : Cs) (H : Hp) (E : EK) (D : Ends) : Prop where
  nx : NOk g w H E.nx D.nx
  bk : NOk g w H E.bk D.bk
  ct : NOk g w H E.ct D.ct
  rt : ∀ d s' w' H' σ' v, E.rt d s' → Mv w H w' H' → RS g w' H' σ' s' → Rep g w' H' d v → D.rt v H'
def XOkS (g : G) (w : Cs) (H : Hp) (P : KX) (W : WX) : Prop := ∀ c x s' w' H' σ' dd v, P c x s' → Mv w H w' H' → RS g w' H' σ' s' → XdAt w' H' dd v → Rep g w' H' x v → W (.ref (g.CA c)) (some dd) σ' H'
def lS (g : G) (W : WX) (td : TSd) : TS := fun D σ H => ∃ w s E PX, RS g w H σ s ∧ td s E PX ∧ SOk g w H E D ∧ XOkS g w H PX W
theorem NOk.mv {P : S → Prop} {Q : L2.St → Hp → Prop} {w' : Cs} (k : NOk g w H P Q) (m : Mv w H w' H') (av : ∀ x, x ∈ w.av → some x ∉ w.cs ∧ ∃ o, H x = some o) : NOk g w' H' P Q := fun s2 w2 H2 σ2 p m2 r => k s2 w2 H2 σ2 p (m.trans m2 av) r
theorem SOk.mv {E : EK} {D : Ends} {w' : Cs} (k : SOk g w H E D) (m : Mv w H w' H') (av : ∀ x, x ∈ w.av → some x ∉ w.cs ∧ ∃ o, H x = some o) : SOk g w' H' E D :=
  ⟨k.nx.mv m av, k.bk.mv m av, k.ct.mv m av, fun d s2 w2 H2 σ2 v p m2 r q => k.rt d s2 w2 H2 σ2 v p (m.trans m2 av) r q⟩
theorem XOkS.mv {P : KX} {w' : Cs} (k : XOkS g w H P W) (m : Mv w H w' H') (av : ∀ x, x ∈ w.av → some x ∉ w.cs ∧ ∃ o, H x = some o) : XOkS g w' H' P W :=
  fun c x s2 w2 H2 σ2 dd v p m2 r q q2 => k c x s2 w2 H2 σ2 dd v p (m.trans m2 av) r q q2
theorem XOkS.ex {P : KX} (k : XOkS g w H P W) : XOk g w H σ P W := fun c x s2 H2 dd v p m r q q2 => k c x s2 w H2 σ dd v p (.of_ext m) r q q2
variable {st : Stmt} {rest : List Stmt} {t u : TSd} {td : TD}
@[simp] def dNext : TSd := fun s E _ => E.nx s
@[simp] def dSeq (t u : TSd) : TSd := fun s E X => t s { E with nx := fun s' => u s' E X } X
@[simp] def dRet (td : TD) : TSd := fun s E X => td s (fun d s' => E.rt d s') X
@[simp] def dRetN : TSd := fun s E _ => E.rt .non s
@[simp] def dDrop (td : TD) : TSd := fun s E X => td s (fun _ s' => E.nx s') X
@[simp] def dIfS (c : TDB) (t u : TSd) : TSd := fun s E X => c s (fun b s1 => if b = true then t s1 E X else u s1 E X) X
@[simp] def dBreak : TSd := fun s E _ => E.bk s
@[simp] def dCont : TSd := fun s E _ => E.ct s
theorem dss_nil : PSs X [] (lS g W dNext) := pss_imp pss_nil fun D σ H ⟨w, s, E, PX, rs, h, k, _⟩ => k.nx s w H σ h (Mv.refl _ _) rs
theorem lS_seq {t' u' : TS} (ht : ∀ D σ H, lS g W t D σ H → t' D σ H) (hu : ∀ D σ H, lS g W u D σ H → u' D σ H) : ∀ D σ H, lS g W (dSeq t u) D σ H → tSeq t' u' D σ H := fun D σ H ⟨w, s, E, PX, rs, h, k, x⟩ =>
  ht _ _ _ ⟨w, s, _, PX, rs, h, ⟨fun s1 w1 H1 σ1 q m rs1 => hu _ _ _ ⟨w1, s1, E, PX, rs1, q, k.mv m rs.mem.av, x.mv m rs.mem.av⟩, k.bk, k.ct, k.rt⟩, x⟩
theorem dss_cons (h1 : PS X st (lS g W t)) (h2 : PSs X rest (lS g W u)) : PSs X (st :: rest) (lS g W (dSeq t u)) := pss_imp (pss_cons h1 h2) (lS_seq (fun _ _ _ h => h) fun _ _ _ h => h)
theorem dss_one (h1 : PS X st (lS g W t)) : PSs X [st] (lS g W t) := pss_one h1
theorem ds_ret (he : PE X e (lE g W td)) : PS X (.Return (some e) pos) (lS g W (dRet td)) := ps_imp (ps_ret he) fun D σ H ⟨w, s, E, PX, rs, h, k, x⟩ =>
  ⟨w, s, _, PX, rs, h, fun d s1 H1 v q e1 rs1 rp => k.rt d s1 w H1 σ v q (.of_ext e1) rs1 rp, x.ex⟩
theorem ds_expr (he : PE X e (lE g W td)) (hs : swapsWith e none pos.line X.env = pure false := by rfl) : PS X (.Expr e pos) (lS g W (dDrop td)) := ps_imp (ps_expr he hs) fun D σ H ⟨w, s, E, PX, rs, h, k, x⟩ =>
  ⟨w, s, _, PX, rs, h, fun d s1 H1 v q e1 rs1 rp => k.nx s1 w H1 σ q (.of_ext e1) rs1, x.ex⟩
theorem ds_if {a b : List Stmt} {tc : TDB} (hc : PT X c (lB g W tc)) (ha : PSs X a (lS g W t)) (hb : PSs X b (lS g W u)) : PS X (.If c a b pos) (lS g W (dIfS tc t u)) := ps_imp (ps_if hc ha hb) fun D σ H ⟨w, s, E, PX, rs, h, k, x⟩ =>
  ⟨w, s, _, PX, rs, h, fun d s1 H1 q e1 rs1 => by
    have m : Mv w H w H1 := .of_ext e1
    cases d with
    | true =>
      rw [if_pos rfl] at q
      show lS g W t D σ H1
      exact ⟨w, s1, E, PX, rs1, q, k.mv m rs.mem.av, x.mv m rs.mem.av⟩
    | false =>
      rw [if_neg Bool.false_ne_true] at q
      show lS g W u D σ H1
      exact ⟨w, s1, E, PX, rs1, q, k.mv m rs.mem.av, x.mv m rs.mem.av⟩, x.ex⟩
@[simp] def dSet (i : Nat) (td : TD) : TSd := fun s E X => td s (fun d s1 => E.nx { s1 with r := s1.r.set i (.dat d) }) X
theorem lS_set {i : Nat} {te : TE} (he : ∀ σ H Q, lE g W td σ H Q → te σ H Q) : ∀ D σ H, lS g W (dSet i td) D σ H → tAsg te (gName i) D σ H := fun D σ H ⟨w, s, E, PX, rs, h, k, x⟩ =>
  he _ _ _ ⟨w, s, _, PX, rs, h, fun d s1 H1 v q e1 rs1 rp => k.nx _ w H1 _ q (.of_ext e1) (rs1.set rp), x.ex⟩
theorem ds_set {st : Stmt} {i : Nat} (h : PS X st (tAsg (lE g W td) (gName i))) : PS X st (lS g W (dSet i td)) := ps_imp h (lS_set fun _ _ _ h => h)
@[simp] def dSetF (i : Nat) (tf : TDF) : TSd := fun s E X => tf s (fun ds s1 => E.nx { r := s1.r.set i (.cell s1.M.length), M := s1.M ++ [some (.lst ds)] }) X
def thaw (c : Nat) (ds : List D) : Sl → Sl
  | .cell j => if j = c then .dat (.lst ds) else .cell j
  | x => x
@[simp] theorem thaw_no (c : Nat) (ds : List D) : thaw c ds .no = .no := rfl
@[simp] theorem thaw_dat (c : Nat) (ds : List D) (d : D) : thaw c ds (.dat d) = .dat d := rfl
@[simp] theorem thaw_cell (c j : Nat) (ds : List D) : thaw c ds (.cell j) = if j = c then .dat (.lst ds) else .cell j := rfl
@[simp] def dFreeze (i : Nat) (t : TSd) : TSd := fun s E X => ∃ c ds, s.r[i]? = some (.cell c) ∧ s.M[c]? = some (some (.lst ds)) ∧ t { r := s.r.map (thaw c ds), M := s.M.set c none } E X
theorem lS_freeze {i : Nat} : ∀ D σ H, lS g W (dFreeze i t) D σ H → lS g W t D σ H := fun D σ H ⟨w, s, E, PX, rs, ⟨c, ds, ei, em, h⟩, k, x⟩ => by
  obtain ⟨p, ep, vs, hp, rv⟩ := rs.mem.at_ c _ em
  have hcl : c < w.cs.length := (List.getElem?_eq_some_iff.mp ep).1
  have nb : ¬ Cs.bad { w with cs := w.cs.set c none } p := fun z => by
    rcases z with z | z
    · obtain ⟨j, ej⟩ := List.getElem?_of_mem z
      by_cases hj : c = j
      · subst hj
        rw [List.getElem?_set_self hcl] at ej
        cases ej
      · rw [List.getElem?_set_ne hj] at ej
        exact hj (rs.mem.inj c j p ep ej)
    · exact (rs.mem.av p z).1 (List.mem_of_getElem? ep)
  have sub : ∀ a, Cs.bad { w with cs := w.cs.set c none } a → w.bad a := fun a z => by
    rcases z with z | z
    · obtain ⟨j, ej⟩ := List.getElem?_of_mem z
      by_cases hj : c = j
      · subst hj
        rw [List.getElem?_set_self hcl] at ej
        cases ej
      · rw [List.getElem?_set_ne hj] at ej
        exact .inl (List.mem_of_getElem? ej)
    · exact .inr z
  have m : Mv w H { w with cs := w.cs.set c none } H := by
    refine ⟨HExt.refl _ _, fun a z => .inl (sub a z), fun j y ej => ?_, fun a ha z => ?_, fun a h => h⟩
    · by_cases hj : c = j
      · subst hj
        exact .inr (List.getElem?_set_self hcl)
      · exact .inl (by show (w.cs.set c none)[j]? = _; rw [List.getElem?_set_ne hj]; exact ej)
    · have z : some a ∈ w.cs.set c none := z
      obtain ⟨j, ej⟩ := List.getElem?_of_mem z
      by_cases hj : c = j
      · subst hj
        rw [List.getElem?_set_self hcl] at ej
        cases ej
      · rw [List.getElem?_set_ne hj] at ej
        exact List.mem_of_getElem? ej
  have kk : ∀ a o, ¬ w.bad a → H a = some o → H a = some o ∧ ¬ Cs.bad { w with cs := w.cs.set c none } a := fun a o n e => ⟨e, fun z => n (sub a z)⟩
  refine ⟨{ w with cs := w.cs.set c none }, _, E, PX, ⟨by simp [rs.len], fun j y ej => ?_, ⟨by simp [rs.mem.len], fun j y ej => ?_, fun j a ej => ?_, fun j j' a e1 e2 => ?_, fun a ha => ?_, fun a ha => ⟨fun z => (rs.mem.tabs a ha).1 (sub a z), (rs.mem.tabs a ha).2⟩⟩⟩, h, k.mv m rs.mem.av, x.mv m rs.mem.av⟩
  · have ej : (s.r.map (thaw c ds))[j]? = some y := ej
    rw [List.getElem?_map] at ej
    cases ez : s.r[j]? with
    | none => rw [ez] at ej; cases ej
    | some z =>
      rw [ez] at ej
      cases ej
      have q := rs.slot j z ez
      cases z with
      | no => trivial
      | dat d => obtain ⟨v, ev, q⟩ := q; exact ⟨v, ev, Rep.gen kk q⟩
      | cell j' =>
        obtain ⟨a, ea, ev⟩ := q
        simp only [thaw]
        by_cases hj : j' = c
        · rw [if_pos hj]
          subst hj
          rw [ep] at ea
          cases ea
          exact ⟨.ref p, ev, Rep.lst nb hp (Reps.gen kk rv)⟩
        · rw [if_neg hj]
          exact ⟨a, by show (w.cs.set c none)[j']? = _; rw [List.getElem?_set_ne (Ne.symm hj)]; exact ea, ev⟩
  · have ej : (s.M.set c none)[j]? = some (some y) := ej
    by_cases hj : c = j
    · subst hj
      rw [List.getElem?_set_self (by rw [← rs.mem.len]; exact hcl)] at ej
      cases ej
    · rw [List.getElem?_set_ne hj] at ej
      obtain ⟨a, ea, q⟩ := rs.mem.at_ j y ej
      exact ⟨a, by show (w.cs.set c none)[j]? = _; rw [List.getElem?_set_ne hj]; exact ea, q.gen kk rfl⟩
  · have ej : (w.cs.set c none)[j]? = some (some a) := ej
    by_cases hj : c = j
    · subst hj
      rw [List.getElem?_set_self hcl] at ej
      cases ej
    · rw [List.getElem?_set_ne hj] at ej
      obtain ⟨y, ey⟩ := rs.mem.live j a ej
      exact ⟨y, by show (s.M.set c none)[j]? = _; rw [List.getElem?_set_ne hj]; exact ey⟩
  · have e1 : (w.cs.set c none)[j]? = some (some a) := e1
    have e2 : (w.cs.set c none)[j']? = some (some a) := e2
    have get : ∀ i, (w.cs.set c none)[i]? = some (some a) → w.cs[i]? = some (some a) := fun i e => by
      by_cases hj : c = i
      · subst hj
        rw [List.getElem?_set_self hcl] at e
        cases e
      · rw [List.getElem?_set_ne hj] at e
        exact e
    exact rs.mem.inj j j' a (get j e1) (get j' e2)
  · obtain ⟨n, o, e⟩ := rs.mem.av a ha
    refine ⟨fun z => ?_, o, e⟩
    obtain ⟨j, ej⟩ := List.getElem?_of_mem z
    by_cases hj : c = j
    · subst hj
      rw [List.getElem?_set_self hcl] at ej
      cases ej
    · rw [List.getElem?_set_ne hj] at ej
      exact n (List.mem_of_getElem? ej)
theorem dss_freeze {sts : List Stmt} (i : Nat) (h : PSs X sts (lS g W t)) : PSs X sts (lS g W (dFreeze i t)) := pss_imp h lS_freeze
abbrev TGd := D → S → (S → Prop) → Prop
abbrev TGds := List D → S → (S → Prop) → Prop
def lG (g : G) (ix : List Nat) (gt : TGd) : TG := fun v σ H Q => ∃ w s d P, RS g w H σ s ∧ Rep g w H d v ∧ gt d s P ∧ ∀ s' σ', P s' → RS g w H σ' s' → (∀ vs : List Nat, (∀ i ∈ ix, i ∈ vs) → wipe σ' vs = wipe σ vs) → Q σ' H
def lGs (g : G) (ix : List Nat) (gt : TGds) : TGs := fun vs σ H Q => ∃ w s ds P, RS g w H σ s ∧ Reps g w H ds vs ∧ gt ds s P ∧ ∀ s' σ', P s' → RS g w H σ' s' → (∀ vs : List Nat, (∀ i ∈ ix, i ∈ vs) → wipe σ' vs = wipe σ vs) → Q σ' H
theorem wipe_set_out {x : Option V} {i : Nat} : ∀ {vs : List Nat}, i ∉ vs → wipe (σ.set i x) vs = (wipe σ vs).set i x
  | [], _ => rfl
  | v :: vs, h => by
    have h1 : i ≠ v := fun e => h (by simp [e])
    have h2 : i ∉ vs := fun e => h (by simp [e])
    unfold wipe
    rw [wipe_set_out h2, List.set_comm _ _ h1]
theorem wipe_set_in {x : Option V} {i : Nat} : ∀ {vs : List Nat}, i ∈ vs → wipe (σ.set i x) vs = wipe σ vs
  | v :: vs, h => by
    unfold wipe
    by_cases h2 : i ∈ vs
    · rw [wipe_set_in h2]
    · have e : i = v := by
        rcases List.mem_cons.mp h with z | z
        · exact z
        · exact absurd z h2
      subst e
      rw [wipe_set_out h2, List.set_set]
@[simp] def dgName (i : Nat) : TGd := fun d s P => P { s with r := s.r.set i (.dat d) }
theorem pg_imp {X : Cx} {tg : Expr} {t t' : TG} (h : PG X tg t) (i : ∀ v σ H Q, t' v σ H Q → t v σ H Q) : PG X tg t' := ⟨fun p s σ H v u Q I r q => h.run p s σ H v u Q I r (i v σ H Q q)⟩
theorem dg_name {i : Nat} {tg : Expr} (h : PG X tg (gName i)) : PG X tg (lG g [i] (dgName i)) := pg_imp h fun v σ H Q ⟨w, s, d, P, rs, rp, h, k⟩ => k _ _ h (rs.set rp) fun vs hv => wipe_set_in (hv i (by simp))
@[simp] def dgsNil : TGds := fun ds s P => ds = [] ∧ P s
@[simp] def dgsCons (t : TGd) (u : TGds) : TGds := fun ds s P => match ds with
  | d :: r => t d s fun s' => u r s' P
  | [] => False
theorem dgs_nil {ix : List Nat} : PGs X [] (lGs g ix dgsNil) := ⟨fun pins s σ H vs us Q I r ⟨w, s1, ds, P, rs, rp, ⟨e, h⟩, k⟩ => pgs_nil.run pins s σ H vs us Q I r ⟨by subst e; simpa only [Reps] using rp, k s1 σ h rs fun _ _ => rfl⟩⟩
theorem dgs_cons {tg : Expr} {tgs : List Expr} {ix jx : List Nat} {t : TGd} {u : TGds} (h1 : PG X tg (lG g ix t)) (h2 : PGs X tgs (lGs g jx u))
    (hs : (assignEach (tg :: tgs) X.env).map (·.2) = assign tg X.env :: (assignEach tgs X.env).map (·.2) := by rfl) : PGs X (tg :: tgs) (lGs g (ix ++ jx) (dgsCons t u)) := ⟨fun pins s σ H vs us Q I r ⟨w, s1, ds, P, rs, rp, h, k⟩ => (pgs_cons h1 h2 hs).run pins s σ H vs us Q I r (by
    cases ds with
    | nil => exact h.elim
    | cons d ds =>
      simp only [Reps] at rp
      obtain ⟨v, r', e, q, z⟩ := rp
      subst e
      exact ⟨v, r', rfl, w, s1, d, _, rs, q, h, fun s2 σ2 h2 rs2 hw => ⟨w, s2, ds, P, rs2, z, h2, fun s3 σ3 h3 rs3 hw3 => k s3 σ3 h3 rs3 fun vs hv => (hw3 vs fun i hi => hv i (List.mem_append_right _ hi)).trans (hw vs fun i hi => hv i (List.mem_append_left _ hi))⟩⟩)⟩
@[simp] def dgTup (n : Nat) (t : TGds) : TGd := fun d s P => match d with
  | .tup ds => ds.length = n ∧ t ds s P
  | _ => False
theorem dg_tup {tgs : List Expr} {k n : Nat} {ix : List Nat} {t : TGds} {p : Pos} (hc : X.calm = true) (h : PGs X tgs (lGs g ix t)) (hn : (assignEach tgs X.env).length = n := by rfl) (hst : (assignEach tgs X.env).findIdx? (·.1) = none := by rfl) : PG X (.Tuple tgs k p) (lG g ix (dgTup n t)) :=
  pg_imp (pg_tup hc h hn hst) fun v σ H Q ⟨w, s, d, P, rs, rp, h, k⟩ => by
    cases d <;> try exact h.elim
    simp only [Rep] at rp
    obtain ⟨a, vs, e, n, hp, rv⟩ := rp
    exact ⟨a, vs, e, SqT.of hp, by rw [rv.len]; exact h.1, w, s, _, P, rs, rv, h.2, k⟩
@[simp] def dAsg (td : TD) (gt : TGd) : TSd := fun s E X => td s (fun d s1 => gt d s1 E.nx) X
theorem ds_asg {st : Stmt} {ix : List Nat} {gt : TGd} (h : PS X st (tAsg (lE g W td) (lG g ix gt))) : PS X st (lS g W (dAsg td gt)) := ps_imp h fun D σ H ⟨w, s, E, PX, rs, h, k, x⟩ =>
  ⟨w, s, _, PX, rs, h, fun d s1 H1 v q e1 rs1 rp => ⟨w, s1, d, _, rs1, rp, q, fun s2 σ2 p rs2 _ => k.nx s2 w H1 σ2 p (.of_ext e1) rs2⟩, x.ex⟩
@[simp] def dPar (i j : Nat) (t : TDA) : TSd := fun s E X => t s (fun xs s1 => ∃ x y, xs = [x, y] ∧ x ≠ .no ∧ y ≠ .no ∧ E.nx { s1 with r := (s1.r.set i x).set j y }) X
end
end DL
namespace DL
open PySem L2
section
variable {X : Cx} {g : G} {W : WX} {pos : Pos} {a b c e : Expr} {ta tb tc : TD} {w : Cs} {H H' : Hp} {σ : L2.St} {s : S}
structure WalkD (g : G) (w : Cs) (H : Hp) (J : It) (ds : List D) : Prop where
  ex : ∃ (Gd : Hp → Prop) (Y : Nat → Hp → V → Hp → Prop), Walk J ds.length Gd Y ∧ (∀ w' H', Mv w H w' H' → Gd H') ∧
    ∀ i w' H1 x H2, i < ds.length → Mv w H w' H1 → (∀ a, H1 a = none → ¬ w'.bad a) → Y i H1 x H2 → Same H1 H2 ∧ ∃ d, ds[i]? = some d ∧ Rep g w' H2 d x
abbrev TDI := S → (List D → S → Prop) → KX → Prop
def lI (g : G) (W : WX) (td : TDI) : TI := fun σ H R => ∃ w s P PX, RS g w H σ s ∧ td s P PX ∧ (∀ ds s' H' J, P ds s' → HExt w H H' → RS g w H' σ s' → WalkD g w H' J ds → R J H') ∧ XOk g w H σ PX W
theorem pi_imp {tg iter : Expr} {t t' : TI} (h : PI X tg iter t) (i : ∀ σ H R, t' σ H R → t σ H R) : PI X tg iter t' := ⟨fun p s σ H R I q => h.run p s σ H R I (i σ H R q)⟩
theorem walkD_list {a : Addr} {ds : List D} {vs : List V} (K : PySem.W.Frag) (n : ¬ w.bad a) (h : H a = some (.lst vs)) (rv : Reps g w H ds vs) : WalkD g w H (Itl K a) ds :=
  ⟨fun H => SqL K H a vs, YAt vs, by rw [← rv.len]; exact walk_list, fun w' H' m => SqL.of (m.at_ n h), fun i w' H1 x H2 hi m _ y => by
    obtain ⟨e, y⟩ := y
    subst e
    exact ⟨Same0, (rv.mv m).get y⟩⟩
theorem walkD_tup {a : Addr} {ds : List D} {vs : List V} (K : PySem.W.Frag) (n : ¬ w.bad a) (h : H a = some (.tup vs)) (rv : Reps g w H ds vs) : WalkD g w H (Itt K a) ds :=
  ⟨fun H => SqT K H a vs, YAt vs, by rw [← rv.len]; exact walk_tup, fun w' H' m => SqT.of (m.at_ n h), fun i w' H1 x H2 hi m _ y => by
    obtain ⟨e, y⟩ := y
    subst e
    exact ⟨Same0, (rv.mv m).get y⟩⟩
def iSeq (K : PySem.W.Frag) (tl : TE) : TI := fun σ H R => tl σ H fun x H1 => ∃ a, x = .ref a ∧ ((∃ xs, SqL K H1 a xs ∧ R (Itl K a) H1) ∨ ∃ xs, SqT K H1 a xs ∧ R (Itt K a) H1)
theorem pi_seq {tg l : Expr} {tl : TE} (hl : PE X l tl) : PI X tg l (iSeq X.K tl) := by
  refine ⟨fun pins s σ H R I h => ?_⟩
  refine thn (hl.run pins s σ H _ I h) fun v s1 ⟨x, H1, I1, r1, q1⟩ => ?_
  obtain ⟨a, e, q⟩ := q1
  subst e
  cases r1
  rcases q with ⟨xs, hq, q⟩ | ⟨xs, hq, q⟩
  · obtain ⟨its, rv, p, hz⟩ := I1.list hq
    refine wpAny_pyIter_list p.isList ?_
    refine ⟨s1.heap.objs.size, [s1.heap.objs.size], _, _, H1, rfl, I1.kept (t' := s1.toks) fun b o e => Heap.get?_push_of_some _ e, turn_list a _, ⟨_, Heap.get?_push_size _ rfl, rfl, rfl⟩, fun b hb => ?_, q⟩
    have e : b = s1.heap.objs.size := by simpa using hb
    subst e
    exact I1.fpOk (Nat.le_refl _) (I1.hok.fresh (Nat.le_refl _))
  · obtain ⟨its, rv, p, hz⟩ := I1.tuple hq
    refine wpAny_pyIter_tuple (show s1.heap.IsTuple a its.toArray from p) ?_
    refine ⟨s1.heap.objs.size, [s1.heap.objs.size], _, _, H1, rfl, I1.kept (t' := s1.toks) fun b o e => Heap.get?_push_of_some _ e, turn_tuple a _, ⟨_, Heap.get?_push_size _ rfl, rfl, rfl⟩, fun b hb => ?_, q⟩
    have e : b = s1.heap.objs.size := by simpa using hb
    subst e
    exact I1.fpOk (Nat.le_refl _) (I1.hok.fresh (Nat.le_refl _))
@[simp] def seqD : D → Option (List D)
  | .lst ds => some ds
  | .tup ds => some ds
  | _ => none
@[simp] def dIter (td : TD) : TDI := fun s P X => td s (fun d s1 => ∃ ds, seqD d = some ds ∧ P ds s1) X
theorem di_seq {tg l : Expr} (hl : PE X l (lE g W ta)) : PI X tg l (lI g W (dIter ta)) := pi_imp (pi_seq hl) fun σ H R ⟨w, s, P, PX, rs, h, k, x⟩ =>
  ⟨w, s, _, PX, rs, h, fun d s1 H1 v q e1 rs1 rp => by
    obtain ⟨ds, ed, q⟩ := q
    cases d <;> simp only [seqD, reduceCtorEq, Option.some.injEq] at ed
    · subst ed
      simp only [Rep] at rp
      obtain ⟨a, vs, e, n, hp, rv⟩ := rp
      exact ⟨a, e, .inr ⟨vs, SqT.of hp, k _ s1 H1 _ q e1 rs1 (walkD_tup _ n hp rv)⟩⟩
    · subst ed
      simp only [Rep] at rp
      obtain ⟨a, vs, e, n, hp, rv⟩ := rp
      exact ⟨a, e, .inl ⟨vs, SqL.of hp, k _ s1 H1 _ q e1 rs1 (walkD_list _ n hp rv)⟩⟩, x⟩
def rangeD (lo : Int) (n : Nat) : List D := (List.range n).map fun (i : Nat) => D.int (lo + (i : Int))
theorem walkD_range {lo : Int} {n : Nat} : WalkD g w H (Itr lo n) (rangeD lo n) :=
  ⟨fun _ => True, YFn fun i => .int (lo + i), by unfold rangeD; rw [List.length_map, List.length_range]; exact walk_range, fun _ _ _ => trivial, fun i w' H1 x H2 hi m _ y => by
    obtain ⟨e, y⟩ := y
    subst e y
    refine ⟨Same0, .int (lo + i), ?_, by simp only [Rep]⟩
    have hi : i < n := by simpa [rangeD] using hi
    simp [rangeD, hi]⟩
variable {t : TDA}
def small (i : Int) : Prop := -(2 ^ 62) ≤ i ∧ i < 2 ^ 62
@[simp] def dRange1 (t : TDA) : TDI := fun s P X => t s (fun xs s1 => ∃ n, xs = [.dat (.int n)] ∧ small n ∧ P (rangeD 0 n.toNat) s1) X
@[simp] def dRange2 (t : TDA) : TDI := fun s P X => t s (fun xs s1 => ∃ m n, xs = [.dat (.int m), .dat (.int n)] ∧ small m ∧ small n ∧ P (rangeD m (n - m).toNat) s1) X
theorem di_range1 {tg : Expr} {p : Pos} (hg : Gl X "range") (hm : X.mg "range" = none) (ha : PA X [a] (lA g W t)) (hs : starEach [a] X.env = [(false, eval a X.env)] := by rfl) : PI X tg (.Call (.Name "range" p) [a] [] pos) (lI g W (dRange1 t)) := pi_imp (pi_range1 hg hm ha hs) fun σ H R ⟨w, s, P, PX, rs, h, k, x⟩ =>
  ⟨w, s, _, PX, rs, h, fun xs s1 H1 vs q e1 rs1 ra => by
    obtain ⟨n, e, ⟨h1, h2⟩, q⟩ := q
    subst e
    obtain ⟨v, e, rp⟩ := ArgOk.one ra
    simp only [Rep] at rp
    subst e rp
    exact ⟨n, rfl, h1, h2, k _ s1 H1 _ q e1 rs1 walkD_range⟩, x⟩
def loopD (gt : TGd) (tb : TSd) (E : EK) (PX : KX) : List D → S → Prop
  | [], s => E.nx s
  | d :: ds, s => gt d s fun s1 => tb s1 { nx := loopD gt tb E PX ds, ct := loopD gt tb E PX ds, bk := E.nx, rt := E.rt } PX
@[simp] def dFor (wd : TDI) (gt : TGd) (tb : TSd) : TSd := fun s E X => wd s (fun ds s1 => loopD gt tb E X ds s1) X
theorem ds_for {tg iter : Expr} {body : List Stmt} {ix : List Nat} {wd : TDI} {gt : TGd} {tb : TSd} (h : PS X (.For tg iter body [] pos) (tFor (lI g W wd) (lG g ix gt) (lS g W tb))) : PS X (.For tg iter body [] pos) (lS g W (dFor wd gt tb)) := ps_imp h fun D σ H ⟨w, s, E, PX, rs, h, k, x⟩ =>
  ⟨w, s, _, PX, rs, h, fun ds s1 H1 J q e1 rs1 wk => by
    obtain ⟨Gd, Y, wk, hG, hY⟩ := wk.ex
    have av := rs.mem.av
    have av1 := rs1.mem.av
    have m1 : Mv w H w H1 := .of_ext e1
    refine for_it wk (fun i σ' H' => ∃ w' s', Mv w H1 w' H' ∧ RS g w' H' σ' s' ∧ loopD gt tb E PX (ds.drop i) s') ⟨w, s1, Mv.refl _ _, rs1, q⟩ (fun i σ' H' _ ⟨w', s', m, _, _⟩ => hG w' H' m) ?_ ?_
    · rintro i x1 σ' H' H2 hi ⟨w', s', m, rs', q⟩ y
      obtain ⟨sm, d, ed, rp⟩ := hY i w' H' x1 H2 hi m (fun a n => rs'.mem.fresh n) y
      have ed2 : ds.drop i = d :: ds.drop (i + 1) := by
        rw [List.drop_eq_getElem_cons hi]
        rw [List.getElem?_eq_getElem hi] at ed
        cases ed
        rfl
      rw [ed2] at q
      have rs2 := rs'.same sm
      have m2 : Mv w H1 w' H2 := m.trans (.of_same sm) av1
      refine ⟨w', s', d, _, rs2, rp, q, fun s3 σ3 q3 rs3 _ => ?_⟩
      have nx : NOk g w' H2 (loopD gt tb E PX (ds.drop (i + 1))) (fun σ' H' => ∃ w' s', Mv w H1 w' H' ∧ RS g w' H' σ' s' ∧ loopD gt tb E PX (ds.drop (i + 1)) s') := fun s4 w4 H4 σ4 q4 m4 rs4 => ⟨w4, s4, m2.trans m4 av1, rs4, q4⟩
      refine ⟨w', s3, _, PX, rs3, q3, ⟨nx, (k.nx.mv m1 av).mv m2 av1, nx, ((k.mv m1 av).mv m2 av1).rt⟩, (x.mv m1 av).mv m2 av1⟩
    · rintro σ' H' ⟨w', s', m, rs', q⟩
      rw [List.drop_length] at q
      exact k.nx s' w' H' σ' q (m1.trans m av) rs', x.ex⟩
def whileD (c : TDB) (tb : TSd) (E : EK) (PX : KX) : Nat → S → Prop
  | 0, _ => False
  | n + 1, s => c s (fun b s1 => if b = true then tb s1 { nx := whileD c tb E PX n, ct := whileD c tb E PX n, bk := E.nx, rt := E.rt } PX else E.nx s1) PX
def dWhile (c : TDB) (tb : TSd) : TSd := fun s E X => ∃ n, whileD c tb E X n s
abbrev noX : KX := fun _ _ _ => False
abbrev W0 : WX := fun _ _ _ _ => False
@[simp] def wipeS : List Sl → List Nat → List Sl
  | r, [] => r
  | r, v :: vs => (wipeS r vs).set v .no
def lcD (gt : TGd) (tt : TDB) (te : TD) (vs : List Nat) (P : List D → S → Prop) : List D → List D → S → Prop
  | [], acc, s => P acc s
  | d :: ds, acc, s => gt d { s with r := wipeS s.r vs } fun s2 => tt s2 (fun b s3 => if b = true then te s3 (fun z s4 => acc.length < sizeLine ∧ lcD gt tt te vs P ds (acc ++ [z]) { s4 with r := s.r }) noX else lcD gt tt te vs P ds acc { s3 with r := s.r }) noX
@[simp] def dLc (wd : TDI) (gt : TGd) (tt : TDB) (te : TD) (vs : List Nat) : TDF := fun s P X => wd s (fun ds s1 => lcD gt tt te vs P ds [] s1) X
theorem RS.wipe (r : RS g w H σ s) : ∀ vs : List Nat, RS g w H (wipe σ vs) { s with r := wipeS s.r vs }
  | [] => r
  | v :: vs => (RS.wipe r vs).setNo
theorem xok0 : XOk g w H σ noX W := fun _ _ _ _ _ _ h => h.elim
theorem lF_lc {wi : TI} {gg : TG} {tt' : TT} {te' : TE} {wd : TDI} {gt : TGd} {tt : TDB} {te : TD} {vs ix : List Nat} (hwi : ∀ σ H R, lI g W wd σ H R → wi σ H R) (hgg : ∀ v σ H Q, lG g ix gt v σ H Q → gg v σ H Q) (htt : ∀ σ H Q, lB g W0 tt σ H Q → tt' σ H Q) (hte : ∀ σ H Q, lE g W0 te σ H Q → te' σ H Q) (hix : ∀ i ∈ ix, i ∈ vs) :
    ∀ σ H Q, lF g W (dLc wd gt tt te vs) σ H Q → tLc wi gg tt' te' vs σ H Q := fun σ H Q ⟨w, s, P, PX, rs, h, k, x⟩ =>
  hwi _ _ _ ⟨w, s, _, PX, rs, h, fun ds s1 H1 J q e1 rs1 wk => by
    intro p hp
    obtain ⟨Gd, Y, wk, hG, hY⟩ := wk.ex
    have nb := rs1.mem.fresh hp
    have nc : some p ∉ w.cs := fun z => nb (.inl z)
    have m0 : Mv w H1 (w.out p) (upd H1 p (.lst [])) := mv_out (.of_same (same_upd hp)) hp
    refine lc_it wk (fun i H' => ∃ M acc vacc, RS g (w.out p) H' σ { s1 with M := M } ∧ HExt w H1 H' ∧ H' p = some (.lst vacc) ∧ Reps g (w.out p) H' acc vacc ∧ lcD gt tt te vs P (ds.drop i) acc { s1 with M := M }) ⟨s1.M, [], [], rs1.out hp, m0.ext, upd_same, Reps.nil, q⟩ (fun i H' _ ⟨M, acc, vacc, r, e, _⟩ => hG (w.out p) H' (mv_out e hp)) ?_ ?_
    · rintro i x1 H2 H3 hi ⟨M, acc, vacc, rs2, e2, hp2, ra, q⟩ y
      have m2 : Mv w H1 (w.out p) H2 := mv_out e2 hp
      obtain ⟨sm, d, ed, rp⟩ := hY i (w.out p) H2 x1 H3 hi m2 (fun a n => rs2.mem.fresh n) y
      have ed2 : ds.drop i = d :: ds.drop (i + 1) := by
        rw [List.drop_eq_getElem_cons hi]
        rw [List.getElem?_eq_getElem hi] at ed
        cases ed
        rfl
      rw [ed2] at q
      have rs3 := rs2.same sm
      refine hgg _ _ _ _ ⟨w.out p, _, d, _, rs3.wipe vs, rp, q, fun s4 σ4 q4 rs4 hw => ?_⟩
      have e3 : HExt w H1 H3 := e2.trans (.of_same sm)
      refine ⟨?_, htt _ _ _ ⟨w.out p, s4, _, noX, rs4, q4, fun bb s5 H5 q5 e5 rs5 => ?_, xok0⟩⟩
      · rw [hw vs hix]
        clear hw q4
        have idem : ∀ us : List Nat, (∀ i ∈ us, i ∈ vs) → L2.wipe (L2.wipe σ vs) us = L2.wipe σ vs := by
          intro us
          induction us with
          | nil => intro _; rfl
          | cons u us ih =>
            intro hu
            show (L2.wipe (L2.wipe σ vs) us).set u none = _
            rw [ih fun i hi => hu i (List.mem_cons_of_mem _ hi)]
            have hm : u ∈ vs := hu u List.mem_cons_self
            have key : ∀ ws : List Nat, u ∈ ws → (L2.wipe σ ws).set u none = L2.wipe σ ws := by
              intro ws
              induction ws with
              | nil => intro h; cases h
              | cons v ws ih2 =>
                intro h
                show ((L2.wipe σ ws).set v none).set u none = (L2.wipe σ ws).set v none
                by_cases e : u = v
                · subst e
                  rw [List.set_set]
                · rw [List.set_comm _ _ (Ne.symm e)]
                  rcases List.mem_cons.mp h with z | z
                  · exact absurd z e
                  · rw [ih2 z]
            exact key vs hm
        exact idem vs fun _ h => h
      · have e5' : HExt w H1 H5 := e3.trans e5
        cases bb with
        | true =>
          rw [if_pos rfl] at q5
          dsimp only
          rw [if_pos rfl]
          refine hte _ _ _ ⟨w.out p, s5, _, noX, rs5, q5, fun z s6 H6 v6 q6 e6 rs6 rp6 => ?_, xok0⟩
          have e36 : HExt (w.out p) H3 H6 := e5.trans e6
          have hp6 : H6 p = some (.lst vacc) := e36 _ _ nc (sm _ _ hp2)
          have ra6 : Reps g (w.out p) H6 acc vacc := (ra.mv (.of_same sm)).mv (.of_ext e36)
          refine ⟨vacc, hp6, by rw [ra6.len]; exact q6.1, s6.M, acc ++ [z], vacc ++ [v6], ?_, ?_, upd_same, ?_, q6.2⟩
          · have r7 := rs3.mem' e36 rs6.mem
            exact r7.updOut List.mem_cons_self
          · exact (e5'.trans e6).updN hp
          · exact Reps.gen (upd_k (.inr List.mem_cons_self)) (Reps.app ra6 (Reps.cons rp6 Reps.nil))
        | false =>
          rw [if_neg Bool.false_ne_true] at q5
          dsimp only
          rw [if_neg Bool.false_ne_true]
          refine ⟨s5.M, acc, vacc, rs3.mem' e5 rs5.mem, e5', e5 _ _ nc (sm _ _ hp2), (ra.mv (.of_same sm)).mv (.of_ext e5), q5⟩
    · rintro H2 ⟨M, acc, vacc, rs2, e2, hp2, ra, q⟩
      rw [List.drop_length] at q
      exact k acc _ H2 p vacc q (e1.trans e2) (fresh0 e1 nb hp) nb rs2 hp2 ra, x⟩
theorem df_lc {elt : Expr} {gs : List Comprehension} {scope : Scope} {wd : TDI} {gt : TGd} {tt : TDB} {te : TD} {vs ix : List Nat} (h : PE X (.ListComp elt gs scope pos) (tLc (lI g W wd) (lG g ix gt) (lB g W0 tt) (lE g W0 te) vs)) (hix : ∀ i ∈ ix, i ∈ vs := by decide) : PE X (.ListComp elt gs scope pos) (lF g W (dLc wd gt tt te vs)) :=
  pe_imp h (lF_lc (fun _ _ _ h => h) (fun _ _ _ _ h => h) (fun _ _ _ h => h) (fun _ _ _ h => h) hix)
end
end DL
namespace DL
open PySem L2
abbrev KXM := Str → D → Mem → Prop
abbrev SpD := List Sl → Mem → (D → Mem → Prop) → KXM → Prop
section
variable {X : Cx} {g : G} {W : WX} {pos : Pos} {a b c e : Expr} {ta tb tc : TD} {w : Cs} {H H' : Hp} {σ : L2.St} {s : S}
def lSp (g : G) (spd : SpD) : Sp := fun vs H Q E => ∃ w xs M P PX, ArgOk g w H xs vs ∧ MemOk g w H M ∧ spd xs M P PX ∧ (∀ d M' H' v, P d M' → HExt w H H' → MemOk g w H' M' → Rep g w H' d v → Q v H') ∧
  (∀ c x M' H' dd v, PX c x M' → HExt w H H' → MemOk g w H' M' → XdAt w H' dd v → Rep g w H' x v → E (.ref (g.CA c)) (some dd) H')
@[simp] def cellsIn : List Sl → List Nat
  | [] => []
  | .cell c :: r => c :: cellsIn r
  | _ :: r => cellsIn r
@[simp] def ren0 : Sl → Sl
  | .cell _ => .cell 0
  | x => x
@[simp] def callM (spd : SpD) (xs : List Sl) (s : S) (P : D → S → Prop) (PX : KX) : Prop := match cellsIn xs with
  | [] => spd xs [] (fun d _ => P d s) (fun c x _ => PX c x s)
  | [c] => ∃ m, s.M[c]? = some (some m) ∧ spd (xs.map ren0) [some m] (fun d M' => ∃ m', M' = [some m'] ∧ P d { s with M := s.M.set c (some m') }) (fun k x M' => ∃ m', M' = [some m'] ∧ PX k x { s with M := s.M.set c (some m') })
  | _ => False
def Cs.all (w : Cs) : List Addr := w.cs.filterMap id
theorem mem_all {a : Addr} : a ∈ w.all ↔ some a ∈ w.cs := by
  unfold Cs.all
  rw [List.mem_filterMap]
  constructor
  · rintro ⟨x, h, e⟩
    have e : x = some a := e
    subst e
    exact h
  · intro h
    exact ⟨some a, h, rfl⟩
def Cs.none_ (w : Cs) : Cs := ⟨[], w.all ++ w.av⟩
def Cs.one_ (w : Cs) (a : Addr) : Cs := ⟨[some a], (w.all.filter fun b => decide (b ≠ a)) ++ w.av⟩
theorem bad_none {a : Addr} : w.none_.bad a ↔ w.bad a := by
  unfold Cs.bad Cs.none_
  simp only [List.not_mem_nil, false_or, List.mem_append, mem_all]
theorem bad_one {p a : Addr} (hp : some p ∈ w.cs) : (w.one_ p).bad a ↔ w.bad a := by
  unfold Cs.bad Cs.one_
  simp only [List.mem_cons, Option.some.injEq, List.not_mem_nil, or_false, List.mem_append, List.mem_filter, mem_all, decide_eq_true_eq]
  constructor
  · rintro (h | ⟨h, _⟩ | h)
    · subst h; exact .inl hp
    · exact .inl h
    · exact .inr h
  · rintro (h | h)
    · by_cases e : a = p
      · exact .inl e
      · exact .inr (.inl ⟨h, e⟩)
    · exact .inr (.inr h)
theorem kb {w w' : Cs} (h : ∀ a, w'.bad a ↔ w.bad a) : ∀ a o, ¬ w.bad a → H a = some o → H a = some o ∧ ¬ w'.bad a := fun a o n e => ⟨e, fun z => n ((h a).mp z)⟩
theorem ArgOk.none_ : ∀ {xs : List Sl} {vs : List V}, ArgOk g w H xs vs → cellsIn xs = [] → ArgOk g w.none_ H xs vs
  | [], _, h, _ => h
  | .no :: _, _, h, _ => h
  | .dat d :: xs, _, h, e => by
    obtain ⟨v, r, ev, q, z⟩ := h
    exact ⟨v, r, ev, Rep.gen (kb fun a => bad_none) q, ArgOk.none_ z e⟩
  | .cell c :: xs, _, h, e => nomatch e
theorem ArgOk.noCell {w' : Cs} (hb : ∀ a, w'.bad a ↔ w.bad a) : ∀ {xs : List Sl} {vs : List V}, ArgOk g w H xs vs → cellsIn xs = [] → ArgOk g w' H (xs.map ren0) vs
  | [], _, h, _ => h
  | .no :: _, _, h, _ => h
  | .dat d :: xs, _, h, e => by
    obtain ⟨v, r, ev, q, z⟩ := h
    exact ⟨v, r, ev, Rep.gen (kb hb) q, ArgOk.noCell hb z e⟩
  | .cell c :: xs, _, h, e => nomatch e
theorem ArgOk.one_ {c : Nat} {p : Addr} (hp : w.cs[c]? = some (some p)) : ∀ {xs : List Sl} {vs : List V}, ArgOk g w H xs vs → cellsIn xs = [c] → ArgOk g (w.one_ p) H (xs.map ren0) vs
  | [], _, h, e => nomatch e
  | .no :: _, _, h, _ => h
  | .dat d :: xs, _, h, e => by
    obtain ⟨v, r, ev, q, z⟩ := h
    exact ⟨v, r, ev, Rep.gen (kb fun a => bad_one (List.mem_of_getElem? hp)) q, ArgOk.one_ hp z e⟩
  | .cell j :: xs, _, h, e => by
    obtain ⟨a, r, ev, q, z⟩ := h
    simp only [cellsIn, List.cons.injEq] at e
    obtain ⟨e1, e2⟩ := e
    subst e1
    rw [hp] at q
    cases q
    exact ⟨p, r, ev, rfl, ArgOk.noCell (fun a => bad_one (List.mem_of_getElem? hp)) z e2⟩
theorem MemOk.none_ {M : Mem} (m : MemOk g w H M) : MemOk g w.none_ H [] := by
  refine ⟨rfl, fun c x e => absurd e (by simp), fun c a e => absurd e (by simp [Cs.none_]), fun c c' a e => absurd e (by simp [Cs.none_]), fun a ha => ⟨fun z => absurd z (by simp [Cs.none_]), ?_⟩, fun a ha => ⟨fun z => (m.tabs a ha).1 (bad_none.mp z), (m.tabs a ha).2⟩⟩
  exact m.tracked (bad_none.mp (.inr ha))
theorem MemOk.one_ {M : Mem} {c : Nat} {p : Addr} {x : CC} (m : MemOk g w H M) (hp : w.cs[c]? = some (some p)) (hx : M[c]? = some (some x)) : MemOk g (w.one_ p) H [some x] := by
  have hb : ∀ a, (w.one_ p).bad a ↔ w.bad a := fun a => bad_one (List.mem_of_getElem? hp)
  refine ⟨rfl, fun j y e => ?_, fun j a e => ?_, fun j j' a e e' => ?_, fun a ha => ⟨fun z => ?_, m.tracked ((hb a).mp (.inr ha))⟩, fun a ha => ⟨fun z => (m.tabs a ha).1 ((hb a).mp z), (m.tabs a ha).2⟩⟩
  · cases j with
    | zero =>
      cases e
      obtain ⟨a, ea, q⟩ := m.at_ c x hx
      rw [hp] at ea
      cases ea
      exact ⟨p, rfl, q.gen (kb hb) rfl⟩
    | succ j => simp at e
  · cases j with
    | zero => exact ⟨x, rfl⟩
    | succ j => simp [Cs.one_] at e
  · cases j with
    | zero =>
      cases j' with
      | zero => rfl
      | succ j => simp [Cs.one_] at e'
    | succ j => simp [Cs.one_] at e
  · have z : a = p := by simpa [Cs.one_] using z
    subst z
    have ha : a ∈ (w.all.filter fun b => decide (b ≠ a)) ++ w.av := ha
    rcases List.mem_append.mp ha with h | h
    · have := (List.mem_filter.mp h).2
      simp at this
    · exact (m.av a h).1 (List.mem_of_getElem? hp)
theorem RS.after_one {c : Nat} {p : Addr} {x' : CC} (r : RS g w H σ s) (hp : w.cs[c]? = some (some p)) (e : HExt (w.one_ p) H H') (m : MemOk g (w.one_ p) H' [some x']) :
    HExt w H H' ∧ RS g w H' σ { s with M := s.M.set c (some x') } := by
  have hb : ∀ a, (w.one_ p).bad a ↔ w.bad a := fun a => bad_one (List.mem_of_getElem? hp)
  have hcl : c < s.M.length := by rw [← r.mem.len]; exact (List.getElem?_eq_some_iff.mp hp).1
  have ne : ∀ a, a ≠ p → some a ∉ (w.one_ p).cs := fun a h z => h (by simpa [Cs.one_] using z)
  have e' : HExt w H H' := e.sub fun a n => ne a fun z => n (by rw [z]; exact List.mem_of_getElem? hp)
  refine ⟨e', r.mem' e' ⟨by simp [r.mem.len], fun j y ej => ?_, fun j a ej => ?_, r.mem.inj, fun a ha => ?_, fun a ha => ⟨(r.mem.tabs a ha).1, e'.tab (fun z => (r.mem.tabs a ha).1 (.inl z)) (r.mem.tabs a ha).2⟩⟩⟩
  · have ej : (s.M.set c (some x'))[j]? = some (some y) := ej
    by_cases hj : c = j
    · subst hj
      rw [List.getElem?_set_self hcl] at ej
      cases ej
      obtain ⟨a, ea, q⟩ := m.at_ 0 x' rfl
      have ea : some p = some a := by simpa [Cs.one_] using ea
      cases ea
      exact ⟨p, hp, q.gen (kb fun a => (hb a).symm) rfl⟩
    · rw [List.getElem?_set_ne hj] at ej
      obtain ⟨a, ea, q⟩ := r.mem.at_ j y ej
      obtain ⟨o, eo, nt⟩ := q.trackedN
      have hap : a ≠ p := fun z => hj (r.mem.inj c j p hp (by rw [ea, z]))
      exact ⟨a, ea, q.mv (.of_ext e') ((e a o (ne a hap) eo nt).trans eo.symm)⟩
  · obtain ⟨y, ey⟩ := r.mem.live j a ej
    by_cases hj : c = j
    · subst hj
      exact ⟨_, List.getElem?_set_self hcl⟩
    · exact ⟨y, by show (s.M.set c _)[j]? = _; rw [List.getElem?_set_ne hj]; exact ey⟩
  · obtain ⟨n, o, h⟩ := r.mem.av a ha
    exact ⟨n, e'.ex n h⟩
@[simp] def dCall (spd : SpD) (t : TDA) : TD := fun s P X => t s (fun xs s1 => callM spd xs s1 P X) X
theorem lE_call {spd : SpD} {t : TDA} {ta : TA} (ht : ∀ σ H Q, lA g W t σ H Q → ta σ H Q) : ∀ σ H Q, lE g W (dCall spd t) σ H Q → tCallS (lSp g spd) (WE W) ta σ H Q := fun σ H Q ⟨w, s, P, PX, rs, h, k, x⟩ =>
  ht _ _ _ ⟨w, s, _, PX, rs, h, fun xs s1 H1 vs q e1 rs1 ra => by
    have q : callM spd xs s1 P PX := q
    unfold callM at q
    split at q
    · rename_i hc
      refine ⟨w.none_, xs, [], _, _, ra.none_ hc, rs1.mem.none_, q, fun d M' H2 v p e2 m2 rp => ?_, fun cc xx M' H2 dd v p e2 m2 hd rp => ?_⟩
      · have sm : HExtC [] H1 H2 := e2
        exact k d s1 H2 v p (e1.trans sm.all_) (rs1.grown sm) (Rep.gen (kb fun a => bad_none.symm) rp)
      · have sm : HExtC [] H1 H2 := e2
        exact x cc xx s1 H2 dd v p (e1.trans sm.all_) (rs1.grown sm) ⟨fun z => hd.1 (bad_none.mpr z), hd.2⟩ (Rep.gen (kb fun a => bad_none.symm) rp)
    · rename_i c hc
      obtain ⟨m, em, q⟩ := q
      obtain ⟨p, hp, _⟩ := rs1.mem.at_ c m em
      have hb : ∀ a, w.bad a ↔ (w.one_ p).bad a := fun a => (bad_one (List.mem_of_getElem? hp)).symm
      refine ⟨w.one_ p, _, _, _, _, ra.one_ hp hc, rs1.mem.one_ hp em, q, fun d M' H2 v pp e2 m2 rp => ?_, fun cc xx M' H2 dd v pp e2 m2 hd rp => ?_⟩
      · obtain ⟨m', em', pp⟩ := pp
        subst em'
        obtain ⟨e3, rs3⟩ := rs1.after_one hp e2 m2
        exact k d _ H2 v pp (e1.trans e3) rs3 (Rep.gen (kb hb) rp)
      · obtain ⟨m', em', pp⟩ := pp
        subst em'
        obtain ⟨e3, rs3⟩ := rs1.after_one hp e2 m2
        exact x cc xx _ H2 dd v pp (e1.trans e3) rs3 ⟨fun z => hd.1 ((hb dd).mp z), hd.2⟩ (Rep.gen (kb hb) rp)
    · exact q.elim, x⟩
theorem de_call {spd : SpD} {t : TDA} {k : Nat} {f : Addr} {fd : FuncData} {ps : List Str} {x : Str} {p : Pos} {es : List Expr} (tk : Takes X W) (F : FnOk X.prog X.w X.K X.mg X.base (L2.CX X.prog X.w) k f fd ps (lSp g spd)) (hr : Room k X.A) (hg : Gl X x) (hm : X.mg x = some (.ref f)) (hk : PySem.W.keepIn X.K (.ref f) = true) (hb : Binds X.K fd ps [])
    (ha : PA X (e :: es) (lA g W t)) (hdb : (x == ("__debug__" : Str)) = false := by decide) (he : starEach (e :: es) X.env = (false, eval e X.env) :: starEach es X.env := by rfl) (hpl : (backTo pos (starEach es X.env)).any (·.1) = false := by rfl) :
    PE X (.Call (.Name x p) (e :: es) [] pos) (lE g W (dCall spd t)) := pe_imp (pe_callS F hr hg hm hk hb (fun σ => passAt tk σ) ha hdb he hpl) (lE_call fun _ _ _ h => h)
@[simp] def alive (M : Mem) : Prop := M.all Option.isSome = true
@[simp] def endE (n : Nat) (P : D → Mem → Prop) : EK := { nx := fun s => alive (s.M.take n) ∧ P .non (s.M.take n), rt := fun d s => alive (s.M.take n) ∧ P d (s.M.take n), bk := fun _ => False, ct := fun _ => False }
@[simp] def endX (n : Nat) (P : KXM) : KX := fun c x s => alive (s.M.take n) ∧ P c x (s.M.take n)
theorem ArgOk.len : ∀ {xs : List Sl} {vs : List V}, ArgOk g w H xs vs → vs.length = xs.length
  | [], _, h => by have h : _ = [] := h; subst h; rfl
  | .no :: _, _, h => h.elim
  | .dat d :: xs, _, h => by
    obtain ⟨v, r, e, _, z⟩ := h
    subst e
    rw [List.length_cons, List.length_cons, ArgOk.len z]
  | .cell d :: xs, _, h => by
    obtain ⟨v, r, e, _, z⟩ := h
    subst e
    rw [List.length_cons, List.length_cons, ArgOk.len z]
theorem ArgOk.get : ∀ {xs : List Sl} {vs : List V}, ArgOk g w H xs vs → ∀ {i : Nat} {x : Sl}, xs[i]? = some x → ∃ v, vs[i]? = some v ∧ ∀ σ : L2.St, σ[i]? = some (some v) → SlOk g w H σ i x
  | [], _, h, i, x, e => by simp at e
  | .no :: _, _, h, _, _, _ => h.elim
  | .dat d :: xs, _, h, i, x, e => by
    obtain ⟨v, r, ev, q, z⟩ := h
    subst ev
    cases i with
    | zero => cases e; exact ⟨v, rfl, fun σ es => ⟨v, es, q⟩⟩
    | succ i =>
      have e : xs[i]? = some x := by simpa using e
      obtain ⟨v2, e2, k⟩ := ArgOk.get z e
      refine ⟨v2, by simpa using e2, fun σ es => ?_⟩
      cases x with
      | no => trivial
      | dat d2 =>
        obtain ⟨v3, e3, k3⟩ := k (List.replicate i none ++ [some v2]) (by simp)
        have e3 : v2 = v3 := by simpa using e3
        subst e3
        exact ⟨v2, es, k3⟩
      | cell c =>
        obtain ⟨a, ea, k3⟩ := k (List.replicate i none ++ [some v2]) (by simp)
        have k3 : v2 = .ref a := by simpa using k3
        subst k3
        exact ⟨a, ea, es⟩
  | .cell d :: xs, _, h, i, x, e => by
    obtain ⟨v, r, ev, q, z⟩ := h
    subst ev
    cases i with
    | zero => cases e; exact ⟨.ref v, rfl, fun σ es => ⟨v, q, es⟩⟩
    | succ i =>
      have e : xs[i]? = some x := by simpa using e
      obtain ⟨v2, e2, k⟩ := ArgOk.get z e
      refine ⟨v2, by simpa using e2, fun σ es => ?_⟩
      cases x with
      | no => trivial
      | dat d2 =>
        obtain ⟨v3, e3, k3⟩ := k (List.replicate i none ++ [some v2]) (by simp)
        have e3 : v2 = v3 := by simpa using e3
        subst e3
        exact ⟨v2, es, k3⟩
      | cell c =>
        obtain ⟨a, ea, k3⟩ := k (List.replicate i none ++ [some v2]) (by simp)
        have k3 : v2 = .ref a := by simpa using k3
        subst k3
        exact ⟨a, ea, es⟩
theorem MemOk.back {w' : Cs} {M M' : Mem} (m : MemOk g w H M) (mv : Mv w H w' H') (m' : MemOk g w' H' M') (al : alive (M'.take M.length)) : MemOk g w H' (M'.take M.length) ∧ ∀ a o, ¬ w'.bad a → H' a = some o → H' a = some o ∧ ¬ w.bad a := by
  have live : ∀ c x, w.cs[c]? = some (some x) → w'.cs[c]? = some (some x) ∧ ∃ y, M'[c]? = some (some y) := fun c x e => by
    have hc : c < M.length := by rw [← m.len]; exact (List.getElem?_eq_some_iff.mp e).1
    rcases mv.pre c _ e with q | q
    · exact ⟨q, m'.live c x q⟩
    · exfalso
      have hcl : c < M'.length := by rw [← m'.len]; exact (List.getElem?_eq_some_iff.mp q).1
      have z : M'[c]?.isSome := by simp [hcl]
      cases ez : M'[c]? with
      | none => rw [ez] at z; cases z
      | some y =>
        cases y with
        | none =>
          have hm : (none : Option CC) ∈ M'.take M.length := List.mem_of_getElem? (i := c) (by rw [List.getElem?_take_of_lt hc]; exact ez)
          have := List.all_eq_true.mp al _ hm
          cases this
        | some y =>
          obtain ⟨p, ep, _⟩ := m'.at_ c y ez
          rw [q] at ep
          cases ep
  have bad : ∀ a, w.bad a → w'.bad a := fun a h => by
    rcases h with h | h
    · obtain ⟨c, e⟩ := List.getElem?_of_mem h
      exact .inl (List.mem_of_getElem? (live c a e).1)
    · exact .inr (mv.avk a h)
  have kk : ∀ a o, ¬ w'.bad a → H' a = some o → H' a = some o ∧ ¬ w.bad a := fun a o n e => ⟨e, fun z => n (bad a z)⟩
  have hlen : M.length ≤ M'.length := by
    rw [← m.len, ← m'.len]
    by_cases h : w.cs.length ≤ w'.cs.length
    · exact h
    · exfalso
      have hc : w'.cs.length < w.cs.length := by omega
      rcases mv.pre w'.cs.length _ (List.getElem?_eq_getElem hc) with q | q
      · simp at q
      · simp at q
  refine ⟨⟨by rw [List.length_take, m.len]; omega, fun c x e => ?_, fun c a e => ?_, m.inj, fun a ha => ?_, fun a ha => ⟨(m.tabs a ha).1, (m'.tabs a ha).2⟩⟩, kk⟩
  · have hc : c < M.length := by
      have z := (List.getElem?_eq_some_iff.mp e).1
      rw [List.length_take] at z
      omega
    rw [List.getElem?_take_of_lt hc] at e
    obtain ⟨a, ea, q⟩ := m'.at_ c x e
    have hcl : c < w.cs.length := by rw [m.len]; exact hc
    rcases mv.pre c _ (List.getElem?_eq_getElem hcl) with z | z
    · rw [ea] at z
      have z := Option.some.inj z
      refine ⟨a, by rw [List.getElem?_eq_getElem hcl, ← z], ?_⟩
      cases x with
      | lst ds => obtain ⟨vs, q, r⟩ := q; exact ⟨vs, q, Reps.gen kk r⟩
      | dk ds => obtain ⟨vs, q, r⟩ := q; exact ⟨vs, q, RepK.gen kk r⟩
      | dt ds => obtain ⟨vs, q, r⟩ := q; exact ⟨vs, q, RepK.gen kk r⟩
    · rw [ea] at z
      cases z
  · obtain ⟨_, y, ey⟩ := live c a e
    have hc : c < M.length := by rw [← m.len]; exact (List.getElem?_eq_some_iff.mp e).1
    exact ⟨y, by rw [List.getElem?_take_of_lt hc]; exact ey⟩
  · obtain ⟨n, o, e⟩ := m.av a ha
    exact ⟨n, mv.ext.ex n e⟩
variable {P : Program} {wd : World} {K : PySem.W.Frag} {mg : Str → Option Value} {base : Heap}
@[simp] def startS (N : List Str) (xs : List Sl) (M : Mem) : S := { r := xs ++ List.replicate (N.length - xs.length) .no, M := M }
theorem rs_start {N : List Str} {xs : List Sl} {vs : List V} {M : Mem} (hl : xs.length ≤ N.length) (ra : ArgOk g w H xs vs) (m : MemOk g w H M) : RS g w H (L2.start N vs) (startS N xs M) := by
  have hv := ra.len
  refine ⟨by unfold L2.start startS; simp [hv], fun i x e => ?_, m⟩
  by_cases hi : i < xs.length
  · have e : xs[i]? = some x := by
      have e : (xs ++ List.replicate (N.length - xs.length) .no)[i]? = some x := e
      rw [List.getElem?_append_left hi] at e
      exact e
    obtain ⟨v, ev, k⟩ := ra.get e
    refine k _ ?_
    unfold L2.start
    rw [List.getElem?_append_left (by simp [hv, hi]), List.getElem?_map, ev]
    rfl
  · have e : (xs ++ List.replicate (N.length - xs.length) .no)[i]? = some x := e
    rw [List.getElem?_append_right (by omega)] at e
    have z := List.mem_of_getElem? e
    have z : x = .no := (List.mem_replicate.mp z).2
    subst z
    trivial
theorem fn_ok {x qual : Str} {st : Stmt} {f : Addr} {fd : FuncData} {N ps : List Str} {k : Nat} {spd : SpD} {td : TSd} (F : Fun K x qual st f fd) (S : FnScope N ps (defScope st)) (g : G)
    (len : ∀ xs M P PX, spd xs M P PX → xs.length = ps.length) (hN : ps.length ≤ N.length)
    (body : ∀ (cdv : Value) (A : Around) (outer : List Env) (s : Shared) (H : Hp) (E : XK), Room k (A.deeper (PyProof.Rows.envOfC qual (defScope st) s.heap.objs.size f cdv)) →
      PSs (cxOf (L2.CX P wd) P wd K mg base N qual (defScope st) f cdv A outer s H E) (defBody st) (lS g (fun cls d _ H => E cls d H) td))
    (math : ∀ xs M P PX, spd xs M P PX → td (startS N xs M) (endE M.length P) (endX M.length PX)) : FnOk P wd K mg base (L2.CX P wd) (k + 1) f fd ps (lSp g spd) := by
  refine F.okX S (fun vs H Q E ⟨w, xs, M, P, PX, ra, m, h, _⟩ => (ra.len).trans (len xs M P PX h)) fun cdv A outer s H vs Q E hr ⟨w, xs, M, P, PX, ra, m, h, kq, kx⟩ => ?_
  refine ⟨_, body cdv A outer s H E hr, w, startS N xs M, endE M.length P, endX M.length PX, rs_start (by rw [len xs M P PX h]; exact hN) ra m, math xs M P PX h, ⟨?_, fun _ _ _ _ h => h.elim, fun _ _ _ _ h => h.elim, ?_⟩, ?_⟩
  · rintro s' w' H' σ' ⟨al, p⟩ mv rs'
    obtain ⟨mb, kk⟩ := m.back mv rs'.mem al
    exact kq _ _ H' _ p mv.ext mb (by simp only [Rep])
  · rintro d s' w' H' σ' v ⟨al, p⟩ mv rs' rp
    obtain ⟨mb, kk⟩ := m.back mv rs'.mem al
    exact kq _ _ H' _ p mv.ext mb (Rep.gen kk rp)
  · rintro c x s' w' H' σ' dd v ⟨al, p⟩ mv rs' hd rp
    obtain ⟨mb, kk⟩ := m.back mv rs'.mem al
    exact kx _ _ _ H' _ _ p mv.ext mb ⟨(kk _ _ hd.1 hd.2).2, hd.2⟩ (Rep.gen kk rp)
end
end DL
namespace DLE
open PySem L2
theorem meets_enum1 {v : Value} {o : Obj} {H : Heap → Prop} (B : Begins v o H) :
    Meets (Builtin.«enumerate.__new__» ⟨[.type "enumerate", v], []⟩) (fun _ R s => H s.heap ∧
      R (.ok (.ret (.ref (s.heap.push o).objs.size))) { s with heap := (s.heap.push o).push { cls := .type "enumerate", data := .fields #[.none, .bool false, .ref s.heap.objs.size, rawInt 0, .none, .none] } }) :=
  .of_wp fun prog w A R s h => by
    obtain ⟨hp, g, d, tk, os⟩ := s; obtain ⟨h1, h⟩ := h
    have hsub := sub_enumerate
    have q1 : ∀ {A' : Around} {E : Value → Shared → Prop} {Q : Value → Shared → Prop}, Q (.ref hp.objs.size) ⟨hp.push o, g, d, tk, os⟩ → wpAny (model prog w) A' (pyIter v) Q E ⟨hp, g, d, tk, os⟩ :=
      fun q => B.iter prog w _ _ ⟨hp, g, d, tk, os⟩ _ h1 q
    wp_walk using q1
    refine wpAny_stack_any fun st => wpAny_pure ?_
    split
    · rename_i c _ _ _ _ _
      cases (c == Value.type "enumerate")
      · wp_walk using q1
        exact ⟨_, rfl, h⟩
      · wp_walk using q1
        exact ⟨_, rfl, h⟩
    · wp_walk using q1
      exact ⟨_, rfl, h⟩
section
variable {prog : Program} {w : World} {A : Around} {E : Value → Shared → Prop} {s : Shared}
theorem call_enum1 {v : Value} {o : Obj} {H : Heap → Prop} {Q : Value → Shared → Prop} (B : Begins v o H) (h1 : H s.heap)
    (h : ∀ h', IsEnum h' (s.heap.objs.size + 1) s.heap.objs.size 0 .none → h'.get? s.heap.objs.size = some o → h'.objs.size = s.heap.objs.size + 2 →
      (∀ b o, s.heap.get? b = some o → h'.get? b = some o) → Q (.ref (s.heap.objs.size + 1)) { s with heap := h' }) :
    wpAny (model prog w) A (call (.type "enumerate") [v]) Q E s := by
  refine callType_new F.called_enumerate (by decide) (F.typeCall_enumerate_1 _) (F.newCall_enumerate_1 _) (fun obj => F.args_object_init_2 obj _) F.entry_enumerate_new
    (meets_enum1 B) ⟨h1, ?_⟩
  have hz : (s.heap.push o).objs.size = s.heap.objs.size + 1 := Heap.size_push ..
  show _ ∧ _
  rw [hz]
  have he : IsEnum ((s.heap.push o).push { cls := .type "enumerate", data := .fields #[.none, .bool false, .ref s.heap.objs.size, rawInt 0, .none, .none] }) (s.heap.objs.size + 1) s.heap.objs.size 0 .none := by
    have := Heap.get?_push_size (s.heap.push o) (o := { cls := .type "enumerate", data := .fields #[.none, .bool false, .ref s.heap.objs.size, rawInt 0, .none, .none] }) rfl
    rw [hz] at this; exact this
  exact ⟨⟨_, he, rfl⟩, h _ he (Heap.get?_push_of_some _ (Heap.get?_push_size _ B.free)) (by rw [Heap.size_push, hz]) fun b o x => Heap.get?_push_of_some _ (Heap.get?_push_of_some _ x)⟩
end
def IteT (a : Addr) : It :=
  ⟨fun i H => ∃ (xs : List V) (x : V), H a = some (.tup xs) ∧ xs[i]? = some x, fun i H v H' => ∃ T x, v = .ref T ∧ H T = none ∧ H' = upd H T (.tup [.int (i : Nat), x]) ∧ ∀ xs, H a = some (.tup xs) → xs[i]? = some x, fun i H => ∃ xs : List V, H a = some (.tup xs) ∧ xs.length = i⟩
theorem turn_enumT {P : Program} {w : World} {K : PySem.W.Frag} {elts : List Expr} {kk : Nat} {tpos : Pos} (a e it : Addr) :
    Turn P w K (.Tuple elts kk tpos) (IteT a) [e, it] e (fun i h => (∃ old, IsEnum h e it ((i : Nat) : Int) old) ∧ h.IsTupleIter it a i ∧ e ≠ it) where
  mem := by simp
  obj := fun i h st b hb => by
    obtain ⟨⟨old, he⟩, ⟨o, ho, hc, hd⟩, _⟩ := st
    have e' : b = e ∨ b = it := by simpa using hb
    rcases e' with z | z
    · rw [z]; exact ⟨_, he, fun v q => nomatch q⟩
    · rw [z]; exact ⟨o, ho, fun v q => by rw [hd] at q; cases q⟩
  keep := fun i h h' st k => let ⟨⟨old, he⟩, hi, hne⟩ := st; ⟨⟨old, k e (by simp) _ he⟩, hi.at fun o q => k it (by simp) o q, hne⟩
  item := by
    intro X hP hw hK hc i pins s σ H E I hf st hg
    subst hP hw hK
    obtain ⟨⟨old, he⟩, hit, hne⟩ := st
    obtain ⟨xs, x, hq, hx⟩ := hg
    obtain ⟨its, rv, p, hz⟩ := I.tuple (SqT.of hq)
    obtain ⟨u, hu, ru⟩ := rv.get hx
    have hel : e < s.heap.objs.size := Heap.lt_size he
    have hil : it < s.heap.objs.size := by obtain ⟨_, q, _⟩ := hit; exact Heap.lt_size q
    have hai : a ≠ it := fun z => by
      have := (hf it (by simp)).1
      rw [← z, hq] at this; cases this
    have hae : a ≠ e := fun z => by
      have := (hf e (by simp)).1
      rw [← z, hq] at this; cases this
    have D := Draws.tuple (prog := X.prog) (w := X.w) (A := X.A.in1) (I.ok.hd hc) it a hai its.toArray
    have hlt : i < its.toArray.size := by
      have z := (List.getElem?_eq_some_iff.mp hu).1
      simpa using z
    refine wpAny_pyNext_enum_itemD D he ⟨hit, p⟩ hlt hne (by simp [hne, Ne.symm hae]) fun y h' tk hy ho hst hT hsz hk => ?_
    have ey : y = u := by
      have z : its[i]? = some y := by simpa using hy
      rw [hu] at z
      exact (Option.some.inj z).symm
    subst ey
    obtain ⟨hit', _⟩ := hst
    refine ⟨_, rfl, wpAny_letOwnedTupleGo_enum (s := { s with heap := h', toks := tk + 1 }) ho fun h'' he' sb => ?_⟩
    have hT2 : h''.get? s.heap.objs.size = some { cls := .type "tuple", data := .seq #[.int i tk, y] } := (sb.2 _ (Nat.ne_of_gt hel)).trans hT
    have new : ObjOk X.prog X.w (upd H s.heap.objs.size (.tup [.int (i : Nat), x])) h'' s.heap.objs.size (.tup [.int (i : Nat), x]) :=
      ⟨by show 2 ≤ sizeLine; decide, [.int i tk, y], .cons ⟨_, rfl⟩ (.cons ru .nil), ⟨_, hT2, rfl, _, rfl⟩⟩
    have I1 : Inv X pins σ (upd H s.heap.objs.size (.tup [.int (i : Nat), x])) { s with heap := h'', toks := tk + 1 } :=
      I.turnedNew (ch := [e, it]) (fun b ob hb q => (sb.2 b (fun z => hb (by simp [z]))).trans (hk b ob (fun z => hb (by simp [z])) (fun z => hb (by simp [z])) q)) hf (Nat.le_refl _) new
    refine ⟨.ref s.heap.objs.size, _, I1, rfl, ⟨_, x, rfl, I.hok.fresh (Nat.le_refl _), rfl, fun ys hy => by rw [hq] at hy; cases hy; exact hx⟩, ⟨⟨y, ?_⟩, hit'.at fun o q => (sb.2 it (Ne.symm hne)).trans q, hne⟩, fun b hb => ?_⟩
    · have e1 : ((i + 1 : Nat) : Int) = (i : Int) + 1 := by omega
      rw [e1]; exact he'
    · have hb' : b < s.heap.objs.size := by
        have e' : b = e ∨ b = it := by simpa using hb
        rcases e' with z | z
        · rw [z]; exact hel
        · rw [z]; exact hil
      rw [upd_ne (Nat.ne_of_lt hb')]
      exact (hf b hb).1
  done := by
    intro X hP hw hK hc i pins s σ H E I hf st hg
    subst hP hw hK
    obtain ⟨⟨old, he⟩, hit, hne⟩ := st
    obtain ⟨xs, hq, hx⟩ := hg
    obtain ⟨its, rv, p, hz⟩ := I.tuple (SqT.of hq)
    obtain ⟨f0, f1, f2, f3, f4, f5⟩ := hf it (by simp)
    have hl := rv.length
    have hai : a ≠ it := fun z => by
      rw [← z, hq] at f0; cases f0
    have D := Draws.tuple (prog := X.prog) (w := X.w) (A := X.A.in1) (I.ok.hd hc) it a hai its.toArray
    have e0 : i = its.toArray.size := by simp; omega
    exact wpAny_pyNext_enum_endD D he (by rw [← e0]; exact ⟨hit, p⟩) fun h' eb => ⟨rfl, I.turned (t' := s.toks) (fun b o hb q => eb b o hb q) f0 f1 f3 f4 f5⟩
  self := fun A i s Q E st h => let ⟨⟨_, he⟩, _⟩ := st; wpAny_pyIter_enum he h
def iEnumA (K : PySem.W.Frag) (ta : TA) : TI := fun σ H R => ta σ H fun vs H1 => ∃ a xs, vs = [.ref a] ∧ ((SqL K H1 a xs ∧ R (Ite K a) H1) ∨ (H1 a = some (.tup xs) ∧ R (IteT a) H1))
theorem pi_enumA {X : Cx} {e : Expr} {ta : TA} {p pos tpos : Pos} {elts : List Expr} {kk : Nat} (hg : Gl X "enumerate") (hm : X.mg "enumerate" = none) (ha : PA X [e] ta) (hs : starEach [e] X.env = [(false, eval e X.env)] := by rfl) :
    PI X (.Tuple elts kk tpos) (.Call (.Name "enumerate" p) [e] [] pos) (iEnumA X.K ta) := by
  refine ⟨fun pins s σ H R I h => ?_⟩
  refine PyProof.Rows.Call_ (ld_blt I hg hm PyProof.Rows.boot_enumerate (PyProof.Rows.callWith_type1 (thn (ha.run pos pins s σ H _ I h) fun us s1 ⟨vs, H1, I1, r1, q1⟩ => ?_) hs rfl))
  obtain ⟨a, xs, ex, q⟩ := q1
  subst ex
  cases r1 with
  | cons r rr =>
    cases rr
    cases r
    have fin : ∀ {b : Addr}, b ∈ [s1.heap.objs.size + 1, s1.heap.objs.size] → FpOk X pins H1 b := fun {b} hb => by
      have e' : b = s1.heap.objs.size + 1 ∨ b = s1.heap.objs.size := by simpa using hb
      have hle : s1.heap.objs.size ≤ b := by
        rcases e' with z | z
        · rw [z]; exact Nat.le_add_right _ _
        · rw [z]; exact Nat.le_refl _
      exact I1.fpOk hle (I1.hok.fresh hle)
    rcases q with ⟨hq, q⟩ | ⟨hq, q⟩
    · obtain ⟨its, rv, p', hz⟩ := I1.list hq
      refine call_enumerate_list p'.isList fun h' he hit hsz hk => wpAny_pyIter_enum he ?_
      have I2 : Inv X pins σ H1 { s1 with heap := h' } := I1.kept (t' := s1.toks) hk
      exact ⟨s1.heap.objs.size + 1, [s1.heap.objs.size + 1, s1.heap.objs.size], _, _, H1, rfl, I2, turn_enum a (s1.heap.objs.size + 1) s1.heap.objs.size, ⟨⟨.none, he⟩, hit, Nat.succ_ne_self _⟩, fun b hb => fin hb, q⟩
    · obtain ⟨its, rv, p', hz⟩ := I1.tuple (SqT.of hq)
      refine call_enum1 (begins_tuple a its.toArray) (show s1.heap.IsTuple a its.toArray from p') fun h' he hit hsz hk => wpAny_pyIter_enum he ?_
      have I2 : Inv X pins σ H1 { s1 with heap := h' } := I1.kept (t' := s1.toks) hk
      exact ⟨s1.heap.objs.size + 1, [s1.heap.objs.size + 1, s1.heap.objs.size], _, _, H1, rfl, I2, turn_enumT a (s1.heap.objs.size + 1) s1.heap.objs.size, ⟨⟨.none, he⟩, ⟨_, hit, rfl, rfl⟩, Nat.succ_ne_self _⟩, fun b hb => fin hb, q⟩
end DLE
namespace DL
open PySem L2
section
variable {X : Cx} {g : G} {W : WX} {pos : Pos} {a b c e : Expr} {ta tb tc : TD} {w : Cs} {H H' : Hp} {σ : L2.St} {s : S} {t : TDA}
def enumD (ds : List D) : List D := ds.zipIdx.map fun p => D.tup [.int (p.2 : Nat), p.1]
theorem enumD_at {ds : List D} {i : Nat} {d : D} (h : ds[i]? = some d) : (enumD ds)[i]? = some (.tup [.int (i : Nat), d]) := by
  unfold enumD
  rw [List.getElem?_map, List.getElem?_zipIdx, h]
  simp
theorem enumD_len (ds : List D) : (enumD ds).length = ds.length := by simp [enumD]
theorem walkD_pair {J : It} {ds es : List D} {vs : List V} {Gd : Hp → Prop} (hl : es.length = ds.length) (wk : Walk J vs.length Gd (YPair (fun i => some (.int (i : Nat))) (fun i => vs[i]?))) (hG : ∀ w' H', Mv w H w' H' → Gd H') (rv : Reps g w H ds vs) (he : es = enumD ds) : WalkD g w H J es :=
  ⟨Gd, _, by rw [hl, ← rv.len]; exact wk, hG, fun i w' H1 x H2 hi m nb y => by
    obtain ⟨T, x1, y1, e1, n1, e2, e3, e4⟩ := y
    subst e1 e2
    have e3 := Option.some.inj e3
    subst e3
    obtain ⟨d, ed, rp⟩ := rv.get e4
    refine ⟨same_upd n1, _, by rw [he]; exact enumD_at ed, Rep.tup (nb T n1) upd_same (Reps.cons (by simp only [Rep]) (Reps.cons ((rp.mv m).mv (.of_same (same_upd n1))) Reps.nil))⟩⟩
@[simp] def dEnum (t : TDA) : TDI := fun s P X => t s (fun xs s1 => ∃ d ds, xs = [.dat d] ∧ seqD d = some ds ∧ P (enumD ds) s1) X
theorem di_enum {p tpos : Pos} {elts : List Expr} {kk : Nat} (hg : Gl X "enumerate") (hm : X.mg "enumerate" = none) (ha : PA X [e] (lA g W t)) (hs : starEach [e] X.env = [(false, eval e X.env)] := by rfl) : PI X (.Tuple elts kk tpos) (.Call (.Name "enumerate" p) [e] [] pos) (lI g W (dEnum t)) := pi_imp (DLE.pi_enumA hg hm ha hs) fun σ H R ⟨w, s, P, PX, rs, h, k, x⟩ =>
  ⟨w, s, _, PX, rs, h, fun xs s1 H1 vs q e1 rs1 ra => by
    obtain ⟨d, ds, e, ed, q⟩ := q
    subst e
    obtain ⟨v, e, rp⟩ := ArgOk.one ra
    subst e
    cases d <;> simp only [seqD, reduceCtorEq, Option.some.injEq] at ed
    · subst ed
      simp only [Rep] at rp
      obtain ⟨a, vs, e, n, hp, rv⟩ := rp
      subst e
      refine ⟨a, vs, rfl, .inr ⟨hp, k _ s1 H1 _ q e1 rs1 (walkD_pair (Gd := fun H => H a = some (.tup vs)) (enumD_len _) ⟨fun i H hi h => ⟨vs, vs[i], h, by simp [hi]⟩, fun H h => ⟨vs, h, rfl⟩, fun i H v H' hi h y => ?_⟩ (fun w' H' m => m.at_ n hp) rv rfl)⟩⟩
      obtain ⟨T, x, h1, h2, h3, h4⟩ := y
      exact ⟨T, .int (i : Nat), x, h1, h2, h3, rfl, h4 vs h⟩
    · subst ed
      simp only [Rep] at rp
      obtain ⟨a, vs, e, n, hp, rv⟩ := rp
      subst e
      exact ⟨a, vs, rfl, .inl ⟨SqL.of hp, k _ s1 H1 _ q e1 rs1 (walkD_pair (enumD_len _) walk_enum (fun w' H' m => SqL.of (m.at_ n hp)) rv rfl)⟩⟩, x⟩
end
end DL
namespace DL
open PySem L2
section
variable {X : Cx} {g : G} {W : WX} {pos : Pos} {a b c e : Expr} {ta tb tc td : TD} {w : Cs} {H H' : Hp} {σ : L2.St} {s : S} {t : TDA}
@[simp] def isLst : Option (Option CC) → Prop
  | some (some (.lst _)) => True
  | _ => False
@[simp] def dMeth1 (i : Nat) (f : List D → D → (D → List D → Prop) → Prop) (td : TD) : TD := fun s P X => ∃ c, s.r[i]? = some (.cell c) ∧ isLst s.M[c]? ∧ td s (fun d s1 => ∃ ds, s1.M[c]? = some (some (.lst ds)) ∧ f ds d fun z ds' => P z { s1 with M := s1.M.set c (some (.lst ds')) }) X
@[simp] def dMeth0 (i : Nat) (f : List D → (D → List D → Prop) → Prop) : TD := fun s P X => ∃ c, s.r[i]? = some (.cell c) ∧ ∃ ds, s.M[c]? = some (some (.lst ds)) ∧ f ds fun z ds' => P z { s with M := s.M.set c (some (.lst ds')) }
@[simp] def fAppend : List D → D → (D → List D → Prop) → Prop := fun ds d P => ds.length < sizeLine ∧ P .non (ds ++ [d])
@[simp] def fPopAt : List D → D → (D → List D → Prop) → Prop := fun ds d P => ∃ (k : Nat) (z : D), d = .int (k : Int) ∧ (k : Int) < 2 ^ 63 ∧ ds[k]? = some z ∧ P z (ds.eraseIdx k)
@[simp] def fPop : List D → (D → List D → Prop) → Prop := fun ds P => ∃ z, ds[ds.length - 1]? = some z ∧ P z ds.dropLast
theorem Reps.dropLast {ds : List D} {vs : List V} (h : Reps g w H ds vs) : Reps g w H ds.dropLast vs.dropLast := by
  rw [List.dropLast_eq_take, List.dropLast_eq_take, h.len]
  exact Reps.take _ h
variable {x : Str} {p q : Pos}
@[simp] def dSetIx (i : Nat) (tb te : TD) : TSd := fun s E X => te s (fun d s1 => ∃ c, s1.r[i]? = some (.cell c) ∧ tb s1 (fun y s2 => ∃ ds k j, s2.M[c]? = some (some (.lst ds)) ∧ y = .int k ∧ ixN ds.length k = some j ∧ E.nx { s2 with M := s2.M.set c (some (.lst (ds.set j d))) }) X) X
theorem ds_setIx (i : Nat) {te : TD} {st : Stmt} (h : PS X st (tAsg (lE g W te) (gSub (tVar i) (lE g W tb) rSetL))) : PS X st (lS g W (dSetIx i tb te)) := ps_imp h fun D σ H ⟨w, s, E, PX, rs, h, k, x⟩ =>
  ⟨w, s, _, PX, rs, h, fun d s1 H1 v q e1 rs1 rp => by
    obtain ⟨c, ec, q⟩ := q
    obtain ⟨a, ea, ev⟩ := rs1.slot i _ ec
    refine ⟨.ref a, ev, w, s1, _, PX, rs1, q, fun y s2 H2 yv q2 e2 rs2 rp2 => ?_, x.ex.ext e1⟩
    obtain ⟨ds, kk, j, em, ey, ei, q2⟩ := q2
    subst ey
    simp only [Rep] at rp2
    obtain ⟨a', ea', vs, hp, rv⟩ := rs2.mem.at_ c _ em
    rw [ea] at ea'
    cases ea'
    exact ⟨a, vs, kk, j, rfl, rp2, hp, by rw [rv.len]; exact ei, k.nx _ w _ σ q2 (.of_ext (e1.trans (e2.trans (upd_cell_ext ea)))) (rs2.updCell ea (Reps.set j rv (rp.mv (.of_ext e2))))⟩, x.ex⟩
def lIp (g : G) (r : RD) : TIp := fun x y H Q => lR g r x y H Q
@[simp] def dAug (i : Nat) (r : RD) (td : TD) : TSd := fun s E X => ∃ d, s.r[i]? = some (.dat d) ∧ td s (fun y s1 => r d y fun z => E.nx { s1 with r := s1.r.set i (.dat z) }) X
def insI (x : Int) : List Int → List Int
  | [] => [x]
  | y :: r => if x ≤ y then x :: y :: r else y :: insI x r
def sortI : List Int → List Int
  | [] => []
  | x :: r => insI x (sortI r)
def leP (p q : Int × Int) : Bool := !SrtO.lexB q p
def insP (x : Int × Int) : List (Int × Int) → List (Int × Int)
  | [] => [x]
  | y :: r => if leP x y = true then x :: y :: r else y :: insP x r
def sortP : List (Int × Int) → List (Int × Int)
  | [] => []
  | x :: r => insP x (sortP r)
abbrev LeP (p q : Int × Int) : Prop := leP p q = true
@[simp] def pairD (p : Int × Int) : D := .tup [.int p.1, .int p.2]
def rSortD : RCd := fun xs M P => match xs with
  | [.dat (.lst ds)] => (∃ ns : List Int, ds = ns.map D.int ∧ P (.lst ((sortI ns).map D.int))) ∨ (∃ ps : List (Int × Int), ds = ps.map pairD ∧ P (.lst ((sortP ps).map pairD)))
  | _ => False
def keyAt (H : Hp) : V → Int × Int
  | .ref a => match H a with
    | some (.tup [.int i, .int j]) => (i, j)
    | _ => (0, 0)
  | _ => (0, 0)
def rSortV (K : PySem.W.Frag) : List V → Hp → VK → Prop := fun vs H Q => rSortedPO K vs H Q ∨ rSortedI K vs H Q
end
end DL
namespace DL
open PySem L2
section
variable {X : Cx} {g : G} {W : WX} {pos : Pos} {a b c e : Expr} {ta tb tc td : TD} {w : Cs} {H H' : Hp} {σ : L2.St} {s : S} {t : TDA} {tf : TDF}
def AGOk (g : G) (w : Cs) (H : Hp) (σ : L2.St) (P : List Sl → S → Prop) (Q : List V → Hp → Prop) : Prop := ∀ xs s' w' H' vs, P xs s' → Mv w H w' H' → (∀ (c : Nat) a, w.cs[c]? = some (some a) → w'.cs[c]? = some (some a)) → RS g w' H' σ s' → ArgOk g w' H' xs vs → Q vs H'
def XGOk (g : G) (w : Cs) (H : Hp) (σ : L2.St) (P : KX) (W : WX) : Prop := ∀ c x s' w' H' dd v, P c x s' → Mv w H w' H' → RS g w' H' σ s' → XdAt w' H' dd v → Rep g w' H' x v → W (.ref (g.CA c)) (some dd) σ H'
def lAG (g : G) (W : WX) (td : TDA) : TA := fun σ H Q => ∃ w s P PX, RS g w H σ s ∧ td s P PX ∧ AGOk g w H σ P Q ∧ XGOk g w H σ PX W
theorem XGOk.x {P : KX} (k : XGOk g w H σ P W) : XOk g w H σ P W := fun c x s' H' dd v p e r => k c x s' w H' dd v p (.of_ext e) r
theorem XOkS.gg {P : KX} (k : XOkS g w H P W) : XGOk g w H σ P W := fun c x s' w' H' dd v p m r => k c x s' w' H' σ dd v p m r
theorem XGOk.mv {P : KX} {w' : Cs} (k : XGOk g w H σ P W) (m : Mv w H w' H') (av : ∀ x, x ∈ w.av → some x ∉ w.cs ∧ ∃ o, H x = some o) : XGOk g w' H' σ P W := fun c x s2 w2 H2 dd v p m2 r => k c x s2 w2 H2 dd v p (m.trans m2 av) r
theorem dag_nil : PA X [] (lAG g W dNil) := pa_imp pa_nil fun σ H Q ⟨w, s, P, PX, rs, h, k, x⟩ => k [] s w H [] h (Mv.refl _ _) (fun _ _ h => h) rs rfl
variable {es : List Expr} {tr : TDA}
theorem dag_cons (ha : PE X e (lE g W ta)) (hr : PA X es (lAG g W tr)) (hs : starEach (e :: es) X.env = (false, eval e X.env) :: starEach es X.env := by rfl) : PA X (e :: es) (lAG g W (dCons ta tr)) := pa_imp (pa_cons ha hr hs) fun σ H Q ⟨w, s, P, PX, rs, h, k, x⟩ =>
  ⟨w, s, _, PX, rs, h, fun d s1 H1 v q e1 rs1 rp => ⟨w, s1, _, PX, rs1, q, fun xs s2 w2 H2 vs q2 m2 pr rs2 rp2 => k _ s2 w2 H2 _ q2 ((Mv.of_ext e1).trans m2 rs.mem.av) pr rs2 ⟨v, vs, rfl, rp.mv m2, rp2⟩, x.mv (.of_ext e1) rs.mem.av⟩, x.x⟩
@[simp] def dConsF (tf : TDF) (tr : TDA) : TDA := fun s P X => tf s (fun ds s1 => tr { s1 with M := s1.M ++ [some (.lst ds)] } (fun xs s2 => P (.cell s1.M.length :: xs) s2) X) X
theorem dag_consF (ha : PE X e (lF g W tf)) (hr : PA X es (lAG g W tr)) (hs : starEach (e :: es) X.env = (false, eval e X.env) :: starEach es X.env := by rfl) : PA X (e :: es) (lAG g W (dConsF tf tr)) := pa_imp (pa_cons ha hr hs) fun σ H Q ⟨w, s, P, PX, rs, h, k, x⟩ =>
  ⟨w, s, _, PX, rs, h, fun ds s1 H1 p vs q e1 n0 nb rs1 hp rp => by
    have m1 : Mv w H (w.cell p) H1 := mv_cell e1 n0 nb
    have ml : w.cs.length = s1.M.length := rs1.mem.len
    have at1 : (w.cell p).cs[s1.M.length]? = some (some p) := by
      show (w.cs ++ [some p])[s1.M.length]? = _
      rw [← ml, List.getElem?_append_right (Nat.le_refl _), Nat.sub_self]
      rfl
    have pr1 : ∀ (c : Nat) a, w.cs[c]? = some (some a) → (w.cell p).cs[c]? = some (some a) := fun c a e => by
      show (w.cs ++ [some p])[c]? = _
      rw [List.getElem?_append_left (List.getElem?_eq_some_iff.mp e).1]
      exact e
    exact ⟨w.cell p, _, _, PX, rs1.toCell nb hp rp, q, fun xs s2 w2 H2 vs2 q2 m2 pr rs2 rp2 => k _ s2 w2 H2 _ q2 (m1.trans m2 rs.mem.av) (fun c a e => pr c a (pr1 c a e)) rs2 ⟨p, vs2, rfl, pr _ _ at1, rp2⟩, x.mv m1 rs.mem.av⟩, x.x⟩
theorem arg_one {y : Sl} {ys : List Sl} {vs : List V} (ny : y ≠ .no) (ra : ArgOk g w H (y :: ys) vs) : ∃ v r, vs = v :: r ∧ ArgOk g w H ys r ∧ ∀ i (σ' : L2.St), σ'[i]? = some (some v) → SlOk g w H σ' i y := by
  cases y with
  | no => exact absurd rfl ny
  | dat d => obtain ⟨v, r, e, q, z⟩ := ra; exact ⟨v, r, e, z, fun i σ' e => ⟨v, e, q⟩⟩
  | cell c => obtain ⟨a, r, e, q, z⟩ := ra; exact ⟨.ref a, r, e, z, fun i σ' e => ⟨a, q, e⟩⟩
theorem ds_parG {st : Stmt} {i j : Nat} (h : PS X st (tPar i j (lAG g W t))) : PS X st (lS g W (dPar i j t)) := ps_imp h fun D σ H ⟨w, s, E, PX, rs, h, k, x⟩ =>
  ⟨w, s, _, PX, rs, h, fun xs s1 w1 H1 vs q m1 _ rs1 ra => by
    obtain ⟨y, z, e, ny, nz, q⟩ := q
    subst e
    obtain ⟨v1, r1, e1', z1, k1⟩ := arg_one ny ra
    obtain ⟨v2, r2, e2', z2, k2⟩ := arg_one nz z1
    have z2 : r2 = [] := z2
    subst e1' e2' z2
    exact ⟨v1, v2, rfl, k.nx _ w1 H1 _ q m1 ((rs1.put (i := i) (o := some v1) (x := y) (k1 i)).put (i := j) (o := some v2) (x := z) (k2 j))⟩, x.gg⟩
@[simp] def dPar3 (i j l : Nat) (t : TDA) : TSd := fun s E X => t s (fun xs s1 => ∃ x y z, xs = [x, y, z] ∧ x ≠ .no ∧ y ≠ .no ∧ z ≠ .no ∧ E.nx { s1 with r := ((s1.r.set i x).set j y).set l z }) X
variable {lo hi : Option Expr} {tl th : TDO} {p2 : Pos}
@[simp] def rCutD (d : D) (l u : Option Int) (P : D → Prop) : Prop := match d with
  | .lst ds => P (.lst (cutD ds l u))
  | .tup ds => P (.tup (cutD ds l u))
  | _ => False
@[simp] def dSl (t : TD) (tl th : TDO) : TD := fun s P X => t s (fun x s1 => tl s1 (fun l s2 => th s2 (fun u s3 => rCutD x l u fun z => P z s3) X) X) X
theorem de_slice (ha : PE X e (lE g W ta)) (hl : PO X lo (lO g W tl)) (hh : PO X hi (lO g W th)) : PE X (.Subscript e (.Slice lo hi none p2) pos) (lE g W (dSl ta tl th)) := pe_imp (pe_slice (sl_list.or sl_tupA) ha hl hh) fun σ H Q ⟨w, s, P, PX, rs, h, k, x⟩ =>
  ⟨w, s, _, PX, rs, h, fun d s1 H1 v q e1 rs1 rp => ⟨w, s1, _, PX, rs1, q, fun l s2 H2 q e2 rs2 => ⟨w, s2, _, PX, rs2, q, fun u s3 H3 q3 e3 rs3 => by
    have e0 := e1.trans (e2.trans e3)
    cases d <;> try exact q3.elim
    · simp only [Rep] at rp
      obtain ⟨a, vs, e, n, ha, rv⟩ := rp
      subst e
      have ha3 : H3 a = some (.tup vs) := e3 _ _ (fun z => n (.inl z)) (e2 _ _ (fun z => n (.inl z)) ha)
      have rv3 := (Reps.mv rv (.of_ext e2)).mv (.of_ext e3)
      refine .inr ⟨a, vs, rfl, SqT.of ha3, fun hw => ?_, fun _ p hp => ?_⟩
      · refine k _ s3 H3 _ q3 e0 rs3 ?_
        rename_i ds _
        have ec : cutD ds l u = ds := by
          unfold cutD
          rw [rv.len] at hw
          rw [hw.1, hw.2]
          simp
        rw [ec]
        exact Rep.tup n ha3 rv3
      · have nb := rs3.mem.fresh hp
        exact k _ s3 _ _ q3 (e0.trans (.of_same (same_upd hp))) (rs3.same (same_upd hp)) (Rep.tup nb upd_same ((rv3.cut l u).mv (.of_same (same_upd hp))))
    · simp only [Rep] at rp
      obtain ⟨a, vs, e, n, ha, rv⟩ := rp
      have ha3 : H3 a = some (.lst vs) := e3 _ _ (fun z => n (.inl z)) (e2 _ _ (fun z => n (.inl z)) ha)
      have rv3 := (Reps.mv rv (.of_ext e2)).mv (.of_ext e3)
      refine .inl ⟨a, vs, e, SqL.of ha3, fun p hp => ?_⟩
      have nb := rs3.mem.fresh hp
      exact k _ s3 _ _ q3 (e0.trans (.of_same (same_upd hp))) (rs3.same (same_upd hp)) (Rep.lst nb upd_same ((rv3.cut l u).mv (.of_same (same_upd hp)))), (x.ext e1).ext e2⟩, x.ext e1⟩, x⟩
def RF := D → D → (List D → Prop) → Prop
def lRF (g : G) (r : D → D → (List D → Prop) → Prop) : R2 := fun x y H Q => ∃ w d e P, Rep g w H d x ∧ Rep g w H e y ∧ r d e P ∧ ∀ ds p vs, P ds → H p = none → Reps g w H ds vs → Q (.ref p) (upd H p (.lst vs))
@[simp] def dOpF (r : D → D → (List D → Prop) → Prop) (ta tb : TD) : TDF := fun s P X => ta s (fun x s1 => tb s1 (fun y s2 => r x y fun z => P z s2) X) X
@[simp] def rCatF : D → D → (List D → Prop) → Prop := fun x y P => match x, y with
  | .lst a, .lst b => a.length + b.length ≤ sizeLine ∧ P (a ++ b)
  | _, _ => False
@[simp] def rRepF : D → D → (List D → Prop) → Prop := fun x y P => match x, y with
  | .lst a, .int k => (-(2 ^ 63) ≤ k ∧ k < 2 ^ 63 ∧ a.length * k.toNat ≤ sizeLine) ∧ P (List.replicate k.toNat a).flatten
  | _, _ => False
variable {x : Str} {p q : Pos}
@[simp] def dBM1 (r : D → D → (D → Prop) → Prop) (ta tb : TD) : TD := fun s P X => ta s (fun x s1 => (∃ ds, x = .lst ds) ∧ tb s1 (fun y s2 => r x y fun z => P z s2) X) X
def rIndexD' : RD := fun x y P => match x with
  | .lst ds => flatD y = true ∧ ds.all flatD = true ∧ ∃ (j : Nat) (z : D), ds[j]? = some z ∧ eqD z y = true ∧ (∀ (m : Nat) (z' : D), m < j → ds[m]? = some z' → eqD z' y = false) ∧ P (.int (j : Nat))
  | _ => False
end
abbrev SpF := List Sl → Mem → (List D → Prop) → Prop
section
variable {X : Cx} {g : G} {W : WX} {pos : Pos} {a b c e : Expr} {ta tb tc td : TD} {w : Cs} {H H' : Hp} {σ : L2.St} {s : S} {t : TDA} {tf : TDF}
def lSpF (g : G) (spd : SpF) : Sp := fun vs H Q _ => ∃ w xs P, w.cs = [] ∧ ArgOk g w H xs vs ∧ MemOk g w H [] ∧ spd xs [] P ∧ ∀ ds p H' us, P ds → HExt w H H' → H p = none → ¬ w.bad p → Reps g (w.out p) H' ds us → H' p = some (.lst us) → Q (.ref p) H'
@[simp] def dCallF (spd : SpF) (t : TDA) : TDF := fun s P X => t s (fun xs s1 => cellsIn xs = [] ∧ spd xs [] fun ds => P ds s1) X
theorem RS.hext_out {p : Addr} (r : RS g (w.out p) H σ s) (nb : ¬ w.bad p) {xs : List Addr} (e2 : HExt ⟨[some p], xs⟩ H H') (hp : ∃ o, H' p = some o) : RS g (w.out p) H' σ s := by
  have h : ∀ a o, a ≠ p → H a = some o → NT o → H' a = some o := fun a o ne h nt => e2 a o (by simpa using ne) h nt
  have k : ∀ a u, ¬ (w.out p).bad a → H a = some u → NT u → H' a = some u ∧ ¬ (w.out p).bad a := fun a u n e nt => ⟨h a u (fun z => n (.inr (by rw [z]; exact List.mem_cons_self))) e nt, n⟩
  have tp : ∀ a, a ∈ g.TA → some a ∉ [some p] := fun a ha z => (r.mem.tabs a ha).1 (.inr (by
    have z : a = p := by simpa using z
    rw [z]; exact List.mem_cons_self))
  refine ⟨r.len, fun i x e => ?_, ⟨r.mem.len, fun c x e => ?_, r.mem.live, r.mem.inj, fun a ha => ?_, fun a ha => ⟨(r.mem.tabs a ha).1, HExt.tab (w := ⟨[some p], xs⟩) e2 (tp a ha) (r.mem.tabs a ha).2⟩⟩⟩
  · have z := r.slot i x e
    cases x with
    | no => trivial
    | dat d => obtain ⟨v, e, q⟩ := z; exact ⟨v, e, Rep.genN k q⟩
    | cell c => exact z
  · obtain ⟨a, ea, q⟩ := r.mem.at_ c x e
    obtain ⟨o, eo, nt⟩ := q.trackedN
    have ne : a ≠ p := fun z => nb (.inl (by rw [← z]; exact List.mem_of_getElem? ea))
    exact ⟨a, ea, q.genN k ((h a o ne eo nt).trans eo.symm)⟩
  · obtain ⟨n, o, e⟩ := r.mem.av a ha
    by_cases z : a = p
    · exact ⟨n, by rw [z]; exact hp⟩
    · exact ⟨n, e2.ex (by simpa using z) e⟩
theorem df_call {spd : SpF} {k : Nat} {f : Addr} {fd : FuncData} {ps : List Str} {x : Str} {p : Pos} {es : List Expr} (tk : Takes X W) (F : FnOk X.prog X.w X.K X.mg X.base (L2.CX X.prog X.w) k f fd ps (lSpF g spd)) (hr : Room k X.A) (hg : Gl X x) (hm : X.mg x = some (.ref f)) (hk : PySem.W.keepIn X.K (.ref f) = true) (hb : Binds X.K fd ps [])
    (ha : PA X (e :: es) (lA g W t)) (hdb : (x == ("__debug__" : Str)) = false := by decide) (he : starEach (e :: es) X.env = (false, eval e X.env) :: starEach es X.env := by rfl) (hpl : (backTo pos (starEach es X.env)).any (·.1) = false := by rfl) :
    PE X (.Call (.Name x p) (e :: es) [] pos) (lF g W (dCallF spd t)) := pe_imp (pe_callS F hr hg hm hk hb (fun σ => passAt tk σ) ha hdb he hpl) fun σ H Q ⟨w, s, P, PX, rs, h, k, x⟩ =>
  ⟨w, s, _, PX, rs, h, fun xs s1 H1 vs q e1 rs1 ra => by
    obtain ⟨hc, q⟩ := q
    refine ⟨w.none_, xs, _, rfl, ra.none_ hc, rs1.mem.none_, q, fun ds p H2 us pz e2 n2 nb2 ru hp => ?_⟩
    have sm : HExtC [] H1 H2 := e2
    have nb : ¬ w.bad p := fun z => nb2 (bad_none.mpr z)
    have bo : ∀ a, (w.none_.out p).bad a ↔ (w.out p).bad a := fun a => by
      constructor
      · intro z
        rcases Cs.out_bad z with z | z
        · rcases bad_none.mp z with z | z
          · exact .inl z
          · exact .inr (List.mem_cons_of_mem _ z)
        · exact .inr (by rw [z]; exact List.mem_cons_self)
      · intro z
        rcases Cs.out_bad z with z | z
        · rcases bad_none.mpr z with z | z
          · exact .inl z
          · exact .inr (List.mem_cons_of_mem _ z)
        · exact .inr (by rw [z]; exact List.mem_cons_self)
    have r0 : RS g (w.out p) (upd H1 p (.lst us)) σ s1 := rs1.out n2
    have nep : ∀ a, some a ∉ [some p] → a ≠ p := fun a h z => h (by rw [z]; simp)
    have r1 : RS g (w.out p) H2 σ s1 := r0.hext_out (xs := []) nb ⟨fun a o ne eo nt => by
      rw [upd_ne (nep a ne)] at eo
      exact sm.keep a o (by simp) eo nt, fun a ps ne eo => by
      rw [upd_ne (nep a ne)] at eo
      exact sm.grow a ps (by simp) eo⟩ ⟨_, hp⟩
    exact k ds s1 H2 p us pz (e1.trans sm.all_) (fresh0 e1 nb n2) nb r1 hp (Reps.gen (kb fun a => (bo a).symm) ru), x⟩
@[simp] def dCallNew (spd : SpD) (tf : TDF) : TD := fun s P X => tf s (fun ds s1 => spd [.cell 0] [some (.lst ds)] (fun d _ => P d s1) (fun c x _ => X c x s1)) X
theorem de_callNew {spd : SpD} {k : Nat} {f : Addr} {fd : FuncData} {ps : List Str} {x : Str} {p : Pos} (tk : Takes X W) (F : FnOk X.prog X.w X.K X.mg X.base (L2.CX X.prog X.w) k f fd ps (lSp g spd)) (hr : Room k X.A) (hg : Gl X x) (hm : X.mg x = some (.ref f)) (hk : PySem.W.keepIn X.K (.ref f) = true) (hb : Binds X.K fd ps [])
    (ha : PE X e (lF g W tf)) (hdb : (x == ("__debug__" : Str)) = false := by decide) (hs : starEach (e :: []) X.env = (false, eval e X.env) :: starEach [] X.env := by rfl) (he : starEach (e :: []) X.env = (false, eval e X.env) :: starEach [] X.env := by rfl) (hpl : (backTo pos (starEach [] X.env)).any (·.1) = false := by rfl) :
    PE X (.Call (.Name x p) (e :: []) [] pos) (lE g W (dCallNew spd tf)) := pe_imp (pe_callS F hr hg hm hk hb (fun σ => passAt tk σ) (pa_cons ha pa_nil hs) hdb he hpl) fun σ H Q ⟨w, s, P, PX, rs, h, k, x⟩ =>
  ⟨w, s, _, PX, rs, h, fun ds s1 H1 p vs q e1 n0 nb rs1 hp rp => by
    have hb : ∀ a, Cs.bad ⟨[some p], w.all ++ w.av⟩ a ↔ (w.out p).bad a := fun a => by
      simp only [Cs.bad, List.mem_cons, Option.some.injEq, List.not_mem_nil, or_false, List.mem_append, mem_all]
      constructor
      · rintro (h | h | h)
        · exact .inr (.inl h)
        · exact .inl h
        · exact .inr (.inr h)
      · rintro (h | h | h)
        · exact .inr (.inl h)
        · exact .inl h
        · exact .inr (.inr h)
    have behind : ∀ H2, HExt ⟨[some p], w.all ++ w.av⟩ H1 H2 → (∃ o, H2 p = some o) → HExt w H H2 ∧ RS g w H2 σ s1 := fun H2 e2 hp2 => by
      exact ⟨⟨fun a o n h nt => e2 a o (by simpa using ne_of_none h n0) (e1 a o n h nt) nt, fun a ps n h => by
        obtain ⟨qs, h1, t1⟩ := e1.grow a ps n h
        obtain ⟨rs, h2, t2⟩ := e2.grow a qs (by simpa using ne_of_none h n0) h1
        exact ⟨rs, h2, fun t => t2 (t1 t)⟩⟩, (rs1.hext_out nb e2 hp2).inn⟩
    have up : ∀ a, w.bad a → (w.out p).bad a := fun a z => Or.elim z (fun h => Or.inl h) (fun h => Or.inr (List.mem_cons_of_mem _ h))
    refine ⟨⟨[some p], w.all ++ w.av⟩, [.cell 0], [some (.lst ds)], _, _, ⟨p, [], rfl, rfl, rfl⟩, ⟨rfl, fun c x e => ?_, fun c a e => ?_, fun c c' a e e' => ?_, fun a ha => ?_, fun a ha => ⟨fun z => (rs1.mem.tabs a ha).1 ((hb a).mp z), (rs1.mem.tabs a ha).2⟩⟩, q, fun d M' H2 v pz e2 m2 rz => ?_, fun cc xx M' H2 dd v pz e2 m2 hd rz => ?_⟩
    · cases c with
      | zero =>
        cases e
        exact ⟨p, rfl, vs, hp, Reps.gen (kb hb) rp⟩
      | succ c => simp at e
    · cases c with
      | zero => exact ⟨_, rfl⟩
      | succ c => simp at e
    · cases c with
      | zero =>
        cases c' with
        | zero => rfl
        | succ c => simp at e'
      | succ c => simp at e
    · have ha : a ∈ w.all ++ w.av := ha
      have hba : w.bad a := by
        rcases List.mem_append.mp ha with z | z
        · exact .inl (mem_all.mp z)
        · exact .inr z
      refine ⟨fun z => ?_, ?_⟩
      · have z : a = p := by simpa using z
        rw [z] at hba
        exact nb hba
      · by_cases z : a = p
        · exact ⟨_, by rw [z]; exact hp⟩
        · exact rs1.mem.tracked ((hb a).mp (.inr ha))
    · have tp : ∃ o, H2 p = some o := m2.tracked (.inl (by simp))
      obtain ⟨e3, rs3⟩ := behind H2 e2 tp
      exact k d s1 H2 v pz e3 rs3 (Rep.gen (fun a o n e => ⟨e, fun z => n ((hb a).mpr (up a z))⟩) rz)
    · have tp : ∃ o, H2 p = some o := m2.tracked (.inl (by simp))
      obtain ⟨e3, rs3⟩ := behind H2 e2 tp
      exact x cc xx s1 H2 dd v pz e3 rs3 ⟨fun z => hd.1 ((hb dd).mpr (up dd z)), hd.2⟩ (Rep.gen (fun a o n e => ⟨e, fun z => n ((hb a).mpr (up a z))⟩) rz), x⟩
end
end DL
namespace DL
open PySem L2
section
variable {X : Cx} {g : G} {W : WX} {pos : Pos} {a b c e : Expr} {ta tb tc td : TD} {w : Cs} {H H' : Hp} {σ : L2.St} {s : S} {t : TDA} {tf : TDF}
@[simp] def truD : D → Option Bool
  | .non => some false
  | .bl b => some b
  | .int i => some (i != 0)
  | .lst ds => some (!ds.isEmpty)
  | .tup ds => some (!ds.isEmpty)
  | .fl ds => some (!ds.isEmpty)
  | _ => none
theorem Reps.empty {ds : List D} {vs : List V} (h : Reps g w H ds vs) : vs.isEmpty = ds.isEmpty := by
  have z := h.len
  cases ds <;> cases vs <;> simp at z ⊢
theorem Rep.tru (hk : g.K = X.K) {d : D} {v : V} {k : Bool} (h : Rep g w H d v) (e : truD d = some k) : TruV X.K v H k := by
  cases d <;> simp only [truD, Option.some.injEq, reduceCtorEq] at e <;> subst e <;> simp only [Rep] at h
  · subst h; rfl
  · subst h; rfl
  · subst h; rfl
  · obtain ⟨a, vs, e, n, hp, rv⟩ := h
    subst e
    exact .inr (.inl ⟨vs, SqT.of hp, by rw [rv.empty]⟩)
  · obtain ⟨a, vs, e, n, hp, rv⟩ := h
    subst e
    exact .inl ⟨vs, SqL.of hp, by rw [rv.empty]⟩
  · obtain ⟨a, vs, e, n, rv⟩ := h
    subst e
    refine .inl ⟨vs, ?_, by rw [rv.empty]⟩
    rcases n with ⟨_, n⟩ | n
    · exact .inl n
    · rw [← hk]; exact .inr n
@[simp] def dTru (t : TD) : TDB := fun s P X => t s (fun x s1 => ∃ k, truD x = some k ∧ P k s1) X
theorem dt_tru (hk : g.K = X.K) (he : PE X e (lE g W ta)) (hw : ∀ whole, isTrue e X.env whole = (do let v ← whole; standAt e.pos; holding [v] (truthy v)) := by intro _; rfl) : PT X e (lB g W (dTru ta)) := pt_imp (pt_truth he hw) fun σ H Q ⟨w, s, P, PX, rs, h, k, x⟩ =>
  ⟨w, s, _, PX, rs, h, fun d s1 H1 v q e1 rs1 rp => by
    obtain ⟨b, eb, q⟩ := q
    exact ⟨b, rp.tru hk eb, k b s1 H1 q e1 rs1⟩, x⟩
@[simp] def dYes : TDB := fun s P _ => P true s
theorem dts_nil : PTs X [] (lB g W dYes) := ⟨fun pins s σ H Q I ⟨w, s1, P, PX, rs, h, k, x⟩ => pts_nil.run pins s σ H Q I (k _ s1 H h (HExt.refl _ _) rs)⟩
theorem de_one {op : BoolOp} (h : PE X a (lE g W ta)) : PE X (.BoolOp op [a] pos) (lE g W ta) := pe_one h
def RFd (g : G) (W : WX) (t : TS) (td : S → (List D → S → Prop) → KX → Prop) : Prop := ∀ D σ H w s P PX, RS g w H σ s → td s P PX → XOkS g w H PX W →
  (∀ ds s' w' H' H1 σ' p vs, P ds s' → Mv w H w' H1 → HExt w' H1 H' → H1 p = none → ¬ w'.bad p → RS g (w'.out p) H' σ' s' → H' p = some (.lst vs) → Reps g (w'.out p) H' ds vs → (∀ x, x ∈ w'.av → some x ∉ w'.cs ∧ ∃ o, H1 x = some o) → D.rt (.ref p) H') → t D σ H
theorem rf_ret {tf : TDF} : RFd g W (tRet (lF g W tf)) tf := fun D σ H w s P PX rs h x k => ⟨w, s, P, PX, rs, h, fun ds s' H' p vs q e n nb r hp rv => k ds s' w H' H σ p vs q (Mv.refl _ _) e n nb r hp rv rs.mem.av, x.ex⟩
@[simp] def dSeqF (t : TSd) (u : S → (List D → S → Prop) → KX → Prop) : S → (List D → S → Prop) → KX → Prop := fun s P X => t s { nx := fun s' => u s' P X, rt := fun _ _ => False, bk := fun _ => False, ct := fun _ => False } X
theorem rf_cons {t : TSd} {u : TS} {ud : S → (List D → S → Prop) → KX → Prop} (hu : RFd g W u ud) : RFd g W (tSeq (lS g W t) u) (dSeqF t ud) := fun D σ H w s P PX rs h x k =>
  ⟨w, s, _, PX, rs, h, ⟨fun s1 w1 H1 σ1 q m rs1 => hu D σ1 H1 w1 s1 P PX rs1 q (x.mv m rs.mem.av) fun ds s' w' H' H2 σ' p vs q2 m2 e n nb r hp rv av => k ds s' w' H' H2 σ' p vs q2 (m.trans m2 rs.mem.av) e n nb r hp rv av, fun _ _ _ _ h => h.elim, fun _ _ _ _ h => h.elim, fun _ _ _ _ _ _ h => h.elim⟩, x⟩
variable {P : Program} {wd : World} {K : PySem.W.Frag} {mg : Str → Option Value} {base : Heap}
theorem fn_okF {x qual : Str} {st : Stmt} {f : Addr} {fd : FuncData} {N ps : List Str} {k : Nat} {spd : SpF} {td : S → (List D → S → Prop) → KX → Prop} (F : Fun K x qual st f fd) (S : FnScope N ps (defScope st)) (g : G)
    (len : ∀ xs M P, spd xs M P → xs.length = ps.length) (hN : ps.length ≤ N.length)
    (body : ∀ (cdv : Value) (A : Around) (outer : List Env) (s : Shared) (H : Hp) (E : XK), Room k (A.deeper (PyProof.Rows.envOfC qual (defScope st) s.heap.objs.size f cdv)) →
      ∃ t, PSs (cxOf (L2.CX P wd) P wd K mg base N qual (defScope st) f cdv A outer s H E) (defBody st) t ∧ RFd g (fun cls d _ H => E cls d H) t td)
    (math : ∀ xs P, spd xs [] P → td (startS N xs []) (fun ds _ => P ds) noX) : FnOk P wd K mg base (L2.CX P wd) (k + 1) f fd ps (lSpF g spd) := by
  refine F.okX S (fun vs H Q E ⟨w, xs, P, _, ra, m, h, _⟩ => (ra.len).trans (len xs _ P h)) fun cdv A outer s H vs Q E hr ⟨w, xs, P, hw, ra, m, h, kq⟩ => ?_
  obtain ⟨t, ht, hf⟩ := body cdv A outer s H E hr
  refine ⟨t, ht, hf _ _ H w (startS N xs []) _ noX (rs_start (by rw [len xs _ P h]; exact hN) ra m) (math xs P h) (fun _ _ _ _ _ _ _ _ h => h.elim) ?_⟩
  intro ds s' w' H' H1 σ' p us pz m1 e n nb r hp rv av
  have hpn : H p = none := m1.ext.non (fun c => by rw [hw] at c; cases c) n
  have nbw : ¬ w.bad p := m.fresh hpn
  refine kq ds p H' us pz ((m1.trans (.of_ext e) m.av).ext) hpn nbw (Reps.gen (fun a o na ea => ⟨ea, fun z => ?_⟩) rv) hp
  rcases Cs.out_bad z with z | z
  · rcases z with z | z
    · rw [hw] at z; cases z
    · exact na (.inr (List.mem_cons_of_mem _ (m1.avk a z)))
  · exact na (.inr (by rw [z]; exact List.mem_cons_self))
end
end DL
namespace DL
open PySem L2
@[simp] def dNever : TSd := fun _ _ _ => False
end DL
namespace DL
open PySem L2
def OkN (k : Nat) (d : D) : Prop := (toPy d).canLay0 = true ∧ (toPy d).depth ≤ k
theorem OkN.ok {k : Nat} {d : D} (h : OkN k d) (hk : k ≤ 64 := by decide) : okD d = true := by
  unfold okD SeqAt.shaped
  rw [h.1, Bool.true_and]
  exact decide_eq_true (Nat.le_trans h.2 hk)
theorem OkN.int (k : Nat) (i : Int) : OkN k (.int i) := ⟨by simp [toPy, PyData.canLay0], by simp [toPy, PyData.depth]⟩
theorem OkN.non (k : Nat) : OkN k .non := ⟨by simp [toPy, PyData.canLay0], by simp [toPy, PyData.depth]⟩
theorem OkN.bl (k : Nat) (b : Bool) : OkN k (.bl b) := ⟨by simp [toPy, PyData.canLay0], by simp [toPy, PyData.depth]⟩
theorem okAll {k : Nat} : ∀ {ds : List D}, (∀ d ∈ ds, OkN k d) → PyData.canLayAll0 (toPys ds) = true ∧ PyData.depthAll (toPys ds) ≤ k
  | [], _ => ⟨by simp [toPys, PyData.canLayAll0], by simp [toPys, PyData.depthAll]⟩
  | d :: ds, h => by
    obtain ⟨a, b⟩ := okAll (k := k) (ds := ds) fun d hd => h d (List.mem_cons_of_mem _ hd)
    obtain ⟨c, e⟩ := h d List.mem_cons_self
    exact ⟨by simp [toPys, PyData.canLayAll0, a, c], by simp [toPys, PyData.depthAll]; omega⟩
theorem OkN.tup {k : Nat} {ds : List D} (h : ∀ d ∈ ds, OkN k d) : OkN (k + 1) (.tup ds) := by
  obtain ⟨a, b⟩ := okAll h
  exact ⟨by simpa [toPy, PyData.canLay0] using a, by simp only [toPy, PyData.depth]; omega⟩
theorem OkN.lst {k : Nat} {ds : List D} (h : ∀ d ∈ ds, OkN k d) : OkN (k + 1) (.lst ds) := by
  obtain ⟨a, b⟩ := okAll h
  exact ⟨by simpa [toPy, PyData.canLay0] using a, by simp only [toPy, PyData.depth]; omega⟩
abbrev tupI (xs : List Int) : D := .tup (xs.map D.int)
theorem OkN.ofInts (k : Nat) (xs : List Int) : ∀ d ∈ xs.map D.int, OkN k d := fun d h => by
  obtain ⟨i, _, e⟩ := List.mem_map.mp h
  subst e
  exact .int k i
theorem OkN.pairs (xs : List (Int × Int)) : ∀ d ∈ xs.map pairD, OkN 1 d := fun d h => by
  obtain ⟨i, _, e⟩ := List.mem_map.mp h
  subst e
  exact .tup (k := 0) fun d h => by
    rcases List.mem_cons.mp h with e | h
    · subst e; exact .int _ _
    · rcases List.mem_cons.mp h with e | h
      · subst e; exact .int _ _
      · cases h
@[simp] theorem okD_int (i : Int) : okD (.int i) = true := (OkN.int 0 i).ok
@[simp] theorem okD_non : okD .non = true := (OkN.non 0).ok
@[simp] theorem okD_bl (b : Bool) : okD (.bl b) = true := (OkN.bl 0 b).ok
@[simp] theorem okD_ints (xs : List Int) : okD (.tup (xs.map D.int)) = true := (OkN.tup (OkN.ofInts 0 xs)).ok
@[simp] theorem okD_pairs (xs : List (Int × Int)) : okD (.tup (xs.map pairD)) = true := (OkN.tup (OkN.pairs xs)).ok
@[simp] theorem eqD_int (i j : Int) : eqD (.int i) (.int j) = decide (i = j) := by
  simp only [eqD, toPy, PyData.eqv]
  rfl
@[simp] theorem eqD_non : eqD .non .non = true := by simp [eqD, toPy, PyData.eqv]
theorem atI_pos {α : Type} {xs : List α} {i : Int} (h : 0 ≤ i) : atI xs i = xs[i.toNat]? := by
  unfold atI ixN
  rw [if_pos h]
  by_cases hl : i < xs.length
  · rw [if_pos hl]; rfl
  · rw [if_neg hl]
    have : xs.length ≤ i.toNat := by omega
    rw [List.getElem?_eq_none this]
    rfl
@[simp] theorem atI_nat {α : Type} {xs : List α} {i : Nat} : atI xs (i : Int) = xs[i]? := by rw [atI_pos (by omega)]; simp
@[simp] theorem atI_zero {α : Type} {xs : List α} : atI xs 0 = xs[0]? := by rw [atI_pos (by omega)]; simp
@[simp] theorem atI_one {α : Type} {xs : List α} : atI xs 1 = xs[1]? := by rw [atI_pos (by omega)]; simp
@[simp] theorem length_rangeD (lo : Int) (n : Nat) : (rangeD lo n).length = n := by simp [rangeD]
@[simp] theorem length_enumD (ds : List D) : (enumD ds).length = ds.length := by simp [enumD]
@[simp] def src (a b : Int) : Option CC := some (.lst [.int a, .int b])
structure Good (a b : Int) : Prop where
  a0 : 0 ≤ a
  b0 : 0 ≤ b
  b1 : b < 2147483647
def spTake : SpD := fun xs M P _ => ∃ top a b, xs = [.cell 0, .dat (.int top)] ∧ M = [src a b] ∧ Good a b ∧ 1 ≤ top ∧ top.natAbs.log2 < 9000 ∧ ∀ k a' b', 0 ≤ k → k < top → Good a' b' → P (.int k) [src a' b']
def spOne : SpD := fun xs M P _ => ∃ d0 ds a b, xs = [.cell 0, .dat d0] ∧ seqD d0 = some ds ∧ M = [src a b] ∧ Good a b ∧ ds ≠ [] ∧ ds.length < 2 ^ 60 ∧ ∀ d a' b', d ∈ ds → Good a' b' → P d [src a' b']
def spPool : SpF := fun xs _ P => ∃ (ns : List Int) (k : Int), xs = [.dat (.fl (ns.map .int)), .dat (.int k)] ∧ 0 ≤ k ∧ k ≤ 1000000 ∧ ∀ a b, Good a b → P [.int a, .int b]
def tdPool : S → (List D → S → Prop) → KX → Prop :=
  dSeqF (dSet 2 (dC (.int 0)))
  (dSeqF (dIfS (dT (dOp rLtD (dVar 1) (dCB rLenD (dCons (dVar 0) (dNil))))) (dSet 2 (dOp rIxD (dVar 0) (dVar 1))) (dIfS (dTru (dVar 0)) (dSet 2 (dOp rIxD (dVar 0) (dC (.int 0)))) (dNext)))
  (dSeqF (dSet 3 (dCB (r2I fun i j => if j > i then j else i) (dCons (dCB rIntD (dCons (dVar 2) (dNil))) (dCons (dCB rIntD (dCons (dOp rSubD (dUn rNegD (dC (.int 1))) (dVar 2)) (dNil))) (dNil)))))
  (dSeqF (dSet 4 (dOp rModD (dCB rIntD (dCons (dOp rMultD (dOp rAddD (dOp rAddD (dOp rAddD (dOp rModD (dCB rIntD (dCons (dVar 3) (dNil))) (dC (.int 2147483629))) (dOp rMultD (dOp rMultD (dC (.int 7919)) (dVar 1)) (dVar 1))) (dOp rMultD (dC (.int 31)) (dVar 1))) (dC (.int 17))) (dC (.int 48271))) (dNil))) (dC (.int 2147483647))))
  (dLst (dCons (dOp rMultD (dVar 3) (dCB rIntD (dCons (dOp rGeD (dVar 3) (dOp rPowD (dC (.int 10)) (dC (.int 18)))) (dNil)))) (dCons (dVar 4) (dNil)))))))
def tdTake : TSd :=
  dSeq (dIfS (dT (dOp rGtD (dIxC 0 (dC (.int 0))) (dC (.int 0)))) (dSeq (dSet 2 (dOp rModD (dCB rIntD (dCons (dIxC 0 (dC (.int 0))) (dNil))) (dVar 1)))
  (dSeq (dSetIx 0 (dC (.int 0)) (dOp rDivD (dIxC 0 (dC (.int 0))) (dVar 1)))
  (dRet (dVar 2)))) (dNext))
  (dSeq (dSetIx 0 (dC (.int 1)) (dOp rModD (dCB rIntD (dCons (dOp rAddD (dOp rMultD (dIxC 0 (dC (.int 1))) (dC (.int 39373))) (dC (.int 7))) (dNil))) (dC (.int 2147483647))))
  (dRet (dOp rModD (dCB rIntD (dCons (dOp rDivD (dOp rModD (dCB rIntD (dCons (dOp rMultD (dIxC 0 (dC (.int 1))) (dIxC 0 (dC (.int 1)))) (dNil))) (dC (.int 2147483629))) (dC (.int 32))) (dNil))) (dVar 1))))
def tdOne : TSd :=
  dRet (dOp rIxD (dVar 1) (dCall spTake (dConsC 0 (dCons (dCB rLenD (dCons (dVar 1) (dNil))) (dNil)))))
abbrev N_take : List Str := ["_law_source", "_law_top", "_law_digit"]
abbrev N_one : List Str := ["_law_source", "_law_things"]
abbrev N_pool : List Str := ["_law_script", "_law_k", "_law_cell", "_law_big", "_law_stirred"]
end DL
namespace DL
open PySem L2
theorem sp_start {K : PySem.W.Frag} {CA : Str → Addr} {TA : List Addr} {spd : SpD} {H : Hp} {a : Addr} {ns : List Int} (hS : SqL K H a (ns.map V.int)) (h : ∀ P : D → Mem → Prop, P (.bl true) [] → spd [.dat (.fl (ns.map .int))] [] P (fun _ _ _ => False)) (hT : ∀ b, b ∈ TA → GxR.TabG H b := by intro b hb; cases hb) : lSp ⟨K, CA, TA⟩ spd [.ref a] H (fun v _ => v = .bl true) (fun _ _ _ => False) := by
  refine ⟨⟨[], []⟩, [.dat (.fl (ns.map .int))], [], fun d _ => d = .bl true, fun _ _ _ => False, ⟨.ref a, [], rfl, ?_, rfl⟩, ⟨rfl, fun c x e => ?_, fun c a e => ?_, fun c c' a e => ?_, fun a h => ?_, fun b hb => ⟨by simp [Cs.bad], hT b hb⟩⟩, h _ rfl, fun d M' H' v e _ _ r => ?_, fun _ _ _ _ _ _ z => z.elim⟩
  · simp only [Rep]
    refine ⟨a, ns.map V.int, rfl, ?_, Reps.of_ints _⟩
    rcases hS with z | z
    · exact .inl ⟨by simp [Cs.bad], z⟩
    · exact .inr z
  · simp at e
  · simp at e
  · simp at e
  · cases h
  · subst e
    simpa only [Rep] using r
end DL
namespace DL
open PySem L2 PySem.Spec PyProof.Rows
abbrev Cls := Option Nat × Value × (Addr → Value → Option Addr → TS)
def goneD (i : Nat) (D : Ends) : Ends := { nx := fun σ H => D.nx (σ.set i none) H, rt := D.rt, bk := fun σ H => D.bk (σ.set i none) H, ct := fun σ H => D.ct (σ.set i none) H }
def endOf (o : Option Nat) (D : Ends) : Ends := match o with
  | none => D
  | some i => goneD i D
def slotOf (o : Option Nat) (σ : L2.St) (a : Addr) : L2.St := match o with
  | none => σ
  | some i => σ.set i (some (.ref a))
def wH (K : PySem.W.Frag) (Wout : WX) (D : Ends) : List Cls → WX
  | [] => Wout
  | q :: r => fun cls d σ H => ∃ b, PySem.W.exmOne K cls q.2.1 = some b ∧ (b = true → ∀ a, H a = none → q.2.2 a cls d (endOf q.1 D) (slotOf q.1 σ a) H) ∧ (b = false → wH K Wout D r cls d σ H)
inductive Hs2 (X : Cx) : List ExceptHandler → List Cls → Prop
  | nil : Hs2 X [] []
  | nm {x n : Str} {c : Value} {i : Nat} {u : Addr → Value → Option Addr → TS} {b0 : Stmt} {bs : List Stmt} {p1 p2 : Pos} {r : List ExceptHandler} {l : List Cls} (hc : Names X x c) (hN : X.N.Nodup) (hi : X.N[i]? = some n) (hl : X.env.kindOf n = some .local)
      (hu : ∀ (a : Addr) (oe : Obj) (cls : Value) (d : Option Addr) (pn : List (Addr × Obj)), Zc cls d oe → (∃ vs, oe.data = .fields vs) → PSs (X.suite a ((a, oe) :: pn)) (b0 :: bs) (u a cls d)) (hr : Hs2 X r l) :
      Hs2 X (.ExceptHandler (some (.Name x p1)) (some n) (b0 :: bs) p2 :: r) ((some i, c, u) :: l)
  | un {x : Str} {c : Value} {u : Addr → Value → Option Addr → TS} {b0 : Stmt} {bs : List Stmt} {p1 p2 : Pos} {r : List ExceptHandler} {l : List Cls} (hc : Names X x c)
      (hu : ∀ (a : Addr) (oe : Obj) (cls : Value) (d : Option Addr) (pn : List (Addr × Obj)), Zc cls d oe → (∃ vs, oe.data = .fields vs) → PSs (X.suite a ((a, oe) :: pn)) (b0 :: bs) (u a cls d)) (hr : Hs2 X r l) :
      Hs2 X (.ExceptHandler (some (.Name x p1)) none (b0 :: bs) p2 :: r) ((none, c, u) :: l)
theorem ps_try_hs {X : Cx} {body : List Stmt} {h0 : ExceptHandler} {hds : List ExceptHandler} {l : List Cls} {pos : Pos} {tb : WX → TS} {Wout : WX} (es : X.stack = X.env :: X.outer) (ef : X.env.frame = some X.env.locals) (tk : Takes X Wout)
    (hb : ∀ (W : WX) (pn : List (Addr × Obj)) (xe : Value → Shared → Prop), Takes (X.tr pn xe) W → PassesOwn (model X.prog X.w) X.A X.env xe → PSs (X.tr pn xe) body (tb W)) (hh : Hs2 X (h0 :: hds) l) :
    PS X (.Try body (h0 :: hds) [] [] pos) (fun D σ H => tb (wH X.K Wout D l) D σ H) := by
  refine ⟨fun pi s0 st0 Hh Dd In hyp => ?_⟩
  have okX := In.ok
  have fra : X.A.frames = some (X.env :: X.outer) := by rw [okX.frames, es]
  refine wpAny_Try_except ?_
  have bodyR := (hb (wH X.K Wout Dd l) (X.pn ++ pi) (fun e s₁ => wpAny (model X.prog X.w) X.A (noteFrame e X.env) (fun _ s₂ => wpAny (model X.prog X.w) X.A (setFlight e none) (fun _ s₃ => wpAny (model X.prog X.w) X.A (handleBy e X.env (h0 :: hds)) (SP X pi Dd) X.xe s₃) X.xe s₂) X.xe s₁) (fun u s' xx => ?_) PassesOwn.looking).run [] s0 st0 Hh Dd (In.toTry _) hyp
  · refine wpAny_mono bodyR (fun f s1 hsp => ?_) (fun e s1 he => he)
    cases f with
    | next => obtain ⟨a1, a2, a3, a4⟩ := hsp; exact wpAny_execs_nil ⟨a1, a2, a3.ofTry okX, a4⟩
    | brk => obtain ⟨a1, a2, a3, a4⟩ := hsp; exact ⟨a1, a2, a3.ofTry okX, a4⟩
    | cont => obtain ⟨a1, a2, a3, a4⟩ := hsp; exact ⟨a1, a2, a3.ofTry okX, a4⟩
    | ret z => obtain ⟨a0, a1, a2, a3, a5, a4⟩ := hsp; exact ⟨a0, a1, a2, a3.ofTry okX, a5, a4⟩
  · obtain ⟨a, B, sI, pi2, st1, H1, cls, d, rfl, J0, nb, up, sk, na, eo, ag, w0⟩ := xx
    have J : Inv X pi st1 H1 sI := J0.ofTry okX
    have sk2 : Sky B (X.env :: X.outer) a (Zc cls d) X.env.locals s'.heap := by rw [← es]; exact sk
    show wpAny (model X.prog X.w) X.A (noteFrame (.ref a) X.env) _ _ _
    refine Sky.land Zc.steady fra ef sk2 fun g3 fl3 up3 => ?_
    have J3 : Inv X pi st1 H1 { s' with heap := g3 } := J.landed nb fl3.1 (up.trans up3) eo ag
    obtain ⟨oe3, vs3, he3, hz3, hd3⟩ := fl3.there
    have out3 : a ∉ frs (X.env :: X.outer) := fun hm => by
      obtain ⟨_, o', e', hnf⟩ := fl3.2.2.1.mem hm
      rw [he3] at e'
      cases e'
      exact hnf _ hd3
    have nL : a ≠ X.env.locals := fun z => out3 (List.mem_filterMap.mpr ⟨X.env, List.mem_cons_self, by rw [ef, z]⟩)
    have nF : a ∉ X.fs := fun hm => by
      obtain ⟨y, hy, q⟩ := List.mem_filterMap.mp hm
      exact out3 (List.mem_filterMap.mpr ⟨y, List.mem_cons_of_mem _ hy, q⟩)
    have S3 := J3.suite he3 hd3 na nL nF
    have LT : PySem.W.Looks (model X.prog X.w) g3 (typeOf (.ref a)) cls := fun A Q E s k q => wpAny_typeOf_ref (k _ _ he3) (by rw [hz3.1]; exact q)
    have look : ∀ {x : Str} {c : Value} {p1 : Pos}, Names X x c → ∀ {Q E : Value → Shared → Prop}, Q c { s' with heap := g3 } → wpAny (model X.prog X.w) (X.A.mark (some (.ref a))) (eval (.Name x p1) X.env) Q E { s' with heap := g3 } := fun {x c p1} hc {Q E} q => by
      obtain ⟨hg, hdb, hm⟩ := hc
      rcases hm with hm | ⟨hm, hv, hnn⟩
      · exact ld_glob (X := X.suite a ((a, oe3) :: (X.pn ++ pi))) S3 hg hm q hdb
      · exact ld_blt (X := X.suite a ((a, oe3) :: (X.pn ++ pi))) S3 hg hm hv q hnn hdb
    have go : ∀ {hds' : List ExceptHandler} {l' : List Cls}, Hs2 X hds' l' → wH X.K Wout Dd l' cls d st1 H1 → wpAny (model X.prog X.w) X.A (handleBy (.ref a) X.env hds') (SP X pi Dd) X.xe { s' with heap := g3 } := by
      intro hds' l' hk
      induction hk with
      | nil =>
        intro w1
        refine wpAny_handleBy_nil ?_
        obtain ⟨k1, k2, k3, oe, vs, T, oT, ts', he, hz, hd, h1, hr⟩ := id fl3
        unfold PySem.passOn
        refine wpAny_bind (wpAny_field he hd h1 ?_)
        rw [if_neg (show ¬ ((Value.ref T == Value.none) = true) from by simp)]
        have last : wpAny (model X.prog X.w) X.A (setFlight (.ref a) X.env.frame) (fun _ s4 => wpAny (model X.prog X.w) X.A (throw (.ref a) : Sem Flow) (SP X pi Dd) X.xe s4) X.xe { s' with heap := g3 } := by
          rw [ef]
          refine HandSPX.setFlight_upZ fl3 fun g4 hh4 up4 => wpAny_throw (tk _ _ ?_)
          exact ⟨a, B, sI, pi, st1, H1, cls, d, rfl, J, nb, (up.trans up3).trans up4, .inr (.inr (by rw [es]; exact hh4)), na, eo, ag, w1⟩
        first
          | exact wpAny_bind (wpAny_pure (wpAny_bind last))
          | exact wpAny_bind last
      | @nm x n c i u b0 bs p1 p2 r l2 hc hN hi hl hu hr ih =>
        intro w1
        obtain ⟨b, hb1, yes, no⟩ := w1
        have LM := PySem.W.exm_one (M := model X.prog X.w) J3.kIn LT hb1
        refine wpAny_handleBy_cons (codeAny_handlers_test ?_) (by intro q; cases q)
        refine look hc (LM.here ?_)
        cases b with
        | false => show wpAny _ X.A (handleBy (.ref a) X.env r) _ _ _; exact ih (no rfl)
        | true =>
          refine codeAny_handlers_suite_as ?_
          refine HandSPX.lands_againZ fl3 fun g4 fl4 up4 => ?_
          have J4 : Inv X pi st1 H1 { s' with heap := g4 } := J.landed nb fl4.1 ((up.trans up3).trans up4) eo ag
          obtain ⟨oe4, vs4, he4, hz4, hd4⟩ := fl4.there
          have S4 := J4.suite he4 hd4 na nL nF
          refine store_ok (X := X.suite a ((a, oe4) :: (X.pn ++ pi))) (v := .ref a) S4 hN hi (.inl hl) rfl (fun s5 S5 => ?_) (.inr hl)
          have run := (hu a oe4 cls d (X.pn ++ pi) hz4 ⟨_, hd4⟩).run [] s5 _ H1 _ S5 (yes rfl a na)
          refine wpAny_mono run (fun f s6 hsp => ?_) (fun _ _ z => False.elim z)
          have fin : ∀ {st6 : L2.St} {H6 : Hp} {Q : Shared → Prop}, Inv (X.suite a ((a, oe4) :: (X.pn ++ pi))) [] st6 H6 s6 → (∀ s7, Inv X pi (st6.set i none) H6 s7 → Q s7) → wpAny (model X.prog X.w) X.A (do bindName X.env n .none; unbindBehindTheSuite X.env n p2) (fun _ s7 => Q s7) X.xe s6 := fun {st6 H6 Q} S6 hq => gone_ok (S6.unsuite okX) hN hi hl hq
          cases f with
          | next => obtain ⟨a1, a2, a3, a4⟩ := hsp; exact fin a3 fun s7 J7 => ⟨_, _, J7, a4⟩
          | brk => obtain ⟨a1, a2, a3, a4⟩ := hsp; exact fin a3 fun s7 J7 => ⟨_, _, J7, a4⟩
          | cont => obtain ⟨a1, a2, a3, a4⟩ := hsp; exact fin a3 fun s7 J7 => ⟨_, _, J7, a4⟩
          | ret z => obtain ⟨a0, a1, a2, a3, a5, a4⟩ := hsp; exact fin a3 fun s7 J7 => ⟨_, _, _, J7, a5, a4⟩
      | @un x c u b0 bs p1 p2 r l2 hc hu hr ih =>
        intro w1
        obtain ⟨b, hb1, yes, no⟩ := w1
        have LM := PySem.W.exm_one (M := model X.prog X.w) J3.kIn LT hb1
        refine wpAny_handleBy_cons (codeAny_handlers_test ?_) (by intro q; cases q)
        refine look hc (LM.here ?_)
        cases b with
        | false => show wpAny _ X.A (handleBy (.ref a) X.env r) _ _ _; exact ih (no rfl)
        | true =>
          refine codeAny_handlers_suite ?_
          refine HandSPX.lands_againZ fl3 fun g4 fl4 up4 => ?_
          have J4 : Inv X pi st1 H1 { s' with heap := g4 } := J.landed nb fl4.1 ((up.trans up3).trans up4) eo ag
          obtain ⟨oe4, vs4, he4, hz4, hd4⟩ := fl4.there
          have S4 := J4.suite he4 hd4 na nL nF
          have run := (hu a oe4 cls d (X.pn ++ pi) hz4 ⟨_, hd4⟩).run [] _ _ H1 _ S4 (yes rfl a na)
          refine wpAny_mono run (fun f s6 hsp => ?_) (fun _ _ z => False.elim z)
          cases f with
          | next => obtain ⟨a1, a2, a3, a4⟩ := hsp; exact ⟨_, _, a3.unsuite okX, a4⟩
          | brk => obtain ⟨a1, a2, a3, a4⟩ := hsp; exact ⟨_, _, a3.unsuite okX, a4⟩
          | cont => obtain ⟨a1, a2, a3, a4⟩ := hsp; exact ⟨_, _, a3.unsuite okX, a4⟩
          | ret z => obtain ⟨a0, a1, a2, a3, a5, a4⟩ := hsp; exact ⟨_, _, _, a3.unsuite okX, a5, a4⟩
    exact go hh w0
end DL
namespace DL
open PySem L2 PySem.Spec PyProof.Rows
structure ErrC (K : PySem.W.Frag) (C fI : Addr) : Prop where
  oex : OexC K C
  wh : PySem.W.findIn K (.ref C) "what" = some none
  iC : PySem.W.findIn K (.ref C) "__init__" = some (some (.ref fI))
  xf : XfC K C
def spIni (K : PySem.W.Frag) : Sp := fun vs H Q _ => ∃ (a C : Addr) (v : V), vs = [.ref a, v] ∧ OexC K C ∧ PySem.W.findIn K (.ref C) "what" = some none ∧ H a = some (exo a C none) ∧ ∀ dx, H dx = none → dx ≠ a → Q .non (upd (upd H dx (exd dx [(("what" : Str), v)])) a (exo a C (some dx)))
theorem ini_reads {K : PySem.W.Frag} {vs : List V} {H : Hp} {Q : VK} {E : XK} (h : spIni K vs H Q E) : tOst K "what" (tVar 0) (tVar 1) { nx := fun _ H' => Q .non H', rt := Q } (start ["self", "what"] vs) H := by
  obtain ⟨a, C, v, rfl, T, hno, ha, q⟩ := h
  exact ⟨v, rfl, .ref a, rfl, a, C, rfl, T, hno, .inl ⟨ha, q⟩⟩
theorem ok_ini {P : Program} {w : World} {K : PySem.W.Frag} {mg : Str → Option Value} {base : Heap} {qual : Str} {st : Stmt} {f : Addr} {fd : FuncData} (F : Fun K "__init__" qual st f fd) (S : FnScope ["self", "what"] ["self", "what"] (defScope st))
    (hb : ∀ (cdv : Value) (A : Around) (outer : List Env) (s : Shared) (H : Hp) (E : XK), PSs (cxOf (L2.CX P w) P w K mg base ["self", "what"] qual (defScope st) f cdv A outer s H E) (defBody st) (tOst K "what" (tVar 0) (tVar 1))) : FnOk P w K mg base (L2.CX P w) 1 f fd ["self", "what"] (spIni K) :=
  F.okX S (fun vs H Q E h => by obtain ⟨_, _, _, rfl, _⟩ := h; rfl) fun cdv A outer s H vs Q E _ h => ⟨_, hb cdv A outer s H E, ini_reads h⟩
section
variable {X : Cx} {g : G} {W : WX} {pos : Pos} {e : Expr} {te : TD} {w : Cs} {H H' : Hp} {σ : L2.St} {s : S}
@[simp] def dRaise (c : Str) (te : TD) : TSd := fun s E PX => te s (fun d s1 => PX c d s1) PX
theorem ds_raise {c x : Str} {C fI : Addr} {fd : FuncData} {p pos2 : Pos} (hca : g.CA c = C) (T : ErrC X.K C fI) (tI : PySem.W.typeIn X.K (.ref fI) = some (.type "function")) (F1 : FnOk X.prog X.w X.K X.mg X.base (L2.CX X.prog X.w) 1 fI fd ["self", "what"] (spIni X.K)) (hr : Room 2 X.A) (hb : Binds X.K fd ["self", "what"] [])
    (hc : X.calm = true) (tk : Takes X W) (hg : Gl X x) (hm : X.mg x = some (.ref C)) (he : PE X e (lE g W te)) (hx : Passes (L2.CX X.prog X.w) X (fun _ _ _ => False)) (hs : starEach (e :: []) X.env = (false, eval e X.env) :: starEach [] X.env := by rfl)
    (hdb : (x == ("__debug__" : Str)) = false := by decide) (he' : starEach (e :: []) X.env = (false, eval e X.env) :: starEach [] X.env := by rfl) (hpl : (backTo pos (starEach [] X.env)).any (·.1) = false := by rfl) :
    PS X (.Raise (some (.Call (.Name x p) (e :: []) [] pos)) none pos2) (lS g W (dRaise c te)) := ps_imp (ps_raise hc tk (pmk_oex T.oex T.iC tI F1 hr hb .nil hx hg hm (pa_cons he pa_nil hs) hdb he' hpl)) fun D σ H ⟨w, s, E, PX, rs, h, k, x⟩ =>
  ⟨w, s, _, PX, rs, h, fun d s1 H1 v q e1 rs1 rp => ⟨by simp, fun a na => ⟨a, C, v, rfl, T.oex, T.wh, upd_same, fun dx n ne => by
    have nd : H1 dx = none := by rw [upd_ne ne] at n; exact n
    refine ⟨rfl, dx, [(("what" : Str), v)], upd_same, by rw [upd_ne ne]; exact upd_same, nd, ?_⟩
    have eh : upd (del (upd (upd (upd H1 a (exo a C none)) dx (exd dx [(("what" : Str), v)])) a (exo a C (some dx))) a) dx (.xd [(("what" : Str), v)]) = upd H1 dx (.xd [(("what" : Str), v)]) := by
      funext b
      by_cases e1 : b = dx
      · rw [e1, upd_same, upd_same]
      · rw [upd_ne e1, upd_ne e1]
        by_cases e2 : b = a
        · rw [e2, del_same, na]
        · rw [del_ne e2, upd_ne e2, upd_ne e1, upd_ne e2]
    rw [eh, ← hca]
    have sm : Same H1 (upd H1 dx (.xd [(("what" : Str), v)])) := same_upd nd
    exact x c d s1 w _ σ dx v q (.of_ext (e1.trans (.of_same sm))) (rs1.same sm) ⟨rs1.mem.fresh nd, upd_same⟩ (rp.mv (.of_same sm))⟩⟩, x.ex⟩
@[simp] def subE (c C : Str) : Bool := c == C || C == "Refused"
abbrev HdD := Option Nat × Str × (Addr → Addr → TSd)
@[simp] def putX : Option Nat → Addr → Addr → D → S → S
  | none, _, _, _, s => s
  | some i, a, dd, x, s => { s with r := s.r.set i (.dat (.xc a dd x)) }
@[simp] def goneE : Option Nat → EK → EK
  | none, E => E
  | some i, E => { nx := fun s => E.nx { s with r := s.r.set i .no }, rt := E.rt, bk := fun s => E.bk { s with r := s.r.set i .no }, ct := fun s => E.ct { s with r := s.r.set i .no } }
@[simp] def selD (E : EK) (PX : KX) : List HdD → Str → D → S → Prop
  | [], c, x, s => PX c x s
  | q :: r, c, x, s => if subE c q.2.1 = true then ∀ a dd, q.2.2 a dd (putX q.1 a dd x s) (goneE q.1 E) noX else selD E PX r c x s
@[simp] def dTry (L : List Str) (t : TSd) (hs : List HdD) : TSd := fun s E PX => t s E (fun c x s' => c ∈ L ∧ selD E PX hs c x s')
def tsOf (g : G) (L : List Str) (u : Addr → Addr → TSd) : Addr → Value → Option Addr → TS := fun a cls d D σ H => ∃ dd c, d = some dd ∧ cls = .ref (g.CA c) ∧ c ∈ L ∧ lS g W0 (u a dd) D σ H
def clsOf (g : G) (L : List Str) (hs : List HdD) : List Cls := hs.map fun q => (q.1, .ref (g.CA q.2.1), tsOf g L q.2.2)
theorem SOk.gone {E : EK} {D : Ends} (k : SOk g w H E D) : ∀ o : Option Nat, SOk g w H (goneE o E) (endOf o D)
  | none => k
  | some i => ⟨fun s2 w2 H2 σ2 p m r => k.nx _ w2 H2 _ p m r.setNo, fun s2 w2 H2 σ2 p m r => k.bk _ w2 H2 _ p m r.setNo, fun s2 w2 H2 σ2 p m r => k.ct _ w2 H2 _ p m r.setNo, k.rt⟩
theorem RS.putX {a dd : Addr} {x : D} {v : V} (r : RS g w H σ s) (h : XdAt w H dd v) (q : Rep g w H x v) : ∀ o : Option Nat, RS g w H (slotOf o σ a) (DL.putX o a dd x s)
  | none => r
  | some i => r.put fun σ' e => ⟨.ref a, e, by simp only [Rep]; exact ⟨v, trivial, h.1, h.2, q⟩⟩
theorem sel_ok {L : List Str} {Dn : Ends} {E : EK} {PX : KX} (k : SOk g w H E Dn) (kx : XOkS g w H PX W) (av : ∀ x, x ∈ w.av → some x ∉ w.cs ∧ ∃ o, H x = some o) {K : PySem.W.Frag} {c : Str} {x : D} {s' : S} {w' : Cs} {H' : Hp} {σ' : L2.St} {dd : Addr} {v : V} (hL : c ∈ L) (m : Mv w H w' H') (rs : RS g w' H' σ' s') (hd : XdAt w' H' dd v) (rp : Rep g w' H' x v) :
    ∀ hs : List HdD, (∀ q ∈ hs, PySem.W.exmOne K (.ref (g.CA c)) (.ref (g.CA q.2.1)) = some (subE c q.2.1)) → selD E PX hs c x s' → wH K W Dn (clsOf g L hs) (.ref (g.CA c)) (some dd) σ' H'
  | [], _, h => kx c x s' w' H' σ' dd v h m rs hd rp
  | q :: r, he, h => by
    refine ⟨subE c q.2.1, he q List.mem_cons_self, fun e a na => ?_, fun e => ?_⟩
    · simp only [selD, e, if_true] at h
      exact ⟨dd, c, rfl, rfl, hL, w', _, _, noX, rs.putX hd rp q.1, h a dd, (k.mv m av).gone q.1, fun _ _ _ _ _ _ _ _ z => z.elim⟩
    · simp only [selD, e, Bool.false_eq_true, if_false] at h
      exact sel_ok k kx av hL m rs hd rp r (fun q hq => he q (List.mem_cons_of_mem _ hq)) h
theorem ds_try {L : List Str} {body : List Stmt} {h0 : ExceptHandler} {hds : List ExceptHandler} {t : TSd} {hs : List HdD} (es : X.stack = X.env :: X.outer) (ef : X.env.frame = some X.env.locals) (tk : Takes X W)
    (hb : ∀ (W' : WX) (pn : List (Addr × Obj)) (xe : Value → Shared → Prop), Takes (X.tr pn xe) W' → PassesOwn (model X.prog X.w) X.A X.env xe → PSs (X.tr pn xe) body (lS g W' t))
    (he : ∀ c ∈ L, ∀ q ∈ hs, PySem.W.exmOne X.K (.ref (g.CA c)) (.ref (g.CA q.2.1)) = some (subE c q.2.1)) (hh : Hs2 X (h0 :: hds) (clsOf g L hs)) :
    PS X (.Try body (h0 :: hds) [] [] pos) (lS g W (dTry L t hs)) := ps_imp (ps_try_hs (l := clsOf g L hs) es ef tk hb hh) fun D σ H ⟨w, s, E, PX, rs, h, k, x⟩ =>
  ⟨w, s, E, _, rs, h, k, fun c x' s' w' H' σ' dd v ⟨hL, z⟩ m rs' hd rp => sel_ok k x rs.mem.av hL m rs' hd rp hs (fun q hq => he c hL q hq) z⟩
theorem suite_ok {L : List Str} {u : Addr → Addr → TSd} {a : Addr} {oe : Obj} {cls : Value} {d : Option Addr} {pn : List (Addr × Obj)} {bs : List Stmt} (h : ∀ dd c, c ∈ L → cls = .ref (g.CA c) → d = some dd → PSs (X.suite a ((a, oe) :: pn)) bs (lS g W0 (u a dd))) : PSs (X.suite a ((a, oe) :: pn)) bs (tsOf g L u a cls d) :=
  ⟨fun pins s σ H D I ⟨dd, c, e1, e2, hL, z⟩ => (h dd c hL e2 e1).run pins s σ H D I z⟩
@[simp] def dWhat (i : Nat) (a dd : Addr) : TD := fun s P _ => ∃ x, s.r[i]? = some (.dat (.xc a dd x)) ∧ P x s
theorem de_what {c : Str} {a dd fI : Addr} {oe : Obj} {cls : Value} {d : Option Addr} {pn : List (Addr × Obj)} {n : Str} {p : Pos} (i : Nat) (T : ErrC X.K (g.CA c) fI) (hz : Zc cls d oe) (hf : ∃ vs, oe.data = .fields vs) (ec : cls = .ref (g.CA c)) (ed : d = some dd)
    (he : PE (X.suite a ((a, oe) :: pn)) (.Name n p) (tVar i)) (hb : attributeBase (.Name n p) "what" X.env (eval (.Name n p) X.env) = eval (.Name n p) X.env := by rfl) : PE (X.suite a ((a, oe) :: pn)) (.Attribute (.Name n p) "what" pos) (lE g W0 (dWhat i a dd)) :=
  pe_imp (pe_xf T.xf T.wh hz hf he hb) fun σ H Q ⟨w, s, P, PX, rs, h, k, x⟩ => by
    obtain ⟨y, ey, h⟩ := h
    obtain ⟨u, eu, ru⟩ := rs.slot i _ ey
    simp only [Rep] at ru
    obtain ⟨z, e1, nb, hd, rz⟩ := ru
    subst e1
    exact ⟨.ref a, eu, rfl, ec, dd, _, z, ed, hd, by simp [List.lookup], k y s H z h (HExt.refl _ _) rs rz⟩
end
end DL
namespace DL
def caOf (K : PySem.W.Frag) (c : PySem.Str) : PySem.Addr := match PySem.W.nsIn K PySem.mainGlobals c with
  | some (some (.ref a)) => a
  | _ => 0
def gOf (K : PySem.W.Frag) (TA : List PySem.Addr := []) : G := ⟨K, caOf K, TA⟩
end DL
namespace DL
open PySem
theorem exm_mk {K : PySem.W.Frag} {s c : Addr} {b : Bool} (hb : PySem.W.subIn K (.ref c) (.type "BaseException") = some true) (hc : PySem.W.isClsIn K c = true) (ht : PySem.W.typeIn K (.ref c) = some (.type "type")) (hs : PySem.W.subIn K (.ref s) (.ref c) = some b) : PySem.W.exmOne K (.ref s) (.ref c) = some b := by
  have hc : (PySem.W.clsIn K c).isSome = true := hc
  have one : (PySem.W.subIn K (.ref c) (.type "BaseException") == some true) = true := by rw [hb]; rfl
  have two : ((PySem.W.clsIn K c).isSome && PySem.W.typeIn K (.ref c) == some (.type "type")) = true := by rw [hc, ht]; rfl
  unfold PySem.W.exmOne
  rw [if_pos one]
  exact (if_pos two).trans hs
end DL
namespace DL
open PySem L2
section
variable {X : Cx} {g : G} {W : WX} {e : Expr} {ta td : TD}
@[simp] def dIns (i : Nat) (ta td : TD) : TD := fun s P X => ∃ c, s.r[i]? = some (.cell c) ∧ isLst s.M[c]? ∧ ta s (fun y s1 => td s1 (fun d s2 => ∃ ds j, s2.M[c]? = some (some (.lst ds)) ∧ y = .int j ∧ 0 ≤ j ∧ j < 2 ^ 63 ∧ ds.length < sizeLine ∧ P .non { s2 with M := s2.M.set c (some (.lst (ds.take j.toNat ++ [d] ++ ds.drop j.toNat))) }) X) X
abbrev rIns : V → List V → Hp → VK → Prop := fun x vs H Q => ∃ (l : Addr) (xs : List V) (i : Int) (y : V), x = .ref l ∧ vs = [.int i, y] ∧ H l = some (.lst xs) ∧ xs.length < sizeLine ∧ 0 ≤ i ∧ i < 2 ^ 63 ∧ Q .non (upd H l (.lst (xs.take i.toNat ++ [y] ++ xs.drop i.toNat)))
@[simp] def dTruC (i : Nat) : TDB := fun s P _ => ∃ c ds, s.r[i]? = some (.cell c) ∧ s.M[c]? = some (some (.lst ds)) ∧ P (!ds.isEmpty) s
end
end DL
namespace DL
open PySem L2 PySem.Spec PyProof.Rows
structure FldC (K : PySem.W.Frag) (C fI : Addr) : Prop where
  cl : L2.Cls K C
  na : ∀ f ∈ (["n", "strengths", "guards"] : List Str), NoAttr K C f
  mks : Mk K C fI
section
variable {X : Cx} {g : G} {W : WX} {pos : Pos} {e e2 : Expr} {te te2 : TD} {w : Cs} {H H' : Hp} {σ : L2.St} {s : S}
theorem RepF.get {f : Str} : ∀ {fs : List (Str × D)} {fv : List (Str × V)} {v : D}, RepF g w H fs fv → fs.lookup f = some v → ∃ u, fv.lookup f = some u ∧ Rep g w H v u
  | [], _, _, _, h => by simp at h
  | p :: fs, fv, v, hr, h => by
    simp only [RepF] at hr
    obtain ⟨u, r, e, q, z⟩ := hr
    subst e
    obtain ⟨k, d⟩ := p
    by_cases c : f = k
    · subst c
      simp [List.lookup] at h ⊢
      subst h
      exact q
    · have c' : (f == k) = false := by simpa using c
      simp only [List.lookup, c'] at h ⊢
      exact RepF.get z h
@[simp] def dFld (te : TD) (c f : Str) : TD := fun s P X => te s (fun d s1 => ∃ fs v, d = .ins c fs ∧ fs.lookup f = some v ∧ P v s1) X
theorem de_fld {c f : Str} (cl : L2.Cls X.K (g.CA c)) (na : NoAttr X.K (g.CA c) f) (he : PE X e (lE g W te)) (hb : attributeBase e f X.env (eval e X.env) = eval e X.env := by rfl) : PE X (.Attribute e f pos) (lE g W (dFld te c f)) := pe_imp (pe_fld he hb) fun σ H Q ⟨w, s, P, PX, rs, h, k, x⟩ =>
  ⟨w, s, _, PX, rs, h, fun d s1 H1 v q e1 rs1 rp => by
    obtain ⟨fs, y, ed, el, q⟩ := q
    subst ed
    simp only [Rep] at rp
    obtain ⟨a, dx, fv, ev, nb, hp, rf⟩ := rp
    obtain ⟨u, eu, ru⟩ := rf.get el
    exact ⟨a, _, dx, fv, u, ev, hp, cl, na, eu, k y s1 H1 u q e1 rs1 ru⟩, x⟩
def spFI (K : PySem.W.Frag) : Sp := fun vs H Q _ => ∃ (a C dx t1 fI : Addr) (xs : List V) (gv : V), vs = [.ref a, .ref t1, gv] ∧ FldC K C fI ∧ H a = some (.ins C dx []) ∧ H t1 = some (.tup xs) ∧
  Q .non (upd H a (.ins C dx [(("n" : Str), .int xs.length), (("strengths" : Str), .ref t1), (("guards" : Str), gv)]))
theorem upd_twice {H : Hp} {a : Addr} {o u : HO} : upd (upd H a o) a u = upd H a u := by
  funext b
  by_cases c : b = a
  · rw [c, upd_same, upd_same]
  · rw [upd_ne c, upd_ne c, upd_ne c]
theorem fi_reads {K : PySem.W.Frag} {vs : List V} {H : Hp} {Q : VK} {E : XK} {tl : TE} (hl : ∀ σ H Q, (∃ t1 xs, σ[1]? = some (some (.ref t1)) ∧ SqT K H t1 xs ∧ Q (.int xs.length) H) → tl σ H Q) (h : spFI K vs H Q E) :
    tSeq (sFld K (tVar 0) tl "n") (tSeq (sFld K (tVar 0) (tVar 1) "strengths") (sFld K (tVar 0) (tVar 2) "guards")) { nx := fun _ H' => Q .non H', rt := Q } (start ["self", "strengths", "guards"] vs) H := by
  obtain ⟨a, C, dx, t1, fI, xs, gv, rfl, T, ha, ht, q⟩ := h
  refine hl _ _ _ ⟨t1, xs, rfl, SqT.of ht, ?_⟩
  refine ⟨.ref a, rfl, a, C, dx, [], rfl, ha, T.cl, T.na _ (by simp), by decide, ?_⟩
  refine ⟨.ref t1, rfl, .ref a, rfl, a, C, dx, _, rfl, upd_same, T.cl, T.na _ (by simp), (show (1 : Nat) < 1000 by decide), ?_⟩
  refine ⟨gv, rfl, .ref a, rfl, a, C, dx, _, rfl, upd_same, T.cl, T.na _ (by simp), (show (2 : Nat) < 1000 by decide), ?_⟩
  rw [upd_twice, upd_twice]
  exact q
@[simp] def dMkF (c : Str) (t : TDA) : TD := fun s P X => t s (fun xs s1 => ∃ ds y, xs = [.dat (.tup ds), .dat y] ∧ P (.ins c [("n", .int ds.length), ("strengths", .tup ds), ("guards", y)]) s1) X
theorem de_mkF {c x : Str} {fI : Addr} {fd : FuncData} {p : Pos} (T : FldC X.K (g.CA c) fI) (F : FnOk X.prog X.w X.K X.mg X.base (L2.CX X.prog X.w) 1 fI fd ["self", "strengths", "guards"] (spFI X.K)) (hr : Room 2 X.A) (hg : Gl X x) (hm : X.mg x = some (.ref (g.CA c))) (hb : Binds X.K fd ["self", "strengths", "guards"] [])
    (hx : Passes (L2.CX X.prog X.w) X (fun _ _ _ => False)) {ta : TDA} (ha : PA X (e :: [e2]) (lA g W ta)) (hdb : (x == ("__debug__" : Str)) = false := by decide) (he : starEach (e :: [e2]) X.env = (false, eval e X.env) :: starEach [e2] X.env := by rfl) (hpl : (backTo pos (starEach [e2] X.env)).any (·.1) = false := by rfl) :
    PE X (.Call (.Name x p) (e :: [e2]) [] pos) (lE g W (dMkF c ta)) := pe_imp (pe_make T.mks F hr hg hm hb .nil hx ha hdb he hpl) fun σ H Q ⟨w, s, P, PX, rs, h, k, x⟩ =>
  ⟨w, s, _, PX, rs, h, fun xs s1 H1 vs q e1 rs1 ra => by
    obtain ⟨ds, y, exs, q⟩ := q
    subst exs
    obtain ⟨v1, v2, ev, r1, r2⟩ := ArgOk.two ra
    subst ev
    intro a dx n1 n2 ne
    simp only [Rep] at r1
    obtain ⟨t1, us, e3, nb, ht, ru⟩ := r1
    subst e3
    have st : t1 ≠ dx := ne_of_none ht n2
    have st2 : t1 ≠ a := ne_of_none ht n1
    refine ⟨a, g.CA c, dx, t1, fI, us, v2, rfl, T, upd_same, by rw [upd_ne st2, upd_ne st]; exact ht, rfl, ?_⟩
    rw [upd_twice]
    have sm : Same H1 (upd (upd H1 dx (.own a)) a (.ins (g.CA c) dx [(("n" : Str), V.int us.length), (("strengths" : Str), .ref t1), (("guards" : Str), v2)])) := fun b o eo => by
      rw [upd_ne (ne_of_none eo n1), upd_ne (ne_of_none eo n2)]
      exact eo
    refine k _ s1 _ _ q (e1.trans (.of_same sm)) (rs1.same sm) ?_
    simp only [Rep, RepF]
    exact ⟨a, dx, _, rfl, rs1.mem.fresh n1, upd_same, _, _, rfl, by simp only [ru.len], _, _, rfl, ⟨t1, us, rfl, nb, sm _ _ ht, ru.mv (.of_same sm)⟩, _, _, rfl, r2.mv (.of_same sm), rfl⟩, x⟩
theorem dt_chain {a b c : Expr} {ta tb tc : TD} {op op' : CmpOp} {r r' : R2} {rd rd' : RD} (h : PT X (.Compare a [op, op'] [b, c] pos) (tTest (tChain r r' (lE g W ta) (lE g W tb) (lE g W tc)))) (hr : ∀ x y H Q, lR g rd x y H Q → r x y H Q) (hr' : ∀ x y H Q, lR g rd' x y H Q → r' x y H Q) :
    PT X (.Compare a [op, op'] [b, c] pos) (lB g W (dT (dChain rd rd' ta tb tc))) := pt_imp h (lT_of (lE_chain hr hr'))
end
end DL
namespace DL
open PySem L2 PySem.Spec PyProof.Rows
def tyD : D → Option String
  | .non => some "NoneType"
  | .bl _ => some "bool"
  | .int _ => some "int"
  | .str _ => some "str"
  | .tup _ => some "tuple"
  | .lst _ => some "list"
  | _ => none
@[simp] def isT (T : String) : D → Option Bool
  | .non => some (T == "NoneType")
  | .bl _ => some (T == "bool" || T == "int")
  | .int _ => some (T == "int")
  | .str _ => some (T == "str")
  | .tup _ => some (T == "tuple")
  | .lst _ => some (T == "list")
  | _ => none
section
variable {X : Cx} {g : G} {W : WX} {pos : Pos} {e : Expr} {te : TD} {w : Cs} {H : Hp}
theorem Rep.tyX {d : D} {v : V} {t : String} (h : Rep g w H d v) (e : tyD d = some t) : TyX X.K H v (.type t) := by
  cases d <;> simp only [tyD, Option.some.injEq, reduceCtorEq] at e <;> subst e <;> simp only [Rep] at h
  · subst h; exact .base .non
  · subst h; exact .base (.bl _)
  · subst h; exact .base (.int _)
  · subst h; exact .base (.str _)
  · obtain ⟨a, vs, e, n, hp, rv⟩ := h; subst e; exact .base (.tup hp)
  · obtain ⟨a, vs, e, n, hp, rv⟩ := h; subst e; exact .base (.lst hp)
structure KitT (T : String) : Prop where
  ok : ∀ t ∈ ["NoneType", "bool", "int", "str", "tuple", "list"], kitB t T = some (T == t || (t == "bool" && T == "int"))
theorem kit_int : KitT "int" := ⟨by decide +kernel⟩
theorem kit_bool : KitT "bool" := ⟨by decide +kernel⟩
theorem kit_tuple : KitT "tuple" := ⟨by decide +kernel⟩
@[simp] def dIsT (T : String) (te : TD) : TD := fun s P X => te s (fun d s1 => ∃ b, isT T d = some b ∧ P (.bl b) s1) X
theorem de_isT {T : String} {y : Str} {p q : Pos} (kt : KitT T) (hT : T = "int" ∨ T = "bool" ∨ T = "tuple" ∨ T = "str") (hg : Gl X "isinstance") (hm : X.mg "isinstance" = none) (he : PE X e (lE g W te)) (ht : PE X (.Name y q) (tC (.ty T))) (hs : starEach (e :: [.Name y q]) X.env = (false, eval e X.env) :: starEach [.Name y q] X.env := by rfl)
    (hs2 : starEach (.Name y q :: []) X.env = (false, eval (.Name y q) X.env) :: starEach [] X.env := by rfl) (hpl : (backTo pos (starEach [.Name y q] X.env)).any (·.1) = false := by rfl) :
    PE X (.Call (.Name "isinstance" p) (e :: [.Name y q]) [] pos) (lE g W (dIsT T te)) := pe_imp (pe_callB call_isi hg hm PyProof.Rows.boot_isinstance (pa_cons he (pa_cons ht pa_nil hs2) hs) (by decide) (by decide) hs hpl) fun σ H Q ⟨w, s, P, PX, rs, h, k, x⟩ =>
  ⟨w, s, _, PX, rs, h, fun d s1 H1 v q1 e1 rs1 rp => by
    obtain ⟨b, eb, q1⟩ := q1
    have key : ∀ t, tyD d = some t → t ∈ ["NoneType", "bool", "int", "str", "tuple", "list"] → (T == t || (t == "bool" && T == "int")) = b → rIsi X.K [v, .ty T] H1 Q := fun t e1' mt eb' =>
      ⟨v, .ty T, .type t, .type T, b, rfl, .ty T, rp.tyX e1', kit_ty (by rw [kt.ok t mt, eb']), k (.bl b) s1 H1 _ q1 e1 rs1 (by simp only [Rep])⟩
    have fin : ∃ t, tyD d = some t ∧ t ∈ ["NoneType", "bool", "int", "str", "tuple", "list"] ∧ (T == t || (t == "bool" && T == "int")) = b := by
      cases d <;> simp only [isT, Option.some.injEq, reduceCtorEq] at eb <;> subst eb <;> refine ⟨_, rfl, by decide, ?_⟩ <;> rcases hT with rfl | rfl | rfl | rfl <;> decide
    obtain ⟨t, h1, h2, h3⟩ := fin
    exact key t h1 h2 h3, x⟩
end
end DL
namespace DL
open PySem L2 PySem.Spec PyProof.Rows
def pick {α : Type} (p : List Nat) (l : List α) : List α := p.filterMap (l[·]?)
theorem vals_pick {vs : List V} {us : List Value} (h : Vals vs us) : ∀ p : List Nat, Vals (pick p vs) (pick p us)
  | [] => .nil
  | i :: p => by
    have ih := vals_pick h p
    unfold pick at ih ⊢
    rw [List.filterMap_cons, List.filterMap_cons]
    cases e : vs[i]? with
    | none =>
      have e2 : us[i]? = none := by
        rw [List.getElem?_eq_none_iff] at e ⊢
        rw [← h.length]; exact e
      simp only [e2]
      exact ih
    | some v =>
      obtain ⟨u, hu, ru⟩ := h.get e
      simp only [hu]
      exact .cons ru ih
theorem kbn {K : PySem.W.Frag} {fd : FuncData} {ps ks : List Str} {n : Nat} (p : List Nat) (h : ∀ us ws : List Value, us.length = n → ws.length = ks.length → bindArgs fd ⟨us, ks.zip ws⟩ = pure (ps.zip (pick p (us ++ ws)))) :
    KBn K fd ps n ks (fun us ws => pick p (us ++ ws)) (fun us ws => pick p (us ++ ws)) :=
  ⟨fun s us ws _ l1 l2 => .of_eq (h us ws l1 l2), fun r1 r2 => vals_pick (r1.append r2) p⟩
section
variable {X : Cx} {CX : CXT} {k n : Nat} {f : Addr} {fd : FuncData} {ps ks : List Str} {sp : Sp} {E : L2.St → XK} {x : Str} {p pos : Pos} {e : Expr} {es : List Expr} {kws : List Keyword} {t tk : TA} {g : List Value → List Value → List Value} {gV : List V → List V → List V}
def tCallNS (n m : Nat) (sp : Sp) (gV : List V → List V → List V) (E : L2.St → XK) (t tk : TA) : TE := fun σ H Q => t σ H fun vs H1 => tk σ H1 fun zs H2 => vs.length = n ∧ zs.length = m ∧ sp (gV vs zs) H2 Q (E σ)
theorem run_fnNS {pins : List (Addr × Obj)} {σ : L2.St} {H : Hp} {s : Shared} {Q : VK} {us ws : List Value} {vs zs : List V} (F : FnOk X.prog X.w X.K X.mg X.base CX k f fd ps sp) (hr : Room k X.A) (hb : KBn X.K fd ps n ks g gV) (hx : PassesAt CX X σ (E σ))
    (I : Inv X pins σ H s) (r : Vals vs us) (rz : Vals zs ws) (l1 : vs.length = n) (l2 : zs.length = ks.length) (h : sp (gV vs zs) H Q (E σ)) : wpAny (model X.prog X.w) X.A (call (.ref f) us (ks.zip ws)) (EP X pins σ Q) X.xe s := by
  have r2 := hb.rel r rz
  refine wpAny_call (codeAny_mono (F.run X.A X.stack s H ⟨us, ks.zip ws⟩ (g us ws) (gV vs zs) Q (E σ) hr I.env0 (hb.to s us ws I.kIn (r.length.symm.trans l1) (rz.length.symm.trans l2)) r2 h) fun r s' hq => ?_)
  cases r with
  | error e => exact hx pins H s e s' I hq
  | ok fl =>
    cases fl with
    | ret u => exact I.after hq
    | next => exact False.elim hq
    | brk => exact False.elim hq
    | cont => exact False.elim hq
theorem pe_callNS0 (F : FnOk X.prog X.w X.K X.mg X.base CX k f fd ps sp) (hr : Room k X.A) (hg : Gl X x) (hm : X.mg x = some (.ref f)) (hk : PySem.W.keepIn X.K (.ref f) = true) (hb : KBn X.K fd ps 0 ks g gV) (hx : ∀ σ, PassesAt CX X σ (E σ))
    (hkw : PK X kws tk) (hall : (backToKw pos (keywordEach kws X.env)).all (·.1.isSome) = true := by rfl) (hks : (backToKw pos (keywordEach kws X.env)).filterMap (·.1) = ks := by rfl)
    (hdb : (x == ("__debug__" : Str)) = false := by decide)
    (hpl : ((backTo pos (starEach [] X.env)).any (·.1) || (backToKw pos (keywordEach kws X.env)).any (·.1.isNone)) = false := by rfl) :
    PE X (.Call (.Name x p) [] kws pos) (tCallNS 0 ks.length sp gV E tNil tk) := by
  refine ⟨fun pins s σ H Q I h => ?_⟩
  refine wpAny_Call_Name_kw (ld_glob I hg hm ?_ hdb)
  refine PySem.W.callWith_KW0 (h₀ := X.base) I.ok.mod.kin hk hall ?_ hpl
  refine thn (hkw.run pos pins s σ H _ I h) fun ws s2 ⟨zs, H2, I2, rz, l1, l2, q2⟩ => ⟨I2.kIn, ?_⟩
  rw [hks]
  exact run_fnNS F hr hb (hx σ) I2 .nil rz l1 l2 q2
end
theorem pk_imp {X : Cx} {kws : List Keyword} {t t' : TA} (h : PK X kws t) (i : ∀ σ H Q, t' σ H Q → t σ H Q) : PK X kws t' := ⟨fun pos pins s σ H Q I q => h.run pos pins s σ H Q I (i σ H Q q)⟩
section
variable {X : Cx} {g : G} {W : WX} {pos kpos : Pos} {a b c e : Expr} {ta tb tc : TD} {w : Cs} {H H' : Hp} {σ : L2.St} {s : S} {kws : List Keyword} {tr : TDA} {nm : Option Str}
theorem dk_nil : PK X [] (lA g W dNil) := pk_imp pk_nil fun σ H Q ⟨w, s, P, PX, rs, h, k, x⟩ => k [] s H [] h (HExt.refl _ _) rs rfl
theorem dk_cons (ha : PE X e (lE g W ta)) (hr : PK X kws (lA g W tr)) : PK X (⟨nm, e, kpos⟩ :: kws) (lA g W (dCons ta tr)) := pk_imp (pk_cons ha hr) fun σ H Q ⟨w, s, P, PX, rs, h, k, x⟩ =>
  ⟨w, s, _, PX, rs, h, fun d s1 H1 v q e1 rs1 rp => ⟨w, s1, _, PX, rs1, q, fun xs s2 H2 vs q2 e2 rs2 rp2 => k _ s2 H2 _ q2 (e1.trans e2) rs2 ⟨v, vs, rfl, rp.mv (.of_ext e2), rp2⟩, x.ext e1⟩, x⟩
theorem ArgOk.ext (e : HExt w H H') : ∀ {xs : List Sl} {vs : List V}, ArgOk g w H xs vs → ArgOk g w H' xs vs
  | [], _, h => h
  | .no :: _, _, h => h
  | .dat d :: xs, _, ⟨v, r, ev, q, z⟩ => ⟨v, r, ev, q.mv (.of_ext e), ArgOk.ext e z⟩
  | .cell c :: xs, _, ⟨a, r, ev, q, z⟩ => ⟨a, r, ev, q, ArgOk.ext e z⟩
theorem ArgOk.app : ∀ {xs ys : List Sl} {vs us : List V}, ArgOk g w H xs vs → ArgOk g w H ys us → ArgOk g w H (xs ++ ys) (vs ++ us)
  | [], _, _, _, h, k => by have h : _ = [] := h; subst h; exact k
  | .no :: _, _, _, _, h, _ => h.elim
  | .dat d :: xs, _, _, _, ⟨v, r, ev, q, z⟩, k => by subst ev; exact ⟨v, _, rfl, q, ArgOk.app z k⟩
  | .cell c :: xs, _, _, _, ⟨a, r, ev, q, z⟩, k => by subst ev; exact ⟨a, _, rfl, q, ArgOk.app z k⟩
theorem ArgOk.cons_at : ∀ {xs : List Sl} {vs : List V}, ArgOk g w H xs vs → ∀ {i : Nat} {x : Sl}, xs[i]? = some x → ∃ v, vs[i]? = some v ∧ ∀ {ys : List Sl} {us : List V}, ArgOk g w H ys us → ArgOk g w H (x :: ys) (v :: us)
  | [], _, h, i, x, e => by simp at e
  | .no :: _, _, h, _, _, _ => h.elim
  | .dat d :: xs, _, ⟨v, r, ev, q, z⟩, i, x, e => by
    subst ev
    cases i with
    | zero => cases e; exact ⟨v, rfl, fun k => ⟨v, _, rfl, q, k⟩⟩
    | succ i => exact ArgOk.cons_at z (by simpa using e)
  | .cell c :: xs, _, ⟨a, r, ev, q, z⟩, i, x, e => by
    subst ev
    cases i with
    | zero => cases e; exact ⟨_, rfl, fun k => ⟨a, _, rfl, q, k⟩⟩
    | succ i => exact ArgOk.cons_at z (by simpa using e)
theorem ArgOk.pick {xs : List Sl} {vs : List V} (h : ArgOk g w H xs vs) : ∀ p : List Nat, ArgOk g w H (pick p xs) (pick p vs)
  | [] => rfl
  | i :: p => by
    have ih := ArgOk.pick h p
    unfold DL.pick at ih ⊢
    rw [List.filterMap_cons, List.filterMap_cons]
    cases e : xs[i]? with
    | none =>
      have e2 : vs[i]? = none := by
        rw [List.getElem?_eq_none_iff] at e ⊢
        rw [h.len]; exact e
      simp only [e2]
      exact ih
    | some v =>
      obtain ⟨u, hu, ru⟩ := h.cons_at e
      simp only [hu]
      exact ru ih
theorem call_mv {spd : SpD} {xs : List Sl} {vs : List V} {P : D → S → Prop} {PX : KX} {Q : VK} (rs1 : RS g w H σ s) (ra : ArgOk g w H xs vs) (q : callM spd xs s P PX) (k : EOk g w H σ P Q) (x : XOk g w H σ PX W) : lSp g spd vs H Q (WE W σ) := by
  unfold callM at q
  split at q
  · rename_i hc
    refine ⟨w.none_, xs, [], _, _, ra.none_ hc, rs1.mem.none_, q, fun d M' H2 v p e2 m2 rp => ?_, fun cc xx M' H2 dd v p e2 m2 hd rp => ?_⟩
    · have sm : HExtC [] H H2 := e2
      exact k d s H2 v p sm.all_ (rs1.grown sm) (Rep.gen (kb fun a => bad_none.symm) rp)
    · have sm : HExtC [] H H2 := e2
      exact x cc xx s H2 dd v p sm.all_ (rs1.grown sm) ⟨fun z => hd.1 (bad_none.mpr z), hd.2⟩ (Rep.gen (kb fun a => bad_none.symm) rp)
  · rename_i c hc
    obtain ⟨m, em, q⟩ := q
    obtain ⟨p, hp, _⟩ := rs1.mem.at_ c m em
    have hb : ∀ a, w.bad a ↔ (w.one_ p).bad a := fun a => (bad_one (List.mem_of_getElem? hp)).symm
    refine ⟨w.one_ p, _, _, _, _, ra.one_ hp hc, rs1.mem.one_ hp em, q, fun d M' H2 v pp e2 m2 rp => ?_, fun cc xx M' H2 dd v pp e2 m2 hd rp => ?_⟩
    · obtain ⟨m', em', pp⟩ := pp
      subst em'
      obtain ⟨e3, rs3⟩ := rs1.after_one hp e2 m2
      exact k d _ H2 v pp e3 rs3 (Rep.gen (kb hb) rp)
    · obtain ⟨m', em', pp⟩ := pp
      subst em'
      obtain ⟨e3, rs3⟩ := rs1.after_one hp e2 m2
      exact x cc xx _ H2 dd v pp e3 rs3 ⟨fun z => hd.1 ((hb dd).mp z), hd.2⟩ (Rep.gen (kb hb) rp)
  · exact q.elim
@[simp] def dCallK (spd : SpD) (n m : Nat) (p : List Nat) (t u : TDA) : TD := fun s P X => t s (fun xs s1 => u s1 (fun ys s2 => xs.length = n ∧ ys.length = m ∧ callM spd (pick p (xs ++ ys)) s2 P X) X) X
@[simp] theorem pick_nil {α : Type} (l : List α) : pick [] l = [] := rfl
@[simp] theorem pick_cons {α : Type} (i : Nat) (p : List Nat) (l : List α) : pick (i :: p) l = (match l[i]? with | some x => x :: pick p l | none => pick p l) := by
  unfold pick
  rw [List.filterMap_cons]
  cases l[i]? <;> rfl
theorem de_callK0 {spd : SpD} {u : TDA} {k : Nat} {f : Addr} {fd : FuncData} {ps ks : List Str} {x : Str} {p : Pos} (pm : List Nat) (tk : Takes X W) (F : FnOk X.prog X.w X.K X.mg X.base (L2.CX X.prog X.w) k f fd ps (lSp g spd)) (hr : Room k X.A) (hg : Gl X x) (hm : X.mg x = some (.ref f)) (hk : PySem.W.keepIn X.K (.ref f) = true)
    (hb : ∀ us ws : List Value, us.length = 0 → ws.length = ks.length → bindArgs fd ⟨us, ks.zip ws⟩ = pure (ps.zip (pick pm (us ++ ws)))) (hkw : PK X kws (lA g W u)) (hall : (backToKw pos (keywordEach kws X.env)).all (·.1.isSome) = true := by rfl) (hks : (backToKw pos (keywordEach kws X.env)).filterMap (·.1) = ks := by rfl)
    (hdb : (x == ("__debug__" : Str)) = false := by decide)
    (hpl : ((backTo pos (starEach [] X.env)).any (·.1) || (backToKw pos (keywordEach kws X.env)).any (·.1.isNone)) = false := by rfl) :
    PE X (.Call (.Name x p) [] kws pos) (lE g W (dCallK spd 0 ks.length pm dNil u)) := pe_imp (pe_callNS0 F hr hg hm hk (kbn pm hb) (fun σ => passAt tk σ) hkw hall hks hdb hpl) fun σ H Q h => by
  obtain ⟨w, s, P, PX, rs, h, k, x⟩ := h
  refine ⟨w, s, _, PX, rs, h, fun ys s2 H2 us q2 e2 rs2 rb => ?_, x⟩
  obtain ⟨l1, l2, q2⟩ := q2
  exact ⟨rfl, by rw [rb.len]; exact l2, call_mv rs2 (rb.pick pm) q2 (k.ext e2) (x.ext e2)⟩
end
theorem fun_kb {K : PySem.W.Frag} {x qual : Str} {st : Stmt} {f : Addr} {fd : FuncData} {ps ks : List Str} {n : Nat} {pm : List Nat} (F : Fun K x qual st f fd)
    (h : ∀ (kV doc pm' : Value) (an : Option Addr) (cdv ct : Value) (us ws : List Value), us.length = n → ws.length = ks.length → bindArgs (PySem.W.fnOf x qual (defArgs st) (defBody st) (defScope st) .none kV doc pm' an cdv ct) ⟨us, ks.zip ws⟩ = pure (ps.zip (pick pm (us ++ ws)))) :
    ∀ us ws : List Value, us.length = n → ws.length = ks.length → bindArgs fd ⟨us, ks.zip ws⟩ = pure (ps.zip (pick pm (us ++ ws))) := by
  obtain ⟨oc, od, kV, doc, pm, an, cdv, ct, osl, rfl, lk, hcd⟩ := F.ex
  exact h kV doc pm an cdv ct
section
variable {X : Cx} {g : G} {W : WX} {pos p2 : Pos} {e st : Expr} {te : TE} {ts : TO} {ta : TD} {tl : TDO}
def tBack (K : PySem.W.Frag) (te : TE) (ts : TO) : TE := fun σ H Q => te σ H fun x H1 => ts σ H1 fun o H2 => o = some (-1) ∧ ∃ a xs, x = .ref a ∧ SqL K H2 a xs ∧ ∀ p, H2 p = none → Q (.ref p) (upd H2 p (.lst xs.reverse))
variable {w : Cs} {H : Hp} {σ : L2.St} {s : S} {i : Int} {j : Nat} {cp up : Pos}
@[simp] def dBackF (ta : TD) : TDF := fun s P X => ta s (fun x s1 => ∃ ds, x = .lst ds ∧ P ds.reverse s1) X
end
end DL
namespace DL
open PySem L2
theorem OkN.str (k : Nat) {i : Str} (h : PyData.strOk i = true) : OkN k (.str i) := ⟨by simpa [toPy, PyData.canLay0] using h, by simp [toPy, PyData.depth]⟩
@[simp] theorem ex_par {α β : Type} {a : α} {b : β} {Q : α → β → Prop} : (∃ x y, (a = x ∧ b = y) ∧ Q x y) ↔ Q a b := ⟨fun ⟨_, _, ⟨e1, e2⟩, q⟩ => by rw [e1, e2]; exact q, fun q => ⟨_, _, ⟨rfl, rfl⟩, q⟩⟩
@[simp] theorem ex_par3 {α : Type} {a b c : α} {Q : α → α → α → Prop} : (∃ x y z, (a = x ∧ b = y ∧ c = z) ∧ Q x y z) ↔ Q a b c := ⟨fun ⟨_, _, _, ⟨e1, e2, e3⟩, q⟩ => by rw [e1, e2, e3]; exact q, fun q => ⟨_, _, _, ⟨rfl, rfl, rfl⟩, q⟩⟩
@[simp] theorem okD_intsL (xs : List Int) : okD (.lst (xs.map D.int)) = true := (OkN.lst (OkN.ofInts 0 xs)).ok
inductive Ans | err (s : Str) (x : Int) | bl (b : Bool) | seq (L : List Int) | num (i : Int) | non
@[simp] def Ans.ok : Ans → Prop
  | .err s _ => PyData.strOk s = true
  | .seq L => L.length ≤ 1000000
  | _ => True
def ansD : Ans → D
  | .err s x => .lst [.str s, .int x]
  | .bl b => .lst [.bl b]
  | .seq L => .lst [tupI L]
  | .num i => .lst [.int i]
  | .non => .lst [.non]
def fldD (ss gs : List Int) : D := .ins "Field" [("n", .int ss.length), ("strengths", tupI ss), ("guards", tupI gs)]
def outI (s : Int) : Bool := !(decide (-1000000000 ≤ s) && decide (s ≤ 1000000000))
def firstOutK : Nat → List Int → Option Nat
  | _, [] => none
  | k, s :: l => if outI s = true then some k else firstOutK (k + 1) l
def firstOut (l : List Int) : Option Nat := firstOutK 0 l
def badF (ss gs : List Int) : Option (Str × Int) :=
  if ss.length < 1 ∨ 32 < ss.length then some ("BadSize", ss.length) else match firstOut ss with
  | some i => some ("BadStrength", (i : Int))
  | none => if gs.length ≠ ss.length then some ("Unlike", gs.length) else match firstOut gs with
    | some i => some ("BadGuard", (i : Int))
    | none => none
def rangeI (n : Nat) : List Int := (List.range n).map fun (i : Nat) => (i : Int)
theorem rangeI_mem {n : Nat} {x : Int} : x ∈ rangeI n ↔ 0 ≤ x ∧ x < n := by
  unfold rangeI
  rw [List.mem_map]
  constructor
  · rintro ⟨i, hi, rfl⟩
    have := List.mem_range.mp hi
    omega
  · rintro ⟨h0, h1⟩
    exact ⟨x.toNat, List.mem_range.mpr (by omega), by omega⟩
def spShuf : SpD := fun xs M P _ => ∃ (n a b : Int), xs = [.cell 0, .dat (.int n)] ∧ M = [src a b] ∧ Good a b ∧ 0 ≤ n ∧ n ≤ 1000 ∧ ∀ (L : List Int) a' b', L.Perm (rangeI n.toNat) → Good a' b' → P (.lst (L.map .int)) [src a' b']
def spNum : SpD := fun xs M P _ => ∃ d, xs = [.dat d] ∧ M = [] ∧ (isT "int" d).isSome = true ∧ P (.bl (match d with | .int _ => true | _ => false)) []
def spAlike : SpD := fun xs M P _ => ∃ r : Ans, r.ok ∧ xs = [.dat (ansD r), .dat (ansD r)] ∧ M = [] ∧ P (.bl true) []
def spFar : SpD := fun xs M P _ => ∃ (n a b : Int), xs = [.cell 0, .dat (.int n)] ∧ M = [src a b] ∧ Good a b ∧ 0 ≤ n ∧ n ≤ 1000 ∧ ∀ x a' b', (x < 0 ∨ n ≤ x) → Good a' b' → P (.int x) [src a' b']
def spFieldL : SpD := fun xs M P _ => ∃ (n a b : Int), xs = [.cell 0, .dat (.int n)] ∧ M = [src a b] ∧ Good a b ∧ 1 ≤ n ∧ n ≤ 1000 ∧
  ∀ (ss gs : List Int) a' b', (ss.length : Int) = n → (gs.length : Int) = n → (∀ v ∈ ss, 0 ≤ v ∧ v ≤ n + 2) → (∀ v ∈ gs, 0 ≤ v ∧ v ≤ n + 2) → Good a' b' → P (.tup [.lst (ss.map .int), .lst (gs.map .int)]) [src a' b']
def spMade : SpD := fun xs M P PX => ∃ ss gs, xs = [.dat (tupI ss), .dat (tupI gs)] ∧ M = [] ∧ match badF ss gs with
  | some (c, x) => PX c (.int x) []
  | none => P (fldD ss gs) []
def sideBad (n : Int) : Int → List Int → Option Int
  | _, [] => none
  | last, x :: xs => if last < x ∧ x < n then sideBad n x xs else some x
def spSideRow : SpD := fun xs M P PX => ∃ (n : Int) (d : D) (L : List Int), xs = [.dat (.int n), .dat d] ∧ seqD d = some (L.map .int) ∧ M = [] ∧ match sideBad n (-1) L with
  | some x => PX "BadSide" (.int x) []
  | none => P .non []
def tdShuf : TSd :=
  dSeq (dPar 2 3 (dConsF (dLc (dRange1 (dCons (dVar 1) (dNil))) (dgName 4) (dYes) (dVar 4) [4]) (dConsF (dLst (dNil)) (dNil))))
  (dSeq (dFor (dRange1 (dCons (dVar 1) (dNil))) (dgName 5) (dDrop (dMeth1 3 fAppend (dMeth1 2 fPopAt (dCall spTake (dConsC 0 (dCons (dCB rLenD (dConsC 2 (dNil))) (dNil))))))))
  (dFreeze 3 (dRet (dVar 3))))
def tdNum : TSd :=
  dRet (dAndV (dIsT "int" (dVar 0)) (dNotV (dIsT "bool" (dVar 0))))
def tdAlike : TSd :=
  dSeq (dIfS (dT (dOp rNeD' (dVar 0) (dVar 1))) (dRet (dC (.bl false))) (dNext))
  (dSeq (dIfS (dT (dOp rEqD' (dCB rLenD (dCons (dVar 1) (dNil))) (dC (.int 2)))) (dRet (dC (.bl true))) (dNext))
  (dSeq (dPar 2 3 (dCons (dOp rIxD (dVar 0) (dC (.int 0))) (dCons (dOp rIxD (dVar 1) (dC (.int 0))) (dNil))))
  (dSeq (dIfS (dOr (dTru (dIsT "bool" (dVar 3))) (dTru (dIsT "bool" (dVar 2)))) (dRet (dAndV (dIsT "bool" (dVar 3)) (dIsT "bool" (dVar 2)))) (dNext))
  (dSeq (dIfS (dTru (dIsT "tuple" (dVar 3))) (dRet (dAndV (dIsT "tuple" (dVar 2)) (dOp rEqD' (dF (dLc (dIter (dVar 2)) (dgName 4) (dNot (dTru (dCall spNum (dCons (dVar 4) (dNil))))) (dVar 4) [4])) (dF (dLst (dNil)))))) (dNext))
  (dRet (dOrV (dOp rIsN (dVar 3) (dC .non)) (dCall spNum (dCons (dVar 2) (dNil)))))))))
def tdFar : TSd :=
  dRet (dCall spOne (dConsC 0 (dCons (dF (dLst (dCons (dVar 1) (dCons (dUn rNegD (dC (.int 1))) (dCons (dOp rAddD (dOp rAddD (dVar 1) (dC (.int 1))) (dCall spTake (dConsC 0 (dCons (dC (.int 90)) (dNil))))) (dCons (dOp rSubD (dUn rNegD (dC (.int 2))) (dCall spTake (dConsC 0 (dCons (dC (.int 90)) (dNil))))) (dCons (dOp rPowD (dC (.int 10)) (dC (.int 20))) (dCons (dUn rNegD (dOp rPowD (dC (.int 10)) (dC (.int 20)))) (dNil))))))))) (dNil))))
def tdFieldL : TSd :=
  dSeq (dAsg (dTup (dCons (dCall spTake (dConsC 0 (dCons (dC (.int 3)) (dNil)))) (dCons (dOp rAddD (dC (.int 1)) (dCall spTake (dConsC 0 (dCons (dOp rAddD (dVar 1) (dC (.int 2))) (dNil))))) (dCons (dCall spShuf (dConsC 0 (dCons (dVar 1) (dNil)))) (dNil))))) (dgTup 3 (dgsCons (dgName 2) (dgsCons (dgName 3) (dgsCons (dgName 4) (dgsNil))))))
  (dSeq (dSet 5 (dF (dLc (dRange1 (dCons (dVar 1) (dNil))) (dgName 6) (dYes) (dCall spTake (dConsC 0 (dCons (dVar 3) (dNil)))) [6])))
  (dSeq (dSet 7 (dF (dLc (dRange1 (dCons (dVar 1) (dNil))) (dgName 6) (dYes) (dCall spTake (dConsC 0 (dCons (dVar 3) (dNil)))) [6])))
  (dSeq (dIfS (dT (dOp rEqD' (dVar 2) (dC (.int 0)))) (dRet (dTup (dCons (dVar 4) (dCons (dVar 4) (dNil))))) (dNext))
  (dSeq (dIfS (dT (dOp rEqD' (dVar 2) (dC (.int 1)))) (dRet (dTup (dCons (dVar 5) (dCons (dVar 5) (dNil))))) (dNext))
  (dRet (dTup (dCons (dVar 5) (dCons (dVar 7) (dNil)))))))))
def tdMade : TSd :=
  dSeq (dIfS (dNot (dT (dChain rLeD rLeD (dC (.int 1)) (dCB rLenD (dCons (dVar 0) (dNil))) (dC (.int 32))))) (dRaise "BadSize" (dCB rLenD (dCons (dVar 0) (dNil)))) (dNext))
  (dSeq (dFor (dEnum (dCons (dVar 0) (dNil))) (dgTup 2 (dgsCons (dgName 2) (dgsCons (dgName 3) (dgsNil)))) (dIfS (dNot (dT (dChain rLeD rLeD (dUn rNegD (dC (.int 1000000000))) (dVar 3) (dC (.int 1000000000))))) (dRaise "BadStrength" (dVar 2)) (dNext)))
  (dSeq (dIfS (dT (dOp rNeD' (dCB rLenD (dCons (dVar 1) (dNil))) (dCB rLenD (dCons (dVar 0) (dNil))))) (dRaise "Unlike" (dCB rLenD (dCons (dVar 1) (dNil)))) (dNext))
  (dSeq (dFor (dEnum (dCons (dVar 1) (dNil))) (dgTup 2 (dgsCons (dgName 2) (dgsCons (dgName 4) (dgsNil)))) (dIfS (dNot (dT (dChain rLeD rLeD (dUn rNegD (dC (.int 1000000000))) (dVar 4) (dC (.int 1000000000))))) (dRaise "BadGuard" (dVar 2)) (dNext)))
  (dRet (dMkF "Field" (dCons (dVar 0) (dCons (dVar 1) (dNil))))))))
def tdSideRow : TSd :=
  dSeq (dSet 2 (dUn rNegD (dC (.int 1))))
  (dFor (dIter (dVar 1)) (dgName 3) (dSeq (dIfS (dNot (dT (dChain rLtD rLtD (dVar 2) (dVar 3) (dVar 0)))) (dRaise "BadSide" (dVar 3)) (dNext))
  (dSet 2 (dVar 3))))
abbrev N_shuf : List Str := ["_law_source", "_law_count", "_law_left", "_law_found", "_law_x", "_law_turn"]
abbrev N_num : List Str := ["_law_thing"]
abbrev N_far : List Str := ["_law_source", "_law_n"]
abbrev N_fieldL : List Str := ["_law_source", "_law_n", "_law_kind", "_law_top", "_law_names", "_law_low", "_law_x", "_law_high"]
abbrev N_made : List Str := ["strengths", "guards", "index", "strength", "guard"]
abbrev N_sideRow : List Str := ["n", "sides", "last", "x"]
end DL
namespace DL
open PySem L2
@[simp] theorem cutD_all (ds : List D) : cutD ds none none = ds := by simp [cutD, HT.sIx_none]
def spRight : SpD := fun xs M P _ => ∃ a b, xs = [.cell 0] ∧ M = [src a b] ∧ Good a b ∧ ∀ a' b', Good a' b' → P (.bl true) [src a' b']
def spLaw : SpD := fun xs M P _ => ∃ ns : List Int, xs = [.dat (.fl (ns.map .int))] ∧ M = [] ∧ P (.bl true) []
def tdLaw (c : Int) (sp : SpD) : TSd :=
  dSeq (dFor (dRange1 (dCons (dCB (r2I fun i j => if j > i then j else i) (dCons (dC (.int 1)) (dCons (dCB (r2I fun i j => if j < i then j else i) (dCons (dCB rLenD (dCons (dVar 0) (dNil))) (dCons (dC (.int c)) (dNil)))) (dNil)))) (dNil))) (dgName 1) (dIfS (dNot (dTru (dCallNew sp (dCallF spPool (dCons (dVar 0) (dCons (dVar 1) (dNil))))))) (dRet (dC (.bl false))) (dNext)))
  (dRet (dC (.bl true)))
def atG (gs : List Int) (x : Int) : Int := gs.getD x.toNat 0
def keyP (gs : List Int) (x : Int) : Int × Int := (-(atG gs x), x)
def stairOf (gs : List Int) (L : List Int) : List Int := (sortP (L.map (keyP gs))).map (·.2)
def Asc (n : Int) (L : List Int) : Prop := L.Pairwise (· < ·) ∧ ∀ x ∈ L, 0 ≤ x ∧ x < n
theorem asc_sideBad {n : Int} : ∀ {L : List Int} {last : Int}, (∀ x ∈ L, last < x ∧ x < n) → L.Pairwise (· < ·) → sideBad n last L = none
  | [], _, _, _ => rfl
  | x :: L, last, h, p => by
    unfold sideBad
    rw [if_pos (h x List.mem_cons_self)]
    have p := List.pairwise_cons.mp p
    exact asc_sideBad (fun y hy => ⟨p.1 y hy, (h y (List.mem_cons_of_mem _ hy)).2⟩) p.2
theorem Asc.ok {n : Int} {L : List Int} (h : Asc n L) : sideBad n (-1) L = none := asc_sideBad (fun x hx => by have := h.2 x hx; omega) h.1
def bestOf (gs : List Int) : Int → List Int → Int
  | b, [] => b
  | b, x :: r => if atG gs b < atG gs x then bestOf gs x r else bestOf gs b r
end DL
namespace DL
theorem rangeI_asc (n : Nat) : (rangeI n).Pairwise (· < ·) := by
  unfold rangeI
  refine List.pairwise_map.mpr (List.pairwise_lt_range.imp fun h => ?_)
  omega
end DL
namespace DL
open PySem
@[simp] theorem fl_n (a b c : D) : List.lookup ("n" : Str) [("n", a), ("strengths", b), ("guards", c)] = some a := rfl
@[simp] theorem fl_s (a b c : D) : List.lookup ("strengths" : Str) [("n", a), ("strengths", b), ("guards", c)] = some b := rfl
@[simp] theorem fl_g (a b c : D) : List.lookup ("guards" : Str) [("n", a), ("strengths", b), ("guards", c)] = some c := rfl
end DL
namespace DL
open PySem L2 PySem.Spec PyProof.Rows
def dedupI : List Int → List Int
  | [] => []
  | x :: l => if x ∈ l then dedupI l else x :: dedupI l
section
variable {X : Cx} {g : G} {W : WX} {pos pos' p p' : Pos} {e : Expr} {te : TE} {ta : TD} {w : Cs} {H H' : Hp} {σ : L2.St} {s : S}
def rSetI (K : PySem.W.Frag) : List V → Hp → VK → Prop := fun xs H Q => ∃ (p : Addr) (ns : List Int), xs = [.ref p] ∧ SqT K H p (ns.map V.int) ∧ ns.length + 1 < scanBound ∧
  ∀ (l : Addr) (S : Int → Bool), H l = none → Q (.ref l) (upd H l (.set S (dedupI ns).length))
def rLenSet : List V → Hp → VK → Prop := fun xs H Q => ∃ (a : Addr) (S : Int → Bool) (n : Nat), xs = [.ref a] ∧ H a = some (.set S n) ∧ Q (.int n) H
@[simp] def dLenSet (ta : TD) : TD := fun s P X => ta s (fun d s1 => ∃ ns : List Int, d = .tup (ns.map .int) ∧ ns.length ≤ 1000 ∧ P (.int (dedupI ns).length) s1) X
end
end DL
namespace DL
open PySem L2
def eqDs : List D → List D → Bool
  | [], [] => true
  | x :: xs, y :: ys => eqD x y && eqDs xs ys
  | _, _ => false
theorem eqvAll_D : ∀ xs ys : List D, PyData.eqvAll (toPys xs) (toPys ys) = eqDs xs ys
  | [], [] => by simp [toPys, PyData.eqvAll, eqDs]
  | [], _ :: _ => by simp [toPys, PyData.eqvAll, eqDs]
  | _ :: _, [] => by simp [toPys, PyData.eqvAll, eqDs]
  | x :: xs, y :: ys => by
    have ih := eqvAll_D xs ys
    simp only [toPys, PyData.eqvAll, eqDs, eqD, ih]
theorem eqD_tup (xs ys : List D) : eqD (.tup xs) (.tup ys) = eqDs xs ys := by
  simp only [eqD, toPy, PyData.eqv]
  exact eqvAll_D xs ys
theorem eqD_lst (xs ys : List D) : eqD (.lst xs) (.lst ys) = eqDs xs ys := by
  simp only [eqD, toPy, PyData.eqv]
  exact eqvAll_D xs ys
theorem eqDs_ints : ∀ a b : List Int, eqDs (a.map D.int) (b.map D.int) = decide (a = b)
  | [], [] => rfl
  | [], _ :: _ => by simp [eqDs]
  | _ :: _, [] => by simp [eqDs]
  | x :: xs, y :: ys => by
    have ih := eqDs_ints xs ys
    simp only [List.map_cons, eqDs, eqD_int, ih]
    by_cases h : x = y <;> simp [h]
@[simp] theorem eqD_tints (a b : List Int) : eqD (.tup (a.map D.int)) (.tup (b.map D.int)) = decide (a = b) := (eqD_tup _ _).trans (eqDs_ints a b)
@[simp] theorem eqD_lints (a b : List Int) : eqD (.lst (a.map D.int)) (.lst (b.map D.int)) = decide (a = b) := (eqD_lst _ _).trans (eqDs_ints a b)
@[simp] theorem eqD_bl (a b : Bool) : eqD (.bl a) (.bl b) = (a == b) := by simp [eqD, toPy, PyData.eqv]
def firstAt (x : Int) : List Int → Nat
  | [] => 0
  | y :: l => if y = x then 0 else firstAt x l + 1
def inS (n x : Int) : Bool := decide (0 ≤ x) && decide (x < n)
def sideF (n : Int) (L : List Int) : Option Int := L.find? fun x => !inS n x
def spSide : SpD := fun xs M P PX => ∃ n x, xs = [.dat (.int n), .dat (.int x)] ∧ M = [] ∧ if inS n x = true then P .non [] else PX "BadSide" (.int x) []
def tdSide : TSd :=
  dIfS (dNot (dT (dChain rLeD rLtD (dC (.int 0)) (dVar 1) (dVar 0)))) (dRaise "BadSide" (dVar 1)) (dNext)
end DL
namespace DL
end DL
namespace DLE
open PySem L2 PySem.Spec PyProof.Rows
def SqA (K : PySem.W.Frag) (b : Bool) (H : Hp) (a : Addr) (xs : List V) : Prop := if b = true then SqL K H a xs else SqT K H a xs
def IsA (b : Bool) (h : Heap) (a : Addr) (items : Array Value) : Prop := if b = true then h.IsList a items else h.IsTuple a items
def IterA (b : Bool) (h : Heap) (it a : Addr) (i : Nat) : Prop := if b = true then h.IsListIter it a i else h.IsTupleIter it a i
section
variable {X : Cx} {pins : List (Addr × Obj)} {σ : L2.St} {H : Hp} {s : Shared} {a : Addr} {xs ys : List V}
theorem seq_at (I : Inv X pins σ H s) (b : Bool) (h : SqA X.K b H a xs) : ∃ its : List Value, Vals xs its ∧ IsA b s.heap a its.toArray ∧ a < s.heap.objs.size := by
  cases b with
  | true => obtain ⟨its, rv, p, _⟩ := I.list h; exact ⟨its, rv, p.isList, p.lt⟩
  | false => obtain ⟨its, rv, p, _⟩ := I.tuple h; obtain ⟨o, ho, _⟩ := id p; exact ⟨its, rv, p, Heap.lt_size ho⟩
theorem seq_inj (I : Inv X pins σ H s) (b : Bool) (h : SqA X.K b H a xs) (h' : SqA X.K b H a ys) : xs = ys := by
  cases b with
  | true => exact I.list_inj h h'
  | false => exact I.tuple_inj h h'
end
theorem drawsA {prog : Program} {w : World} {A : Around} (b : Bool) (hh : A.handled = none) (it a : Addr) (hne : a ≠ it) (items : Array Value) :
    Draws prog w A it [it, a] items.size (fun i v => items[i]? = some v) (fun i h => IterA b h it a i ∧ IsA b h a items) := by
  cases b with
  | true => exact Draws.list hh it a hne items
  | false => exact Draws.tuple hh it a hne items
theorem IterA.at {b : Bool} {h h' : Heap} {it a : Addr} {i : Nat} (x : IterA b h it a i) (k : ∀ o, h.get? it = some o → h'.get? it = some o) : IterA b h' it a i := by
  cases b with
  | true => exact Heap.IsListIter.at (show h.IsListIter it a i from x) k
  | false => exact Heap.IsTupleIter.at (show h.IsTupleIter it a i from x) k
theorem IterA.ob {b : Bool} {h : Heap} {it a : Addr} {i : Nat} (x : IterA b h it a i) : ∃ o, h.get? it = some o ∧ ∀ v, o.data ≠ .cell v := by
  cases b with
  | true => obtain ⟨o, e, _, d⟩ := (show h.IsListIter it a i from x); exact ⟨o, e, fun v q => by rw [d] at q; cases q⟩
  | false => obtain ⟨o, e, _, d⟩ := (show h.IsTupleIter it a i from x); exact ⟨o, e, fun v q => by rw [d] at q; cases q⟩
def ItzA (K : PySem.W.Frag) (b1 b2 : Bool) (a b : Addr) : It :=
  ⟨fun i H => ∃ (xs ys : List V) (x y : V), SqA K b1 H a xs ∧ SqA K b2 H b ys ∧ xs[i]? = some x ∧ ys[i]? = some y,
    fun i H v H' => ∃ T x y, v = .ref T ∧ H T = none ∧ H' = upd H T (.tup [x, y]) ∧ (∀ xs, SqA K b1 H a xs → xs[i]? = some x) ∧ ∀ ys, SqA K b2 H b ys → ys[i]? = some y,
    fun i H => ∃ xs ys : List V, SqA K b1 H a xs ∧ SqA K b2 H b ys ∧ i ≤ xs.length ∧ i ≤ ys.length ∧ (i = xs.length ∨ i = ys.length)⟩
theorem sepA {z TI TO i1 i2 a b : Addr} (D : ZipApart z TI TO i1 i2 a b) : ZipSep2 z TI TO i1 i2 [i1, a] [i2, b] where
  TIz := D.TIz
  TOz := D.TOz
  TITO := D.TITO
  TIi1 := D.TIi1
  mem1 := by simp
  zf1 := by simp [Ne.symm D.i1z, Ne.symm D.l1z]
  Tf1 := by simp [D.TOi1, Ne.symm D.l1TO]
  TIi2 := D.TIi2
  mem2 := by simp
  zf2 := by simp [Ne.symm D.i2z, Ne.symm D.l2z]
  Tf2 := by simp [D.TOi2, Ne.symm D.l2TO]
  sep1_2 := by simp [D.i12, Ne.symm D.l2i1]
  sep2_1 := by simp [Ne.symm D.i12, Ne.symm D.l1i2]
theorem turn_zipA {P : Program} {w : World} {K : PySem.W.Frag} {elts : List Expr} {kk : Nat} {tpos : Pos} {b1 b2 : Bool} {a b z TI TO i1 i2 : Addr} (D : ZipApart z TI TO i1 i2 a b) :
    Turn P w K (.Tuple elts kk tpos) (ItzA K b1 b2 a b) [z, TI, TO, i1, i2] z (fun i h => IsZip h z TI TO .none ∧ IsTupOf2 h TI (.ref i1) (.ref i2) ∧ (∃ x y, IsTupOf2 h TO x y) ∧ IterA b1 h i1 a i ∧ IterA b2 h i2 b i) where
  mem := by simp
  obj := fun i h st c hc => by
    obtain ⟨hz, hTI, ⟨x, y, hTO⟩, h1, h2⟩ := st
    obtain ⟨o1, e1, d1⟩ := h1.ob
    obtain ⟨o2, e2, d2⟩ := h2.ob
    have e' : c = z ∨ c = TI ∨ c = TO ∨ c = i1 ∨ c = i2 := by simpa using hc
    rcases e' with q | q | q | q | q
    · rw [q]; exact ⟨_, hz, fun v q => nomatch q⟩
    · rw [q]; exact ⟨_, hTI, fun v q => nomatch q⟩
    · rw [q]; exact ⟨_, hTO, fun v q => nomatch q⟩
    · rw [q]; exact ⟨o1, e1, d1⟩
    · rw [q]; exact ⟨o2, e2, d2⟩
  keep := fun i h h' st k => by
    obtain ⟨hz, hTI, ⟨x, y, hTO⟩, h1, h2⟩ := st
    exact ⟨k z (by simp) _ hz, k TI (by simp) _ hTI, ⟨x, y, k TO (by simp) _ hTO⟩, h1.at fun o q => k i1 (by simp) o q, h2.at fun o q => k i2 (by simp) o q⟩
  item := by
    intro X hP hw hK hc i pins s σ H E I hf st hg
    subst hP hw hK
    obtain ⟨hz, hTI, ⟨x0, y0, hTO⟩, h1, h2⟩ := st
    obtain ⟨xs, ys, x, y, hqx, hqy, hx, hy⟩ := hg
    obtain ⟨its, rv, p, _⟩ := seq_at I b1 hqx
    obtain ⟨its2, rv2, p2, _⟩ := seq_at I b2 hqy
    obtain ⟨u, hu, ru⟩ := rv.get hx
    obtain ⟨u2, hu2, ru2⟩ := rv2.get hy
    have hzl : z < s.heap.objs.size := Heap.lt_size hz
    have D1 := drawsA (prog := X.prog) (w := X.w) (A := X.A.in1) b1 (I.ok.hd hc) i1 a D.l1i1 its.toArray
    have D2 := drawsA (prog := X.prog) (w := X.w) (A := X.A.in1) b2 (I.ok.hd hc) i2 b D.l2i2 its2.toArray
    have l1 : i < its.toArray.size := by have z := (List.getElem?_eq_some_iff.mp hu).1; simpa using z
    have l2 : i < its2.toArray.size := by have z := (List.getElem?_eq_some_iff.mp hu2).1; simpa using z
    refine wpAny_pyNext_zipD2_item (sepA D) D1 D2 hz hTI hTO ⟨h1, p⟩ ⟨h2, p2⟩ l1 l2 fun v1 v2 h' tk q1 q2 z' TO' s1' s2' hT hsz hk => ?_
    have ev1 : v1 = u := by
      have z : its[i]? = some v1 := by simpa using q1
      rw [hu] at z
      exact (Option.some.inj z).symm
    have ev2 : v2 = u2 := by
      have z : its2[i]? = some v2 := by simpa using q2
      rw [hu2] at z
      exact (Option.some.inj z).symm
    subst ev1 ev2
    refine ⟨_, rfl, wpAny_letOwnedTupleGo_zip (s := { s with heap := h', toks := tk }) z' fun h'' z'' sb => ?_⟩
    have hT2 : h''.get? s.heap.objs.size = some { cls := .type "tuple", data := .seq #[v1, v2] } := (sb.2 _ (Nat.ne_of_gt hzl)).trans hT
    have new : ObjOk X.prog X.w (upd H s.heap.objs.size (.tup [x, y])) h'' s.heap.objs.size (.tup [x, y]) :=
      ⟨by show 2 ≤ sizeLine; decide, [v1, v2], .cons ru (.cons ru2 .nil), ⟨_, hT2, rfl, _, rfl⟩⟩
    have I1 : Inv X pins σ (upd H s.heap.objs.size (.tup [x, y])) { s with heap := h'', toks := tk } :=
      I.turnedNew (t' := tk) (ch := [z, TI, TO, i1, i2]) (fun c o hb q => (sb.2 c (fun q' => hb (by simp [q']))).trans (hk c o (fun q' => hb (by simp [q'])) (fun q' => hb (by simp [q'])) (fun q' => hb (by simp [q'])) (fun q' => hb (by simp [q'])) q)) hf (Nat.le_refl _) new
    refine ⟨.ref s.heap.objs.size, _, I1, rfl, ⟨_, x, y, rfl, I.hok.fresh (Nat.le_refl _), rfl, fun l hl => by rw [seq_inj I b1 hl hqx]; exact hx, fun l hl => by rw [seq_inj I b2 hl hqy]; exact hy⟩, ⟨z'', ?_, ⟨v1, v2, ?_⟩, ?_, ?_⟩, fun c hcm => ?_⟩
    · exact (sb.2 _ D.TIz).trans (hk _ _ D.TIz D.TITO D.TIi1 D.TIi2 hTI)
    · exact (sb.2 _ D.TOz).trans TO'
    · exact s1'.1.at fun o q => (sb.2 _ D.i1z).trans q
    · exact s2'.1.at fun o q => (sb.2 _ D.i2z).trans q
    · have hlt : c < s.heap.objs.size := by
        have e' : c = z ∨ c = TI ∨ c = TO ∨ c = i1 ∨ c = i2 := by simpa using hcm
        rcases e' with q | q | q | q | q
        · rw [q]; exact hzl
        · rw [q]; exact Heap.lt_size hTI
        · rw [q]; exact Heap.lt_size hTO
        · rw [q]; obtain ⟨_, e1, _⟩ := h1.ob; exact Heap.lt_size e1
        · rw [q]; obtain ⟨_, e2, _⟩ := h2.ob; exact Heap.lt_size e2
      rw [upd_ne (Nat.ne_of_lt hlt)]
      exact (hf c hcm).1
  done := by
    intro X hP hw hK hc i pins s σ H E I hf st hg
    subst hP hw hK
    obtain ⟨hz, hTI, ⟨x0, y0, hTO⟩, h1, h2⟩ := st
    obtain ⟨xs, ys, hqx, hqy, g1, g2, hend⟩ := hg
    obtain ⟨its, rv, p, _⟩ := seq_at I b1 hqx
    obtain ⟨its2, rv2, p2, _⟩ := seq_at I b2 hqy
    have l1 := rv.length
    have l2 := rv2.length
    have D1 := drawsA (prog := X.prog) (w := X.w) (A := X.A.in1) b1 (I.ok.hd hc) i1 a D.l1i1 its.toArray
    have D2 := drawsA (prog := X.prog) (w := X.w) (A := X.A.in1) b2 (I.ok.hd hc) i2 b D.l2i2 its2.toArray
    refine wpAny_pyNext_zipD2_end (sepA D) D1 D2 hz hTI hTO ⟨h1, p⟩ ⟨h2, p2⟩ (by simp; omega) (by simp; omega) (by simp; omega) fun h' tk hk => ⟨rfl, I.turnedL (t' := tk) (ch := [z, TI, TO, i1, i2]) (fun c o hb q =>
      hk c o (fun q' => hb (by simp [q'])) (fun q' => hb (by simp [q'])) (fun q' => hb (by simp [q'])) (fun q' => hb (by simp [q'])) q) hf⟩
  self := fun A i s Q E st h => wpAny_pyIter_zip st.1 h
def iZipB (K : PySem.W.Frag) (ta : TA) : TI := fun σ H R => ta σ H fun vs H1 => ∃ b1 b2 a b xs ys, vs = [.ref a, .ref b] ∧ SqA K b1 H1 a xs ∧ SqA K b2 H1 b ys ∧ R (ItzA K b1 b2 a b) H1
theorem beginsA (b : Bool) (a : Addr) (items : Array Value) : ∃ o, Begins (.ref a) o (fun h => IsA b h a items) ∧ ∀ (h : Heap) (it : Addr), h.get? it = some o → IterA b h it a 0 := by
  cases b with
  | true => exact ⟨_, begins_list a items, fun h it e => ⟨_, e, rfl, rfl⟩⟩
  | false => exact ⟨_, begins_tuple a items, fun h it e => ⟨_, e, rfl, rfl⟩⟩
theorem pi_zipB {X : Cx} {e e2 : Expr} {ta : TA} {p pos tpos : Pos} {elts : List Expr} {kk : Nat} (hg : Gl X "zip") (hm : X.mg "zip" = none) (ha : PA X [e, e2] ta)
    (hs : starEach [e, e2] X.env = (false, eval e X.env) :: starEach [e2] X.env := by rfl) (hpl : (backTo pos (starEach [e2] X.env)).any (·.1) = false := by rfl) :
    PI X (.Tuple elts kk tpos) (.Call (.Name "zip" p) [e, e2] [] pos) (iZipB X.K ta) := by
  refine ⟨fun pins s σ H R I h => ?_⟩
  refine PyProof.Rows.Call_ (ld_blt I hg hm PyProof.Rows.boot_zip (PyProof.Rows.callWith_type1 (thn (ha.run pos pins s σ H _ I h) fun us s1 ⟨vs, H1, I1, r1, q1⟩ => ?_) hs hpl))
  obtain ⟨b1, b2, a, b, xs, ys, ex, hqx, hqy, q⟩ := q1
  subst ex
  cases r1 with
  | cons r rr =>
    cases rr with
    | cons r' rr =>
      cases rr
      cases r
      cases r'
      have fresh5 : ∀ c, c ∈ [s1.heap.objs.size + 4, s1.heap.objs.size + 2, s1.heap.objs.size + 3, s1.heap.objs.size, s1.heap.objs.size + 1] → FpOk X pins H1 c := fun c hcm => by
        have e' : c = s1.heap.objs.size + 4 ∨ c = s1.heap.objs.size + 2 ∨ c = s1.heap.objs.size + 3 ∨ c = s1.heap.objs.size ∨ c = s1.heap.objs.size + 1 := by simpa using hcm
        have hle : s1.heap.objs.size ≤ c := by
          rcases e' with z | z | z | z | z
          · rw [z]; exact Nat.le_add_right _ _
          · rw [z]; exact Nat.le_add_right _ _
          · rw [z]; exact Nat.le_add_right _ _
          · rw [z]; exact Nat.le_refl _
          · rw [z]; exact Nat.le_add_right _ _
        exact I1.fpOk hle (I1.hok.fresh hle)
      obtain ⟨its, rv, p1, lt1⟩ := seq_at I1 b1 hqx
      obtain ⟨its2, rv2, p2, lt2⟩ := seq_at I1 b2 hqy
      obtain ⟨o1, B1, c1⟩ := beginsA b1 a its.toArray
      obtain ⟨o2, B2, c2⟩ := beginsA b2 b its2.toArray
      refine zip_begins2 B1 B2 p1 p2 fun h' hz hTI hTO h1 h2 hsz hk => wpAny_pyIter_zip hz ?_
      have I2 : Inv X pins σ H1 { s1 with heap := h' } := I1.kept (t' := s1.toks) hk
      exact ⟨s1.heap.objs.size + 4, [s1.heap.objs.size + 4, s1.heap.objs.size + 2, s1.heap.objs.size + 3, s1.heap.objs.size, s1.heap.objs.size + 1], _, _, H1, rfl, I2, turn_zipA (PySem.W.ktu_apart s1.heap.objs.size a b lt1 lt2), ⟨hz, hTI, ⟨_, _, hTO⟩, c1 _ _ h1, c2 _ _ h2⟩, fresh5, q⟩
end DLE
namespace DL
open PySem L2
section
variable {X : Cx} {g : G} {W : WX} {pos : Pos} {e e2 : Expr} {w : Cs} {H H' : Hp} {σ : L2.St} {s : S} {t : TDA}
def zipD : List D → List D → List D
  | x :: xs, y :: ys => .tup [x, y] :: zipD xs ys
  | _, _ => []
theorem zipD_get : ∀ {xs ys : List D} {i : Nat} {x y : D}, xs[i]? = some x → ys[i]? = some y → (zipD xs ys)[i]? = some (.tup [x, y])
  | [], _, _, _, _, h, _ => by simp at h
  | _ :: _, [], _, _, _, _, h => by simp at h
  | x :: xs, y :: ys, 0, _, _, h, h' => by simp at h h'; subst h h'; rfl
  | x :: xs, y :: ys, i + 1, _, _, h, h' => by simp at h h'; simpa [zipD] using zipD_get h h'
theorem zipD_len : ∀ xs ys : List D, (zipD xs ys).length = min xs.length ys.length
  | [], _ => by simp [zipD]
  | _ :: _, [] => by simp [zipD]
  | x :: xs, y :: ys => by simp [zipD, zipD_len xs ys]
theorem seqA {d : D} {v : V} {ds : List D} (rp : Rep g w H d v) (ed : seqD d = some ds) : ∃ (b : Bool) (a : Addr) (vs : List V), v = .ref a ∧ Reps g w H ds vs ∧ ∀ w' H', Mv w H w' H' → DLE.SqA X.K b H' a vs := by
  cases d <;> simp only [seqD, reduceCtorEq, Option.some.injEq] at ed
  · subst ed
    simp only [Rep] at rp
    obtain ⟨a, vs, e, n, hp, rv⟩ := rp
    exact ⟨false, a, vs, e, rv, fun w' H' m => SqT.of (m.at_ n hp)⟩
  · subst ed
    simp only [Rep] at rp
    obtain ⟨a, vs, e, n, hp, rv⟩ := rp
    exact ⟨true, a, vs, e, rv, fun w' H' m => SqL.of (m.at_ n hp)⟩
@[simp] def dZip (t : TDA) : TDI := fun s P X => t s (fun xs s1 => ∃ d d' ds es, xs = [.dat d, .dat d'] ∧ seqD d = some ds ∧ seqD d' = some es ∧ P (zipD ds es) s1) X
theorem di_zip {p tpos : Pos} {elts : List Expr} {kk : Nat} (hg : Gl X "zip") (hm : X.mg "zip" = none) (ha : PA X [e, e2] (lA g W t)) (hs : starEach [e, e2] X.env = (false, eval e X.env) :: starEach [e2] X.env := by rfl) (hpl : (backTo pos (starEach [e2] X.env)).any (·.1) = false := by rfl) :
    PI X (.Tuple elts kk tpos) (.Call (.Name "zip" p) [e, e2] [] pos) (lI g W (dZip t)) := pi_imp (DLE.pi_zipB hg hm ha hs hpl) fun σ H R ⟨w, s, P, PX, rs, h, k, x⟩ =>
  ⟨w, s, _, PX, rs, h, fun xs s1 H1 vs q e1 rs1 ra => by
    obtain ⟨d, d', ds, es, e, ed, ed', q⟩ := q
    subst e
    obtain ⟨v, v', e, rp, rp'⟩ := ArgOk.two ra
    subst e
    obtain ⟨b1, a1, vs1, ev1, rv1, k1⟩ := seqA (X := X) rp ed
    obtain ⟨b2, a2, vs2, ev2, rv2, k2⟩ := seqA (X := X) rp' ed'
    subst ev1 ev2
    refine ⟨b1, b2, a1, a2, vs1, vs2, rfl, k1 _ _ (Mv.refl _ _), k2 _ _ (Mv.refl _ _), k _ s1 H1 _ q e1 rs1 ?_⟩
    have l1 := rv1.len
    have l2 := rv2.len
    refine ⟨fun H => DLE.SqA X.K b1 H a1 vs1 ∧ DLE.SqA X.K b2 H a2 vs2, YPair (fun i => vs1[i]?) (fun i => vs2[i]?), ?_, fun w' H' m => ⟨k1 _ _ m, k2 _ _ m⟩, fun i w' H1 x H2 hi m nb y => ?_⟩
    · rw [zipD_len, ← l1, ← l2]
      refine ⟨fun i H hi h => ⟨vs1, vs2, vs1[i]'(by omega), vs2[i]'(by omega), h.1, h.2, by simp, by simp⟩, fun H h => ⟨vs1, vs2, h.1, h.2, by omega, by omega, by omega⟩, fun i H v H' hi h y => ?_⟩
      obtain ⟨T, x, y', h1, h2, h3, h4, h5⟩ := y
      exact ⟨T, x, y', h1, h2, h3, h4 vs1 h.1, h5 vs2 h.2⟩
    · obtain ⟨T, x1, y1, e1, n1, e2, e3, e4⟩ := y
      subst e1 e2
      obtain ⟨d1, ed1, r1⟩ := rv1.get e3
      obtain ⟨d2, ed2, r2⟩ := rv2.get e4
      exact ⟨same_upd n1, _, zipD_get ed1 ed2, Rep.tup (nb T n1) upd_same (Reps.cons ((r1.mv m).mv (.of_same (same_upd n1))) (Reps.cons ((r2.mv m).mv (.of_same (same_upd n1))) Reps.nil))⟩, x⟩
end
end DL
namespace DL
open PySem L2 PySem.Spec PyProof.Rows
section
variable {X : Cx} {g : G} {W : WX} {pos : Pos} {e a b : Expr} {te ta tb td : TD} {w : Cs} {H H' : Hp} {σ : L2.St} {s : S}
structure InsC (K : PySem.W.Frag) (C : Addr) : Prop where
  cl : L2.Cls K C
  ha : PySem.W.findIn K (.ref C) "__class__" = some (some (.builtin "object.__class__"))
  hn : PySem.W.specialIn K (.builtin "object.__class__") "__get__" = some (some (.builtin "getset_descriptor.__get__"))
  htk : PySem.W.takesIn K (.builtin "object.__class__") = some true
  hm : PySem.W.mroIn K C (.type "object") = some true
@[simp] def dIsO (c : Str) (te : TD) : TD := fun s P X => te s (fun d s1 => ∃ fs, d = .ins c fs ∧ P (.bl true) s1) X
theorem de_isO {c y : Str} {p q : Pos} (T : InsC X.K (g.CA c)) (hg : Gl X "isinstance") (hm : X.mg "isinstance" = none) (he : PE X e (lE g W te)) (ht : PE X (.Name y q) (tC (.ref (g.CA c)))) (hs : starEach (e :: [.Name y q]) X.env = (false, eval e X.env) :: starEach [.Name y q] X.env := by rfl)
    (hs2 : starEach (.Name y q :: []) X.env = (false, eval (.Name y q) X.env) :: starEach [] X.env := by rfl) (hpl : (backTo pos (starEach [.Name y q] X.env)).any (·.1) = false := by rfl) :
    PE X (.Call (.Name "isinstance" p) (e :: [.Name y q]) [] pos) (lE g W (dIsO c te)) := pe_imp (pe_callB call_isi hg hm PyProof.Rows.boot_isinstance (pa_cons he (pa_cons ht pa_nil hs2) hs) (by decide) (by decide) hs hpl) fun σ H Q ⟨w, s, P, PX, rs, h, k, x⟩ =>
  ⟨w, s, _, PX, rs, h, fun d s1 H1 v q1 e1 rs1 rp => by
    obtain ⟨fs, ed, q1⟩ := q1
    subst ed
    simp only [Rep] at rp
    obtain ⟨a, dx, fv, ev, nb, hp, rf⟩ := rp
    subst ev
    exact ⟨_, _, .ref (g.CA c), .ref (g.CA c), true, rfl, .own _, .base (.ins hp T.cl T.ha T.hn T.htk T.hm), if_pos (beq_self_eq_true _), k (.bl true) s1 H1 _ q1 e1 rs1 (by simp only [Rep])⟩, x⟩
@[simp] def dTupRg (ta : TD) : TD := fun s P X => ta s (fun d s1 => ∃ n : Int, d = .int n ∧ n ≤ 16777216 ∧ -(2 ^ 62) ≤ n ∧ P (.tup (rangeD 0 n.toNat)) s1) X
abbrev TGm := D → S → (S → Prop) → KX → Prop
abbrev TGms := List D → S → (S → Prop) → KX → Prop
def lGm (g : G) (W : WX) (gt : TGm) : TG := fun v σ H Q => ∃ w s d P PX, RS g w H σ s ∧ Rep g w H d v ∧ gt d s P PX ∧ (∀ s' σ' H', P s' → HExt w H H' → RS g w H' σ' s' → Q σ' H') ∧ (∀ σ', XOk g w H σ' PX W)
def lGms (g : G) (W : WX) (gt : TGms) : TGs := fun vs σ H Q => ∃ w s ds P PX, RS g w H σ s ∧ Reps g w H ds vs ∧ gt ds s P PX ∧ (∀ s' σ' H', P s' → HExt w H H' → RS g w H' σ' s' → Q σ' H') ∧ (∀ σ', XOk g w H σ' PX W)
@[simp] def dmName (i : Nat) : TGm := fun d s P _ => P { s with r := s.r.set i (.dat d) }
@[simp] def dmSub (i : Nat) (tb : TD) : TGm := fun d s P X => ∃ c, s.r[i]? = some (.cell c) ∧ tb s (fun y s2 => ∃ ds k j, s2.M[c]? = some (some (.lst ds)) ∧ y = .int k ∧ ixN ds.length k = some j ∧ P { s2 with M := s2.M.set c (some (.lst (ds.set j d))) }) X
@[simp] def dmsNil : TGms := fun ds s P _ => ds = [] ∧ P s
@[simp] def dmsCons (t : TGm) (u : TGms) : TGms := fun ds s P X => match ds with
  | d :: r => t d s (fun s' => u r s' P X) X
  | [] => False
@[simp] def dmTup (n : Nat) (t : TGms) : TGm := fun d s P X => match d with
  | .tup ds => ds.length = n ∧ t ds s P X
  | _ => False
@[simp] def dAsgM (td : TD) (gt : TGm) : TSd := fun s E X => td s (fun d s1 => gt d s1 E.nx X) X
def rGetL (K : PySem.W.Frag) : V → V → Hp → VK → Prop := fun x y H Q => ∃ p xs i z, x = .ref p ∧ y = .int i ∧ SqL K H p xs ∧ 0 ≤ i ∧ atI xs i = some z ∧ Q z H
@[simp] def dAugIx (i : Nat) (tb : TD) (r : RD) (te : TD) : TSd := fun s E X => ∃ c, s.r[i]? = some (.cell c) ∧ tb s (fun y s1 => ∃ ds k d, s1.M[c]? = some (some (.lst ds)) ∧ y = .int k ∧ 0 ≤ k ∧ atI ds k = some d ∧
  te s1 (fun y2 s2 => r d y2 fun z => ∃ ds' j, s2.M[c]? = some (some (.lst ds')) ∧ ixN ds'.length k = some j ∧ E.nx { s2 with M := s2.M.set c (some (.lst (ds'.set j z))) }) X) X
end
end DL
namespace DL
open PySem L2
def nameOf (c : Str) : Str := if c = "BadSize" then "size" else if c = "BadStrength" then "strength" else if c = "Unlike" then "unlike" else "guard"
@[simp] theorem nm1 : nameOf "BadSize" = "size" := by decide +kernel
@[simp] theorem nm2 : nameOf "BadStrength" = "strength" := by decide +kernel
@[simp] theorem nm3 : nameOf "Unlike" = "unlike" := by decide +kernel
@[simp] theorem nm4 : nameOf "BadGuard" = "guard" := by decide +kernel
def faultD : Option (Str × Int) → D
  | some (c, x) => .lst [.str (nameOf c), .int x]
  | none => .lst []
def spRow : SpD := fun xs M P _ => ∃ (L : List Int) (d : D), xs = [.dat (tupI L), .dat d] ∧ seqD d = some (L.map .int) ∧ M = [] ∧ P (.bl true) []
def spFieldIs : SpD := fun xs M P _ => ∃ (ss gs : List Int) (d e : D), xs = [.dat (fldD ss gs), .dat d, .dat e] ∧ seqD d = some (ss.map .int) ∧ seqD e = some (gs.map .int) ∧ M = [] ∧ P (.bl true) []
def spFault : SpD := fun xs M P _ => ∃ (ss gs : List Int), xs = [.dat (.lst (ss.map .int)), .dat (.lst (gs.map .int))] ∧ M = [] ∧ P (faultD (badF ss gs)) []
def spSaid : SpD := fun xs M P _ => ∃ (b : Bool), xs = [.dat (.bl b), .dat (.bl b)] ∧ M = [] ∧ P (.bl true) []
def spEntry : SpD := fun xs M P _ => ∃ (n a b : Int), xs = [.cell 0, .dat (.int n)] ∧ M = [src a b] ∧ Good a b ∧ 1 ≤ n ∧ n < 2 ^ 80 ∧ ∀ x a' b', -n < x → x < n → Good a' b' → P (.int x) [src a' b']
def spNumbers : SpD := fun xs M P _ => ∃ (n a b : Int), xs = [.cell 0, .dat (.int n)] ∧ M = [src a b] ∧ Good a b ∧ 0 ≤ n ∧ n ≤ 1000 ∧ ∀ (L : List Int) a' b', (L.length : Int) = n → (∀ v ∈ L, -1000000000 ≤ v ∧ v ≤ 1000000000) → Good a' b' → P (.lst (L.map .int)) [src a' b']
def spSides : SpD := fun xs M P PX => ∃ (n : Int), xs = [.dat (.int n)] ∧ M = [] ∧ if 1 ≤ n ∧ n ≤ 32 then P .non [] else PX "BadSize" (.int n) []
def tdRow : TSd :=
  dSeq (dIfS (dOr (dNot (dTru (dIsT "tuple" (dVar 0)))) (dT (dOp rNeD' (dCB rLenD (dCons (dVar 0) (dNil))) (dCB rLenD (dCons (dVar 1) (dNil)))))) (dRet (dC (.bl false))) (dNext))
  (dSeq (dFor (dZip (dCons (dVar 0) (dCons (dVar 1) (dNil)))) (dgTup 2 (dgsCons (dgName 2) (dgsCons (dgName 3) (dgsNil)))) (dIfS (dOr (dNot (dTru (dCall spNum (dCons (dVar 2) (dNil))))) (dT (dOp rNeD' (dVar 2) (dVar 3)))) (dRet (dC (.bl false))) (dNext)))
  (dRet (dC (.bl true))))
def tdFieldIs : TSd :=
  dSeq (dIfS (dOr (dNot (dTru (dIsO "Field" (dVar 0)))) (dOr (dNot (dTru (dCall spNum (dCons (dFld (dVar 0) "Field" "n") (dNil))))) (dT (dOp rNeD' (dFld (dVar 0) "Field" "n") (dCB rLenD (dCons (dVar 1) (dNil))))))) (dRet (dC (.bl false))) (dNext))
  (dRet (dAndV (dCall spRow (dCons (dFld (dVar 0) "Field" "strengths") (dCons (dVar 1) (dNil)))) (dCall spRow (dCons (dFld (dVar 0) "Field" "guards") (dCons (dVar 2) (dNil))))))
def tdFault : TSd :=
  dSeq (dIfS (dNot (dT (dChain rLeD rLeD (dC (.int 1)) (dCB rLenD (dCons (dVar 0) (dNil))) (dC (.int 32))))) (dRet (dF (dLst (dCons (dC (.str "size")) (dCons (dCB rLenD (dCons (dVar 0) (dNil))) (dNil)))))) (dNext))
  (dSeq (dFor (dEnum (dCons (dVar 0) (dNil))) (dgTup 2 (dgsCons (dgName 2) (dgsCons (dgName 3) (dgsNil)))) (dIfS (dNot (dT (dChain rLeD rLeD (dUn rNegD (dOp rPowD (dC (.int 10)) (dC (.int 9)))) (dVar 3) (dOp rPowD (dC (.int 10)) (dC (.int 9)))))) (dRet (dF (dLst (dCons (dC (.str "strength")) (dCons (dVar 2) (dNil)))))) (dNext)))
  (dSeq (dIfS (dT (dOp rNeD' (dCB rLenD (dCons (dVar 1) (dNil))) (dCB rLenD (dCons (dVar 0) (dNil))))) (dRet (dF (dLst (dCons (dC (.str "unlike")) (dCons (dCB rLenD (dCons (dVar 1) (dNil))) (dNil)))))) (dNext))
  (dSeq (dFor (dEnum (dCons (dVar 1) (dNil))) (dgTup 2 (dgsCons (dgName 2) (dgsCons (dgName 3) (dgsNil)))) (dIfS (dNot (dT (dChain rLeD rLeD (dUn rNegD (dOp rPowD (dC (.int 10)) (dC (.int 9)))) (dVar 3) (dOp rPowD (dC (.int 10)) (dC (.int 9)))))) (dRet (dF (dLst (dCons (dC (.str "guard")) (dCons (dVar 2) (dNil)))))) (dNext)))
  (dRet (dF (dLst (dNil)))))))
def tdSaid : TSd :=
  dRet (dAndV (dIsT "bool" (dVar 0)) (dOp rEqD' (dVar 0) (dVar 1)))
def tdEntry : TSd :=
  dSeq (dSet 2 (dCall spTake (dConsC 0 (dCons (dVar 1) (dNil)))))
  (dRet (dIf (dT (dOp rEqD' (dCall spTake (dConsC 0 (dCons (dC (.int 2)) (dNil)))) (dC (.int 0)))) (dUn rNegD (dVar 2)) (dVar 2)))
def tdNumbers : TSd :=
  dSeq (dSet 2 (dCall spOne (dConsC 0 (dCons (dF (dLst (dCons (dC (.int 1)) (dCons (dC (.int 2)) (dCons (dC (.int 4)) (dCons (dOp rAddD (dOp rPowD (dC (.int 10)) (dC (.int 9))) (dC (.int 1))) (dNil))))))) (dNil)))))
  (dRet (dF (dLc (dRange1 (dCons (dVar 1) (dNil))) (dgName 3) (dYes) (dCall spEntry (dConsC 0 (dCons (dVar 2) (dNil)))) [3])))
def tdSides : TSd :=
  dIfS (dNot (dT (dChain rLeD rLeD (dC (.int 1)) (dVar 0) (dC (.int 32))))) (dRaise "BadSize" (dVar 0)) (dNext)
end DL
namespace DL
open PySem
theorem ofString_inj {a b : String} : Str.ofString a = Str.ofString b ↔ a = b := by
  refine ⟨fun h => ?_, fun h => by rw [h]⟩
  rw [Str.ofString_eq_toList, Str.ofString_eq_toList] at h
  have h1 : a.toList.map Char.toNat = b.toList.map Char.toNat := by
    have := congrArg Str.cps h
    have := congrArg Array.toList this
    simpa using this
  have h2 : a.toList = b.toList := by
    have inj : ∀ l m : List Char, l.map Char.toNat = m.map Char.toNat → l = m := by
      intro l
      induction l with
      | nil => intro m h; cases m with | nil => rfl | cons _ _ => cases h
      | cons c l ih =>
        intro m h
        cases m with
        | nil => cases h
        | cons d m =>
          simp only [List.map_cons, List.cons.injEq] at h
          rw [ih m h.2]
          have : c = d := Char.ext (UInt32.toNat_inj.mp h.1)
          rw [this]
    exact inj _ _ h1
  exact String.toList_inj.mp h2
end DL
namespace DL
end DL
namespace DL
open PySem L2
section
variable {X : Cx} {g : G} {W : WX}
abbrev TDR := S → (List D → S → Prop) → KX → Prop
def RFe (g : G) (W : WX) (t : TS) (td : TDR) : Prop := ∀ D σ H w s P PX, RS g w H σ s → td s P PX → XOkS g w H PX W →
  (∀ ds s' w' H' p vs, P ds s' → Mv w H w' H' → (some p ∈ w.cs ∨ H p = none) → w'.bad p → H' p = some (.lst vs) → Reps g w' H' ds vs → D.rt (.ref p) H') → t D σ H
@[simp] def dRetC (i : Nat) : TDR := fun s P _ => ∃ c ds, s.r[i]? = some (.cell c) ∧ s.M[c]? = some (some (.lst ds)) ∧ P ds s
@[simp] def dIfF (c : TDB) (tf : TDF) (ud : TDR) : TDR := fun s P X => c s (fun b s1 => if b = true then tf s1 P X else ud s1 P X) X
variable {P : Program} {wd : World} {K : PySem.W.Frag} {mg : Str → Option Value} {base : Heap}
end
end DL
namespace DL
open PySem L2 PyProof.Rows
def CtAt (K : PySem.W.Frag) (a : Addr) (ns : List Int) : Prop := ∃ (o : Obj) (its : Array Value) (n : Nat), K.lookup a = some o ∧ o.cls = .type "tuple" ∧ o.data = .seq its n ∧ its.size ≤ sizeLine ∧ Vals (ns.map V.int) its.toList
section
variable {X : Cx} {g : G} {W : WX} {pos p : Pos} {a b c e : Expr} {ta tb tc td : TD} {w : Cs} {H H' : Hp} {σ : L2.St} {s : S} {t : TDA} {es : List Expr}
theorem CtAt.rep (hk : g.K = X.K) {ad : Addr} {ns : List Int} (h : CtAt X.K ad ns) : Rep g w H (.ct (ns.map .int)) (.ref ad) := by
  simp only [Rep]
  obtain ⟨o, its, n, h1, h2, h3, h4, h5⟩ := h
  exact ⟨ad, _, rfl, ⟨o, its, n, by rw [hk]; exact h1, h2, h3, h4, h5⟩, Reps.of_ints ns⟩
@[simp] def dIterCt (td : TD) : TDI := fun s P X => td s (fun d s1 => ∃ ds, d = .ct ds ∧ P ds s1) X
@[simp] def rInC (neg : Bool) : RD := fun x y P => match y with
  | .ct ds => flatD x = true ∧ ds.all flatD = true ∧ P (.bl (if neg then !inD x ds else inD x ds))
  | _ => False
@[simp] def rSumD : RCd := fun xs M P => match xs with
  | [.dat (.lst ds)] => ∃ ns : List Int, ds = ns.map .int ∧ P (.int ns.sum)
  | _ => False
@[simp] def rMax1D : RCd := fun xs M P => match xs with
  | [.dat (.lst ds)] => ∃ ns : List Int, ds = ns.map .int ∧ 0 < ns.length ∧ ∀ m, m ∈ ns → (∀ y, y ∈ ns → y ≤ m) → P (.int m)
  | _ => False
@[simp] def rMin1D : RCd := fun xs M P => match xs with
  | [.dat (.lst ds)] => ∃ ns : List Int, ds = ns.map .int ∧ 0 < ns.length ∧ ∀ m, m ∈ ns → (∀ y, y ∈ ns → m ≤ y) → P (.int m)
  | _ => False
def rAnyT (K : PySem.W.Frag) : List V → Hp → VK → Prop := fun vs H Q => ∃ (a : Addr) (ns : List Int), vs = [V.ref a] ∧ SqT K H a (ns.map V.int) ∧ Q (.bl (ns.any (· != 0))) H
@[simp] def rAnyD : RCd := fun xs M P => match xs with
  | [.dat (.tup ds)] => ∃ ns : List Int, ds = ns.map .int ∧ P (.bl (ns.any (· != 0)))
  | _ => False
end
end DL
namespace DL
open PySem PySem.Spec PyProof.Rows L2
theorem tuple_mul1 (l : Addr) (items : Array Value) (n : Nat) (dd : Option Addr) (sl : Array (Option Value)) (u : Tok) (ne : items.isEmpty = false) :
    Meets (Builtin.«tuple.__mul__» ⟨[.ref l, .int 1 u], []⟩) (fun _ R s => s.heap.get? l = some { cls := .type "tuple", dict := dd, data := .seq items n, slots := sl } ∧ R (.ok (.ret (Value.ref l))) s) :=
  .of_wp fun prog w A R s h => by
    obtain ⟨hp, g, d, tk, os⟩ := s
    obtain ⟨hl, h⟩ := h
    have f1 := AutoSeq1.idx_int
    have c0 : (decide ((1 : Int) < -(2 ^ 63)) || decide ((1 : Int) ≥ 2 ^ 63)) = false := by decide
    have c1 : (items.isEmpty || (1 : Int) == 1) = true := by rw [ne]; rfl
    wp_walk using wpAny_loadPart' hl
    repeat (first
      | (refine wpAny_ite_false (decide_eq_false (by rw [c0]; exact Bool.false_ne_true)) ?_; wp_walk using wpAny_loadPart' hl)
      | (refine wpAny_ite_true (decide_eq_true c1) ?_; wp_walk using wpAny_loadPart' hl))
    exact ⟨_, rfl, h⟩
theorem tuple_mul0 (l : Addr) (items : Array Value) (n : Nat) (dd : Option Addr) (sl : Array (Option Value)) (x : Int) (u : Tok) (c0 : (decide (x < -(2 ^ 63)) || decide (x ≥ 2 ^ 63)) = false) (c1 : (items.isEmpty || x == 1) = false) (c2 : (decide (x ≤ 0) || items.isEmpty) = true) :
    Meets (Builtin.«tuple.__mul__» ⟨[.ref l, .int x u], []⟩) (fun _ R s => s.heap.get? l = some { cls := .type "tuple", dict := dd, data := .seq items n, slots := sl } ∧
      R (.ok (.ret (Value.ref s.heap.objs.size))) { s with heap := s.heap.push { cls := Value.type "tuple", data := Data.seq #[] }, toks := s.toks }) :=
  .of_wp fun prog w A R s h => by
    obtain ⟨hp, g, d, tk, os⟩ := s
    obtain ⟨hl, h⟩ := h
    have f1 := AutoSeq1.idx_int
    wp_walk using wpAny_loadPart' hl
    repeat (first
      | (refine wpAny_ite_false (decide_eq_false (by rw [c0]; exact Bool.false_ne_true)) ?_; wp_walk using wpAny_loadPart' hl)
      | (refine wpAny_ite_false (decide_eq_false (by rw [c1]; exact Bool.false_ne_true)) ?_; wp_walk using wpAny_loadPart' hl)
      | (refine wpAny_ite_true (decide_eq_true c2) ?_; wp_walk using wpAny_loadPart' hl))
    exact ⟨_, rfl, h⟩
section
variable {X : Cx}
def rRepT01 (K : PySem.W.Frag) : R2 := fun x y H Q => ∃ l k xs, x = .ref l ∧ y = .int k ∧ SqT K H l xs ∧ xs ≠ [] ∧ -1000 ≤ k ∧ k ≤ 1 ∧ (k = 1 → Q (.ref l) H) ∧ (k ≠ 1 → ∀ p, H p = none → Q (.ref p) (upd H p (.tup [])))
theorem op_repT01 : OpR X (binaryOp .Mult) (rRepT01 X.K) := by
  intro pins s σ H x y v u Q I rx ry h
  obtain ⟨l, k, xs, rfl, rfl, hT, hne, h1, h2, q1, q2⟩ := h
  cases rx
  obtain ⟨t, rfl⟩ := ry
  obtain ⟨its, r, ⟨⟨cls, dd, data, sl⟩, ho, hc, n, hd⟩, hs⟩ := I.tuple hT
  simp only at hc hd
  subst hc hd
  have hle : its.length = xs.length := r.length.symm
  have hn : its ≠ [] := fun e => hne (by
    rw [e] at hle
    exact List.eq_nil_of_length_eq_zero hle.symm)
  have hi : its.toArray.isEmpty = false := by
    cases its with
    | nil => exact absurd rfl hn
    | cons a b => rfl
  by_cases hk : k = 1
  · subst hk
    refine wpAny_binaryOp_repeat_ref (T := "tuple") (U := "int") (by decide) ⟨_, ho, rfl⟩ (fun s' => typeIs_int s' 1 t) noFill_tuple_mul F.fills_int_mul F.slot_int_rmul repeat_tuple F.slot_int_index.lookup
      (call_meets F.slot_int_rmul (typeIs_int s 1 t) F.entry_int_rmul (F.args_int_rmul_2 _ _) (int_rmul_tuple 1 t l its.toArray n dd sl)
        ⟨ho, rfl, ⟨_, ho, rfl⟩, call_meets F.slot_tuple_mul ⟨_, ho, rfl⟩ F.entry_tuple_mul (F.args_tuple_mul_2 _ _) (tuple_mul1 l its.toArray n dd sl t hi) ⟨ho, ?_⟩⟩)
    exact ⟨.ref l, H, I, rfl, q1 rfl⟩
  · have c0 : (decide (k < -(2 ^ 63)) || decide (k ≥ 2 ^ 63)) = false := by
      rw [decide_eq_false (by omega), decide_eq_false (by omega)] <;> rfl
    have c1 : (its.toArray.isEmpty || k == 1) = false := by
      rw [hi, Bool.false_or]
      exact beq_eq_false_iff_ne.mpr hk
    have c2 : (decide (k ≤ 0) || its.toArray.isEmpty) = true := by
      rw [decide_eq_true (by omega)]; rfl
    refine wpAny_binaryOp_repeat_ref (T := "tuple") (U := "int") (by decide) ⟨_, ho, rfl⟩ (fun s' => typeIs_int s' k t) noFill_tuple_mul F.fills_int_mul F.slot_int_rmul repeat_tuple F.slot_int_index.lookup
      (call_meets F.slot_int_rmul (typeIs_int s k t) F.entry_int_rmul (F.args_int_rmul_2 _ _) (int_rmul_tuple k t l its.toArray n dd sl)
        ⟨ho, rfl, ⟨_, ho, rfl⟩, call_meets F.slot_tuple_mul ⟨_, ho, rfl⟩ F.entry_tuple_mul (F.args_tuple_mul_2 _ _) (tuple_mul0 l its.toArray n dd sl k t c0 c1 c2) ⟨ho, ?_⟩⟩)
    refine ⟨.ref s.heap.objs.size, _, I.laid (t' := s.toks) (o := .tup []) (fun b ob q => Heap.get?_push_of_some _ q) (Nat.le_refl _) ?_, rfl, q2 hk _ (I.hok.fresh (Nat.le_refl _))⟩
    exact ⟨Nat.zero_le _, [], .nil, IsTup.new _ _⟩
def rRepTB (K : PySem.W.Frag) : R2 := fun x y H Q => ∃ l k xs, x = .ref l ∧ y = .int k ∧ SqT K H l xs ∧ xs ≠ [] ∧ 2 ≤ k ∧ k ≤ 2000 ∧ xs.length ≤ 1000 ∧ ∀ p, H p = none → Q (.ref p) (upd H p (.tup (List.replicate k.toNat xs).flatten))
theorem op_repTB : OpR X (binaryOp .Mult) (rRepTB X.K) := by
  intro pins s σ H x y v u Q I rx ry h
  obtain ⟨l, k, xs, rfl, rfl, hT, hne, k1, k2, hz, q⟩ := h
  cases rx
  obtain ⟨t, rfl⟩ := ry
  obtain ⟨its, r, ⟨⟨cls, dd, data, sl⟩, ho, hc, n, hd⟩, hs⟩ := I.tuple hT
  simp only at hc hd
  subst hc hd
  have hle : its.length = xs.length := r.length.symm
  have hi : its.toArray.isEmpty = false := by
    cases its with
    | nil => exact absurd (List.eq_nil_of_length_eq_zero hle.symm) hne
    | cons a b => rfl
  have prod : (its.toArray.size : Int) * k ≤ 2000000 := by
    have a1 : (its.toArray.size : Int) * k ≤ 1000 * k := Int.mul_le_mul_of_nonneg_right (by rw [List.size_toArray]; omega) (by omega)
    omega
  have long : ∀ ys : List Value, ys.length = xs.length → (List.replicate k.toNat ys).flatten.length ≤ sizeLine := fun ys e => by
    have a1 : k.toNat * ys.length ≤ 2000 * 1000 := Nat.mul_le_mul (by omega) (by omega)
    have a2 : (2000 * 1000 : Nat) ≤ sizeLine := by decide
    rw [PyProof.Rows.lm_len_rep_flat]; omega
  have long' : (List.replicate k.toNat xs).flatten.length ≤ sizeLine := by
    have a1 : k.toNat * xs.length ≤ 2000 * 1000 := Nat.mul_le_mul (by omega) hz
    have a2 : (2000 * 1000 : Nat) ≤ sizeLine := by decide
    rw [PyProof.Rows.lm_len_rep_flat]; omega
  have few : Builtin.Tuple.tupleTooMany ((its.toArray.size : Int) * k) = false := by
    unfold Builtin.Tuple.tupleTooMany
    rw [sizeLine_eq]
    exact decide_eq_false (by omega)
  have m := tuple_mulW l its.toArray n dd sl k t (by rw [decide_eq_false (by omega), decide_eq_false (by omega)] <;> rfl) (by rw [hi, Bool.false_or]; exact beq_eq_false_iff_ne.mpr (by omega)) (by rw [hi, Bool.or_false]; exact decide_eq_false (by omega)) (by omega) few (by rw [size_rep, List.size_toArray]; exact long its hle)
  refine wpAny_binaryOp_repeat_ref (T := "tuple") (U := "int") (by decide) ⟨_, ho, rfl⟩ (fun s' => typeIs_int s' k t) noFill_tuple_mul F.fills_int_mul F.slot_int_rmul repeat_tuple F.slot_int_index.lookup
    (call_meets F.slot_int_rmul (typeIs_int s k t) F.entry_int_rmul (F.args_int_rmul_2 _ _) (int_rmul_tuple k t l its.toArray n dd sl)
      ⟨ho, rfl, ⟨_, ho, rfl⟩, call_meets F.slot_tuple_mul ⟨_, ho, rfl⟩ F.entry_tuple_mul (F.args_tuple_mul_2 _ _) m ⟨ho, ?_⟩⟩)
  rw [size_rep]
  exact ⟨.ref s.heap.objs.size, _, I.laid (t' := s.toks) (o := .tup (List.replicate k.toNat xs).flatten) (fun b ob q => Heap.get?_push_of_some _ q) (Nat.le_refl _) ⟨long', _, r.rep k.toNat, IsTup.new _ _⟩, rfl, q _ (I.hok.fresh (Nat.le_refl _))⟩
variable {g : G} {W : WX} {pos : Pos} {a b : Expr} {ta tb : TD}
@[simp] def rRepTD : RD := fun x y P => match x, y with
  | .tup a, .int k => (a ≠ [] ∧ -1000 ≤ k ∧ k ≤ 2000 ∧ a.length ≤ 1000) ∧ P (.tup (List.replicate k.toNat a).flatten)
  | _, _ => False
theorem de_mulT (ha : PE X a (lE g W ta)) (hb : PE X b (lE g W tb)) : PE X (.BinOp a .Mult b pos) (lE g W (dOp rRepTD ta tb)) := de_op (op_repTB.or op_repT01) (fun x y H Q h => by
  obtain ⟨w, d, e, P, rd, re, r, nb, q⟩ := h
  cases d <;> cases e <;> try exact r.elim
  rename_i ds k
  simp only [Rep] at rd re
  obtain ⟨l, vs, e, n, hl, rv⟩ := rd
  obtain ⟨⟨c1, c2, c3, c4⟩, r⟩ := r
  subst e re
  have hv : vs ≠ [] := fun z => c1 (by
    have := rv.len
    rw [z] at this
    exact List.length_eq_zero_iff.mp this.symm)
  by_cases hk : 2 ≤ k
  · exact .inl ⟨l, k, vs, rfl, rfl, SqT.of hl, hv, hk, c3, by rw [rv.len]; exact c4, fun p hp => q _ _ _ r (same_upd hp) (Rep.tup (nb p hp) upd_same (Reps.mv (Reps.rep rv _) (.of_same (same_upd hp))))⟩
  · refine .inr ⟨l, k, vs, rfl, rfl, SqT.of hl, hv, c2, by omega, fun z => ?_, fun z p hp => ?_⟩
    · subst z
      have e : (List.replicate (1 : Int).toNat ds).flatten = ds := by show (List.replicate 1 ds).flatten = ds; simp
      rw [e] at r
      exact q _ _ _ r Same0 (Rep.tup n hl rv)
    · have e : (List.replicate k.toNat ds).flatten = [] := by rw [show k.toNat = 0 by omega]; rfl
      rw [e] at r
      exact q _ _ _ r (same_upd hp) (Rep.tup (nb p hp) upd_same Reps.nil)) ha hb
end
end DL
namespace DL
open PySem L2
section
variable {X : Cx} {g : G} {W : WX} {pos p : Pos} {e : Expr} {es : List Expr} {td : TD} {t : TDA}
@[simp] def fRemI : List D → D → (D → List D → Prop) → Prop := fun ds d P => ∃ (ns : List Int) (k : Int) (j : Nat), ds = ns.map .int ∧ d = .int k ∧ ns[j]? = some k ∧ (∀ m : Nat, m < j → ns[m]? ≠ some k) ∧ P .non ((ns.eraseIdx j).map .int)
@[simp] def fExtend : List D → D → (D → List D → Prop) → Prop := fun ds d P => ∃ es, d = .lst es ∧ ds.length + es.length ≤ sizeLine ∧ P .non (ds ++ es)
@[simp] def dListF (t : TDA) : TDF := fun s P X => t s (fun xs s1 => ∃ d ds, xs = [.dat d] ∧ seqD d = some ds ∧ P ds s1) X
@[simp] def rAbsD : RCd := fun xs M P => match xs with
  | [.dat (.int i)] => P (.int (if i < 0 then -i else i))
  | _ => False
end
end DL
namespace DL
open PySem L2
section
variable {X : Cx} {g : G} {W : WX} {pos pos' : Pos} {a b c e o i : Expr} {ta tb tc td ty tv : TD} {w : Cs} {H H' : Hp} {σ : L2.St} {s : S} {t : TDA} {α β : Type} [DecidableEq α] [DecidableEq β]
def valD (ks : List (α × D)) (k : α) : Option D := (ks.find? fun p => decide (p.1 = k)).map (·.2)
def putD (ks : List (α × D)) (k : α) (d : D) : List (α × D) := if (ks.any fun p => decide (p.1 = k)) = true then ks.map (fun p => if p.1 = k then (p.1, d) else p) else ks ++ [(k, d)]
@[simp] theorem valD_nil (k : α) : valD ([] : List (α × D)) k = none := rfl
theorem valD_cons (p : α × D) (ks : List (α × D)) (k : α) : valD (p :: ks) k = if p.1 = k then some p.2 else valD ks k := by
  unfold valD
  by_cases h : p.1 = k
  · rw [if_pos h, List.find?_cons_of_pos (by simpa using h)]; rfl
  · rw [if_neg h, List.find?_cons_of_neg (by simpa using h)]
theorem RepK.len {enc : α → β} : ∀ {ks : List (α × D)} {ws : List (β × V)}, RepK g w H enc ks ws → ws.length = ks.length
  | [], _, h => by subst h; rfl
  | _ :: ks, _, ⟨v, r, e, q, z⟩ => by subst e; rw [List.length_cons, List.length_cons, RepK.len z]
theorem RepK.val {enc : α → β} (inj : ∀ x y, enc x = enc y → x = y) (k : α) : ∀ {ks : List (α × D)} {ws : List (β × V)}, RepK g w H enc ks ws → (valD ks k = none ∧ valV ws (enc k) = none) ∨ ∃ d v, valD ks k = some d ∧ valV ws (enc k) = some v ∧ Rep g w H d v
  | [], _, h => by subst h; exact .inl ⟨rfl, valV_nil⟩
  | p :: ks, _, ⟨v, r, e, q, z⟩ => by
    subst e
    by_cases hk : p.1 = k
    · exact .inr ⟨p.2, v, by rw [valD_cons, if_pos hk], valV_pos (p := (enc p.1, v)) (by show enc p.1 = enc k; rw [hk]), q⟩
    · rw [valD_cons, if_neg hk, valV_neg (p := (enc p.1, v)) (fun z => hk (inj _ _ z))]
      exact RepK.val inj k z
theorem RepK.any {enc : α → β} (inj : ∀ x y, enc x = enc y → x = y) (k : α) : ∀ {ks : List (α × D)} {ws : List (β × V)}, RepK g w H enc ks ws → (ks.any fun p => decide (p.1 = k)) = (ws.any fun p => decide (p.1 = enc k))
  | [], _, h => by subst h; rfl
  | p :: ks, _, ⟨v, r, e, q, z⟩ => by
    subst e
    rw [List.any_cons, List.any_cons, RepK.any inj k z]
    congr 1
    by_cases hk : p.1 = k
    · simp [hk]
    · have : ¬ enc p.1 = enc k := fun z => hk (inj _ _ z)
      simp [hk, this]
theorem RepK.map {enc : α → β} (inj : ∀ x y, enc x = enc y → x = y) (k : α) {d : D} {u : V} (hd : Rep g w H d u) : ∀ {ks : List (α × D)} {ws : List (β × V)}, RepK g w H enc ks ws → RepK g w H enc (ks.map fun p => if p.1 = k then (p.1, d) else p) (ws.map fun p => if p.1 = enc k then (p.1, u) else p)
  | [], _, h => by subst h; exact rfl
  | p :: ks, _, ⟨v, r, e, q, z⟩ => by
    subst e
    rw [List.map_cons, List.map_cons]
    by_cases hk : p.1 = k
    · rw [if_pos hk, if_pos (by rw [hk])]
      exact ⟨u, _, rfl, hd, RepK.map inj k hd z⟩
    · rw [if_neg hk, if_neg (fun z => hk (inj _ _ z))]
      exact ⟨v, _, rfl, q, RepK.map inj k hd z⟩
theorem RepK.snoc {enc : α → β} (k : α) {d : D} {u : V} (hd : Rep g w H d u) : ∀ {ks : List (α × D)} {ws : List (β × V)}, RepK g w H enc ks ws → RepK g w H enc (ks ++ [(k, d)]) (ws ++ [(enc k, u)])
  | [], _, h => by subst h; exact ⟨u, [], rfl, hd, rfl⟩
  | p :: ks, _, ⟨v, r, e, q, z⟩ => by subst e; exact ⟨v, _, rfl, q, RepK.snoc k hd z⟩
theorem RepK.put {enc : α → β} (inj : ∀ x y, enc x = enc y → x = y) (k : α) {d : D} {u : V} (hd : Rep g w H d u) {ks : List (α × D)} {ws : List (β × V)} (h : RepK g w H enc ks ws) : RepK g w H enc (putD ks k d) (putK ws (enc k) u) := by
  unfold putD putK
  rw [← h.any inj k]
  by_cases z : (ks.any fun p => decide (p.1 = k)) = true
  · rw [if_pos z, if_pos z]
    exact h.map inj k hd
  · rw [if_neg z, if_neg z]
    exact h.snoc k hd
@[simp] def intsD : List D → Option (List Int)
  | [] => some []
  | .int i :: ds => (intsD ds).map (i :: ·)
  | _ :: _ => none
@[simp] theorem intsD_map (js : List Int) : intsD (js.map .int) = some js := by
  induction js with
  | nil => rfl
  | cons j js ih => simp [ih]
@[simp] def isDic : Option (Option CC) → Prop
  | some (some (.dk _)) => True
  | some (some (.dt _)) => True
  | _ => False
@[simp] def getC (m : Option (Option CC)) (y : D) (P : Option D → Prop) : Prop := match m, y with
  | some (some (.dk ks)), .int k => P (valD ks k)
  | some (some (.dt ks)), .tup ds => ∃ js, intsD ds = some js ∧ P (valD ks js)
  | _, _ => False
@[simp] def putC (m : Option (Option CC)) (y d : D) (P : CC → Prop) : Prop := match m, y with
  | some (some (.dk ks)), .int k => ks.length < sizeLine ∧ P (.dk (putD ks k d))
  | some (some (.dt ks)), .tup ds => ∃ js, intsD ds = some js ∧ ks.length < sizeLine ∧ P (.dt (putD ks js d))
  | _, _ => False
@[simp] def dInK (neg : Bool) (i : Nat) (ty : TD) : TD := fun s P X => ty s (fun y s1 => ∃ c, s1.r[i]? = some (.cell c) ∧ getC s1.M[c]? y fun o => P (.bl (if neg then !o.isSome else o.isSome)) s1) X
@[simp] def dIxK (n : Nat) (ty : TD) : TD := fun s P X => ∃ c, s.r[n]? = some (.cell c) ∧ ty s (fun y s1 => getC s1.M[c]? y fun o => ∃ d, o = some d ∧ P d s1) X
@[simp] def dGet1 (n : Nat) (ty : TD) : TD := fun s P X => ∃ c, s.r[n]? = some (.cell c) ∧ isDic s.M[c]? ∧ ty s (fun y s1 => getC s1.M[c]? y fun o => P (o.getD .non) s1) X
@[simp] def dGet2 (n : Nat) (ty tv : TD) : TD := fun s P X => ∃ c, s.r[n]? = some (.cell c) ∧ isDic s.M[c]? ∧ ty s (fun y s1 => tv s1 (fun d s2 => getC s2.M[c]? y fun o => P (o.getD d) s2) X) X
@[simp] def dPutK (n : Nat) (ty tv : TD) : TSd := fun s E X => tv s (fun v s1 => ∃ c, s1.r[n]? = some (.cell c) ∧ ty s1 (fun y s2 => putC s2.M[c]? y v fun x => E.nx { s2 with M := s2.M.set c (some x) }) X) X
@[simp] def dNewD (n : Nat) (x0 : CC) : TSd := fun s E _ => E.nx { r := s.r.set n (.cell s.M.length), M := s.M ++ [some x0] }
end
end DL
namespace DL
open PySem L2
section
variable {X : Cx} {g : G} {W : WX} {pos pos' : Pos} {a b c e o i : Expr} {ta tb tc td ty tv : TD} {w : Cs} {H H' H1 : Hp} {σ : L2.St} {s s1 : S} {t : TDA}
abbrev Cs.off (w : Cs) (c : Nat) : Cs := { w with cs := w.cs.set c none }
mutual
@[simp] def noL : D → Bool
  | .non => true
  | .bl _ => true
  | .int _ => true
  | .str _ => true
  | .tup ds => noLs ds
  | .ct ds => noLs ds
  | .lst _ => false
  | .fl _ => false
  | .ins _ _ => false
  | .xc _ _ _ => false
  | .dk _ => false
@[simp] def noLs : List D → Bool
  | [] => true
  | d :: ds => noL d && noLs ds
end
theorem noLs_all {ds : List D} (h : ∀ d ∈ ds, noL d = true) : noLs ds = true := by
  induction ds with
  | nil => rfl
  | cons d ds ih => simp only [noLs, Bool.and_eq_true]; exact ⟨h d List.mem_cons_self, ih fun x hx => h x (List.mem_cons_of_mem _ hx)⟩
theorem noLs_map {α : Type} {f : α → D} (h : ∀ x, noL (f x) = true) (l : List α) : noLs (l.map f) = true := noLs_all fun d hd => by
  obtain ⟨x, _, e⟩ := List.mem_map.mp hd
  subst e
  exact h x
@[simp] theorem noLs_ints (l : List Int) : noLs (l.map .int) = true := noLs_map (fun _ => rfl) l
@[simp] theorem noLs_app (l k : List D) : noLs (l ++ k) = (noLs l && noLs k) := by
  induction l with
  | nil => rfl
  | cons d l ih => simp [ih, Bool.and_assoc]
@[simp] def ccNoL : CC → Bool
  | .lst ds => noLs ds
  | .dk ks => noLs (ks.map (·.2))
  | .dt ks => noLs (ks.map (·.2))
@[simp] def memNoL : Mem → Bool
  | [] => true
  | none :: M => memNoL M
  | some x :: M => ccNoL x && memNoL M
mutual
theorem Rep.noL {cs cs' : Cs} {p : Addr} {us : List V} (hb : ∀ a, cs'.bad a → cs.bad a ∨ a = p) (hp : H p = some (.lst us)) : ∀ {d : D} {v : V}, noL d = true → Rep g cs H d v → Rep g cs' H d v
  | .non, _, _, h => by simpa only [Rep] using h
  | .bl _, _, _, h => by simpa only [Rep] using h
  | .int _, _, _, h => by simpa only [Rep] using h
  | .str _, _, _, h => by simpa only [Rep] using h
  | .tup ds, v, n, h => by
    simp only [Rep] at h ⊢
    obtain ⟨a, vs, e, nb, q, r⟩ := h
    exact ⟨a, vs, e, fun z => (hb a z).elim nb (fun z => by rw [z, hp] at q; cases q), q, Reps.noL hb hp (by simpa using n) r⟩
  | .ct ds, v, n, h => by
    simp only [Rep] at h ⊢
    obtain ⟨a, vs, e, q, r⟩ := h
    exact ⟨a, vs, e, q, Reps.noL hb hp (by simpa using n) r⟩
  | .lst _, _, n, _ => by simp at n
  | .fl _, _, n, _ => by simp at n
  | .ins _ _, _, n, _ => by simp at n
  | .xc _ _ _, _, n, _ => by simp at n
  | .dk _, _, n, _ => by simp at n
theorem Reps.noL {cs cs' : Cs} {p : Addr} {us : List V} (hb : ∀ a, cs'.bad a → cs.bad a ∨ a = p) (hp : H p = some (.lst us)) : ∀ {ds : List D} {vs : List V}, noLs ds = true → Reps g cs H ds vs → Reps g cs' H ds vs
  | [], _, _, h => by simpa only [Reps] using h
  | d :: ds, _, n, h => by
    simp only [Reps] at h ⊢
    simp only [noLs, Bool.and_eq_true] at n
    obtain ⟨v, r, e, q, z⟩ := h
    exact ⟨v, r, e, Rep.noL hb hp n.1 q, Reps.noL hb hp n.2 z⟩
end
theorem RepK.noL {α β : Type} {enc : α → β} {cs cs' : Cs} {p : Addr} {us : List V} (hb : ∀ a, cs'.bad a → cs.bad a ∨ a = p) (hp : H p = some (.lst us)) : ∀ {ks : List (α × D)} {ws : List (β × V)}, noLs (ks.map (·.2)) = true → RepK g cs H enc ks ws → RepK g cs' H enc ks ws
  | [], _, _, h => h
  | q :: ks, _, n, ⟨v, r, e, h, z⟩ => by
    simp only [List.map_cons, noLs, Bool.and_eq_true] at n
    exact ⟨v, r, e, Rep.noL hb hp n.1 h, RepK.noL hb hp n.2 z⟩
theorem CellOk.noL {cs cs' : Cs} {p : Addr} {us : List V} (hb : ∀ a, cs'.bad a → cs.bad a ∨ a = p) (hp : H p = some (.lst us)) {x : CC} {a : Addr} (n : ccNoL x = true) (h : CellOk g cs H x a) : CellOk g cs' H x a := by
  cases x with
  | lst ds => obtain ⟨vs, q, r⟩ := h; exact ⟨vs, q, Reps.noL hb hp n r⟩
  | dk ds => obtain ⟨vs, q, r⟩ := h; exact ⟨vs, q, RepK.noL hb hp n r⟩
  | dt ds => obtain ⟨vs, q, r⟩ := h; exact ⟨vs, q, RepK.noL hb hp n r⟩
@[simp] def dLendF (n : Nat) (tf : TDF) : TDF := fun s P _ => ∃ c ds, s.r[n]? = some (.cell c) ∧ s.M[c]? = some (some (.lst ds)) ∧
  tf { r := s.r.map (thaw c ds), M := s.M.set c none } (fun es s1 => memNoL s1.M = true ∧ noLs es = true ∧ P es { r := s.r, M := s1.M.set c (some (.lst ds)) }) fun _ _ _ => False
@[simp] def dLend (n : Nat) (t : TD) : TD := fun s P _ => ∃ c ds, s.r[n]? = some (.cell c) ∧ s.M[c]? = some (some (.lst ds)) ∧
  t { r := s.r.map (thaw c ds), M := s.M.set c none } (fun d s1 => memNoL s1.M = true ∧ noL d = true ∧ P d { r := s.r, M := s1.M.set c (some (.lst ds)) }) fun _ _ _ => False
@[simp] def ren2 (c : Nat) : Sl → Sl
  | .cell j => if j = c then .cell 0 else .cell 1
  | x => x
def Cs.two_ (w : Cs) (a b : Addr) : Cs := ⟨[some a, some b], (w.all.filter fun x => decide (x ≠ a) && decide (x ≠ b)) ++ w.av⟩
theorem bad_two {p q a : Addr} (hp : some p ∈ w.cs) (hq : some q ∈ w.cs) : (w.two_ p q).bad a ↔ w.bad a := by
  unfold Cs.bad Cs.two_
  simp only [List.mem_cons, Option.some.injEq, List.not_mem_nil, or_false, List.mem_append, List.mem_filter, mem_all, Bool.and_eq_true, decide_eq_true_eq]
  constructor
  · rintro ((h | h) | ⟨h, _⟩ | h)
    · subst h; exact .inl hp
    · subst h; exact .inl hq
    · exact .inl h
    · exact .inr h
  · rintro (h | h)
    · by_cases e : a = p
      · exact .inl (.inl e)
      · by_cases e2 : a = q
        · exact .inl (.inr e2)
        · exact .inr (.inl ⟨h, e, e2⟩)
    · exact .inr (.inr h)
theorem ArgOk.two_ {c c2 : Nat} {p q : Addr} (hp : w.cs[c]? = some (some p)) (hq : w.cs[c2]? = some (some q)) : ∀ {xs : List Sl} {vs : List V}, ArgOk g w H xs vs → (∀ j ∈ cellsIn xs, j = c ∨ j = c2) → ArgOk g (w.two_ p q) H (xs.map (ren2 c)) vs
  | [], _, h, _ => h
  | .no :: _, _, h, _ => h
  | .dat d :: xs, _, h, e => by
    obtain ⟨v, r, ev, z, y⟩ := h
    exact ⟨v, r, ev, Rep.gen (kb fun a => bad_two (List.mem_of_getElem? hp) (List.mem_of_getElem? hq)) z, ArgOk.two_ hp hq y e⟩
  | .cell j :: xs, _, h, e => by
    obtain ⟨a, r, ev, z, y⟩ := h
    have ih := ArgOk.two_ hp hq y fun j' hj' => e j' (List.mem_cons_of_mem _ hj')
    rw [List.map_cons]
    by_cases hj : j = c
    · subst hj
      rw [hp] at z; cases z
      simp only [ren2, if_pos]
      exact ⟨p, r, ev, rfl, ih⟩
    · rcases e j List.mem_cons_self with z2 | z2
      · exact absurd z2 hj
      · subst z2
        rw [hq] at z; cases z
        simp only [ren2, if_neg hj]
        exact ⟨q, r, ev, rfl, ih⟩
theorem MemOk.two_ {M : Mem} {c c2 : Nat} {p q : Addr} {x y : CC} (m : MemOk g w H M) (hp : w.cs[c]? = some (some p)) (hq : w.cs[c2]? = some (some q)) (hx : M[c]? = some (some x)) (hy : M[c2]? = some (some y)) (ne : c ≠ c2) : MemOk g (w.two_ p q) H [some x, some y] := by
  have hb : ∀ a, (w.two_ p q).bad a ↔ w.bad a := fun a => bad_two (List.mem_of_getElem? hp) (List.mem_of_getElem? hq)
  have npq : p ≠ q := fun z => ne (m.inj c c2 p hp (by rw [z]; exact hq))
  refine ⟨rfl, fun j z e => ?_, fun j a e => ?_, fun j j' a e e' => ?_, fun a ha => ⟨fun z => ?_, m.tracked ((hb a).mp (.inr ha))⟩, fun a ha => ⟨fun z => (m.tabs a ha).1 ((hb a).mp z), (m.tabs a ha).2⟩⟩
  · match j, e with
    | 0, e =>
      cases e
      obtain ⟨a, ea, z⟩ := m.at_ c x hx
      rw [hp] at ea; cases ea
      exact ⟨p, rfl, z.gen (kb hb) rfl⟩
    | 1, e =>
      cases e
      obtain ⟨a, ea, z⟩ := m.at_ c2 y hy
      rw [hq] at ea; cases ea
      exact ⟨q, rfl, z.gen (kb hb) rfl⟩
    | j + 2, e => simp at e
  · match j, e with
    | 0, e => exact ⟨x, rfl⟩
    | 1, e => exact ⟨y, rfl⟩
    | j + 2, e => simp [Cs.two_] at e
  · match j, j', e, e' with
    | 0, 0, _, _ => rfl
    | 1, 1, _, _ => rfl
    | 0, 1, e, e' => simp [Cs.two_] at e e'; exact absurd (e.trans e'.symm) npq
    | 1, 0, e, e' => simp [Cs.two_] at e e'; exact absurd (e'.trans e.symm) npq
    | j + 2, _, e, _ => simp [Cs.two_] at e
    | _, j + 2, _, e => simp [Cs.two_] at e
  · have ha : a ∈ (w.all.filter fun x => decide (x ≠ p) && decide (x ≠ q)) ++ w.av := ha
    have z : a = p ∨ a = q := by simpa [Cs.two_] using z
    rcases List.mem_append.mp ha with h | h
    · have := (List.mem_filter.mp h).2
      simp at this
      rcases z with z | z
      · exact this.1 z
      · exact this.2 z
    · rcases z with z | z
      · exact (m.av a h).1 (by rw [z]; exact List.mem_of_getElem? hp)
      · exact (m.av a h).1 (by rw [z]; exact List.mem_of_getElem? hq)
@[simp] def dCall2 (spd : SpD) (t : TDA) : TD := fun s P X => t s (fun xs s1 => ∃ c c2, cellsIn xs = [c, c2] ∧ c ≠ c2 ∧ ∃ m m2, s1.M[c]? = some (some m) ∧ s1.M[c2]? = some (some m2) ∧
  spd (xs.map (ren2 c)) [some m, some m2] (fun d M' => ∃ m' m2', M' = [some m', some m2'] ∧ P d { s1 with M := (s1.M.set c (some m')).set c2 (some m2') }) fun k x M' => ∃ m' m2', M' = [some m', some m2'] ∧ X k x { s1 with M := (s1.M.set c (some m')).set c2 (some m2') }) X
end
end DL
namespace DL
open PySem L2 PyProof.Rows
section
variable {X : Cx} {g : G} {W : WX} {pos p : Pos} {a b c e : Expr} {ta tb tc td : TD} {w : Cs} {H H' : Hp} {σ : L2.St} {s : S} {t : TDA} {es : List Expr}
def rMaxK : List V → Hp → VK → Prop := fun vs H Q => ∃ (a : Addr) (kvs : List (Key × V)) (ns : List Int), vs = [V.ref a] ∧ H a = some (.dK kvs) ∧ kvs.map (·.1) = ns.map Sum.inl ∧ 0 < ns.length ∧ ∀ m, m ∈ ns → (∀ y, y ∈ ns → y ≤ m) → Q (.int m) H
@[simp] def rMaxKD : RCd := fun xs M P => match xs with
  | [.cell c] => ∃ ks, M[c]? = some (some (.dk ks)) ∧ 0 < ks.length ∧ ∀ m, m ∈ ks.map (·.1) → (∀ y, y ∈ ks.map (·.1) → y ≤ m) → P (.int m)
  | _ => False
end
end DL
namespace DL
open PySem L2
abbrev figD (S G : List Int) : D := .tup [tupI S, tupI G]
abbrev pairsT (ps : List (Int × Int)) : D := .tup (ps.map pairD)
def mayB (S G : List Int) (y x : Int) : Bool := decide (y ≠ x) && decide (atG G x ≤ atG S y)
def cg (ps : List (Int × Int)) (x : Int) : Int × Int := ps.getD x.toNat (0, -1)
theorem cg_get {ps : List (Int × Int)} {k : Nat} {p : Int × Int} (h : ps[k]? = some p) : cg ps k = p := by
  unfold cg
  rw [List.getD_eq_getElem?_getD]
  simp [h]
def formOk (n : Int) (k : Nat) (p : Int × Int) : Prop := (1 ≤ p.1 ∧ 0 ≤ p.2 ∧ p.2 < n ∧ p.2 ≠ k) ∨ p = (0, -1)
instance (n : Int) (k : Nat) (p : Int × Int) : Decidable (formOk n k p) := by unfold formOk; infer_instance
def formBad (n : Int) : Nat → List (Int × Int) → Option Nat
  | _, [] => none
  | k, p :: r => if formOk n k p then formBad n (k + 1) r else some k
def ranges (b : Int) : List Int := (List.range (b - 1).toNat).map fun (i : Nat) => (1 : Int) + i
def gapBad (b : Int) (rs : List Int) : Option Int := (ranges b).find? fun r => decide (r ∉ rs)
def maxL : List Int → Int
  | [] => 0
  | [x] => x
  | x :: y :: r => max x (maxL (y :: r))
def gamesBad (S G : List Int) (all : List (Int × Int)) : Nat → List (Int × Int) → Option (Nat × Int)
  | _, [] => none
  | k, p :: r => if 0 < p.1 then (if 0 < (cg all p.2).1 ∧ (cg all p.2).1 ≤ p.1 then some (k, 1) else if p ∈ all.take k then some (k, 2) else if mayB S G p.2 k = true then gamesBad S G all (k + 1) r else some (k, 3)) else gamesBad S G all (k + 1) r
def cupErr (S G : List Int) (ps : List (Int × Int)) : Option (Str × D) :=
  if ps.length = S.length then match formBad S.length 0 ps with
    | some k => some ("BadGame", .tup [.int (k : Nat), .int 0])
    | none => match gapBad (min (maxL (ps.map (·.1))) (S.length + 1)) (ps.map (·.1)) with
      | some r => some ("BadRounds", .int r)
      | none => match gamesBad S G ps 0 ps with
        | some (k, j) => some ("BadGame", .tup [.int (k : Nat), .int j])
        | none => none
  else some ("Unlike", .int ps.length)
def orE (e : Option (Str × D)) (d : D) (P : D → Mem → Prop) (PX : KXM) : Prop := match e with
  | some (c, x) => PX c x []
  | none => P d []
def spCanBeat : SpD := fun xs M P _ => ∃ (S G : List Int) (y x : Int), xs = [.dat (fldD S G), .dat (.int y), .dat (.int x)] ∧ M = [] ∧ 0 ≤ y ∧ y < S.length ∧ 0 ≤ x ∧ x < G.length ∧ P (.bl (mayB S G y x)) []
def spForm : SpD := fun xs M P PX => ∃ (n : Int) (ps : List (Int × Int)), xs = [.dat (.int n), .dat (pairsT ps)] ∧ M = [] ∧ ps.length ≤ 1000 ∧ orE (if (ps.length : Int) = n then match formBad n 0 ps with
  | some k => some ("BadGame", .tup [.int (k : Nat), .int 0])
  | none => none else some ("Unlike", .int ps.length)) .non P PX
def spGap : SpD := fun xs M P PX => ∃ (n : Int) (ps : List (Int × Int)), xs = [.dat (.int n), .dat (pairsT ps)] ∧ M = [] ∧ ps ≠ [] ∧ ps.length ≤ 1000 ∧ 0 ≤ n ∧ n ≤ 1000 ∧ (∀ p ∈ ps, 0 ≤ p.1) ∧ orE (match gapBad (min (maxL (ps.map (·.1))) (n + 1)) (ps.map (·.1)) with
  | some r => some ("BadRounds", .int r)
  | none => none) .non P PX
def spGamesC : SpD := fun xs M P PX => ∃ (S G : List Int) (ps : List (Int × Int)), xs = [.dat (fldD S G), .dat (pairsT ps)] ∧ M = [] ∧ ps.length = S.length ∧ G.length = S.length ∧ ps.length ≤ 1000 ∧ formBad S.length 0 ps = none ∧ orE (match gamesBad S G ps 0 ps with
  | some (k, j) => some ("BadGame", .tup [.int (k : Nat), .int j])
  | none => none) .non P PX
def spMadeCup : SpD := fun xs M P PX => ∃ (S G : List Int) (ps : List (Int × Int)), xs = [.dat (fldD S G), .dat (pairsT ps)] ∧ M = [] ∧ 1 ≤ S.length ∧ G.length = S.length ∧ S.length ≤ 1000 ∧ ps.length ≤ 1000 ∧ orE (cupErr S G ps) (pairsT ps) P PX
def spMay : SpD := fun xs M P _ => ∃ (S G : List Int) (y x : Int), xs = [.dat (figD S G), .dat (.int y), .dat (.int x)] ∧ M = [] ∧ 0 ≤ y ∧ y < S.length ∧ 0 ≤ x ∧ x < G.length ∧ P (.bl (mayB S G y x)) []
def spFigures : SpD := fun xs M P _ => ∃ (n a b : Int), xs = [.cell 0, .dat (.int n)] ∧ M = [src a b] ∧ Good a b ∧ 1 ≤ n ∧ n ≤ 32 ∧ ∀ (S G : List Int) a' b', S.length = n.toNat → G.length = n.toNat → (∀ v ∈ S, 0 ≤ v ∧ v ≤ 100) → (∀ v ∈ G, -1 ≤ v ∧ v ≤ 100) → Good a' b' → P (figD S G) [src a' b']
def spStairC : SpD := fun xs M P _ => ∃ (S G L : List Int), xs = [.dat (figD S G), .dat (.lst (L.map .int))] ∧ M = [] ∧ L.length ≤ 1000 ∧ (∀ x ∈ L, 0 ≤ x ∧ x < G.length) ∧ P (.lst ((stairOf G L).map .int)) []
structure FOK (S G : List Int) (left : List Int) (F : List (Int × Int)) : Prop where
  nx : (F.map (·.1)).Nodup
  ny : (F.map (·.2)).Nodup
  mem : ∀ p ∈ F, p.1 ∈ left ∧ p.2 ∈ left ∧ mayB S G p.2 p.1 = true
  dis : ∀ p ∈ F, ∀ q ∈ F, p.1 ≠ q.2
def spDrawn : SpD := fun xs M P _ => ∃ (S G left : List Int) (f : Bool) (a b : Int), xs = [.cell 0, .dat (figD S G), .cell 1, .dat (.bl f)] ∧ M = [src a b, some (.lst (left.map .int))] ∧ Good a b ∧ left.Nodup ∧ G.length = S.length ∧ (∀ x ∈ left, 0 ≤ x ∧ x < S.length) ∧ left.length ≤ 1000 ∧
  ∀ F a' b', FOK S G left F → Good a' b' → P (.lst (F.map pairD)) [src a' b', some (.lst (left.map .int))]
structure CupP (S G : List Int) (ps : List (Int × Int)) : Prop where
  len : ps.length = S.length
  form : ∀ x : Int, 0 ≤ x → x < S.length → cg ps x = (0, -1) ∨ (1 ≤ (cg ps x).1 ∧ 0 ≤ (cg ps x).2 ∧ (cg ps x).2 < S.length ∧ mayB S G (cg ps x).2 x = true ∧ ((cg ps (cg ps x).2) = (0, -1) ∨ (cg ps x).1 < (cg ps (cg ps x).2).1))
  one : ∀ x z : Int, 0 ≤ x → x < S.length → 0 ≤ z → z < S.length → cg ps x = cg ps z → 1 ≤ (cg ps x).1 → x = z
  gap : ∀ x r : Int, 0 ≤ x → x < S.length → 1 ≤ r → r ≤ (cg ps x).1 → ∃ z : Int, 0 ≤ z ∧ z < S.length ∧ (cg ps z).1 = r
  top : ∀ x : Int, 0 ≤ x → x < S.length → (cg ps x).1 < S.length
def spCupL : SpD := fun xs M P _ => ∃ (S G : List Int) (a b : Int), xs = [.cell 0, .dat (figD S G)] ∧ M = [src a b] ∧ Good a b ∧ 1 ≤ S.length ∧ S.length ≤ 1000 ∧ G.length = S.length ∧ ∀ (ps : List (Int × Int)) a' b', CupP S G ps → Good a' b' → P (pairsT ps) [src a' b']
def tdCanBeat : TSd :=
  dRet (dAndV (dOp rNeD' (dVar 1) (dVar 2)) (dOp rGeD (dOp rIxD (dFld (dVar 0) "Field" "strengths") (dVar 1)) (dOp rIxD (dFld (dVar 0) "Field" "guards") (dVar 2))))
abbrev N_cCanBeat : List Str := ["field", "y", "x"]
def tdForm : TSd :=
  dSeq (dIfS (dT (dOp rNeD' (dCB rLenD (dCons (dVar 1) (dNil))) (dVar 0))) (dRaise "Unlike" (dCB rLenD (dCons (dVar 1) (dNil)))) (dNext))
  (dFor (dEnum (dCons (dVar 1) (dNil))) (dgTup 2 (dgsCons (dgName 2) (dgsCons (dgTup 2 (dgsCons (dgName 3) (dgsCons (dgName 4) (dgsNil)))) (dgsNil)))) (dSeq (dSet 5 (dAndV (dOp rGeD (dVar 3) (dC (.int 1))) (dAndV (dChain rLeD rLtD (dC (.int 0)) (dVar 4) (dVar 0)) (dOp rNeD' (dVar 4) (dVar 2)))))
  (dIfS (dAnd (dNot (dTru (dVar 5))) (dT (dOp rNeD' (dTup (dCons (dVar 3) (dCons (dVar 4) (dNil)))) (dC (.ct (([0, -1] : List Int).map .int)))))) (dRaise "BadGame" (dTup (dCons (dVar 2) (dCons (dC (.int 0)) (dNil))))) (dNext))))
abbrev N_cForm : List Str := ["n", "pairs", "x", "r", "y", "loses"]
def tdGap : TSd :=
  dSeq (dNewD 2 (.dk []))
  (dSeq (dFor (dIter (dVar 1)) (dgTup 2 (dgsCons (dgName 3) (dgsCons (dgName 4) (dgsNil)))) (dPutK 2 (dVar 3) (dC (.bl true))))
  (dFor (dRange2 (dCons (dC (.int 1)) (dCons (dCB (r2I fun i j => if j < i then j else i) (dCons (dCB rMaxKD (dConsC 2 (dNil))) (dCons (dOp rAddD (dVar 0) (dC (.int 1))) (dNil)))) (dNil)))) (dgName 3) (dIfS (dT (dInK true 2 (dVar 3))) (dRaise "BadRounds" (dVar 3)) (dNext))))
abbrev N_cGap : List Str := ["n", "pairs", "told", "r", "_"]
def tdGamesC : TSd :=
  dSeq (dNewD 2 (.dt []))
  (dFor (dEnum (dCons (dVar 1) (dNil))) (dgTup 2 (dgsCons (dgName 3) (dgsCons (dgTup 2 (dgsCons (dgName 4) (dgsCons (dgName 5) (dgsNil)))) (dgsNil)))) (dIfS (dT (dOp rGtD (dVar 4) (dC (.int 0)))) (dSeq (dIfS (dT (dChain rLtD rLeD (dC (.int 0)) (dOp rIxD (dOp rIxD (dVar 1) (dVar 5)) (dC (.int 0))) (dVar 4))) (dRaise "BadGame" (dTup (dCons (dVar 3) (dCons (dC (.int 1)) (dNil))))) (dNext))
  (dSeq (dIfS (dT (dInK false 2 (dTup (dCons (dVar 4) (dCons (dVar 5) (dNil)))))) (dRaise "BadGame" (dTup (dCons (dVar 3) (dCons (dC (.int 2)) (dNil))))) (dNext))
  (dSeq (dIfS (dNot (dTru (dCall spCanBeat (dCons (dVar 0) (dCons (dVar 5) (dCons (dVar 3) (dNil))))))) (dRaise "BadGame" (dTup (dCons (dVar 3) (dCons (dC (.int 3)) (dNil))))) (dNext))
  (dPutK 2 (dTup (dCons (dVar 4) (dCons (dVar 5) (dNil)))) (dC (.bl true)))))) (dNext)))
abbrev N_cGamesC : List Str := ["field", "pairs", "beaten", "x", "r", "y"]
def tdMadeCup : TSd :=
  dSeq (dDrop (dCall spForm (dCons (dFld (dVar 0) "Field" "n") (dCons (dVar 1) (dNil)))))
  (dSeq (dDrop (dCall spGap (dCons (dFld (dVar 0) "Field" "n") (dCons (dVar 1) (dNil)))))
  (dSeq (dDrop (dCall spGamesC (dCons (dVar 0) (dCons (dVar 1) (dNil)))))
  (dRet (dVar 1))))
abbrev N_cMadeCup : List Str := ["field", "pairs"]
def tdFigures : TSd :=
  dSeq (dSet 2 (dCall spTake (dConsC 0 (dCons (dC (.int 3)) (dNil)))))
  (dSeq (dIfS (dT (dOp rEqD' (dVar 2) (dC (.int 0)))) (dSeq (dSet 3 (dCB rTupD (dCons (dCall spShuf (dConsC 0 (dCons (dVar 1) (dNil)))) (dNil))))
  (dRet (dTup (dCons (dVar 3) (dCons (dVar 3) (dNil)))))) (dNext))
  (dSeq (dSet 4 (dCB rTupD (dCons (dF (dLc (dRange1 (dCons (dVar 1) (dNil))) (dgName 5) (dYes) (dCall spTake (dConsC 0 (dCons (dC (.int 4)) (dNil)))) [5])) (dNil))))
  (dSeq (dIfS (dT (dOp rEqD' (dVar 2) (dC (.int 1)))) (dRet (dTup (dCons (dVar 4) (dCons (dVar 4) (dNil))))) (dNext))
  (dRet (dTup (dCons (dVar 4) (dCons (dCB rTupD (dCons (dF (dLc (dRange1 (dCons (dVar 1) (dNil))) (dgName 5) (dYes) (dOp rSubD (dCall spTake (dConsC 0 (dCons (dC (.int 5)) (dNil)))) (dC (.int 1))) [5])) (dNil))) (dNil))))))))
abbrev N_cFigures : List Str := ["_law_source", "_law_n", "_law_kind", "_law_row", "_law_ranks", "_law_x"]
def tdMay : TSd :=
  dRet (dAndV (dOp rNeD' (dVar 1) (dVar 2)) (dOp rGeD (dOp rIxD (dOp rIxD (dVar 0) (dC (.int 0))) (dVar 1)) (dOp rIxD (dOp rIxD (dVar 0) (dC (.int 1))) (dVar 2))))
abbrev N_cMay : List Str := ["_law_figures_here", "_law_y", "_law_x"]
def tdStairC : TSd :=
  dRet (dF (dLc (dIter (dCB rSortD (dCons (dF (dLc (dIter (dVar 1)) (dgName 3) (dYes) (dTup (dCons (dUn rNegD (dOp rIxD (dOp rIxD (dVar 0) (dC (.int 1))) (dVar 3))) (dCons (dVar 3) (dNil)))) [3])) (dNil)))) (dgTup 2 (dgsCons (dgName 2) (dgsCons (dgName 3) (dgsNil)))) (dYes) (dVar 3) [2, 3]))
abbrev N_cStairC : List Str := ["_law_figures_here", "_law_sides", "_law_guard", "_law_x"]
def tdDrawn : TSd :=
  dSeq (dSet 4 (dF (dLc (dIter (dCall spShuf (dConsC 0 (dCons (dCB rLenD (dConsC 2 (dNil))) (dNil))))) (dgName 5) (dYes) (dIxC 2 (dVar 5)) [5])))
  (dSeq (dSet 6 (dOp rDivD (dCB rLenD (dConsC 2 (dNil))) (dC (.int 2))))
  (dSeq (dIfS (dNot (dTru (dVar 3))) (dSet 6 (dCall spTake (dConsC 0 (dCons (dOp rAddD (dVar 6) (dC (.int 1))) (dNil))))) (dNext))
  (dSeq (dPar 7 8 (dConsF (dSlL (dVar 4) (dPart (dVar 6)) (dNoPart)) (dConsF (dLst (dNil)) (dNil))))
  (dSeq (dFor (dIter (dCall spStairC (dCons (dVar 1) (dCons (dSl (dVar 4) (dNoPart) (dPart (dVar 6))) (dNil))))) (dgName 9) (dSeq (dSet 10 (dF (dLendF 7 (dLc (dIter (dVar 7)) (dgName 11) (dTru (dCall spMay (dCons (dVar 1) (dCons (dVar 11) (dCons (dVar 9) (dNil)))))) (dVar 11) [11]))))
  (dIfS (dTru (dVar 10)) (dSeq (dSet 11 (dCall spOne (dConsC 0 (dCons (dVar 10) (dNil)))))
  (dSeq (dDrop (dMeth1 7 fRemI (dVar 11)))
  (dDrop (dMeth1 8 fAppend (dTup (dCons (dVar 9) (dCons (dVar 11) (dNil)))))))) (dNext))))
  (dFreeze 8 (dRet (dVar 8)))))))
abbrev N_cDrawn : List Str := ["_law_source", "_law_figures_here", "_law_left", "_law_is_full", "_law_names", "_law_k", "_law_many", "_law_seats", "_law_found", "_law_x", "_law_may_here", "_law_y"]
def tdCupL : TSd :=
  dSeq (dSet 2 (dCB rLenD (dCons (dOp rIxD (dVar 1) (dC (.int 0))) (dNil))))
  (dSeq (dPar3 3 4 5 (dConsF (dOpF rRepF (dF (dLst (dCons (dTup (dCons (dC (.int 0)) (dCons (dUn rNegD (dC (.int 1))) (dNil)))) (dNil)))) (dVar 2)) (dConsF (dLc (dRange1 (dCons (dVar 2) (dNil))) (dgName 6) (dYes) (dVar 6) [6]) (dCons (dOp rEqD' (dCall spTake (dConsC 0 (dCons (dC (.int 3)) (dNil)))) (dC (.int 0))) (dNil)))))
  (dSeq (dFor (dRange2 (dCons (dC (.int 1)) (dCons (dVar 2) (dNil)))) (dgName 7) (dSeq (dSet 8 (dCall2 spDrawn (dConsC 0 (dCons (dVar 1) (dConsC 4 (dCons (dOrV (dVar 5) (dOp rGtD (dCall spTake (dConsC 0 (dCons (dC (.int 4)) (dNil)))) (dC (.int 0)))) (dNil)))))))
  (dSeq (dIfS (dNot (dTru (dVar 8))) (dBreak) (dNext))
  (dFor (dIter (dVar 8)) (dgTup 2 (dgsCons (dgName 6) (dgsCons (dgName 9) (dgsNil)))) (dSeq (dSetIx 3 (dVar 6) (dTup (dCons (dVar 7) (dCons (dVar 9) (dNil)))))
  (dDrop (dMeth1 4 fRemI (dVar 6))))))))
  (dFreeze 3 (dRet (dCB rTupD (dCons (dVar 3) (dNil)))))))
abbrev N_cCupL : List Str := ["_law_source", "_law_figures_here", "_law_n", "_law_row", "_law_left", "_law_is_full", "_law_x", "_law_r", "_law_found", "_law_y"]
theorem maxL_mem : ∀ {l : List Int}, l ≠ [] → maxL l ∈ l ∧ ∀ y ∈ l, y ≤ maxL l
  | [], h => absurd rfl h
  | [x], _ => by simp [maxL]
  | x :: y :: r, _ => by
    obtain ⟨h1, h2⟩ := maxL_mem (l := y :: r) (by simp)
    unfold maxL
    constructor
    · by_cases c : x ≤ maxL (y :: r)
      · rw [Int.max_eq_right c]; exact List.mem_cons_of_mem _ h1
      · rw [Int.max_eq_left (by omega)]; exact List.mem_cons_self
    · intro z hz
      rcases List.mem_cons.mp hz with e | hz
      · omega
      · have := h2 z hz; omega
end DL
namespace DL
open PySem L2
end DL
namespace DL
open PySem L2
theorem nodup_map_inj {α β : Type} {f : α → β} : ∀ {l : List α}, (l.map f).Nodup → ∀ p ∈ l, ∀ q ∈ l, f p = f q → p = q
  | [], _, p, hp, _, _, _ => nomatch hp
  | x :: l, nd, p, hp, q, hq, e => by
    rw [List.map_cons, List.nodup_cons] at nd
    rcases List.mem_cons.mp hp with h1 | h1 <;> rcases List.mem_cons.mp hq with h2 | h2
    · rw [h1, h2]
    · exact absurd (List.mem_map.mpr ⟨q, h2, by rw [← e, h1]⟩) nd.1
    · exact absurd (List.mem_map.mpr ⟨p, h1, by rw [e, h2]⟩) nd.1
    · exact nodup_map_inj nd.2 p h1 q h2 e
theorem cg_set {ps : List (Int × Int)} {x z : Int} {p : Int × Int} (x0 : 0 ≤ x) (x1 : x < ps.length) (z0 : 0 ≤ z) : cg (ps.set x.toNat p) z = if z = x then p else cg ps z := by
  unfold cg
  rw [List.getD_eq_getElem?_getD, List.getD_eq_getElem?_getD]
  by_cases h : z = x
  · subst h
    rw [if_pos rfl, List.getElem?_set_self (by omega)]
    rfl
  · rw [if_neg h, List.getElem?_set_ne (by omega)]
structure CInv (S G : List Int) (r : Int) (row : List (Int × Int)) (left : List Int) : Prop where
  len : row.length = S.length
  nd : left.Nodup
  rng : ∀ x ∈ left, 0 ≤ x ∧ x < S.length
  iff : ∀ x : Int, 0 ≤ x → x < S.length → (x ∈ left ↔ cg row x = (0, -1))
  form : ∀ x : Int, 0 ≤ x → x < S.length → cg row x = (0, -1) ∨ (1 ≤ (cg row x).1 ∧ (cg row x).1 < r ∧ 0 ≤ (cg row x).2 ∧ (cg row x).2 < S.length ∧ mayB S G (cg row x).2 x = true ∧ ((cg row (cg row x).2) = (0, -1) ∨ (cg row x).1 < (cg row (cg row x).2).1))
  one : ∀ x z : Int, 0 ≤ x → x < S.length → 0 ≤ z → z < S.length → cg row x = cg row z → 1 ≤ (cg row x).1 → x = z
  gap : ∀ q : Int, 1 ≤ q → q < r → ∃ z : Int, 0 ≤ z ∧ z < S.length ∧ (cg row z).1 = q
theorem CInv.cup {S G : List Int} {r : Int} {row : List (Int × Int)} {left : List Int} (h : CInv S G r row left) (hr : r ≤ S.length) (n1 : 1 ≤ S.length) : CupP S G row := by
  refine ⟨h.len, fun x x0 x1 => ?_, h.one, fun x q x0 x1 q1 q2 => ?_, fun x x0 x1 => ?_⟩
  · rcases h.form x x0 x1 with e | ⟨a, b, c, d, e, f⟩
    · exact .inl e
    · exact .inr ⟨a, c, d, e, f⟩
  · rcases h.form x x0 x1 with e | ⟨a, b, c, d, e, f⟩
    · rw [e] at q2; simp at q2; omega
    · exact h.gap q q1 (by omega)
  · rcases h.form x x0 x1 with e | ⟨a, b, c, d, e, f⟩
    · rw [e]; simp; omega
    · omega
theorem CInv.next {S G : List Int} {r : Int} {row row' : List (Int × Int)} {left left' : List Int} {F : List (Int × Int)} (h : CInv S G r row left) (r1 : 1 ≤ r) (hF : FOK S G left F) (ne : F ≠ [])
    (len : row'.length = S.length) (nd : left'.Nodup) (hl : ∀ x, x ∈ left' ↔ x ∈ left ∧ x ∉ F.map (·.1)) (h1 : ∀ p ∈ F, cg row' p.1 = (r, p.2)) (h2 : ∀ x : Int, 0 ≤ x → x < S.length → x ∉ F.map (·.1) → cg row' x = cg row x) : CInv S G (r + 1) row' left' := by
  have old : ∀ x : Int, 0 ≤ x → x < S.length → x ∉ left → cg row' x = cg row x := fun x x0 x1 hx => h2 x x0 x1 fun c => by
    obtain ⟨p, hp, e⟩ := List.mem_map.mp c
    exact hx (by rw [← e]; exact (hF.mem p hp).1)
  refine ⟨len, nd, fun x hx => h.rng x ((hl x).mp hx).1, fun x x0 x1 => ?_, fun x x0 x1 => ?_, fun x z x0 x1 z0 z1 e e1 => ?_, fun q q1 q2 => ?_⟩
  · by_cases c : x ∈ F.map (·.1)
    · obtain ⟨p, hp, e⟩ := List.mem_map.mp c
      constructor
      · intro hx; exact absurd c ((hl x).mp hx).2
      · intro hx
        rw [← e, h1 p hp] at hx
        have : r = 0 := congrArg Prod.fst hx
        omega
    · rw [hl, h2 x x0 x1 c, ← h.iff x x0 x1]
      exact ⟨fun a => a.1, fun a => ⟨a, c⟩⟩
  · by_cases c : x ∈ F.map (·.1)
    · obtain ⟨p, hp, e⟩ := List.mem_map.mp c
      obtain ⟨m1, m2, m3⟩ := hF.mem p hp
      have ey := h.rng p.2 m2
      have e2 : cg row' x = (r, p.2) := by rw [← e]; exact h1 p hp
      have e3 : cg row' p.2 = (0, -1) := by
        rw [h2 p.2 ey.1 ey.2 fun c => by
          obtain ⟨p', hp', e'⟩ := List.mem_map.mp c
          exact hF.dis p' hp' p hp e']
        exact (h.iff _ ey.1 ey.2).mp m2
      right
      rw [e2]
      exact ⟨r1, by show r < r + 1; omega, ey.1, ey.2, by rw [← e]; exact m3, .inl e3⟩
    · rw [h2 x x0 x1 c]
      rcases h.form x x0 x1 with e | ⟨a, b, cc, d, e, f⟩
      · exact .inl e
      · refine .inr ⟨a, by omega, cc, d, e, ?_⟩
        by_cases c2 : (cg row x).2 ∈ F.map (·.1)
        · obtain ⟨p, hp, e'⟩ := List.mem_map.mp c2
          right
          rw [← e', h1 p hp]
          exact b
        · rw [h2 _ cc d c2]
          exact f
  · by_cases c : x ∈ F.map (·.1) <;> by_cases c2 : z ∈ F.map (·.1)
    · obtain ⟨p, hp, ep⟩ := List.mem_map.mp c
      obtain ⟨p', hp', ep'⟩ := List.mem_map.mp c2
      rw [← ep, ← ep', h1 p hp, h1 p' hp'] at e
      have e4 : p.2 = p'.2 := (Prod.mk.inj e).2
      have := nodup_map_inj hF.ny p hp p' hp' e4
      rw [← ep, ← ep', this]
    · obtain ⟨p, hp, ep⟩ := List.mem_map.mp c
      rw [← ep, h1 p hp, h2 z z0 z1 c2] at e
      rcases h.form z z0 z1 with e' | ⟨a, b, _⟩
      · rw [e'] at e
        have : r = 0 := congrArg Prod.fst e
        omega
      · rw [← e] at b
        exact absurd b (Int.lt_irrefl _)
    · obtain ⟨p', hp', ep'⟩ := List.mem_map.mp c2
      rw [← ep', h1 p' hp', h2 x x0 x1 c] at e
      rcases h.form x x0 x1 with e' | ⟨a, b, _⟩
      · rw [e'] at e
        have : 0 = r := congrArg Prod.fst e
        omega
      · rw [e] at b
        exact absurd b (Int.lt_irrefl _)
    · rw [h2 x x0 x1 c] at e e1
      rw [h2 z z0 z1 c2] at e
      exact h.one x z x0 x1 z0 z1 e e1
  · by_cases c : q < r
    · obtain ⟨z, z0, z1, e⟩ := h.gap q q1 c
      refine ⟨z, z0, z1, ?_⟩
      rw [old z z0 z1 fun m => by
        rw [(h.iff z z0 z1).mp m] at e
        simp at e
        omega]
      exact e
    · have : q = r := by omega
      subst this
      cases F with
      | nil => exact absurd rfl ne
      | cons p F =>
        obtain ⟨m1, _⟩ := hF.mem p List.mem_cons_self
        have := h.rng _ m1
        exact ⟨p.1, this.1, this.2, by rw [h1 p List.mem_cons_self]⟩
theorem CInv.start (S G : List Int) : CInv S G 1 (List.replicate S.length (0, -1)) (rangeI S.length) := by
  have e : ∀ x, cg (List.replicate S.length (0, -1)) x = (0, -1) := fun x => by
    unfold cg
    rw [List.getD_eq_getElem?_getD, List.getElem?_replicate]
    split <;> rfl
  refine ⟨by simp, (rangeI_asc _).imp fun h => by omega, fun x hx => by have := rangeI_mem.mp hx; omega, fun x x0 x1 => ?_, fun x _ _ => .inl (e x), fun x z _ _ _ _ _ h => ?_, fun q q1 q2 => by omega⟩
  · rw [e, rangeI_mem]
    simp
    omega
  · rw [e] at h; simp at h
end DL
namespace DL
open PySem L2
end DL
namespace DL
open PySem L2 PyProof.Rows
section
variable {X : Cx} {g : G} {W : WX} {pos p : Pos} {a b c e : Expr} {ta tb tc td : TD} {w : Cs} {H H' : Hp} {σ : L2.St} {s : S} {t : TDA} {es : List Expr}
def rAllL (K : PySem.W.Frag) : List V → Hp → VK → Prop := fun vs H Q => ∃ (a : Addr) (bs : List Bool), vs = [V.ref a] ∧ SqL K H a (bs.map V.bl) ∧ Q (.bl (bs.all id)) H
@[simp] def rAllD : RCd := fun xs M P => match xs with
  | [.dat (.lst ds)] => ∃ bs : List Bool, ds = bs.map .bl ∧ P (.bl (bs.all id))
  | _ => False
end
end DL
namespace DL
open PySem L2
theorem formBad_of {n : Int} : ∀ {ps : List (Int × Int)} {k : Nat}, (∀ (j : Nat) p, ps[j]? = some p → formOk n (k + j) p) → formBad n k ps = none
  | [], _, _ => rfl
  | q :: r, k, h => by
    unfold formBad
    have h0 : formOk n k q := h 0 q rfl
    rw [if_pos h0]
    refine formBad_of fun j p hj => ?_
    rw [show k + 1 + j = k + (j + 1) by omega]
    exact h (j + 1) p (by simpa using hj)
theorem gamesBad_of {S G : List Int} {all : List (Int × Int)} : ∀ {r : List (Int × Int)} {k : Nat}, (∀ (j : Nat) p, r[j]? = some p → 0 < p.1 → ¬ (0 < (cg all p.2).1 ∧ (cg all p.2).1 ≤ p.1) ∧ p ∉ all.take (k + j) ∧ mayB S G p.2 (k + j : Nat) = true) → gamesBad S G all k r = none
  | [], _, _ => rfl
  | q :: r, k, h => by
    unfold gamesBad
    have ih : gamesBad S G all (k + 1) r = none := gamesBad_of fun j p hj => by
      rw [show k + 1 + j = k + (j + 1) by omega]
      exact h (j + 1) p (by simpa using hj)
    by_cases c : 0 < q.1
    · obtain ⟨h1, h2, h3⟩ := h 0 q rfl c
      have h2 : q ∉ all.take k := h2
      have h3 : mayB S G q.2 k = true := h3
      rw [if_pos c, if_neg h1, if_neg h2, if_pos h3, ih]
    · rw [if_neg c, ih]
theorem mayB_ne {S G : List Int} {y x : Int} (h : mayB S G y x = true) : y ≠ x := by
  unfold mayB at h
  simp at h
  exact h.1
theorem ranges_mem {b r : Int} : r ∈ ranges b ↔ 1 ≤ r ∧ r < b := by
  unfold ranges
  rw [List.mem_map]
  constructor
  · rintro ⟨i, hi, rfl⟩
    have := List.mem_range.mp hi
    omega
  · rintro ⟨h1, h2⟩
    exact ⟨(r - 1).toNat, List.mem_range.mpr (by omega), by omega⟩
theorem CupP.get {S G : List Int} {ps : List (Int × Int)} (h : CupP S G ps) {j : Nat} {p : Int × Int} (e : ps[j]? = some p) : (j : Int) < S.length ∧ cg ps j = p := by
  have := (List.getElem?_eq_some_iff.mp e).1
  have := h.len
  exact ⟨by omega, cg_get e⟩
theorem cg_mem {ps : List (Int × Int)} {z : Int} (h0 : 0 ≤ z) (h1 : z < ps.length) : cg ps z ∈ ps := by
  obtain ⟨i, rfl⟩ : ∃ i : Nat, z = i := ⟨z.toNat, by omega⟩
  have hi : ps[i]? = some (ps[i]'(by omega)) := List.getElem?_eq_getElem (by omega)
  rw [cg_get hi]
  exact List.mem_of_getElem? hi
theorem CupP.err {S G : List Int} {ps : List (Int × Int)} (h : CupP S G ps) (n1 : 1 ≤ S.length) : cupErr S G ps = none := by
  have hne : ps ≠ [] := by intro z; have := h.len; rw [z] at this; simp at this; omega
  unfold cupErr
  rw [if_pos h.len]
  have e1 : formBad S.length 0 ps = none := formBad_of fun j p hj => by
    obtain ⟨j1, e⟩ := h.get hj
    rw [Nat.zero_add]
    rcases h.form j (by omega) j1 with c | ⟨a, b, c, d, _⟩
    · exact .inr (by rw [← e, c])
    · rw [e] at a b c d
      exact .inl ⟨a, b, c, mayB_ne d⟩
  have e2 : gapBad (min (maxL (ps.map (·.1))) (S.length + 1)) (ps.map (·.1)) = none := by
    unfold gapBad
    rw [List.find?_eq_none]
    intro r hr
    have hr2 := ranges_mem.mp hr
    obtain ⟨m1, m2⟩ := maxL_mem (l := ps.map (·.1)) (by simpa using hne)
    obtain ⟨p, hp, ep⟩ := List.mem_map.mp m1
    obtain ⟨j, hj⟩ := List.getElem?_of_mem hp
    obtain ⟨j1, e⟩ := h.get hj
    obtain ⟨z, z0, z1, ez⟩ := h.gap j r (by omega) j1 hr2.1 (by rw [e, ep]; omega)
    simp only [decide_not, Bool.not_eq_true', decide_eq_false_iff_not, Classical.not_not]
    exact List.mem_map.mpr ⟨_, cg_mem z0 (by rw [h.len]; exact z1), ez⟩
  have e3 : gamesBad S G ps 0 ps = none := gamesBad_of fun j p hj hp => by
    obtain ⟨j1, e⟩ := h.get hj
    rw [Nat.zero_add]
    rcases h.form j (by omega) j1 with c | ⟨a, b, c, d, f⟩
    · rw [e] at c; rw [c] at hp; exact absurd hp (by decide)
    · rw [e] at a b c d f
      refine ⟨fun z => ?_, fun z => ?_, d⟩
      · rcases f with f | f
        · rw [f] at z; exact absurd z.1 (by decide)
        · omega
      · obtain ⟨i, hi⟩ := List.getElem?_of_mem z
        have hij : i < j := by
          have := (List.getElem?_eq_some_iff.mp hi).1
          simp at this
          omega
        rw [List.getElem?_take_of_lt hij] at hi
        obtain ⟨i1, e'⟩ := h.get hi
        have := h.one i j (by omega) i1 (by omega) j1 (by rw [e, e']) (by rw [e']; exact a)
        omega
  simp only [e1, e2, e3]
def thruB (ps : List (Int × Int)) (x r : Int) : Bool := decide ((cg ps x).1 = 0) || decide (r < (cg ps x).1)
def stepH (ps : List (Int × Int)) (r x : Int) : Int := if thruB ps x r = true then x else (cg ps x).2
def heldF (ps : List (Int × Int)) (r : Int) : Nat → Int → Int
  | 0, x => x
  | k + 1, x => heldF ps r k (stepH ps r x)
theorem CupP.pos {S G : List Int} {ps : List (Int × Int)} (h : CupP S G ps) {x : Int} (x0 : 0 ≤ x) (x1 : x < S.length) : 0 ≤ (cg ps x).1 := by
  rcases h.form x x0 x1 with c | c
  · rw [c]; decide
  · omega
theorem CupP.step {S G : List Int} {ps : List (Int × Int)} (h : CupP S G ps) {r x : Int} (x0 : 0 ≤ x) (x1 : x < S.length) (n : thruB ps x r = false) : 1 ≤ (cg ps x).1 ∧ (cg ps x).1 ≤ r ∧ 0 ≤ (cg ps x).2 ∧ (cg ps x).2 < S.length ∧ (thruB ps (cg ps x).2 r = true ∨ (cg ps x).1 < (cg ps (cg ps x).2).1) := by
  unfold thruB at n
  simp at n
  rcases h.form x x0 x1 with c | ⟨a, b, c, d, f⟩
  · rw [c] at n; simp at n
  · refine ⟨a, n.2, b, c, ?_⟩
    rcases f with f | f
    · left; unfold thruB; rw [f]; simp
    · exact .inr f
theorem CupP.ne {S G : List Int} {ps : List (Int × Int)} (h : CupP S G ps) (n1 : 1 ≤ S.length) : ps ≠ [] := by
  intro z; have := h.len; rw [z] at this; simp at this; omega
theorem CupP.max {S G : List Int} {ps : List (Int × Int)} (h : CupP S G ps) (n1 : 1 ≤ S.length) : 0 ≤ maxL (ps.map (·.1)) ∧ maxL (ps.map (·.1)) < S.length := by
  obtain ⟨m1, m2⟩ := maxL_mem (l := ps.map (·.1)) (by simpa using h.ne n1)
  obtain ⟨p, hp, ep⟩ := List.mem_map.mp m1
  obtain ⟨j, hj⟩ := List.getElem?_of_mem hp
  obtain ⟨j1, e⟩ := h.get hj
  have := h.pos (by omega) j1
  have := h.top j (by omega) j1
  rw [← ep]
  rw [e] at *
  omega
def spRound : SpD := fun xs M P PX => ∃ (r l m : Int), xs = [.dat (.int r), .dat (.int l), .dat (.int m)] ∧ M = [] ∧ (if l ≤ r ∧ r ≤ m then P .non [] else PX "BadRound" (.int r) [])
def spLastR : SpD := fun xs M P _ => ∃ (ps : List (Int × Int)), xs = [.dat (pairsT ps)] ∧ M = [] ∧ ps ≠ [] ∧ ps.length ≤ 1000 ∧ P (.int (maxL (ps.map (·.1)))) []
def spRounds : SpD := fun xs M P _ => ∃ (ps : List (Int × Int)), xs = [.dat (pairsT ps)] ∧ M = [] ∧ ps ≠ [] ∧ ps.length ≤ 1000 ∧ P (.int (maxL (ps.map (·.1)))) []
def spThru : SpD := fun xs M P _ => ∃ (ps : List (Int × Int)) (x r : Int), xs = [.dat (pairsT ps), .dat (.int x), .dat (.int r)] ∧ M = [] ∧ 0 ≤ x ∧ x < ps.length ∧ P (.bl (thruB ps x r)) []
def spHeld : SpD := fun xs M P _ => ∃ (S G : List Int) (ps : List (Int × Int)) (x r : Int), xs = [.dat (pairsT ps), .dat (.int x), .dat (.int r)] ∧ M = [] ∧ CupP S G ps ∧ 0 ≤ x ∧ x < S.length ∧ P (.int (heldF ps r S.length x)) []
def spRowC : SpD := fun xs M P _ => ∃ (us vs : List Int), xs = [.dat (tupI us), .dat (.lst (vs.map .int))] ∧ M = [] ∧ us.length ≤ 1000 ∧ us = vs ∧ P (.bl true) []
def tdRound : TSd :=
  dIfS (dNot (dT (dChain rLeD rLeD (dVar 1) (dVar 0) (dVar 2)))) (dRaise "BadRound" (dVar 0)) (dNext)
abbrev N_cRound : List Str := ["r", "least", "most"]
def tdLastR : TSd :=
  dRet (dCB rMax1D (dCons (dF (dLc (dIter (dVar 0)) (dgTup 2 (dgsCons (dgName 1) (dgsCons (dgName 2) (dgsNil)))) (dYes) (dVar 1) [1, 2])) (dNil)))
abbrev N_cLastR : List Str := ["cup", "r", "_"]
def tdThru : TSd :=
  dRet (dOrV (dOp rEqD' (dOp rIxD (dOp rIxD (dVar 0) (dVar 1)) (dC (.int 0))) (dC (.int 0))) (dOp rGtD (dOp rIxD (dOp rIxD (dVar 0) (dVar 1)) (dC (.int 0))) (dVar 2)))
abbrev N_cThru : List Str := ["cup", "x", "r"]
def tdHeld : TSd :=
  dSeq (dSet 3 (dVar 1))
  (dSeq (dWhile (dNot (dTru (dCall spThru (dCons (dVar 0) (dCons (dVar 3) (dCons (dVar 2) (dNil))))))) (dSet 3 (dOp rIxD (dOp rIxD (dVar 0) (dVar 3)) (dC (.int 1)))))
  (dRet (dVar 3)))
abbrev N_cHeld : List Str := ["cup", "x", "r", "found"]
def tdRounds : TSd :=
  dRet (dCB rMax1D (dCons (dF (dLc (dIter (dVar 0)) (dgName 1) (dYes) (dOp rIxD (dVar 1) (dC (.int 0))) [1])) (dNil)))
abbrev N_cRounds : List Str := ["_law_cup_here", "_law_pair"]
def tdRowC : TSd :=
  dSeq (dIfS (dOr (dNot (dTru (dIsT "tuple" (dVar 0)))) (dT (dOp rNeD' (dVar 0) (dCB rTupD (dCons (dVar 1) (dNil)))))) (dRet (dC (.bl false))) (dNext))
  (dRet (dCB rAllD (dCons (dF (dLc (dIter (dVar 0)) (dgName 2) (dYes) (dAndV (dIsT "int" (dVar 2)) (dNotV (dIsT "bool" (dVar 2)))) [2])) (dNil))))
abbrev N_cRowC : List Str := ["_law_told", "_law_due", "_law_entry"]
end DL
namespace DL
open PySem L2 PySem.Spec PyProof.Rows
section
variable {X : Cx} {g : G} {W : WX} {pos pos' p p' : Pos} {e : Expr} {te : TE} {ta : TD} {w : Cs} {H H' : Hp} {σ : L2.St} {s : S}
def rSetJ (K : PySem.W.Frag) : List V → Hp → VK → Prop := fun xs H Q => ∃ (p : Addr) (ns : List Int), xs = [.ref p] ∧ SqL K H p (ns.map V.int) ∧ ns.length + 1 < scanBound ∧
  ∀ (l : Addr) (S : Int → Bool), H l = none → Q (.ref l) (upd H l (.set S (dedupI ns).length))
@[simp] def dLenSetL (ta : TD) : TD := fun s P X => ta s (fun d s1 => ∃ ns : List Int, d = .lst (ns.map .int) ∧ ns.length ≤ 1000 ∧ P (.int (dedupI ns).length) s1) X
end
end DL
namespace DL
open PySem L2
section
variable {X : Cx} {g : G} {W : WX}
def rInU (K : PySem.W.Frag) (neg : Bool) : R2 := fun x y H Q => ∃ d ds, Dp K H x d ∧ Dp K H y (.tuple ds) ∧ SeqAt.shaped d = true ∧ SeqAt.shaped (.tuple ds) = true ∧ Q (.bl (if neg then !ds.any fun z => PyData.eqv z d else ds.any fun z => PyData.eqv z d)) H
@[simp] def rInT (neg : Bool) : RD := fun x y P => match y with
  | .lst ds => okD x = true ∧ okD (.lst ds) = true ∧ P (.bl (if neg then !inD x ds else inD x ds))
  | .tup ds => okD x = true ∧ okD (.tup ds) = true ∧ P (.bl (if neg then !inD x ds else inD x ds))
  | _ => False
end
end DL
namespace DL
open PySem L2 PyProof.Rows
def stepL {α : Type} (b : Nat) (l : List α) : List α := (List.range ((l.length + 1 - b) / 2)).filterMap fun k => l[b + 2 * k]?
section
variable {X : Cx} {g : G} {W : WX} {pos p2 : Pos} {e st : Expr} {lo : Option Expr} {te : TE} {tl ts : TO} {ta : TD} {w : Cs} {H : Hp}
def tStep (K : PySem.W.Frag) (b : Nat) (te : TE) (tl ts : TO) : TE := fun σ H Q => te σ H fun x H1 => tl σ H1 fun l H2 => ts σ H2 fun o H3 => (l = some (b : Int) ∨ (l = none ∧ b = 0)) ∧ o = some 2 ∧ ∃ a xs, x = .ref a ∧ SqL K H3 a xs ∧ ∀ p, H3 p = none → Q (.ref p) (upd H3 p (.lst (stepL b xs)))
theorem Vals.pick {vs : List V} {us : List Value} (h : Vals vs us) (is : List Nat) : Vals (is.filterMap (vs[·]?)) (is.filterMap (us[·]?)) := by
  induction is with
  | nil => exact .nil
  | cons i is ih =>
    have key : ∀ {vs : List V} {us : List Value} {i : Nat}, Vals vs us → (vs[i]? = none ∧ us[i]? = none) ∨ ∃ v u, vs[i]? = some v ∧ us[i]? = some u ∧ RelV v u := by
      intro vs us i h
      induction h generalizing i with
      | nil => left; simp
      | cons r rs ih2 =>
        cases i with
        | zero => right; exact ⟨_, _, rfl, rfl, r⟩
        | succ i => simpa using ih2 (i := i)
    rcases key (i := i) h with ⟨e1, e2⟩ | ⟨v, u, e1, e2, r⟩
    · rw [List.filterMap_cons_none e1, List.filterMap_cons_none e2]; exact ih
    · rw [List.filterMap_cons_some e1, List.filterMap_cons_some e2]; exact .cons r ih
theorem stepL_pick {α : Type} (b : Nat) (l : List α) : stepL b l = ((List.range ((l.length + 1 - b) / 2)).map fun k => b + 2 * k).filterMap (l[·]?) := by
  unfold stepL
  rw [List.filterMap_map]
  rfl
@[simp] def dStepF (b : Nat) (ta : TD) : TDF := fun s P X => ta s (fun x s1 => ∃ ds, x = .lst ds ∧ P (stepL b ds) s1) X
theorem Reps.pick {ds : List D} {vs : List V} (h : Reps g w H ds vs) (is : List Nat) : Reps g w H (is.filterMap (ds[·]?)) (is.filterMap (vs[·]?)) := by
  induction is with
  | nil => exact Reps.nil
  | cons i is ih =>
    cases e : ds[i]? with
    | none =>
      have e2 : vs[i]? = none := by
        rw [List.getElem?_eq_none_iff] at e ⊢
        rw [h.len]; exact e
      rw [List.filterMap_cons_none e, List.filterMap_cons_none e2]; exact ih
    | some d =>
      obtain ⟨v, e2, r⟩ := h.get' e
      rw [List.filterMap_cons_some e, List.filterMap_cons_some e2]; exact Reps.cons r ih
theorem Reps.step (b : Nat) {ds : List D} {vs : List V} (h : Reps g w H ds vs) : Reps g w H (stepL b ds) (stepL b vs) := by
  rw [stepL_pick, stepL_pick, h.len]
  exact h.pick _
@[simp] def dAlias (i j : Nat) : TSd := fun s E _ => ∃ c, s.r[j]? = some (.cell c) ∧ E.nx { s with r := s.r.set i (.cell c) }
end
end DL
namespace HT
open PySem PySem.Spec PyProof.Rows
section
variable {prog : Program} {w : World} {A : Around} {E : Value → Shared → Prop} {s : Shared}
end
end HT
namespace DL
open PySem L2 PyProof.Rows
section
variable {X : Cx} {g : G} {W : WX} {pos p2 : Pos} {e st : Expr} {te : TE} {ts : TO} {ta : TD} {w : Cs} {H : Hp}
def tBackT (K : PySem.W.Frag) (te : TE) (ts : TO) : TE := fun σ H Q => te σ H fun x H1 => ts σ H1 fun o H2 => o = some (-1) ∧ ∃ a xs, x = .ref a ∧ SqT K H2 a xs ∧ ∀ p, H2 p = none → Q (.ref p) (upd H2 p (.tup xs.reverse))
variable {i : Int} {j : Nat} {cp up : Pos}
@[simp] def dBackT (ta : TD) : TD := fun s P X => ta s (fun x s1 => ∃ ds, x = .tup ds ∧ P (.tup ds.reverse) s1) X
end
end DL
namespace DLE
open PySem L2
theorem SqT.ne {X : Cx} {pins : List (Addr × Obj)} {σ : L2.St} {H : Hp} {s : Shared} {a b : Addr} {xs : List V} (I : Inv X pins σ H s) (h : SqT X.K H a xs) (f : FpOk X pins H b) : a ≠ b := fun z => by
  subst z
  obtain ⟨f0, f1, f2, f3, f4, f5⟩ := f
  rcases h with (h | ⟨o, h⟩) | ⟨o, its, n, h, _⟩
  · rw [h] at f0; cases f0
  · rw [h] at f0; cases f0
  · have hb := I.ok.mod.kin _ _ h
    rcases f3 with f3 | f3
    · exact I.ok.noex _ _ hb f3
    · exact absurd (Nat.lt_of_lt_of_le (Heap.lt_size hb) (Nat.le_trans I.ok.bsz f3)) (Nat.lt_irrefl _)
def IteS (K : PySem.W.Frag) (a : Addr) (xs : List V) : It :=
  ⟨fun i H => SqT K H a xs ∧ i < xs.length, fun i H v H' => ∃ T x, v = .ref T ∧ H T = none ∧ H' = upd H T (.tup [.int (i : Nat), x]) ∧ xs[i]? = some x, fun i H => SqT K H a xs ∧ xs.length = i⟩
def iEnumS (K : PySem.W.Frag) (ta : TA) : TI := fun σ H R => ta σ H fun vs H1 => ∃ a xs, vs = [.ref a] ∧ ((SqL K H1 a xs ∧ R (Ite K a) H1) ∨ (SqT K H1 a xs ∧ R (IteS K a xs) H1))
end DLE
namespace DL
open PySem L2
section
variable {X : Cx} {g : G} {W : WX} {pos : Pos} {a b c e : Expr} {ta tb tc : TD} {w : Cs} {H H' : Hp} {σ : L2.St} {s : S} {t : TDA}
@[simp] def seqC : D → Option (List D)
  | .lst ds => some ds
  | .tup ds => some ds
  | .ct ds => some ds
  | _ => none
@[simp] def dEnumC (t : TDA) : TDI := fun s P X => t s (fun xs s1 => ∃ d ds, xs = [.dat d] ∧ seqC d = some ds ∧ P (enumD ds) s1) X
@[simp] def rInX (neg : Bool) : RD := fun x y P => match y with
  | .ct ds => flatD x = true ∧ ds.all flatD = true ∧ P (.bl (if neg then !inD x ds else inD x ds))
  | .tup ds => flatD x = true ∧ ds.all flatD = true ∧ P (.bl (if neg then !inD x ds else inD x ds))
  | _ => False
@[simp] def dWith0 (t : TDA) : TDA := fun s P X => t s (fun xs s1 => P (xs ++ [.dat (.ct [])]) s1) X
theorem ArgOk.snoc {x : D} {v : V} (hx : Rep g w H x v) : ∀ {xs : List Sl} {vs : List V}, ArgOk g w H xs vs → ArgOk g w H (xs ++ [.dat x]) (vs ++ [v])
  | [], vs, h => by
    have h : vs = [] := h
    subst h
    exact ⟨v, [], rfl, hx, rfl⟩
  | .no :: _, _, h => h.elim
  | .dat d :: xs, _, h => by
    obtain ⟨v', r, e, h1, z⟩ := h
    subst e
    exact ⟨v', _, rfl, h1, ArgOk.snoc hx z⟩
  | .cell d :: xs, _, h => by
    obtain ⟨v', r, e, h1, z⟩ := h
    subst e
    exact ⟨v', _, rfl, h1, ArgOk.snoc hx z⟩
def Dfl0 (K : PySem.W.Frag) (fd : FuncData) (ps : List Str) : Prop := ∃ (ad : Addr) (ds : List Value), CtAt K ad [] ∧ Vals [V.ref ad] ds ∧ Binds K fd ps ds
end
end DL
namespace DL
open PySem L2
theorem wipe_idem {σ : L2.St} {vs : List Nat} : ∀ us : List Nat, (∀ i ∈ us, i ∈ vs) → L2.wipe (L2.wipe σ vs) us = L2.wipe σ vs := by
  intro us
  induction us with
  | nil => intro _; rfl
  | cons u us ih =>
    intro hu
    show (L2.wipe (L2.wipe σ vs) us).set u none = _
    rw [ih fun i hi => hu i (List.mem_cons_of_mem _ hi)]
    have hm : u ∈ vs := hu u List.mem_cons_self
    have key : ∀ ws : List Nat, u ∈ ws → (L2.wipe σ ws).set u none = L2.wipe σ ws := by
      intro ws
      induction ws with
      | nil => intro h; cases h
      | cons v ws ih2 =>
        intro h
        show ((L2.wipe σ ws).set v none).set u none = (L2.wipe σ ws).set v none
        by_cases e : u = v
        · subst e
          rw [List.set_set]
        · rw [List.set_comm _ _ (Ne.symm e)]
          rcases List.mem_cons.mp h with z | z
          · exact absurd z e
          · rw [ih2 z]
    exact key vs hm
section
variable {X : Cx} {g : G} {W : WX} {pos : Pos} {w : Cs} {H : Hp} {σ : L2.St} {s : S}
structure WalkT (g : G) (w : Cs) (H : Hp) (J : It) (ds : List D) : Prop where
  ex : ∃ (Gd : Hp → Prop) (Y : Nat → Hp → V → Hp → Prop), Walk J ds.length Gd Y ∧ (∀ H', (∀ a o, ¬ w.bad a → H a = some o → NT o → H' a = some o) → Gd H') ∧
    ∀ i H1 x H2, i < ds.length → (∀ a o, ¬ w.bad a → H a = some o → NT o → H1 a = some o) → Y i H1 x H2 → Same H1 H2 ∧ ∃ d, ds[i]? = some d ∧ Rep g w H2 d x
def lIt (g : G) (W : WX) (td : TDI) : TI := fun σ H R => ∃ w s P PX, RS g w H σ s ∧ td s P PX ∧ (∀ ds s' H' J, P ds s' → HExt w H H' → RS g w H' σ s' → WalkT g w H' J ds → R J H') ∧ XOk g w H σ PX W
def lc2D (gt : TGd) (tt : TDB) (wd1 : TDI) (gt1 : TGd) (tt1 : TDB) (te : TD) (vs vs1 : List Nat) (P : List D → S → Prop) : List D → List D → S → Prop
  | [], acc, s => P acc s
  | d :: ds, acc, s => gt d { s with r := wipeS s.r vs } fun s2 => tt s2 (fun b s3 => if b = true then wd1 s3 (fun ds1 s4 => lcD gt1 tt1 te vs1 (fun acc' s5 => lc2D gt tt wd1 gt1 tt1 te vs vs1 P ds acc' { s5 with r := s.r }) ds1 acc s4) noX else lc2D gt tt wd1 gt1 tt1 te vs vs1 P ds acc { s3 with r := s.r }) noX
@[simp] def dLc2 (wd : TDI) (gt : TGd) (tt : TDB) (wd1 : TDI) (gt1 : TGd) (tt1 : TDB) (te : TD) (vs vs1 : List Nat) : TDF := fun s P X => wd s (fun ds s1 => lc2D gt tt wd1 gt1 tt1 te vs vs1 P ds [] s1) X
end
end DL
namespace DL
open PySem L2
section
variable {X : Cx} {g : G} {W : WX} {pos p : Pos} {e : Expr} {es : List Expr} {t : TDA}
@[simp] def rReprD : RCd := fun xs M P => match xs with
  | [.dat (.bl b)] => P (.str (Str.ofString (if b = true then "True" else "False")))
  | _ => False
end
end DL
namespace DL
open PySem L2
section
variable {X : Cx} {g : G} {W : WX} {pos p : Pos} {c a b e : Expr} {es : List Expr} {t : TDA} {tc : TDB} {ta tb : TDF}
theorem FOk.ext {w : Cs} {H H1 : Hp} {σ : L2.St} {P : List D → S → Prop} {Q : VK} (k : FOk g w H σ P Q) (e : HExt w H H1) : FOk g w H1 σ P Q := fun ds s' H' p vs pp x n nb => k ds s' H' p vs pp (e.trans x) (fresh0 e nb n) nb
@[simp] def dIfE (t : TDB) (ta tb : TDF) : TDF := fun s P X => t s (fun b s1 => if b = true then ta s1 P X else tb s1 P X) X
@[simp] def dSortF (t : TDA) : TDF := fun s P X => t s (fun xs s1 => ∃ ns : List Int, xs = [.dat (.lst (ns.map .int))] ∧ P ((sortI ns).map .int) s1) X
end
end DL
namespace DL
open PySem L2 PySem.Spec PyProof.Rows
structure RecC (K : PySem.W.Frag) (C fI : Addr) (ns : List Str) : Prop where
  cl : L2.Cls K C
  na : ∀ f ∈ ns, NoAttr K C f
  mks : Mk K C fI
section
variable {X : Cx} {g : G} {W : WX} {pos : Pos} {e : Expr} {es : List Expr} {w : Cs} {H H' : Hp} {σ : L2.St} {s : S}
def spR (K : PySem.W.Frag) (ns : List Str) : Sp := fun vs H Q _ => ∃ (a C dx fI : Addr) (ws : List V), vs = .ref a :: ws ∧ ws.length = ns.length ∧ RecC K C fI ns ∧ H a = some (.ins C dx []) ∧ Q .non (upd H a (.ins C dx (ns.zip ws)))
theorem RepF.zip : ∀ {ns : List Str} {ds : List D} {vs : List V}, Reps g w H ds vs → RepF g w H (ns.zip ds) (ns.zip vs)
  | [], _, _, _ => by simp [RepF]
  | n :: ns, [], vs, h => by simp only [Reps] at h; subst h; simp [RepF]
  | n :: ns, d :: ds, vs, h => by
    simp only [Reps] at h
    obtain ⟨v, r, e, q, z⟩ := h
    subst e
    simp only [List.zip_cons_cons, RepF]
    exact ⟨v, _, rfl, q, RepF.zip z⟩
@[simp] def dMkR (c : Str) (ns : List Str) (t : TDA) : TD := fun s P X => t s (fun xs s1 => ∃ ds, xs = List.map Sl.dat ds ∧ ds.length = ns.length ∧ P (.ins c (ns.zip ds)) s1) X
end
end DL
namespace DL
open PySem L2 PyProof.Rows
section
variable {prog : Program} {w : World} {A : Around} {E : Value → Shared → Prop} {s : Shared}
end
def ltI : List Int → List Int → Bool := fun a b => HT.lexLt a b
def minRow : List (List Int) → List Int
  | [] => []
  | x :: xs => xs.foldl (fun a y => if ltI y a then y else a) x
section
variable {X : Cx} {g : G} {W : WX} {pos p : Pos} {e : Expr} {es : List Expr} {t : TDA}
def rMin2T (K : PySem.W.Frag) : List V → Hp → VK → Prop := fun vs H Q => ∃ a b ns ms, vs = [.ref a, .ref b] ∧ SqT K H a (ns.map V.int) ∧ SqT K H b (ms.map V.int) ∧ Q (if ltI ms ns then .ref b else .ref a) H
def rMinLT (K : PySem.W.Frag) : List V → Hp → VK → Prop := fun vs H Q => ∃ (a : Addr) (xs : List V) (nss : List (List Int)), vs = [.ref a] ∧ SqL K H a xs ∧ xs.length = nss.length ∧ 0 < nss.length ∧
  (∀ (i : Nat) (x : V), xs[i]? = some x → ∃ b, x = .ref b ∧ SqT K H b ((nss.getD i []).map V.int)) ∧ ∀ (i : Nat) (x : V), xs[i]? = some x → nss[i]? = some (minRow nss) → Q x H
@[simp] def rMin2TD : RCd := fun xs M P => match xs with
  | [.dat (.tup a), .dat (.tup b)] => ∃ ns ms : List Int, a = ns.map .int ∧ b = ms.map .int ∧ P (.tup ((if ltI ms ns then ms else ns).map .int))
  | _ => False
@[simp] def rMinLTD : RCd := fun xs M P => match xs with
  | [.dat (.lst ds)] => ∃ nss : List (List Int), ds = nss.map (fun ns => D.tup (ns.map .int)) ∧ 0 < nss.length ∧ P (.tup ((minRow nss).map .int))
  | _ => False
end
section
variable {P : Program} {wd : World} {K : PySem.W.Frag} {mg : Str → Option Value} {base : Heap}
end
end DL
namespace DL
open PySem L2
section
variable {X : Cx} {g : G} {W : WX} {pos : Pos} {a b c e i o : Expr} {ta tb tc tk tv td ty : TD} {w : Cs} {H H' : Hp} {σ : L2.St} {s : S}
theorem RepD.toK : ∀ {ks : List (Int × D)} {ws : List (Key × V)}, RepD g w H ks ws → RepK g w H encI ks ws
  | [], _, h => by simp only [RepD] at h; exact h
  | p :: ks, _, h => by
    simp only [RepD] at h
    obtain ⟨v, r, e, q, z⟩ := h
    exact ⟨v, r, e, q, RepD.toK z⟩
def dcD (gt : TGd) (tk tv : TD) (vs : List Nat) (P : List (Int × D) → S → Prop) : List D → List (Int × D) → S → Prop
  | [], acc, s => P acc s
  | d :: ds, acc, s => gt d { s with r := wipeS s.r vs } fun s2 => tk s2 (fun y s3 => ∃ k, y = .int k ∧ tv s3 (fun z s4 => acc.length < sizeLine ∧ dcD gt tk tv vs P ds (putD acc k z) { s4 with r := s.r }) noX) noX
@[simp] def dDc (wd : TDI) (gt : TGd) (tk tv : TD) (vs : List Nat) : TD := fun s P X => wd s (fun ds s1 => dcD gt tk tv vs (fun ks s2 => P (.dk ks) s2) ds [] s1) X
@[simp] def rIxDk (x y : D) (P : D → Prop) : Prop := match x, y with
  | .dk ks, .int k => ∃ d, valD ks k = some d ∧ P d
  | _, _ => False
@[simp] def dIxDk (ta tb : TD) : TD := fun s P X => ta s (fun x s1 => tb s1 (fun y s2 => rIxDk x y fun z => P z s2) X) X
theorem RepD.key : ∀ {ks : List (Int × D)} {ws : List (Key × V)}, RepD g w H ks ws → ∀ {i : Nat} {k : Key} {v : V}, ws[i]? = some (k, v) → ∃ j d, k = .inl j ∧ ks[i]? = some (j, d) ∧ Rep g w H d v
  | [], _, h, i, k, v, e => by simp only [RepD] at h; subst h; cases e
  | p :: ks, _, h, i, k, v, e => by
    simp only [RepD] at h
    obtain ⟨u, r, e1, q, z⟩ := h
    subst e1
    cases i with
    | zero => cases e; exact ⟨_, _, rfl, rfl, q⟩
    | succ i => exact RepD.key z e
theorem RepD.len {ks : List (Int × D)} {ws : List (Key × V)} (h : RepD g w H ks ws) : ws.length = ks.length := h.toK.len
@[simp] def dKeys (td : TD) : TDI := fun s P X => td s (fun d s1 => ∃ ks, d = .dk ks ∧ P (ks.map fun p => .int p.1) s1) X
def rValsL : V → Hp → VK → Prop := fun x H Q => ∃ (d : Addr) (kvs : List (Key × V)), x = .ref d ∧ Rd H d (.dK kvs) ∧ ∀ p, H p = none → Q (.ref p) (upd H p (.lst (kvs.map (·.2))))
def tListVals (te : TE) : TE := fun σ H Q => te σ H fun x H1 => rValsL x H1 Q
@[simp] def dListV (td : TD) : TDF := fun s P X => td s (fun d s1 => ∃ ks, d = .dk ks ∧ P (ks.map (·.2)) s1) X
end
end DL
namespace DL
open PySem L2
section
variable {X : Cx} {g : G} {W : WX} {w : Cs} {H : Hp} {σ : L2.St} {s : S} {t : TDA}
@[simp] def dLendB (n : Nat) (t : TDB) : TDB := fun s P _ => ∃ c ds, s.r[n]? = some (.cell c) ∧ s.M[c]? = some (some (.lst ds)) ∧
  t { r := s.r.map (thaw c ds), M := s.M.set c none } (fun b s1 => memNoL s1.M = true ∧ P b { r := s.r, M := s1.M.set c (some (.lst ds)) }) fun _ _ _ => False
end
end DL
namespace DL
open PySem L2 PyProof.Rows
section
variable {X : Cx} {g : G} {W : WX} {pos p : Pos} {e : Expr} {es : List Expr} {t : TDA}
abbrev leN : V × PyData → V × PyData → Bool := PySem.W.dataLe false (fun p : V × PyData => p.2)
def rSortN (K : PySem.W.Frag) : List V → Hp → VK → Prop := fun vs H Q => ∃ (a : Addr) (ps : List (V × PyData)), vs = [.ref a] ∧ SqL K H a (ps.map (·.1)) ∧ (∀ p ∈ ps, Dp K H p.1 p.2 ∧ SeqAt.shaped p.2 = true) ∧
  PySem.W.AllAlike (ps.map (·.2)) ∧ PySem.W.Sortable (ps.map (·.2)) ∧ ∀ q, H q = none → Q (.ref q) (upd H q (.lst ((ps.mergeSort leN).map (·.1))))
abbrev leD : D → D → Bool := PySem.W.dataLe false toPy
@[simp] def rSortND : RCd := fun xs M P => match xs with
  | [.dat (.lst ds)] => (∀ d ∈ ds, okD d = true) ∧ PySem.W.AllAlike (ds.map toPy) ∧ PySem.W.Sortable (ds.map toPy) ∧ P (.lst (ds.mergeSort leD))
  | _ => False
end
end DL
namespace DL
open PySem PySem.AutoSeq1
end DL
namespace DL
open PySem L2 PyProof.Rows
section
variable {X : Cx} {g : G} {W : WX} {e : Expr} {td : TD}
def rExtendT (K : PySem.W.Frag) : V → List V → Hp → VK → Prop := fun x vs H Q => ∃ l b xs zs, x = .ref l ∧ vs = [.ref b] ∧ H l = some (.lst xs) ∧ SqT K H b zs ∧ xs.length + zs.length ≤ sizeLine ∧ Q .non (upd H l (.lst (xs ++ zs)))
@[simp] def fExtendT : List D → D → (D → List D → Prop) → Prop := fun ds d P => ∃ es, d = .tup es ∧ ds.length + es.length ≤ sizeLine ∧ P .non (ds ++ es)
end
end DL
namespace DL
open PySem L2 PyProof.Rows
section
variable {X : Cx} {g : G} {W : WX} {pos p : Pos} {e : Expr} {es : List Expr} {t : TDA}
def rMinTI (K : PySem.W.Frag) : List V → Hp → VK → Prop := fun vs H Q => ∃ (a : Addr) (n : Int) (ns : List Int), vs = [.ref a] ∧ SqT K H a ((n :: ns).map V.int) ∧ Q (.int (ns.foldl min n)) H
@[simp] def rMin1TD : RCd := fun xs M P => match xs with
  | [.dat (.tup ds)] => ∃ (n : Int) (ns : List Int), ds = (n :: ns).map .int ∧ P (.int (ns.foldl min n))
  | _ => False
end
end DL
namespace DL
open PySem PySem.Spec PyProof.Rows L2
section
variable {X : Cx}
def rCombV : List V → Hp → VK → Prop := fun vs H Q => ∃ a b : Int, vs = [.int a, .int b] ∧ (0 ≤ a ∧ 0 ≤ b ∧ a < 2 ^ 64 ∧ a ≤ 18000) ∧ Q (.int (PySem.W.mcComb a b)) H
variable {g : G} {W : WX} {pos p : Pos} {e : Expr} {es : List Expr} {t : TDA}
@[simp] def rCombD : RCd := fun xs M P => match xs with
  | [.dat (.int a), .dat (.int b)] => (0 ≤ a ∧ 0 ≤ b ∧ a < 2 ^ 64 ∧ a ≤ 18000) ∧ P (.int (PySem.W.mcComb a b))
  | _ => False
end
end DL
namespace DL
open PySem L2
section
variable {X : Cx} {g : G} {W : WX} {pos : Pos} {a b c e i o : Expr} {ta tb tc tk tv td ty : TD} {w : Cs} {H H' : Hp} {σ : L2.St} {s : S}
def KOk (g : G) (w : Cs) (H : Hp) (σ : L2.St) (P : List (Int × D) → S → Prop) (Q : VK) : Prop := ∀ ks s' H' p kvs, P ks s' → HExt w H H' → H p = none → ¬ w.bad p → RS g (w.out p) H' σ s' → H' p = some (.dK kvs) → RepK g (w.out p) H' encI ks kvs → Q (.ref p) H'
abbrev TDK := S → (List (Int × D) → S → Prop) → KX → Prop
def lK (g : G) (W : WX) (td : TDK) : TE := fun σ H Q => ∃ w s P PX, RS g w H σ s ∧ td s P PX ∧ KOk g w H σ P Q ∧ XOk g w H σ PX W
def dcT (gt : TGd) (tt : TDB) (tk tv : TD) (vs : List Nat) (P : List (Int × D) → S → Prop) : List D → List (Int × D) → S → Prop
  | [], acc, s => P acc s
  | d :: ds, acc, s => gt d { s with r := wipeS s.r vs } fun s2 => tt s2 (fun b s3 => if b = true then tk s3 (fun y s4 => ∃ k, y = .int k ∧ tv s4 (fun z s5 => acc.length < sizeLine ∧ dcT gt tt tk tv vs P ds (putD acc k z) { s5 with r := s.r }) noX) noX else dcT gt tt tk tv vs P ds acc { s3 with r := s.r }) noX
@[simp] def dDcK (wd : TDI) (gt : TGd) (tt : TDB) (tk tv : TD) (vs : List Nat) : TDK := fun s P X => wd s (fun ds s1 => dcT gt tt tk tv vs P ds [] s1) X
@[simp] def dFrzK (t : TDK) : TD := fun s P X => t s (fun ks s1 => P (.dk ks) s1) X
@[simp] def dSetK (i : Nat) (t : TDK) : TSd := fun s E X => t s (fun ks s1 => E.nx { r := s1.r.set i (.cell s1.M.length), M := s1.M ++ [some (.dk ks)] }) X
@[simp] def dSetDc (i : Nat) (wd : TDI) (gt : TGd) (tk tv : TD) (vs : List Nat) : TSd := fun s E X => wd s (fun ds s1 => dcD gt tk tv vs (fun ks s2 => E.nx { r := s2.r.set i (.cell s2.M.length), M := s2.M ++ [some (.dk ks)] }) ds [] s1) X
end
section
variable {X : Cx}
end
section
variable {X : Cx} {g : G} {W : WX} {tk tv : TD}
end
end DL
namespace DL
open PySem PySem.Spec PyProof.Rows L2
section
variable {prog : Program} {w : World} {A : Around} {E : Value → Shared → Prop} {s : Shared}
end
section
variable {X : Cx} {g : G} {W : WX} {pos p : Pos} {e : Expr} {es : List Expr} {t : TDA}
def rSortTI (K : PySem.W.Frag) : List V → Hp → VK → Prop := fun vs H Q => ∃ (a : Addr) (ns : List Int), vs = [V.ref a] ∧ SqT K H a (ns.map V.int) ∧ ∀ (ns' : List Int) (p : Addr), ns'.Perm ns → ns'.Pairwise (· ≤ ·) → H p = none → Q (.ref p) (upd H p (.lst (ns'.map V.int)))
@[simp] def rSortTD : RCd := fun xs M P => match xs with
  | [.dat (.tup ds)] => ∃ ns : List Int, ds = ns.map D.int ∧ P (.lst ((sortI ns).map D.int))
  | _ => False
end
end DL
namespace DL
open PySem L2 PyProof.Rows GxR
section
variable {X : Cx} {g : G} {W : WX} {pos p gpos : Pos} {w : Cs} {H H' : Hp} {σ : L2.St} {s : S}
def allD (gt : TGd) (te : TD) (vs : List Nat) (P : D → S → Prop) : List D → S → Prop
  | [], s => P (.bl true) s
  | d :: ds, s => gt d { s with r := wipeS s.r vs } fun s2 => te s2 (fun y s3 => ∃ b, y = .bl b ∧ (b = true → allD gt te vs P ds { s3 with r := s.r }) ∧ (b = false → P (.bl false) { s3 with r := s.r })) noX
@[simp] def dAllG (wd : TDI) (gt : TGd) (te : TD) (vs : List Nat) : TD := fun s P X => wd s (fun ds s1 => allD gt te vs P ds s1) X
theorem tabbed_ext {T : Addr} {H1 H2 : Hp} (t : TabG H1 T) (h : Tabbed T H1 H2) : HExtC [] H1 H2 := by
  obtain ⟨⟨qs, hq, tq⟩, kp⟩ := h
  obtain ⟨ps, hp, tp⟩ := t
  refine ⟨fun a o _ e nt => ?_, fun a us _ e => ?_⟩
  · have ne : a ≠ T := fun z => by
      rw [z, hp] at e
      cases e
      exact nt
    rw [kp a ne]; exact e
  · by_cases z : a = T
    · exact ⟨qs, by rw [z]; exact hq, fun _ => tq⟩
    · exact ⟨us, by rw [kp a z]; exact e, id⟩
theorem lE_all {T : Addr} {wd : TDI} {gt : TGd} {te : TD} {vs ix : List Nat} (hT : T ∈ g.TA) (hix : ∀ i ∈ ix, i ∈ vs) :
    ∀ σ H Q, lE g W (dAllG wd gt te vs) σ H Q → tAllG T (lI g W wd) (lG g ix gt) (lE g W0 te) vs σ H Q := fun σ H Q ⟨w, s, P, PX, rs, h, k, x⟩ =>
  ⟨w, s, _, PX, rs, h, fun ds s1 H1 J q e1 rs1 wk => by
    obtain ⟨Gd, Y, wk, hG, hY⟩ := wk.ex
    have tb := rs1.mem.tabs T hT
    refine ⟨tb.2, fun H2 tab => ?_⟩
    have g2 := tabbed_ext tb.2 tab
    have rs2 := rs1.grown g2
    refine ⟨ds.length, fun H' => ∃ s', HExt w H H' ∧ RS g w H' σ s' ∧ P (.bl false) s', fun i H' => ∃ M, HExt w H1 H' ∧ RS g w H' σ { s1 with M := M } ∧ allD gt te vs P (ds.drop i) { s1 with M := M }, ⟨s1.M, g2.all_, rs2, q⟩, ?_, ?_, ?_⟩
    · rintro i H' hi ⟨M, e', rs', q'⟩
      have m' : Mv w H1 w H' := .of_ext e'
      by_cases hlt : i < ds.length
      · refine .inr ⟨hlt, wk.goes i H' hlt (hG w H' m'), fun x1 H3 y => ?_⟩
        obtain ⟨sm, d, ed, rp⟩ := hY i w H' x1 H3 hlt m' (fun a n => rs'.mem.fresh n) (wk.yields i H' x1 H3 hlt (hG w H' m') y)
        have ed2 : ds.drop i = d :: ds.drop (i + 1) := by
          rw [List.drop_eq_getElem_cons hlt]
          rw [List.getElem?_eq_getElem hlt] at ed
          cases ed
          rfl
        rw [ed2] at q'
        have rs3 := rs'.same sm
        have e3 : HExt w H1 H3 := e'.trans (.of_same sm)
        refine ⟨w, _, d, _, rs3.wipe vs, rp, q', fun s4 σ4 q4 rs4 hw => ?_⟩
        refine ⟨by rw [hw vs hix]; exact wipe_idem vs fun _ h => h, w, s4, _, noX, rs4, q4, fun y5 s5 H5 v5 q5 e5 rs5 r5 => ?_, xok0⟩
        obtain ⟨b, ey, yes, no⟩ := q5
        subst ey
        have ev : v5 = .bl b := by simpa only [Rep] using r5
        exact ⟨b, ev, fun hb => ⟨s5.M, e3.trans e5, rs3.mem' e5 rs5.mem, yes hb⟩, fun hb => ⟨_, e1.trans (e3.trans e5), rs3.mem' e5 rs5.mem, no hb⟩⟩
      · have e : i = ds.length := by omega
        subst e
        exact .inl ⟨rfl, wk.stops H' (hG w H' m')⟩
    · rintro H' ⟨M, e', rs', q'⟩
      rw [List.drop_length] at q'
      exact k _ _ H' _ q' (e1.trans e') rs' (by simp only [Rep])
    · rintro H' ⟨s', e', rs', q'⟩
      exact k _ _ H' _ q' e' rs' (by simp only [Rep]), x⟩
theorem de_allG {T c : Addr} {k : Nat} {elt tg iter : Expr} {scope : Scope} {own : List (Str × Nat)} {ix : List Nat} {wd : TDI} {gt : TGd} {te : TD} (hT : T ∈ g.TA) (hr : Room (k + 4) X.A) (hc : X.calm = true) (hN : X.N.Nodup) (hg : Gl X "all") (hm : X.mg "all" = none) (TB : TabB X.base X.mg c T) (hcode : X.env.code = .ref c)
    (hco : scope.isCoroutine = false) (hcell : ∀ y ∈ scope.names, y.2 ≠ .cell) (h0 : scope.names.lookup (".0" : Str) = some NameKind.local) (ok : BlkOk X.N X.env.scope scope own) (hi : PI X tg iter (lI g W wd))
    (hpg : ∀ (s : Shared) (H : Hp) (cl : List (Str × Addr)) (C : Addr) (code : Value) (fp : List Addr) (pn : List (Addr × Obj)), PG (X.gen s H scope (genEnv scope cl C code builtinsNs X.env) fp pn) tg (lG g ix gt))
    (hpe : ∀ (s : Shared) (H : Hp) (cl : List (Str × Addr)) (C : Addr) (code : Value) (fp : List Addr) (pn : List (Addr × Obj)), PE (X.gen s H scope (genEnv scope cl C code builtinsNs X.env) fp pn) elt (lE g W0 te))
    (hix : ∀ i ∈ ix, i ∈ own.map (·.2) := by decide) (hb : bootBuiltins "all" = some (.builtin "all") := by rfl) (hs : ∀ v, genFold iter X.env v = pure v := by intro _; rfl)
    (he : starEach [.GeneratorExp elt [⟨tg, iter, [], 0⟩] scope gpos] X.env = (false, eval (.GeneratorExp elt [⟨tg, iter, [], 0⟩] scope gpos) X.env) :: starEach [] X.env := by rfl) :
    PE X (.Call (.Name "all" p) [.GeneratorExp elt [⟨tg, iter, [], 0⟩] scope gpos] [] pos) (lE g W (dAllG wd gt te (own.map (·.2)))) :=
  pe_imp (pe_allG hr hc hN hg hm hb TB hcode hco hcell h0 ok hi hpg hpe hs he) (lE_all hT hix)
end
end DL
namespace DL
open PySem L2 PyProof.Rows GxR
structure FunC (K : PySem.W.Frag) (x qual : Str) (st : Stmt) (f : Addr) (fd : FuncData) (c : Addr) : Prop where
  ex : ∃ (oc : Value) (od : Option Addr) (kV doc pm : Value) (an : Option Addr) (ct : Value) (osl : Array (Option Value)),
    fd = PySem.W.fnOf x qual (defArgs st) (defBody st) (defScope st) .none kV doc pm an (.ref c) ct ∧ K.lookup f = some ⟨oc, od, .func fd, osl⟩ ∧ PySem.W.codeIn K (.ref c) qual = true
theorem funC_mk {K : PySem.W.Frag} {x qual : Str} {st : Stmt} {f c : Addr} {oc : Value} {od an : Option Addr} {osl : Array (Option Value)} {kV doc pm ct : Value} (l : K.lookup f = some ⟨oc, od, .func (PySem.W.fnOf x qual (defArgs st) (defBody st) (defScope st) .none kV doc pm an (.ref c) ct), osl⟩)
    (h : PySem.W.codeIn K (.ref c) qual = true) : FunC K x qual st f (PySem.W.fnOf x qual (defArgs st) (defBody st) (defScope st) .none kV doc pm an (.ref c) ct) c := ⟨oc, od, kV, doc, pm, an, ct, osl, rfl, l, h⟩
section
variable {P : Program} {wd : World} {K : PySem.W.Frag} {mg : Str → Option Value} {base : Heap}
theorem FunC.okX {x qual : Str} {st : Stmt} {f c : Addr} {fd : FuncData} {N ps : List Str} {k : Nat} {sp : Sp} (F : FunC K x qual st f fd c) (S : FnScope N ps (defScope st)) (len : ∀ vs H Q E, sp vs H Q E → vs.length = ps.length)
    (hbody : ∀ (A : Around) (outer : List Env) (s : Shared) (H : Hp) (vs : List V) (Q : VK) (E : XK), Room k (A.deeper (envOfC qual (defScope st) s.heap.objs.size f (.ref c))) → sp vs H Q E →
      ∃ t, PSs (cxOf (L2.CX P wd) P wd K mg base N qual (defScope st) f (.ref c) A outer s H E) (defBody st) t ∧ t { nx := fun _ H' => Q .non H', rt := Q } (start N vs) H) : FnOk P wd K mg base (L2.CX P wd) (k + 1) f fd ps sp := by
  obtain ⟨oc, od, kV, doc, pm, an, ct, osl, rfl, lk, hcd⟩ := F.ex
  exact fn_of lk hcd S len fun A outer s H vs Q E hr hsp => hbody A outer s H vs Q E hr hsp
theorem fn_okC {x qual : Str} {st : Stmt} {f c : Addr} {fd : FuncData} {N ps : List Str} {k : Nat} {spd : SpD} {td : TSd} (F : FunC K x qual st f fd c) (S : FnScope N ps (defScope st)) (g : G)
    (len : ∀ xs M P PX, spd xs M P PX → xs.length = ps.length) (hN : ps.length ≤ N.length)
    (body : ∀ (A : Around) (outer : List Env) (s : Shared) (H : Hp) (E : XK), Room k (A.deeper (PyProof.Rows.envOfC qual (defScope st) s.heap.objs.size f (.ref c))) →
      PSs (cxOf (L2.CX P wd) P wd K mg base N qual (defScope st) f (.ref c) A outer s H E) (defBody st) (lS g (fun cls d _ H => E cls d H) td))
    (math : ∀ xs M P PX, spd xs M P PX → td (startS N xs M) (endE M.length P) (endX M.length PX)) : FnOk P wd K mg base (L2.CX P wd) (k + 1) f fd ps (lSp g spd) := by
  refine F.okX S (fun vs H Q E ⟨w, xs, M, P, PX, ra, m, h, _⟩ => (ra.len).trans (len xs M P PX h)) fun A outer s H vs Q E hr ⟨w, xs, M, P, PX, ra, m, h, kq, kx⟩ => ?_
  refine ⟨_, body A outer s H E hr, w, startS N xs M, endE M.length P, endX M.length PX, rs_start (by rw [len xs M P PX h]; exact hN) ra m, math xs M P PX h, ⟨?_, fun _ _ _ _ h => h.elim, fun _ _ _ _ h => h.elim, ?_⟩, ?_⟩
  · rintro s' w' H' σ' ⟨al, p⟩ mv rs'
    obtain ⟨mb, kk⟩ := m.back mv rs'.mem al
    exact kq _ _ H' _ p mv.ext mb (by simp only [Rep])
  · rintro d s' w' H' σ' v ⟨al, p⟩ mv rs' rp
    obtain ⟨mb, kk⟩ := m.back mv rs'.mem al
    exact kq _ _ H' _ p mv.ext mb (Rep.gen kk rp)
  · rintro c x s' w' H' σ' dd v ⟨al, p⟩ mv rs' hd rp
    obtain ⟨mb, kk⟩ := m.back mv rs'.mem al
    exact kx _ _ _ H' _ _ p mv.ext mb ⟨(kk _ _ hd.1 hd.2).2, hd.2⟩ (Rep.gen kk rp)
end
end DL
namespace DL
open PySem PySem.Spec PyProof.Rows L2 LamX GxR
theorem walk_gen {l : PySem.W.OpenLaw} {n k : Nat} {q : Program} {loose : List Str} {XP : (Str → Option Value) → Heap → Prop} {YP : World → Heap → Prop} {d : DefRec} {K : Params → PySem.W.Frag} {CX : World → CXT} {x : Str}
    (hn : l.most = some n) (hn2 : n ≤ sizeLine) (hdf : d.params.defaults = []) (hr : Room k callerA) (hY : ∀ (w : World) (h : Heap), YP w h → (K w.params).In h)
    (F : ∀ (w : World) (mg mb : Str → Option Value) (fa : Addr) (h : Heap), (∃ lo mean, Top q lo mean mg mb h) → YP w h → (K w.params).In h → h.Ns mainGlobals mg → mg d.name = some (.ref fa) → LawAtS l w (K w.params) (CX w) k n x mg fa h)
    (hCX : ∀ (w : World) (H : Hp) (s : Shared) (e : Value) (s' : Shared), CX w [] H s (fun _ _ _ => False) e s' → False) :
    PySem.W.WalkO q loose XP YP l.row.toRowW d [] (fun f vs => PySem.call f vs) := by
  refine Att.attach_callB hn hdf fun w s₀ s₁ mg mb fa o pm cd doc a vs ns G Y ho hd hcd hmg hobj hints hlen hbits hg => ?_
  have KX := hY w _ Y
  obtain ⟨fd, cs, sp, hT, nT, C, hb, hsp, hF⟩ := F w mg mb fa _ ⟨_, _, G.T⟩ Y KX G.T.g hmg
  exact law_callTs KX G.T.g G.T.b G.T.builtins G.T.nolimit hg hT nT C G.T.bmain hobj hints (Nat.le_trans hlen hn2) hr hF hb (fun H hH hS => hsp H a ns hlen hbits hH hS) fun H e s' => hCX w H s₁ e s'
end DL
namespace DL
open PySem PySem.Spec PyProof.Rows L2 GxR
theorem tabs_empty {H : Hp} {cs : List (Addr × Addr)} (hT : ∀ p ∈ cs, H p.2 = some (.tbl #[])) : ∀ b, b ∈ cs.map (·.2) → TabG H b := fun b hb => by
  obtain ⟨p, hp, e⟩ := List.mem_map.mp hb
  subst e
  exact ⟨#[], hT p hp, trivial⟩
theorem notab {K : PySem.W.Frag} {h : Heap} {P : Addr} (X : K.In h) (nt : PySem.W.noTabs K = true) (e : h.get? P = some (PySem.W.tabObj #[])) : K.lookup P = none := by
  cases q : K.lookup P with
  | none => rfl
  | some o =>
    have e2 := X _ _ q
    rw [e] at e2
    cases e2
    have z := List.all_eq_true.mp nt _ (PySem.W.mem_of_lookupK q)
    exact absurd (show false = true from z) Bool.false_ne_true
theorem tabB_of {base : Heap} {mg : Str → Option Value} {c P : Addr} (t : LamX.TabB base mg c P) : TabB base mg c P := ⟨t.code, t.bm, t.gP⟩
end DL
namespace MR
open PySem L2 DL
inductive Res (α : Type) where
  | ok (a : α) | er (c : Str) (x : D) | no
section
variable {α β γ : Type}
def Res.bnd (r : Res α) (f : α → Res β) : Res β := match r with
  | .ok a => f a
  | .er c x => .er c x
  | .no => .no
@[simp] theorem ok_bnd {a : α} {f : α → Res β} : (Res.ok a).bnd f = f a := of_eq_true (eq_self _)
@[simp] theorem er_bnd {c : Str} {x : D} {f : α → Res β} : (Res.er c x : Res α).bnd f = .er c x := rfl
@[simp] theorem no_bnd {f : α → Res β} : (Res.no : Res α).bnd f = .no := rfl
theorem bnd_bnd {r : Res α} {f : α → Res β} {g : β → Res γ} : (r.bnd f).bnd g = r.bnd fun a => (f a).bnd g := by cases r <;> rfl
@[simp] theorem bnd_ok {r : Res α} : (r.bnd fun a => .ok a) = r := by cases r <;> rfl
def Res.tr (r : Res α) (h : Str → D → Res α) : Res α := match r with
  | .ok a => .ok a
  | .er c x => h c x
  | .no => .no
@[simp] theorem ok_tr {a : α} {h : Str → D → Res α} : (Res.ok a).tr h = .ok a := rfl
@[simp] theorem er_tr {c : Str} {x : D} {h : Str → D → Res α} : (Res.er c x : Res α).tr h = h c x := rfl
@[simp] theorem no_tr {h : Str → D → Res α} : (Res.no : Res α).tr h = .no := rfl
def wp (r : Res α) (Q : α → Prop) (X : Str → D → Prop) : Prop := match r with
  | .ok a => Q a
  | .er c x => X c x
  | .no => False
variable {r : Res α} {f : α → Res β} {Q Q' : α → Prop} {X X' : Str → D → Prop}
@[simp] theorem wp_ok {a : α} : wp (.ok a) Q X = Q a := rfl
@[simp] theorem wp_er {c : Str} {x : D} : wp (.er c x : Res α) Q X = X c x := rfl
theorem wp_bnd {Q : β → Prop} : wp (r.bnd f) Q X = wp r (fun a => wp (f a) Q X) X := by cases r <;> rfl
theorem wp_tr {h : Str → D → Res α} : wp (r.tr h) Q X = wp r Q (fun c x => wp (h c x) Q X) := by cases r <;> rfl
theorem wp_o {a : α} (h : wp (.ok a) Q X) : Q a := h
theorem wp_e {c : Str} {x : D} (h : wp (.er c x : Res α) Q X) : X c x := h
theorem wp_mono (h : wp r Q X) (k : ∀ a, Q a → Q' a) (kx : ∀ c x, X c x → X' c x) : wp r Q' X' := by
  cases r with
  | ok a => exact k a h
  | er c x => exact kx c x h
  | no => exact h
end
inductive VC where
  | no | dat (d : D) | own (x : CC)
abbrev AS := List VC
def SatV (s : S) (i : Nat) : VC → Prop
  | .no => True
  | .dat d => s.r[i]? = some (.dat d)
  | .own x => ∃ c, s.r[i]? = some (.cell c) ∧ s.M[c]? = some (some x)
structure Kt where
  nl : Bool
  pin : List (Nat × Nat)
abbrev Kt.off (κ : Kt) : Kt := ⟨false, κ.pin⟩
def Kt.free (κ : Kt) (i : Nat) : Bool := κ.pin.all fun p => p.1 != i
structure Sat (κ : Kt) (s : S) (A : AS) : Prop where
  len : s.r.length = A.length
  at_ : ∀ (i : Nat) (v : VC), A[i]? = some v → SatV s i v
  ne : ∀ (i j c : Nat) (x : CC) (v : VC), A[i]? = some (.own x) → s.r[i]? = some (.cell c) → s.r[j]? = some (.cell c) → A[j]? = some v → (v ≠ .no ∨ κ.free j = false) → i = j
  lt : ∀ (i c : Nat), s.r[i]? = some (.cell c) → c < s.M.length
  nl : κ.nl = true → memNoL s.M = true
  pin : ∀ p, p ∈ κ.pin → s.r[p.1]? = some (.cell p.2)
structure Fr (s s' : S) : Prop where
  r : s'.r = s.r
  len : s.M.length ≤ s'.M.length
  at_ : ∀ c, c < s.M.length → (∀ i : Nat, s.r[i]? ≠ some (.cell c)) → s'.M[c]? = s.M[c]?
theorem Fr.refl (s : S) : Fr s s := ⟨rfl, Nat.le_refl _, fun _ _ _ => rfl⟩
theorem Fr.trans {s s1 s2 : S} (a : Fr s s1) (b : Fr s1 s2) : Fr s s2 :=
  ⟨b.r.trans a.r, Nat.le_trans a.len b.len, fun c hc hn => (b.at_ c (Nat.lt_of_lt_of_le hc a.len) (fun i => by rw [a.r]; exact hn i)).trans (a.at_ c hc hn)⟩
abbrev CT (α : Type) := S → (α → S → Prop) → KX → Prop
abbrev AX := Str → D → AS → Prop
section
variable {κ : Kt} {α β γ : Type}
def J (κ : Kt) {α : Type} (t : CT α) (A : AS) (P : α → AS → Prop) (X : AX) : Prop := ∀ s P' PX', Sat κ s A → (∀ a A' s', P a A' → Sat κ s' A' → Fr s s' → P' a s') → (∀ c x A' s', X c x A' → Sat κ.off s' A' → PX' c x s') → t s P' PX'
def Pv {α : Type} (t : CT α) (A : AS) (a : α) : Prop := ∀ κ P X, P a A → J κ t A P X
def Rv {τ α : Type} (t : CT α) (A : AS) (e : τ → α) (r : Res τ) : Prop := ∀ κ P X, wp r (fun v => P (e v) A) (fun c x => X c x A) → J κ t A P X
theorem J.pv {t : CT α} {A : AS} {a : α} {P : α → AS → Prop} {X : AX} (h : Pv t A a) (k : P a A) : J κ t A P X := h κ P X k
theorem J.rv {τ : Type} {t : CT α} {A : AS} {e : τ → α} {r : Res τ} {P : α → AS → Prop} {X : AX} (h : Rv t A e r) (k : wp r (fun v => P (e v) A) (fun c x => X c x A)) : J κ t A P X := h κ P X k
theorem Pv.rv {τ : Type} {t : CT α} {A : AS} {e : τ → α} {v : τ} (h : Pv t A (e v)) : Rv t A e (.ok v) := fun κ P X k => h κ P X k
theorem Rv.eq {τ : Type} {t : CT α} {A : AS} {e : τ → α} {r r' : Res τ} (h : Rv t A e r) (q : r = r') : Rv t A e r' := q ▸ h
theorem J.mono {t : CT α} {A : AS} {P P1 : α → AS → Prop} {X X1 : AX} (h : J κ t A P X) (k : ∀ a A', P a A' → P1 a A') (kx : ∀ c x A', X c x A' → X1 c x A') : J κ t A P1 X1 :=
  fun s P' PX' hs hp hx => h s P' PX' hs (fun a A' s' p => hp a A' s' (k a A' p)) (fun c x A' s' p => hx c x A' s' (kx c x A' p))
theorem J.cut {τ : Type} {t : CT α} {A : AS} {P : α → AS → Prop} {X : AX} (I : τ → AS) (f : τ → α) (Q : τ → Prop) (h : J κ t A (fun a A1 => ∃ v, a = f v ∧ A1 = I v ∧ Q v) X) (k : ∀ v, Q v → P (f v) (I v)) : J κ t A P X :=
  h.mono (fun a A1 ⟨v, ea, eA, q⟩ => by subst ea; subst eA; exact k v q) fun _ _ _ h => h
theorem J.ret {A : AS} {P : α → AS → Prop} {X : AX} {a : α} (h : P a A) : J κ (fun s P _ => P a s) A P X := fun s P' PX' hs hp hx => hp a A s h hs (Fr.refl s)
def Ev2 (r : RD) (x y : D) (P : D → Prop) : Prop := ∃ z, (∀ P, P z → r x y P) ∧ P z
def Ev1 (r : RU) (x : D) (P : D → Prop) : Prop := ∃ z, (∀ P, P z → r x P) ∧ P z
variable {ta tb tc : TD} {A : AS} {P : D → AS → Prop} {PB : Bool → AS → Prop} {X : AX}
theorem pv_var (i : Nat) {d : D} (h : A[i]? = some (.dat d)) : Pv (dVar i) A d := fun κ P X k s P' PX' hs hp hx => ⟨d, hs.at_ i _ h, hp d A s k hs (Fr.refl s)⟩
theorem pv_c (d : D) : Pv (dC d) A d := fun κ P X k s P' PX' hs hp hx => hp d A s k hs (Fr.refl s)
theorem j_op {r : RD} (h : J κ ta A (fun x A1 => J κ tb A1 (fun y A2 => Ev2 r x y fun z => P z A2) X) X) : J κ (dOp r ta tb) A P X :=
  fun s P' PX' hs hp hx => h s _ _ hs (fun x A1 s1 h1 hs1 f1 => h1 s1 _ _ hs1 (fun y A2 s2 ⟨z, hz, p⟩ hs2 f2 => hz _ (hp _ _ _ p hs2 (f1.trans f2))) hx) hx
theorem j_un {r : RU} (h : J κ ta A (fun x A1 => Ev1 r x fun z => P z A1) X) : J κ (dUn r ta) A P X :=
  fun s P' PX' hs hp hx => h s _ _ hs (fun x A1 s1 ⟨z, hz, p⟩ hs1 f1 => hz _ (hp _ _ _ p hs1 f1)) hx
theorem pv_op {r : RD} {x y z : D} (ha : Pv ta A x) (hb : Pv tb A y) (hr : ∀ P, P z → r x y P) : Pv (dOp r ta tb) A z := fun κ P X k => j_op (ha κ _ _ (hb κ _ _ ⟨z, hr, k⟩))
theorem pv_un {r : RU} {x z : D} (ha : Pv ta A x) (hr : ∀ P, P z → r x P) : Pv (dUn r ta) A z := fun κ P X k => j_un (ha κ _ _ ⟨z, hr, k⟩)
def OpR (r : RD) {τ : Type} (e : τ → D) (x y : D) (m : Res τ) : Prop := ∀ P X, wp m (fun v => P (e v)) X → Ev2 r x y P
theorem OpR.j {r : RD} {τ : Type} {e : τ → D} {x y : D} {m : Res τ} (h : OpR r e x y m) {P : D → Prop} {X : Str → D → Prop} (k : wp m (fun v => P (e v)) X) : Ev2 r x y P := h P X k
theorem rv_op {r : RD} {σ1 σ2 τ : Type} {e1 : σ1 → D} {e2 : σ2 → D} {e : τ → D} {ra : Res σ1} {rb : Res σ2} {rc : σ1 → σ2 → Res τ} (ha : Rv ta A e1 ra) (hb : Rv tb A e2 rb) (hr : ∀ a b, OpR r e (e1 a) (e2 b) (rc a b)) :
    Rv (dOp r ta tb) A e (ra.bnd fun a => rb.bnd fun b => rc a b) := fun κ P X k => by
  rw [wp_bnd] at k
  refine j_op (ha κ _ _ (wp_mono k (fun a k => ?_) fun _ _ h => h))
  rw [wp_bnd] at k
  exact hb κ _ _ (wp_mono k (fun b k => (hr a b).j k) fun _ _ h => h)
theorem jb_t (h : J κ ta A (fun x A1 => ∃ k, x = .bl k ∧ PB k A1) X) : J κ (dT ta) A PB X := fun s P' PX' hs hp hx => h s _ _ hs (fun a A1 s1 ⟨k, e, p⟩ hs1 f1 => ⟨k, e, hp k A1 s1 p hs1 f1⟩) hx
theorem jb_tru (h : J κ ta A (fun x A1 => ∃ k, truD x = some k ∧ PB k A1) X) : J κ (dTru ta) A PB X := fun s P' PX' hs hp hx => h s _ _ hs (fun a A1 s1 ⟨k, e, p⟩ hs1 f1 => ⟨k, e, hp k A1 s1 p hs1 f1⟩) hx
theorem pb_t {b : Bool} (h : Pv ta A (.bl b)) : Pv (dT ta) A b := fun κ P X k => jb_t (h κ _ _ ⟨b, rfl, k⟩)
theorem pb_tru {d : D} {b : Bool} (h : Pv ta A d) (e : truD d = some b) : Pv (dTru ta) A b := fun κ P X k => jb_tru (h κ _ _ ⟨b, e, k⟩)
theorem rb_t {r : Res Bool} (h : Rv ta A D.bl r) : Rv (dT ta) A id r := fun κ P X k => jb_t (h κ _ _ (wp_mono k (fun v k => ⟨v, rfl, k⟩) fun _ _ h => h))
theorem rb_tru {σ : Type} {e : σ → D} {f : σ → Bool} {r : Res σ} (h : Rv ta A e r) (q : ∀ v, truD (e v) = some (f v)) : Rv (dTru ta) A id (r.bnd fun v => .ok (f v)) := fun κ P X k => by
  rw [wp_bnd] at k
  exact jb_tru (h κ _ _ (wp_mono k (fun v k => ⟨_, q v, k⟩) fun _ _ h => h))
variable {t u : TDB}
theorem jb_or (h : J κ t A (fun b A1 => if b = true then PB true A1 else J κ u A1 PB X) X) : J κ (dOr t u) A PB X :=
  fun s P' PX' hs hp hx => h s _ _ hs (fun b A1 s1 h1 hs1 f1 => by
    cases b with
    | false => exact (if_neg Bool.false_ne_true).mpr ((if_neg Bool.false_ne_true).mp h1 s1 _ _ hs1 (fun d A2 s2 p hs2 f2 => hp d A2 s2 p hs2 (f1.trans f2)) hx)
    | true => exact (if_pos rfl).mpr (hp _ _ _ ((if_pos rfl).mp h1) hs1 f1)) hx
theorem jb_not (h : J κ t A (fun b A1 => PB (!b) A1) X) : J κ (dNot t) A PB X := fun s P' PX' hs hp hx => h s _ _ hs (fun b A1 s1 h1 hs1 f1 => hp _ _ _ h1 hs1 f1) hx
theorem pb_not {b : Bool} (ht : Pv t A b) : Pv (dNot t) A (!b) := fun κ P X k => jb_not (ht κ _ _ k)
abbrev andR (a b : Res Bool) : Res Bool := a.bnd fun x => cond x b (.ok false)
abbrev orR (a b : Res Bool) : Res Bool := a.bnd fun x => cond x (.ok true) b
abbrev notR (a : Res Bool) : Res Bool := a.bnd fun x => .ok (!x)
theorem rb_or {a b : Res Bool} (ht : Rv t A id a) (hu : Rv u A id b) : Rv (dOr t u) A id (orR a b) := fun κ P X k => by
  rw [wp_bnd] at k
  refine jb_or (ht κ _ _ (wp_mono k (fun x k => ?_) fun _ _ h => h))
  cases x with
  | true => exact (if_pos rfl).mpr k
  | false => exact (if_neg Bool.false_ne_true).mpr (hu κ _ _ k)
theorem rb_not {a : Res Bool} (ht : Rv t A id a) : Rv (dNot t) A id (notR a) := fun κ P X k => by
  rw [wp_bnd] at k
  exact jb_not (ht κ _ _ k)
theorem j_andV (h : J κ ta A (fun x A1 => ∃ k, x = .bl k ∧ if k = true then J κ tb A1 P X else P (.bl false) A1) X) : J κ (dAndV ta tb) A P X := fun s P' PX' hs hp hx => h s _ _ hs (fun x A1 s1 ⟨k, e, h⟩ hs1 f1 => ⟨k, e, by
    cases k with
    | true => rw [if_pos rfl] at h ⊢; exact h s1 _ _ hs1 (fun d A2 s2 p hs2 f2 => hp d A2 s2 p hs2 (f1.trans f2)) hx
    | false => rw [if_neg Bool.false_ne_true] at h ⊢; exact hp _ _ _ h hs1 f1⟩) hx
theorem j_notV (h : J κ ta A (fun x A1 => ∃ k, x = .bl k ∧ P (.bl (!k)) A1) X) : J κ (dNotV ta) A P X := fun s P' PX' hs hp hx => h s _ _ hs (fun x A1 s1 ⟨k, e, h⟩ hs1 f1 => ⟨k, e, hp _ _ _ h hs1 f1⟩) hx
theorem rv_andV {a b : Res Bool} (ha : Rv ta A D.bl a) (hb : Rv tb A D.bl b) : Rv (dAndV ta tb) A D.bl (andR a b) := fun κ P X k => by
  rw [wp_bnd] at k
  refine j_andV (ha κ _ _ (wp_mono k (fun x k => ⟨x, rfl, ?_⟩) fun _ _ h => h))
  cases x with
  | true => exact (if_pos rfl).mpr (hb κ _ _ k)
  | false => exact (if_neg Bool.false_ne_true).mpr k
theorem rv_notV {a : Res Bool} (ha : Rv ta A D.bl a) : Rv (dNotV ta) A D.bl (notR a) := fun κ P X k => by
  rw [wp_bnd] at k
  exact j_notV (ha κ _ _ (wp_mono k (fun x k => ⟨x, rfl, k⟩) fun _ _ h => h))
theorem j_if (h : J κ t A (fun b A1 => if b = true then J κ ta A1 P X else J κ tb A1 P X) X) : J κ (dIf t ta tb) A P X :=
  fun s P' PX' hs hp hx => h s _ _ hs (fun b A1 s1 h1 hs1 f1 => by
    cases b with
    | true => exact (if_pos rfl).mpr ((if_pos rfl).mp h1 s1 _ _ hs1 (fun d A2 s2 p hs2 f2 => hp d A2 s2 p hs2 (f1.trans f2)) hx)
    | false => exact (if_neg Bool.false_ne_true).mpr ((if_neg Bool.false_ne_true).mp h1 s1 _ _ hs1 (fun d A2 s2 p hs2 f2 => hp d A2 s2 p hs2 (f1.trans f2)) hx)) hx
theorem j_chain {r r' : RD} (h : J κ ta A (fun x A1 => J κ tb A1 (fun y A2 => Ev2 r x y fun z => ∃ k, z = .bl k ∧ if k = true then J κ tc A2 (fun u A3 => Ev2 r' y u fun z' => P z' A3) X else P (.bl false) A2) X) X) : J κ (dChain r r' ta tb tc) A P X := fun s P' PX' hs hp hx =>
  h s _ _ hs (fun x A1 s1 h1 hs1 f1 => h1 s1 _ _ hs1 (fun y A2 s2 ⟨z, hz, k, e, h2⟩ hs2 f2 => hz _ ⟨k, e, by
    cases k with
    | true =>
      rw [if_pos rfl] at h2 ⊢
      exact h2 s2 _ _ hs2 (fun u A3 s3 ⟨z', hz', p⟩ hs3 f3 => hz' _ (hp _ _ _ p hs3 ((f1.trans f2).trans f3))) hx
    | false => rw [if_neg Bool.false_ne_true] at h2 ⊢; exact hp _ _ _ h2 hs2 (f1.trans f2)⟩) hx) hx
theorem pv_chain {r r' : RD} {x y u : D} {b c : Bool} (ha : Pv ta A x) (hb : Pv tb A y) (hc : Pv tc A u) (h1 : ∀ P, P (.bl b) → r x y P) (h2 : ∀ P, P (.bl c) → r' y u P) : Pv (dChain r r' ta tb tc) A (.bl (b && c)) := fun κ P X k =>
  j_chain (ha κ _ _ (hb κ _ _ ⟨_, h1, b, rfl, by
    cases b with
    | true => rw [if_pos rfl]; exact hc κ _ _ ⟨_, h2, k⟩
    | false => rw [if_neg Bool.false_ne_true]; exact k⟩))
end
end MR
namespace MR
open PySem L2 DL
theorem set_get {α : Type} {l : List α} {i j : Nat} {x y : α} (h : (l.set i x)[j]? = some y) : (i = j ∧ y = x) ∨ (i ≠ j ∧ l[j]? = some y) := by
  by_cases e : i = j
  · subst e
    rw [List.getElem?_set] at h
    simp at h
    exact .inl ⟨rfl, h.2.symm⟩
  · rw [List.getElem?_set_ne e] at h
    exact .inr ⟨e, h⟩
theorem memNoL_set {M : Mem} {c : Nat} {x : Option CC} (h : memNoL M = true) (hx : (match x with | some y => ccNoL y | none => true) = true) : memNoL (M.set c x) = true := by
  induction M generalizing c with
  | nil => simp
  | cons a M ih =>
    cases c with
    | zero =>
      cases x with
      | none => cases a <;> simp_all
      | some y => cases a <;> simp_all
    | succ c => cases a <;> simp_all
theorem memNoL_app {M : Mem} {x : CC} (h : memNoL M = true) (hx : ccNoL x = true) : memNoL (M ++ [some x]) = true := by
  induction M with
  | nil => simp_all
  | cons a M ih => cases a <;> simp_all
theorem Kt.free_ne {κ : Kt} {i : Nat} (h : κ.free i = true) {p : Nat × Nat} (hp : p ∈ κ.pin) : i ≠ p.1 := by
  unfold Kt.free at h
  have := List.all_eq_true.mp h p hp
  simp at this
  exact fun e => this e.symm
section
variable {κ : Kt} {s : S} {A : AS}
theorem Sat.off (h : Sat κ s A) : Sat κ.off s A := ⟨h.len, h.at_, h.ne, h.lt, fun e => (Bool.false_ne_true e).elim, h.pin⟩
theorem Sat.own (h : Sat κ s A) {i : Nat} {x : CC} (e : A[i]? = some (.own x)) : ∃ c, s.r[i]? = some (.cell c) ∧ s.M[c]? = some (some x) := h.at_ i _ e
theorem Sat.setOwn (h : Sat κ s A) {i c : Nat} {x x' : CC} (e : A[i]? = some (.own x)) (ec : s.r[i]? = some (.cell c)) (hx : κ.nl = true → ccNoL x' = true) :
    Sat κ { s with M := s.M.set c (some x') } (A.set i (.own x')) := by
  have hc : c < s.M.length := h.lt i c ec
  refine ⟨by simp [h.len], fun j v ev => ?_, fun j k c' y v ej ec1 ec2 ev hv => ?_, fun j c' e' => by simpa using h.lt j c' e', fun q => memNoL_set (h.nl q) (hx q), h.pin⟩
  · rcases set_get ev with ⟨ej, e2⟩ | ⟨ej, e2⟩
    · subst ej; subst e2
      exact ⟨c, ec, List.getElem?_set_self hc⟩
    · have z := h.at_ j v e2
      cases v with
      | no => trivial
      | dat d => exact z
      | own y =>
        obtain ⟨c', z1, z2⟩ := z
        refine ⟨c', z1, ?_⟩
        have : c ≠ c' := fun q => ej (h.ne i j c x _ e ec (by rw [q]; exact z1) e2 (.inl (by simp)))
        show (s.M.set c _)[c']? = _
        rw [List.getElem?_set_ne this]
        exact z2
  · have hj : ∃ y', A[j]? = some (.own y') := by
      rcases set_get ej with ⟨q, _⟩ | ⟨_, q⟩
      · subst q; exact ⟨x, e⟩
      · exact ⟨y, q⟩
    obtain ⟨y', ej'⟩ := hj
    rcases set_get ev with ⟨q, _⟩ | ⟨_, q⟩
    · subst q
      exact h.ne j i c' y' _ ej' ec1 ec2 e (.inl (by simp))
    · exact h.ne j k c' y' v ej' ec1 ec2 q hv
theorem Sat.setSl (h : Sat κ s A) {i : Nat} {sl : Sl} {v0 : VC} (hf : κ.free i = true) (hv : (∃ d, sl = .dat d ∧ v0 = .dat d) ∨ (sl = .no ∧ v0 = .no)) : Sat κ { s with r := s.r.set i sl } (A.set i v0) := by
  have nc : ∀ j c, (s.r.set i sl)[j]? = some (.cell c) → i ≠ j ∧ s.r[j]? = some (.cell c) := fun j c e => by
    rcases set_get e with ⟨_, q⟩ | q
    · rcases hv with ⟨d, hd, _⟩ | ⟨hd, _⟩ <;> rw [hd] at q <;> cases q
    · exact q
  refine ⟨by simp [h.len], fun j v ev => ?_, fun j k c y v ej ec1 ec2 ev hv2 => ?_, fun j c e => h.lt j c (nc j c e).2, h.nl, fun p hp => ?_⟩
  · rcases set_get ev with ⟨q, e2⟩ | ⟨q, e2⟩
    · subst q; subst e2
      rcases hv with ⟨d, hd, hv⟩ | ⟨hd, hv⟩
      · rw [hd, hv]
        show (s.r.set i _)[i]? = _
        have : i < s.r.length := by
          have z := (List.getElem?_eq_some_iff.mp ev).1
          rw [h.len]; simpa using z
        exact List.getElem?_set_self this
      · rw [hv]; trivial
    · have z := h.at_ j v e2
      cases v with
      | no => trivial
      | dat d => show (s.r.set i _)[j]? = _; rw [List.getElem?_set_ne q]; exact z
      | own y =>
        obtain ⟨c, z1, z2⟩ := z
        exact ⟨c, by show (s.r.set i _)[j]? = _; rw [List.getElem?_set_ne q]; exact z1, z2⟩
  · have a := nc j c ec1
    have b := nc k c ec2
    rcases set_get ej with ⟨q, _⟩ | ⟨_, q⟩
    · exact (a.1 q).elim
    · rcases set_get ev with ⟨q2, _⟩ | ⟨_, q2⟩
      · exact (b.1 q2).elim
      · exact h.ne j k c y v q a.2 b.2 q2 hv2
  · show (s.r.set i _)[p.1]? = _
    rw [List.getElem?_set_ne (Kt.free_ne hf hp)]
    exact h.pin p hp
theorem Sat.setDat (h : Sat κ s A) {i : Nat} {d : D} (hf : κ.free i = true) : Sat κ { s with r := s.r.set i (.dat d) } (A.set i (.dat d)) := h.setSl hf (.inl ⟨d, rfl, rfl⟩)
theorem Sat.setNo (h : Sat κ s A) {i : Nat} (hf : κ.free i = true) : Sat κ { s with r := s.r.set i .no } (A.set i .no) := h.setSl hf (.inr ⟨rfl, rfl⟩)
theorem Sat.putCell (h : Sat κ s A) {i c : Nat} {x : CC} (hf : κ.free i = true) (hn : ∀ j : Nat, s.r[j]? ≠ some (Sl.cell c)) (hc : s.M[c]? = some (some x)) : Sat κ { s with r := s.r.set i (.cell c) } (A.set i (.own x)) := by
  refine ⟨by simp [h.len], fun j v ev => ?_, fun j k c' y v ej ec1 ec2 ev hv2 => ?_, fun j c' e => ?_, h.nl, fun p hp => ?_⟩
  · rcases set_get ev with ⟨q, e2⟩ | ⟨q, e2⟩
    · subst q; subst e2
      have : i < s.r.length := by
        have z := (List.getElem?_eq_some_iff.mp ev).1
        rw [h.len]; simpa using z
      exact ⟨c, List.getElem?_set_self this, hc⟩
    · have z := h.at_ j v e2
      cases v with
      | no => trivial
      | dat d => show (s.r.set i _)[j]? = _; rw [List.getElem?_set_ne q]; exact z
      | own y =>
        obtain ⟨c', z1, z2⟩ := z
        exact ⟨c', by show (s.r.set i _)[j]? = _; rw [List.getElem?_set_ne q]; exact z1, z2⟩
  · rcases set_get ec1 with ⟨q1, e1⟩ | ⟨q1, e1⟩
    · cases e1
      rcases set_get ec2 with ⟨q2, e2⟩ | ⟨q2, e2⟩
      · exact q1.symm.trans q2
      · exact (hn k e2).elim
    · rcases set_get ec2 with ⟨q2, e2⟩ | ⟨q2, e2⟩
      · cases e2
        exact (hn j e1).elim
      · rcases set_get ej with ⟨q, _⟩ | ⟨_, q⟩
        · exact (q1 q).elim
        · rcases set_get ev with ⟨q3, _⟩ | ⟨_, q3⟩
          · exact (q2 q3).elim
          · exact h.ne j k c' y v q e1 e2 q3 hv2
  · rcases set_get e with ⟨_, q⟩ | ⟨_, q⟩
    · cases q; exact (List.getElem?_eq_some_iff.mp hc).1
    · exact h.lt j c' q
  · show (s.r.set i _)[p.1]? = _
    rw [List.getElem?_set_ne (Kt.free_ne hf hp)]
    exact h.pin p hp
theorem Sat.app (h : Sat κ s A) {x : CC} (hx : κ.nl = true → ccNoL x = true) : Sat κ { s with M := s.M ++ [some x] } A := by
  refine ⟨h.len, fun j v ev => ?_, h.ne, fun j c e => by have := h.lt j c e; simp; omega, fun q => memNoL_app (h.nl q) (hx q), h.pin⟩
  have z := h.at_ j v ev
  cases v with
  | no => trivial
  | dat d => exact z
  | own y =>
    obtain ⟨c', z1, z2⟩ := z
    exact ⟨c', z1, by show (s.M ++ _)[c']? = _; rw [List.getElem?_append_left (h.lt j c' z1)]; exact z2⟩
theorem Sat.fresh (h : Sat κ s A) : ∀ j : Nat, s.r[j]? ≠ some (.cell s.M.length) := fun j e => Nat.lt_irrefl _ (h.lt j _ e)
inductive Le : AS → AS → Prop where
  | nil : Le [] []
  | keep {v : VC} {A B : AS} (h : Le A B) : Le (v :: A) (v :: B)
  | drop {v : VC} {A B : AS} (h : Le A B) : Le (v :: A) (.no :: B)
theorem Le.at_ : ∀ {A B : AS}, Le A B → A.length = B.length ∧ ∀ (i : Nat) (v : VC), B[i]? = some v → A[i]? = some v ∨ (v = .no ∧ ∃ u, A[i]? = some u)
  | _, _, .nil => ⟨rfl, fun i v e => by simp at e⟩
  | _, _, .keep h => by
    obtain ⟨l, z⟩ := h.at_
    refine ⟨by simp [l], fun i v e => ?_⟩
    cases i with
    | zero => exact .inl e
    | succ i => exact z i v e
  | _, _, .drop (v := u) h => by
    obtain ⟨l, z⟩ := h.at_
    refine ⟨by simp [l], fun i v e => ?_⟩
    cases i with
    | zero => simp at e; exact .inr ⟨e.symm, u, rfl⟩
    | succ i => exact z i v e
theorem Le.refl : ∀ A : AS, Le A A
  | [] => .nil
  | _ :: A => .keep (Le.refl A)
theorem Sat.le {B : AS} (h : Sat κ s A) (l : Le A B) : Sat κ s B := by
  obtain ⟨ll, z⟩ := l.at_
  refine ⟨h.len.trans ll, fun j v ev => ?_, fun j k c y v ej ec1 ec2 ev hv => ?_, h.lt, h.nl, h.pin⟩
  · rcases z j v ev with q | ⟨q, _⟩
    · exact h.at_ j v q
    · subst q; trivial
  · rcases z j _ ej with q | ⟨q, _⟩
    · rcases z k v ev with q2 | ⟨q2, _⟩
      · exact h.ne j k c y v q ec1 ec2 q2 hv
      · subst q2
        have hu : ∃ u, A[k]? = some u := (z k .no ev).elim (fun q => ⟨_, q⟩) (fun q => q.2)
        obtain ⟨u, hu⟩ := hu
        exact h.ne j k c y u q ec1 ec2 hu (hv.elim (fun q => absurd rfl q) .inr)
    · cases q
theorem Sat.thaw (h : Sat κ s A) {i c : Nat} {ds : List D} (hf : κ.free i = true) (e : A[i]? = some (.own (.lst ds))) (ec : s.r[i]? = some (.cell c)) : Sat κ { r := s.r.map (DL.thaw c ds), M := s.M.set c none } (A.set i (.dat (.lst ds))) := by
  have hc := h.lt i c ec
  have tc : ∀ (j c' : Nat), (s.r.map (DL.thaw c ds))[j]? = some (.cell c') → c' ≠ c ∧ s.r[j]? = some (.cell c') := fun j c' q => by
    rw [List.getElem?_map] at q
    cases z : s.r[j]? with
    | none => rw [z] at q; cases q
    | some y =>
      rw [z] at q
      cases y with
      | no => simp at q
      | dat d => simp at q
      | cell k =>
        simp at q
        by_cases b : k = c
        · rw [if_pos b] at q; simp at q
        · rw [if_neg b] at q; simp at q; subst q; exact ⟨b, rfl⟩
  refine ⟨by simp [h.len], fun j v ev => ?_, fun j k c' y v ej ec1 ec2 ev hv => ?_, fun j c' q => ?_, fun q => memNoL_set (h.nl q) rfl, fun p hp => ?_⟩
  · rcases set_get ev with ⟨q, e2⟩ | ⟨q, e2⟩
    · subst q; subst e2
      show (s.r.map _)[i]? = _
      rw [List.getElem?_map, ec]
      simp
    · have z := h.at_ j v e2
      cases v with
      | no => trivial
      | dat d =>
        show (s.r.map _)[j]? = _
        have z : s.r[j]? = some (.dat d) := z
        rw [List.getElem?_map, z]; rfl
      | own y =>
        obtain ⟨c', z1, z2⟩ := z
        have ne : c ≠ c' := fun q2 => q (h.ne i j c _ _ e ec (by rw [q2]; exact z1) e2 (.inl (by simp)))
        refine ⟨c', ?_, ?_⟩
        · show (s.r.map _)[j]? = _
          rw [List.getElem?_map, z1]
          simp [Ne.symm ne]
        · show (s.M.set c none)[c']? = _
          rw [List.getElem?_set_ne ne]; exact z2
  · have a := tc j c' ec1
    have b := tc k c' ec2
    rcases set_get ej with ⟨_, q⟩ | ⟨_, q⟩
    · cases q
    · rcases set_get ev with ⟨q2, _⟩ | ⟨_, q2⟩
      · subst q2
        rw [ec] at b
        exact absurd (by simpa using b.2.symm) b.1
      · exact h.ne j k c' y v q a.2 b.2 q2 hv
  · have := h.lt j c' (tc j c' q).2
    simpa using this
  · show (s.r.map _)[p.1]? = _
    have z := h.pin p hp
    rw [List.getElem?_map, z]
    have : p.2 ≠ c := fun q => by
      have hl : p.1 < A.length := by rw [← h.len]; exact (List.getElem?_eq_some_iff.mp z).1
      obtain ⟨v, hv⟩ : ∃ v, A[p.1]? = some v := ⟨_, List.getElem?_eq_getElem hl⟩
      exact Kt.free_ne hf hp (h.ne i p.1 c _ v e ec (by rw [← q]; exact z) hv (.inr (by
        cases z : κ.free p.1 with
        | false => rfl
        | true => exact absurd rfl (Kt.free_ne z hp))))
    simp [this]
end
end MR
namespace MR
open PySem L2 DL
inductive AA where
  | dat (d : D) | cell (i : Nat) | new (x : CC)
def ArgsOk (m : Nat) (s : S) : List AA → List Sl → Prop
  | [], xs => xs = []
  | .dat d :: as, xs => ∃ r, xs = .dat d :: r ∧ ArgsOk m s as r
  | .cell i :: as, xs => ∃ c r, xs = .cell c :: r ∧ s.r[i]? = some (.cell c) ∧ ArgsOk m s as r
  | .new x :: as, xs => ∃ c r, xs = .cell c :: r ∧ s.M[c]? = some (some x) ∧ m ≤ c ∧ (∀ j : Nat, s.r[j]? ≠ some (Sl.cell c)) ∧ Sl.cell c ∉ r ∧ ArgsOk m s as r
def JA (κ : Kt) (t : TDA) (A : AS) (P : List AA → AS → Prop) (X : AX) : Prop := ∀ s P' PX', Sat κ s A → (∀ as xs A' s', P as A' → Sat κ s' A' → Fr s s' → ArgsOk s.M.length s' as xs → P' xs s') → (∀ c x A' s', X c x A' → Sat κ.off s' A' → PX' c x s') → t s P' PX'
def Pva (t : TDA) (A : AS) (as : List AA) : Prop := ∀ κ P X, P as A → JA κ t A P X
section
variable {κ : Kt} {A : AS} {ta tb tc : TD} {tr : TDA} {P : List AA → AS → Prop} {X : AX}
theorem ja_nil (h : P [] A) : JA κ dNil A P X := fun s P' PX' hs hp hx => hp [] [] A s h hs (Fr.refl s) rfl
theorem ArgsOk.mono {s : S} {m m' : Nat} (hm : m ≤ m') : ∀ {as : List AA} {xs : List Sl}, ArgsOk m' s as xs → ArgsOk m s as xs
  | [], _, h => h
  | .dat _ :: _, _, ⟨r, e, h⟩ => ⟨r, e, h.mono hm⟩
  | .cell _ :: _, _, ⟨c, r, e, q, h⟩ => ⟨c, r, e, q, h.mono hm⟩
  | .new _ :: _, _, ⟨c, r, e, q, l, n, ni, h⟩ => ⟨c, r, e, q, Nat.le_trans hm l, n, ni, h.mono hm⟩
theorem ja_cons (h : J κ ta A (fun d A1 => JA κ tr A1 (fun as A2 => P (.dat d :: as) A2) X) X) : JA κ (dCons ta tr) A P X := fun s P' PX' hs hp hx =>
  h s _ _ hs (fun d A1 s1 h1 hs1 f1 => h1 s1 _ _ hs1 (fun as xs A2 s2 p hs2 f2 ok => hp _ _ A2 s2 p hs2 (f1.trans f2) ⟨xs, rfl, ok.mono f1.len⟩) hx) hx
theorem ja_consC (i : Nat) {x : CC} (e : A[i]? = some (.own x)) (h : JA κ tr A (fun as A2 => P (.cell i :: as) A2) X) : JA κ (dConsC i tr) A P X := fun s P' PX' hs hp hx => by
  obtain ⟨c, ec, em⟩ := hs.own e
  exact ⟨c, ec, h s _ _ hs (fun as xs A2 s2 p hs2 f2 ok => hp _ _ A2 s2 p hs2 f2 ⟨c, xs, rfl, by rw [f2.r]; exact ec, ok⟩) hx⟩
theorem ja_consF {tf : TDF} (h : J κ tf A (fun ds A1 => (κ.nl = true → noLs ds = true) ∧ JA κ tr A1 (fun as A2 => P (.new (.lst ds) :: as) A2) X) X) : JA κ (dConsF tf tr) A P X := fun s P' PX' hs hp hx =>
  h s _ _ hs (fun ds A1 s1 ⟨hn, h1⟩ hs1 f1 => h1 { s1 with M := s1.M ++ [some (.lst ds)] } _ _ (hs1.app hn) (fun as xs A2 s2 p hs2 f2 ok => by
    have fresh := hs1.fresh
    have nf : ∀ j : Nat, s2.r[j]? ≠ some (Sl.cell s1.M.length) := fun j q => fresh j (by rw [← f2.r]; exact q)
    have ml : s1.M.length < (s1.M ++ [some (CC.lst ds)]).length := by simp
    have mc : s2.M[s1.M.length]? = some (some (.lst ds)) := by
      rw [f2.at_ s1.M.length ml fresh]
      show (s1.M ++ _)[s1.M.length]? = _
      rw [List.getElem?_append_right (Nat.le_refl _), Nat.sub_self]; rfl
    have nx : ∀ {as : List AA} {xs : List Sl}, ArgsOk (s1.M ++ [some (CC.lst ds)]).length s2 as xs → Sl.cell s1.M.length ∉ xs := by
      intro as
      induction as with
      | nil => intro xs h; have h : xs = [] := h; subst h; simp
      | cons a as ih =>
        intro xs h
        cases a with
        | dat d => obtain ⟨r, e, h⟩ := h; subst e; simp; exact ih h
        | cell i => obtain ⟨c, r, e, q, h⟩ := h; subst e; simp; exact ⟨fun z => nf i (by rw [z]; exact q), ih h⟩
        | new x => obtain ⟨c, r, e, q, l, n, ni, h⟩ := h; subst e; simp at l ⊢; exact ⟨by omega, ih h⟩
    refine hp _ _ A2 s2 p hs2 ⟨f2.r.trans f1.r, by have := f1.len; have := f2.len; simp at this; omega, fun c hc hn2 => ?_⟩ ⟨s1.M.length, xs, rfl, mc, f1.len, nf, nx ok, ok.mono (by have := f1.len; simp; omega)⟩
    have h1 : c < s1.M.length := Nat.lt_of_lt_of_le hc f1.len
    rw [f2.at_ c (by simp; omega) (fun i => by show s1.r[i]? ≠ _; rw [f1.r]; exact hn2 i)]
    show (s1.M ++ _)[c]? = _
    rw [List.getElem?_append_left h1]
    exact f1.at_ c hc hn2) hx) hx
@[simp] def datsA : List AA → Option (List D)
  | [] => some []
  | .dat d :: r => (datsA r).map (d :: ·)
  | _ :: _ => none
theorem ArgsOk.dats {m : Nat} {s : S} : ∀ {as : List AA} {xs : List Sl} {ds : List D}, ArgsOk m s as xs → datsA as = some ds → xs = ds.map .dat
  | [], xs, ds, h, e => by have h : xs = [] := h; cases e; exact h
  | .dat d :: as, xs, ds, h, e => by
    obtain ⟨r, ex, h⟩ := h
    simp only [datsA] at e
    cases z : datsA as with
    | none => rw [z] at e; cases e
    | some es => rw [z] at e; cases e; rw [ex, h.dats z]; rfl
  | .cell _ :: _, _, _, _, e => nomatch e
  | .new _ :: _, _, _, _, e => nomatch e
theorem cellsIn_map (ds : List D) : cellsIn (ds.map Sl.dat) = [] := by
  induction ds with
  | nil => rfl
  | cons d ds ih => exact ih
theorem j_tup {P : D → AS → Prop} (h : JA κ tr A (fun as A1 => ∃ ds, datsA as = some ds ∧ ds.length ≤ sizeLine ∧ P (.tup ds) A1) X) : J κ (dTup tr) A P X := fun s P' PX' hs hp hx =>
  h s _ _ hs (fun as xs A1 s1 ⟨ds, e, hl, p⟩ hs1 f1 ok => ⟨ds, by rw [ok.dats e]; exact dats_map ds, hl, hp _ _ _ p hs1 f1⟩) hx
theorem j_lst {P : List D → AS → Prop} (h : JA κ tr A (fun as A1 => ∃ ds, datsA as = some ds ∧ ds.length ≤ sizeLine ∧ P ds A1) X) : J κ (dLst tr) A P X := fun s P' PX' hs hp hx =>
  h s _ _ hs (fun as xs A1 s1 ⟨ds, e, hl, p⟩ hs1 f1 ok => ⟨ds, by rw [ok.dats e]; exact dats_map ds, hl, hp _ _ _ p hs1 f1⟩) hx
theorem j_f {P : D → AS → Prop} {tf : TDF} (h : J κ tf A (fun ds A1 => P (.lst ds) A1) X) : J κ (dF tf) A P X := fun s P' PX' hs hp hx => h s _ _ hs (fun ds A1 s1 p hs1 f1 => hp _ _ _ p hs1 f1) hx
def Call0 (sp : SpD) (ds : List D) {τ : Type} (e : τ → D) (m : Res τ) : Prop := ∀ P PX, wp m (fun v => P (e v) []) (fun c x => PX c x []) → sp (ds.map .dat) [] P PX
theorem j_call0 {sp : SpD} {P : D → AS → Prop} (h : JA κ tr A (fun as A1 => ∃ ds, datsA as = some ds ∧ ∃ (τ : Type) (e : τ → D) (m : Res τ), Call0 sp ds e m ∧ wp m (fun v => P (e v) A1) (fun c x => X c x A1)) X) : J κ (dCall sp tr) A P X := fun s P' PX' hs hp hx =>
  h s _ _ hs (fun as xs A1 s1 ⟨ds, e, τ, en, m, hc, hw⟩ hs1 f1 ok => by
    rw [ok.dats e]
    unfold callM
    rw [cellsIn_map]
    exact hc _ _ (wp_mono hw (fun v p => hp _ _ _ p hs1 f1) fun c x q => hx _ _ _ _ q hs1.off)) hx
def Call1 (sp : SpD) (xs : List Sl) (x : CC) {τ : Type} (e : τ → D) (x' : τ → CC) (m : Res τ) : Prop := ∀ P PX, wp m (fun v => P (e v) [some (x' v)]) (fun c d => ∀ y, PX c d [some y]) → sp xs [some x] P PX
def sl1 : List AA → List Sl
  | [] => []
  | .dat d :: r => .dat d :: sl1 r
  | _ :: r => .cell 0 :: sl1 r
def cells1 : List AA → List Nat
  | [] => []
  | .cell i :: r => i :: cells1 r
  | _ :: r => cells1 r
def plainA : List AA → Bool
  | [] => true
  | .new _ :: _ => false
  | _ :: r => plainA r
theorem ArgsOk.ren {m : Nat} {s : S} : ∀ {as : List AA} {xs : List Sl}, ArgsOk m s as xs → plainA as = true → xs.map ren0 = sl1 as
  | [], xs, h, _ => by have h : xs = [] := h; subst h; rfl
  | .dat d :: as, xs, ⟨r, ex, h⟩, n => by subst ex; simp [sl1, h.ren n]
  | .cell i :: as, xs, ⟨c, r, ex, q, h⟩, n => by subst ex; simp [sl1, h.ren n]
  | .new _ :: _, _, _, n => nomatch n
theorem ArgsOk.cells {m : Nat} {s : S} : ∀ {as : List AA} {xs : List Sl}, ArgsOk m s as xs → plainA as = true → (cells1 as = [] → cellsIn xs = []) ∧ (∀ i, cells1 as = [i] → ∃ c, s.r[i]? = some (.cell c) ∧ cellsIn xs = [c]) ∧ (∀ i j, cells1 as = [i, j] → ∃ c c2, s.r[i]? = some (.cell c) ∧ s.r[j]? = some (.cell c2) ∧ cellsIn xs = [c, c2])
  | [], xs, h, _ => by have h : xs = [] := h; subst h; exact ⟨fun _ => rfl, fun i e => (by cases e), fun i j e => (by cases e)⟩
  | .dat d :: as, xs, ⟨r, ex, h⟩, n => by subst ex; exact h.cells n
  | .cell i :: as, xs, ⟨c, r, ex, q, h⟩, n => by
    subst ex
    obtain ⟨a, b, z⟩ := h.cells n
    refine ⟨fun e => (by cases e), fun j e => ?_, fun j k e => ?_⟩
    · cases e2 : cells1 as with
      | nil => simp [cells1, e2] at e; subst e; exact ⟨c, q, by simp [a e2]⟩
      | cons k ks => simp [cells1, e2] at e
    · simp [cells1] at e
      obtain ⟨e1, e2⟩ := e
      subst e1
      obtain ⟨c2, q2, z2⟩ := b k e2
      exact ⟨c, c2, q, q2, by simp [z2]⟩
  | .new _ :: _, _, _, n => nomatch n
theorem j_call1 {sp : SpD} {P : D → AS → Prop} (h : JA κ tr A (fun as A1 => ∃ i x, plainA as = true ∧ cells1 as = [i] ∧ A1[i]? = some (.own x) ∧ ∃ (τ : Type) (e : τ → D) (x' : τ → CC) (m : Res τ), Call1 sp (sl1 as) x e x' m ∧
    wp m (fun v => (κ.nl = true → ccNoL (x' v) = true) ∧ P (e v) (A1.set i (.own (x' v)))) (fun c d => ∀ y, X c d (A1.set i (.own y)))) X) : J κ (dCall sp tr) A P X := fun s P' PX' hs hp hx =>
  h s _ _ hs (fun as xs A1 s1 ⟨i, x, pl, ci, ei, τ, en, x', m, hc, hw⟩ hs1 f1 ok => by
    obtain ⟨c, ec, z⟩ := (ok.cells pl).2.1 i ci
    obtain ⟨c', ec', em⟩ := hs1.own ei
    rw [ec] at ec'; cases ec'
    unfold callM
    rw [z]
    refine ⟨x, em, ?_⟩
    rw [ok.ren pl]
    refine hc _ _ (wp_mono hw (fun v ⟨hn, p⟩ => ⟨_, rfl, hp _ _ _ p (hs1.setOwn ei ec hn) ?_⟩) fun k d q y => ⟨_, rfl, hx _ _ _ _ (q y) (hs1.off.setOwn ei ec fun e => (Bool.false_ne_true e).elim)⟩)
    exact ⟨f1.r, by simpa using f1.len, fun k hk hn2 => by
      show (s1.M.set c _)[k]? = _
      rw [List.getElem?_set_ne (fun q => hn2 i (by rw [← q, ← f1.r]; exact ec))]
      exact f1.at_ k hk hn2⟩) hx
def Call2 (sp : SpD) (xs : List Sl) (x y : CC) {τ : Type} (e : τ → D) (x' y' : τ → CC) (m : Res τ) : Prop := ∀ P PX, wp m (fun v => P (e v) [some (x' v), some (y' v)]) (fun c d => ∀ u v, PX c d [some u, some v]) → sp xs [some x, some y] P PX
def sl2 : Bool → List AA → List Sl
  | _, [] => []
  | b, .dat d :: r => .dat d :: sl2 b r
  | false, _ :: r => .cell 0 :: sl2 true r
  | true, _ :: r => .cell 1 :: sl2 true r
theorem ArgsOk.ren2 {m : Nat} {s : S} {c : Nat} : ∀ {as : List AA} {xs : List Sl}, ArgsOk m s as xs → plainA as = true → (∀ k, k ∈ cellsIn xs → k ≠ c) → xs.map (DL.ren2 c) = sl2 true as
  | [], xs, h, _, _ => by have h : xs = [] := h; subst h; rfl
  | .dat d :: as, xs, ⟨r, ex, h⟩, n, q => by subst ex; simp [sl2, h.ren2 n q]
  | .cell i :: as, xs, ⟨k, r, ex, _, h⟩, n, q => by
    subst ex
    have := q k (by simp)
    simp [sl2, this, h.ren2 n (fun k' hk => q k' (by simp [hk]))]
  | .new _ :: _, _, _, n, _ => nomatch n
theorem j_cb {r : RCd} {P : D → AS → Prop} (h : JA κ tr A (fun as A1 => ∃ ds z, datsA as = some ds ∧ (∀ M (P : D → Prop), P z → r (ds.map .dat) M P) ∧ P z A1) X) : J κ (dCB r tr) A P X := fun s P' PX' hs hp hx =>
  h s _ _ hs (fun as xs A1 s1 ⟨ds, z, e, hr, p⟩ hs1 f1 ok => by rw [ok.dats e]; exact hr _ _ (hp _ _ _ p hs1 f1)) hx
theorem pv_cbC {r : RCd} (i : Nat) {x : CC} {z : D} (e : A[i]? = some (.own x)) (hr : ∀ M c (P : D → Prop), M[c]? = some (some x) → P z → r [.cell c] M P) : Pv (dCB r (dConsC i dNil)) A z := fun κ P X k s P' PX' hs hp hx => by
  obtain ⟨c, ec, em⟩ := hs.own e
  exact ⟨c, ec, hr _ _ _ em (hp _ _ _ k hs (Fr.refl s))⟩
end
end MR
namespace MR
open PySem L2 DL
def EvM (f : List D → D → (D → List D → Prop) → Prop) (ds : List D) (d : D) (K : D → List D → Prop) : Prop := ∃ z ds', (∀ P, P z ds' → f ds d P) ∧ K z ds'
section
variable {κ : Kt} {A : AS} {ta tb tc td : TD} {P : D → AS → Prop} {X : AX}
theorem j_ixC (i : Nat) {ds0 : List D} (e : A[i]? = some (.own (.lst ds0))) (h : J κ tb A (fun y A1 => ∃ ds j d, A1[i]? = some (.own (.lst ds)) ∧ y = .int j ∧ atI ds j = some d ∧ P d A1) X) : J κ (dIxC i tb) A P X := fun s P' PX' hs hp hx => by
  obtain ⟨c, ec, em⟩ := hs.own e
  refine ⟨c, ec, h s _ _ hs (fun y A1 s1 ⟨ds, j, d, ei, ey, ed, p⟩ hs1 f1 => ?_) hx⟩
  obtain ⟨c', ec', em'⟩ := hs1.own ei
  have : c' = c := by rw [f1.r, ec] at ec'; cases ec'; rfl
  subst this
  exact ⟨ds, j, d, em', ey, ed, hp _ _ _ p hs1 f1⟩
theorem thaw_of {s s1 : S} {c : Nat} {ds : List D} (f : s1.r = s.r.map (DL.thaw c ds)) {j k : Nat} (h : s1.r[j]? = some (.cell k)) : s.r[j]? = some (.cell k) := by
  rw [f, List.getElem?_map] at h
  cases z : s.r[j]? with
  | none => rw [z] at h; cases h
  | some y =>
    rw [z] at h
    cases y with
    | no => simp at h
    | dat d => simp at h
    | cell q =>
      simp at h
      by_cases b : q = c
      · rw [if_pos b] at h; simp at h
      · rw [if_neg b] at h; simp at h; rw [h]
structure Back (A A1 A2 : AS) (i : Nat) (ds : List D) : Prop where
  len : A2.length = A.length
  at_ : ∀ (j : Nat) (v : VC), A2[j]? = some v → (j = i ∧ v = .own (.lst ds)) ∨ (j ≠ i ∧ ((∃ d, v = .dat d ∧ A[j]? = some (.dat d)) ∨ v = .no ∨ ∃ x y, v = .own x ∧ A1[j]? = some (.own x) ∧ A[j]? = some (.own y)))
theorem Sat.back {s s1 : S} {A1 A2 : AS} {i c : Nat} {ds : List D} (hs : Sat κ s A) (e : A[i]? = some (.own (.lst ds))) (ec : s.r[i]? = some (.cell c)) (hs1 : Sat κ s1 A1) (f : Fr { r := s.r.map (DL.thaw c ds), M := s.M.set c none } s1) (b : Back A A1 A2 i ds) (hn : κ.nl = true → noLs ds = true) :
    Sat κ { r := s.r, M := s1.M.set c (some (.lst ds)) } A2 := by
  have hc : c < s1.M.length := by have := f.len; simp at this; have := hs.lt i c ec; omega
  refine ⟨hs.len.trans b.len.symm, fun j v ev => ?_, fun j k c' y v ej ec1 ec2 ev hv => ?_, fun j k q => ?_, fun q => memNoL_set (hs1.nl q) (hn q), hs.pin⟩
  · rcases b.at_ j v ev with ⟨rfl, rfl⟩ | ⟨hj, ⟨d, rfl, h⟩ | rfl | ⟨x, y, rfl, h, h2⟩⟩
    · exact ⟨c, ec, List.getElem?_set_self hc⟩
    · exact hs.at_ j _ h
    · trivial
    · obtain ⟨k, z1, z2⟩ := hs1.own h
      have z1' := thaw_of (s := s) f.r z1
      have ne : c ≠ k := fun q => hj (hs.ne i j c _ _ e ec (by rw [q]; exact z1') h2 (.inl (by simp))).symm
      exact ⟨k, z1', by show (s1.M.set c _)[k]? = _; rw [List.getElem?_set_ne ne]; exact z2⟩
  · have oj : ∃ y', A[j]? = some (.own y') := by
      rcases b.at_ j _ ej with ⟨rfl, _⟩ | ⟨hj, ⟨d, h, _⟩ | h | ⟨x, y, _, _, h2⟩⟩
      · exact ⟨_, e⟩
      · cases h
      · cases h
      · exact ⟨_, h2⟩
    obtain ⟨y', oj⟩ := oj
    have hk : k < A.length := by rw [← hs.len]; exact (List.getElem?_eq_some_iff.mp ec2).1
    obtain ⟨u, hu⟩ : ∃ u, A[k]? = some u := ⟨_, List.getElem?_eq_getElem hk⟩
    refine hs.ne j k c' y' u oj ec1 ec2 hu ?_
    rcases b.at_ k v ev with ⟨rfl, _⟩ | ⟨hj, ⟨d, h, h2⟩ | h | ⟨x, y, _, _, h2⟩⟩
    · rw [e] at hu; cases hu; exact .inl (by simp)
    · rw [h2] at hu; cases hu; exact .inl (by simp)
    · exact hv.elim (fun q => absurd h q) .inr
    · rw [h2] at hu; cases hu; exact .inl (by simp)
  · have := hs.lt j k q
    have := f.len
    simp at this ⊢
    omega
theorem Fr.back {s s1 : S} {i c : Nat} {ds : List D} (ec : s.r[i]? = some (.cell c)) (f : Fr { r := s.r.map (DL.thaw c ds), M := s.M.set c none } s1) : Fr s { r := s.r, M := s1.M.set c (some (.lst ds)) } := by
  refine ⟨rfl, by have := f.len; simp at this ⊢; omega, fun k hk hn => ?_⟩
  have ne : c ≠ k := fun q => hn i (by rw [ec, q])
  show (s1.M.set c _)[k]? = _
  rw [List.getElem?_set_ne ne, f.at_ k (by simpa using hk) (fun j q => hn j (thaw_of (s1 := { r := s.r.map (DL.thaw c ds), M := s.M.set c none }) rfl q))]
  show (s.M.set c _)[k]? = _
  rw [List.getElem?_set_ne ne]
theorem Back.same {i : Nat} {ds : List D} (e : A[i]? = some (.own (.lst ds))) : Back A (A.set i (.dat (.lst ds))) A i ds := ⟨rfl, fun j v ev => by
  by_cases h : j = i
  · subst h; rw [e] at ev; cases ev; exact .inl ⟨rfl, rfl⟩
  · refine .inr ⟨h, ?_⟩
    cases v with
    | no => exact .inr (.inl rfl)
    | dat d => exact .inl ⟨d, rfl, ev⟩
    | own x => exact .inr (.inr ⟨x, x, rfl, by rw [List.getElem?_set_ne (Ne.symm h)]; exact ev, ev⟩)⟩
theorem Back.one {i k : Nat} {ds : List D} {x y : CC} (e : A[i]? = some (.own (.lst ds))) (hk : A[k]? = some (.own y)) (hne : i ≠ k) : Back A ((A.set i (.dat (.lst ds))).set k (.own x)) (A.set k (.own x)) i ds := ⟨by simp, fun j v ev => by
  have hkl : k < A.length := (List.getElem?_eq_some_iff.mp hk).1
  by_cases h : j = i
  · subst h; rw [List.getElem?_set_ne (Ne.symm hne), e] at ev; cases ev; exact .inl ⟨rfl, rfl⟩
  · refine .inr ⟨h, ?_⟩
    by_cases h2 : j = k
    · subst h2
      rw [List.getElem?_set_self hkl] at ev; cases ev
      exact .inr (.inr ⟨x, y, rfl, List.getElem?_set_self (by simpa using hkl), hk⟩)
    · rw [List.getElem?_set_ne (Ne.symm h2)] at ev
      cases v with
      | no => exact .inr (.inl rfl)
      | dat d => exact .inl ⟨d, rfl, ev⟩
      | own z => exact .inr (.inr ⟨z, z, rfl, by rw [List.getElem?_set_ne (Ne.symm h2), List.getElem?_set_ne (Ne.symm h)]; exact ev, ev⟩)⟩
end
end MR
namespace MR
open PySem L2 DL
structure AN where
  nx : AS → Prop
  rt : D → AS → Prop
  bk : AS → Prop
  ct : AS → Prop
structure EndsOk (κ : Kt) (N : AN) (E : EK) : Prop where
  nx : ∀ A' s', N.nx A' → Sat κ s' A' → E.nx s'
  rt : ∀ d A' s', N.rt d A' → Sat κ s' A' → E.rt d s'
  bk : ∀ A' s', N.bk A' → Sat κ s' A' → E.bk s'
  ct : ∀ A' s', N.ct A' → Sat κ s' A' → E.ct s'
def JS (κ : Kt) (t : TSd) (A : AS) (N : AN) (X : AX) : Prop := ∀ s E PX', Sat κ s A → EndsOk κ N E → (∀ c x A' s', X c x A' → Sat κ.off s' A' → PX' c x s') → t s E PX'
def JG (κ : Kt) (g : TGd) (d : D) (A : AS) (P : AS → Prop) : Prop := ∀ s P', Sat κ s A → (∀ A' s', P A' → Sat κ s' A' → P' s') → g d s P'
def JGs (κ : Kt) (g : TGds) (ds : List D) (A : AS) (P : AS → Prop) : Prop := ∀ s P', Sat κ s A → (∀ A' s', P A' → Sat κ s' A' → P' s') → g ds s P'
def JM (κ : Kt) (g : TGm) (d : D) (A : AS) (P : AS → Prop) (X : AX) : Prop := ∀ s P' PX', Sat κ s A → (∀ A' s', P A' → Sat κ s' A' → P' s') → (∀ c x A' s', X c x A' → Sat κ.off s' A' → PX' c x s') → g d s P' PX'
def JMs (κ : Kt) (g : TGms) (ds : List D) (A : AS) (P : AS → Prop) (X : AX) : Prop := ∀ s P' PX', Sat κ s A → (∀ A' s', P A' → Sat κ s' A' → P' s') → (∀ c x A' s', X c x A' → Sat κ.off s' A' → PX' c x s') → g ds s P' PX'
def nxA (f : AS → Prop) (N : AN) : AN := { N with nx := f }
section
variable {κ : Kt} {A : AS} {N : AN} {X : AX} {t u : TSd} {ta tb td : TD} {tf : TDF}
theorem EndsOk.nxA {E : EK} (h : EndsOk κ N E) {f : AS → Prop} {f' : S → Prop} (k : ∀ A' s', f A' → Sat κ s' A' → f' s') : EndsOk κ (nxA f N) { E with nx := f' } := ⟨k, h.rt, h.bk, h.ct⟩
theorem js_next (h : N.nx A) : JS κ dNext A N X := fun s E PX hs he hx => he.nx _ _ h hs
theorem js_seq (h : JS κ t A (nxA (fun A1 => JS κ u A1 N X) N) X) : JS κ (dSeq t u) A N X := fun s E PX hs he hx => h s _ _ hs (he.nxA fun A1 s1 h1 hs1 => h1 s1 _ _ hs1 he hx) hx
theorem js_mid {β : Type} (I : β → AS) (Q : β → Prop) (h : JS κ t A (nxA (fun A1 => ∃ b, Le A1 (I b) ∧ Q b) N) X) (k : ∀ b, Q b → JS κ u (I b) N X) : JS κ (dSeq t u) A N X := fun s E PX hs he hx =>
  h s _ _ hs (he.nxA fun A1 s1 ⟨b, l, q⟩ hs1 => k b q s1 _ _ (hs1.le l) he hx) hx
theorem js_ret (h : J κ td A (fun d A1 => N.rt d A1) X) : JS κ (dRet td) A N X := fun s E PX hs he hx => h s _ _ hs (fun d A1 s1 p hs1 _ => he.rt d A1 s1 p hs1) hx
theorem js_drop (h : J κ td A (fun _ A1 => N.nx A1) X) : JS κ (dDrop td) A N X := fun s E PX hs he hx => h s _ _ hs (fun d A1 s1 p hs1 _ => he.nx A1 s1 p hs1) hx
theorem js_if {c : TDB} (h : J κ c A (fun b A1 => if b = true then JS κ t A1 N X else JS κ u A1 N X) X) : JS κ (dIfS c t u) A N X := fun s E PX hs he hx => h s _ _ hs (fun b A1 s1 h1 hs1 _ => by
  cases b with
  | true => exact (if_pos rfl).mpr ((if_pos rfl).mp h1 s1 _ _ hs1 he hx)
  | false => exact (if_neg Bool.false_ne_true).mpr ((if_neg Bool.false_ne_true).mp h1 s1 _ _ hs1 he hx)) hx
theorem js_set {i : Nat} (hf : κ.free i = true) (h : J κ td A (fun d A1 => N.nx (A1.set i (.dat d))) X) : JS κ (dSet i td) A N X := fun s E PX hs he hx => h s _ _ hs (fun d A1 s1 p hs1 _ => he.nx _ _ p (hs1.setDat hf)) hx
theorem js_freeze {i : Nat} {ds : List D} (hf : κ.free i = true) (e : A[i]? = some (.own (.lst ds))) (h : JS κ t (A.set i (.dat (.lst ds))) N X) : JS κ (dFreeze i t) A N X := fun s E PX hs he hx => by
  obtain ⟨c, ec, em⟩ := hs.own e
  exact ⟨c, ds, ec, em, h _ _ _ (hs.thaw hf e ec) he hx⟩
theorem js_raise {c : Str} (h : J κ td A (fun d A1 => X c d A1) X) : JS κ (dRaise c td) A N X := fun s E PX hs he hx => h s _ _ hs (fun d A1 s1 p hs1 _ => hx c d A1 s1 p hs1.off) hx
theorem js_setIx {i : Nat} {te : TD} (h : J κ te A (fun d A1 => ∃ ds0, A1[i]? = some (.own (.lst ds0)) ∧ J κ tb A1 (fun y A2 => ∃ ds k j, A2[i]? = some (.own (.lst ds)) ∧ y = .int k ∧ ixN ds.length k = some j ∧ (κ.nl = true → noLs (ds.set j d) = true) ∧ N.nx (A2.set i (.own (.lst (ds.set j d))))) X) X) : JS κ (dSetIx i tb te) A N X := fun s E PX hs he hx =>
  h s _ _ hs (fun d A1 s1 ⟨ds0, e0, h1⟩ hs1 f1 => by
    obtain ⟨c, ec, em⟩ := hs1.own e0
    refine ⟨c, ec, h1 s1 _ _ hs1 (fun y A2 s2 ⟨ds, k, j, ei, ey, ek, hn, p⟩ hs2 f2 => ?_) hx⟩
    obtain ⟨c', ec', em'⟩ := hs2.own ei
    have : c' = c := by rw [f2.r, ec] at ec'; cases ec'; rfl
    subst this
    exact ⟨ds, k, j, em', ey, ek, he.nx _ _ p (hs2.setOwn ei ec' hn)⟩) hx
theorem jg_name {i : Nat} {d : D} {P : AS → Prop} (hf : κ.free i = true) (h : P (A.set i (.dat d))) : JG κ (dgName i) d A P := fun s P' hs hp => hp _ _ h (hs.setDat hf)
theorem jgs_nil {P : AS → Prop} (h : P A) : JGs κ dgsNil [] A P := fun s P' hs hp => ⟨rfl, hp _ _ h hs⟩
theorem jgs_cons {g : TGd} {gs : TGds} {d : D} {ds : List D} {P : AS → Prop} (h : JG κ g d A fun A1 => JGs κ gs ds A1 P) : JGs κ (dgsCons g gs) (d :: ds) A P := fun s P' hs hp => h s _ hs fun A1 s1 h1 hs1 => h1 s1 _ hs1 hp
theorem jg_tup {n : Nat} {gs : TGds} {ds : List D} {P : AS → Prop} (hn : ds.length = n) (h : JGs κ gs ds A P) : JG κ (dgTup n gs) (.tup ds) A P := fun s P' hs hp => ⟨hn, h s _ hs hp⟩
theorem js_asg {g : TGd} (h : J κ td A (fun d A1 => JG κ g d A1 N.nx) X) : JS κ (dAsg td g) A N X := fun s E PX hs he hx => h s _ _ hs (fun d A1 s1 h1 hs1 _ => h1 s1 _ hs1 he.nx) hx
def vcA : AA → Option VC
  | .dat d => some (.dat d)
  | .new x => some (.own x)
  | .cell _ => none
def plainAN : List AA → Bool
  | [] => true
  | .cell _ :: _ => false
  | _ :: r => plainAN r
theorem Sat.putA {m : Nat} {s : S} {i : Nat} {a : AA} {v : VC} {as : List AA} {xs : List Sl} (hs : Sat κ s A) (hf : κ.free i = true) (ok : ArgsOk m s (a :: as) xs) (hv : vcA a = some v) :
    ∃ x r, xs = x :: r ∧ x ≠ .no ∧ Sat κ { s with r := s.r.set i x } (A.set i v) ∧ (plainAN as = true → ArgsOk m { s with r := s.r.set i x } as r) := by
  cases a with
  | cell k => cases hv
  | dat d =>
    obtain ⟨r, e, ok⟩ := ok
    cases hv
    refine ⟨_, r, e, (by simp), hs.setDat hf, fun pl => ?_⟩
    clear e
    induction as generalizing r with
    | nil => exact ok
    | cons b as ih =>
      cases b with
      | dat d => obtain ⟨r2, e, ok⟩ := ok; exact ⟨r2, e, ih r2 ok pl⟩
      | cell k => cases pl
      | new x =>
        obtain ⟨c, r2, e, em, l, n, ni, ok⟩ := ok
        refine ⟨c, r2, e, em, l, fun j q => ?_, ni, ih r2 ok pl⟩
        rcases set_get q with ⟨_, q⟩ | ⟨_, q⟩
        · cases q
        · exact n j q
  | new y =>
    obtain ⟨c, r, e, em, l, n, ni, ok⟩ := ok
    cases hv
    refine ⟨_, r, e, (by simp), hs.putCell hf n em, fun pl => ?_⟩
    clear e
    induction as generalizing r with
    | nil => exact ok
    | cons b as ih =>
      cases b with
      | dat d => obtain ⟨r2, e, ok⟩ := ok; subst e; exact ⟨r2, rfl, ih r2 (fun q => ni (List.mem_cons_of_mem _ q)) ok pl⟩
      | cell k => cases pl
      | new x =>
        obtain ⟨c2, r2, e, em2, l2, n2, ni2, ok⟩ := ok
        subst e
        refine ⟨c2, r2, rfl, em2, l2, fun j q => ?_, ni2, ih r2 (fun q => ni (List.mem_cons_of_mem _ q)) ok pl⟩
        rcases set_get q with ⟨_, q⟩ | ⟨_, q⟩
        · cases q; exact ni List.mem_cons_self
        · exact n2 j q
theorem js_par {i j : Nat} {tr : TDA} (hi : κ.free i = true) (hj : κ.free j = true) (h : JA κ tr A (fun as A1 => ∃ a b u v, as = [a, b] ∧ vcA a = some u ∧ vcA b = some v ∧ N.nx ((A1.set i u).set j v)) X) : JS κ (dPar i j tr) A N X := fun s E PX hs he hx =>
  h s _ _ hs (fun as xs A1 s1 ⟨a, b, u, v, e, hu, hv, p⟩ hs1 f1 ok => by
    subst e
    obtain ⟨x, r, ex, nx, h1, ok1⟩ := hs1.putA hi ok hu
    subst ex
    have pb : plainAN [b] = true := by cases b <;> first | rfl | cases hv
    obtain ⟨y, r2, ey, ny, h2, _⟩ := h1.putA hj (ok1 pb) hv
    subst ey
    have er : r2 = [] := by
      cases b with
      | dat d => obtain ⟨_, e, q⟩ := ok1 pb; cases e; exact q
      | new z => obtain ⟨_, _, e, _, _, _, _, q⟩ := ok1 pb; cases e; exact q
      | cell z => cases hv
    subst er
    exact ⟨x, y, rfl, nx, ny, he.nx _ _ p h2⟩) hx
end
end MR
namespace MR
open PySem L2 DL
section
variable {α β ρ γ σ τ : Type}
inductive Stp (β ρ : Type) where
  | nx (b : β) | bk (b : β) | rt (v : ρ)
def Stp.on (st : Stp β ρ) (k : β → Res γ) (r : ρ → Res γ) : Res γ := match st with
  | .nx b => k b
  | .bk b => k b
  | .rt v => r v
@[simp] theorem on_nx {b : β} {k : β → Res γ} {r : ρ → Res γ} : (Stp.nx b : Stp β ρ).on k r = k b := rfl
@[simp] theorem on_bk {b : β} {k : β → Res γ} {r : ρ → Res γ} : (Stp.bk b : Stp β ρ).on k r = k b := rfl
@[simp] theorem on_rt {v : ρ} {k : β → Res γ} {r : ρ → Res γ} : (Stp.rt v : Stp β ρ).on k r = r v := rfl
def forR (f : β → α → Res β) : List α → β → Res β
  | [], b => .ok b
  | x :: xs, b => (f b x).bnd fun b' => forR f xs b'
def forS (f : β → α → Res (Stp β ρ)) : List α → β → Res (Stp β ρ)
  | [], b => .ok (.nx b)
  | x :: xs, b => (f b x).bnd fun st => match st with
    | .nx b' => forS f xs b'
    | .bk b' => .ok (.nx b')
    | .rt v => .ok (.rt v)
@[simp] theorem forR_nil {f : β → α → Res β} {b : β} : forR f [] b = .ok b := rfl
theorem forR_cons {f : β → α → Res β} {x : α} {xs : List α} {b : β} : forR f (x :: xs) b = (f b x).bnd fun b' => forR f xs b' := rfl
@[simp] theorem forS_nil {f : β → α → Res (Stp β ρ)} {b : β} : forS f [] b = .ok (.nx b) := rfl
theorem forS_cons {f : β → α → Res (Stp β ρ)} {x : α} {xs : List α} {b : β} : forS f (x :: xs) b = (f b x).bnd fun st => match st with
    | .nx b' => forS f xs b'
    | .bk b' => .ok (.nx b')
    | .rt v => .ok (.rt v) := rfl
def whileR (c : β → Res Bool) (f : β → Res β) : Nat → β → Res β
  | 0, _ => .no
  | n + 1, b => (c b).bnd fun k => cond k ((f b).bnd fun b' => whileR c f n b') (.ok b)
def whileS (c : β → Res Bool) (f : β → Res (Stp β ρ)) : Nat → β → Res (Stp β ρ)
  | 0, _ => .no
  | n + 1, b => (c b).bnd fun k => cond k ((f b).bnd fun st => match st with
    | .nx b' => whileS c f n b'
    | .bk b' => .ok (.nx b')
    | .rt v => .ok (.rt v)) (.ok (.nx b))
variable {κ : Kt} {A : AS} {N : AN} {X : AX}
def aLoop (κ : Kt) (g : TGd) (tb : TSd) (N : AN) (X : AX) (ds : List D) (A : AS) : Prop := ∀ s E PX', Sat κ s A → EndsOk κ N E → (∀ c x A' s', X c x A' → Sat κ.off s' A' → PX' c x s') → loopD g tb E PX' ds s
theorem js_for {wd : TDI} {g : TGd} {tb : TSd} (h : J κ wd A (fun ds A1 => aLoop κ g tb N X ds A1) X) : JS κ (dFor wd g tb) A N X := fun s E PX hs he hx =>
  h s _ _ hs (fun ds A1 s1 h1 hs1 _ => h1 s1 _ _ hs1 he hx) hx
abbrev turnN (I : β → AS) (Q : β → Prop) (N : AN) : AN := { nx := fun A' => ∃ b, Le A' (I b) ∧ Q b, ct := fun A' => ∃ b, Le A' (I b) ∧ Q b, bk := fun _ => False, rt := fun _ _ => False }
theorem a_forR {g : TGd} {tb : TSd} {XQ : Str → D → Prop} (enc : α → D) (I : β → AS) {f : β → α → Res β} {Q : β → Prop} (hb : ∀ b x (Q : β → Prop), wp (f b x) Q XQ → JG κ g (enc x) (I b) fun A1 => JS κ tb A1 (turnN I Q N) X) (hn : ∀ b, Q b → N.nx (I b)) :
    ∀ (xs : List α) (b : β) (A : AS), Le A (I b) → wp (forR f xs b) Q XQ → aLoop κ g tb N X (xs.map enc) A
  | [], b, A, l, h => fun s E PX hs he hx => he.nx _ _ (hn b h) (hs.le l)
  | x :: xs, b, A, l, h => fun s E PX hs he hx => by
    rw [forR_cons, wp_bnd] at h
    have ih : ∀ s1 A1, (∃ b', Le A1 (I b') ∧ wp (forR f xs b') Q XQ) → Sat κ s1 A1 → loopD g tb E PX (xs.map enc) s1 := fun s1 A1 ⟨b', l', q⟩ hs1 => a_forR enc I hb hn xs b' A1 l' q s1 E PX hs1 he hx
    exact hb b x _ h s _ (hs.le l) fun A1 s1 h1 hs1 => h1 s1 _ _ hs1 ⟨fun A' s' q hs' => ih s' A' q hs', fun _ _ _ q => q.elim, fun _ _ q => q.elim, fun A' s' q hs' => ih s' A' q hs'⟩ hx
abbrev turnS (I : β → AS) (Q : Stp β ρ → Prop) (Rt : ρ → D → AS → Prop) : AN := { nx := fun A' => ∃ b, Le A' (I b) ∧ Q (.nx b), ct := fun A' => ∃ b, Le A' (I b) ∧ Q (.nx b), bk := fun A' => ∃ b, Le A' (I b) ∧ Q (.bk b), rt := fun d A' => ∃ v, Rt v d A' ∧ Q (.rt v) }
theorem a_forS {g : TGd} {tb : TSd} {XQ : Str → D → Prop} (enc : α → D) (I : β → AS) (Rt : ρ → D → AS → Prop) {f : β → α → Res (Stp β ρ)} {Q : Stp β ρ → Prop} (hb : ∀ b x (Q : Stp β ρ → Prop), wp (f b x) Q XQ → JG κ g (enc x) (I b) fun A1 => JS κ tb A1 (turnS I Q Rt) X) (hn : ∀ b, Q (.nx b) → N.nx (I b)) (hr : ∀ v d A', Rt v d A' → Q (.rt v) → N.rt d A') :
    ∀ (xs : List α) (b : β) (A : AS), Le A (I b) → wp (forS f xs b) Q XQ → aLoop κ g tb N X (xs.map enc) A
  | [], b, A, l, h => fun s E PX hs he hx => he.nx _ _ (hn b h) (hs.le l)
  | x :: xs, b, A, l, h => fun s E PX hs he hx => by
    rw [forS_cons, wp_bnd] at h
    have ih : ∀ s1 A1, (∃ b', Le A1 (I b') ∧ wp (forS f xs b') Q XQ) → Sat κ s1 A1 → loopD g tb E PX (xs.map enc) s1 := fun s1 A1 ⟨b', l', q⟩ hs1 => a_forS enc I Rt hb hn hr xs b' A1 l' q s1 E PX hs1 he hx
    exact hb b x _ h s _ (hs.le l) fun A1 s1 h1 hs1 => h1 s1 _ _ hs1 ⟨fun A' s' q hs' => ih s' A' q hs', fun d A' s' ⟨v, q, q2⟩ hs' => he.rt _ _ _ (hr v d A' q q2) hs', fun A' s' ⟨b', l', q⟩ hs' => he.nx _ _ (hn b' q) (hs'.le l'), fun A' s' q hs' => ih s' A' q hs'⟩ hx
def Res.ne (r : Res α) : Res α := match r with
  | .ok a => .ok a
  | _ => .no
@[simp] theorem ok_ne {a : α} : (Res.ok a).ne = .ok a := rfl
@[simp] theorem er_ne {c : Str} {x : D} : (Res.er c x : Res α).ne = .no := rfl
@[simp] theorem no_ne : (Res.no : Res α).ne = .no := rfl
theorem wp_ne {r : Res α} {Q : α → Prop} {X : Str → D → Prop} : wp r.ne Q X = wp r Q (fun _ _ => False) := by cases r <;> rfl
def lcE (t : σ → α → Res (Bool × σ)) (f : σ → α → Res (β × σ)) : List α → List β → σ → Res (List β × σ)
  | [], acc, s => .ok (acc, s)
  | x :: xs, acc, s => (t s x).ne.bnd fun b => cond b.1 ((f b.2 x).ne.bnd fun z => if acc.length < sizeLine then lcE t f xs (acc ++ [z.1]) z.2 else .no) (lcE t f xs acc b.2)
def lcR (t : α → Res Bool) (f : α → Res β) : List α → List β → Res (List β)
  | [], acc => .ok acc
  | x :: xs, acc => (t x).ne.bnd fun b => cond b ((f x).ne.bnd fun z => if acc.length < sizeLine then lcR t f xs (acc ++ [z]) else .no) (lcR t f xs acc)
@[simp] def wipeA : AS → List Nat → AS
  | A, [] => A
  | A, v :: vs => (wipeA A vs).set v .no
theorem Sat.wipe {s : S} (h : Sat κ s A) : ∀ vs : List Nat, (vs.all κ.free) = true → Sat κ { s with r := wipeS s.r vs } (wipeA A vs)
  | [], _ => h
  | v :: vs, q => by
    simp at q
    exact (h.wipe vs (by simpa using q.2)).setNo q.1
theorem Sat.unwipe {s s1 : S} {A1 : AS} {I : AS} (h : Sat κ s A) (h1 : Sat κ s1 A1) (hM : s.M.length ≤ s1.M.length) (hl : I.length = A.length) (hI : ∀ (j : Nat) (v : VC), I[j]? = some v → v = .no ∨ (∃ d, v = .dat d ∧ A[j]? = some (.dat d)) ∨ ∃ x y, v = .own x ∧ A1[j]? = some (.own x) ∧ A[j]? = some (.own y) ∧ s1.r[j]? = s.r[j]?) : Sat κ { s1 with r := s.r } I := by
  refine ⟨h.len.trans hl.symm, fun j v ev => ?_, fun j k c y v ej ec1 ec2 ev hv => ?_, fun j c q => Nat.lt_of_lt_of_le (h.lt j c q) hM, h1.nl, h.pin⟩
  · rcases hI j v ev with rfl | ⟨d, rfl, q⟩ | ⟨x, y, rfl, q, q2, q3⟩
    · trivial
    · exact h.at_ j _ q
    · obtain ⟨c, z1, z2⟩ := h1.own q
      exact ⟨c, by show s.r[j]? = _; rw [← q3]; exact z1, z2⟩
  · rcases hI j _ ej with q | ⟨d, q, _⟩ | ⟨x, y', _, q, q2, q3⟩
    · cases q
    · cases q
    · have hk : k < A.length := by rw [← h.len]; exact (List.getElem?_eq_some_iff.mp ec2).1
      obtain ⟨u, hu⟩ : ∃ u, A[k]? = some u := ⟨_, List.getElem?_eq_getElem hk⟩
      refine h.ne j k c y' u q2 ec1 ec2 hu ?_
      rcases hI k v ev with q | ⟨d, q, q5⟩ | ⟨x, y', _, q, q5, q6⟩
      · exact hv.elim (fun z => absurd q z) .inr
      · rw [hu] at q5; cases q5; exact .inl (by simp)
      · rw [hu] at q5; cases q5; exact .inl (by simp)
end
end MR
namespace MR
open PySem L2 DL
def Touch (vs : List Nat) (g : TGd) : Prop := ∀ d s P, g d s P → g d s fun s' => P s' ∧ (∀ j : Nat, j ∉ vs → s'.r[j]? = s.r[j]?) ∧ (∀ (j c : Nat), s'.r[j]? = some (Sl.cell c) → s.r[j]? = some (Sl.cell c)) ∧ s'.M = s.M
def Touchs (vs : List Nat) (g : TGds) : Prop := ∀ d s P, g d s P → g d s fun s' => P s' ∧ (∀ j : Nat, j ∉ vs → s'.r[j]? = s.r[j]?) ∧ (∀ (j c : Nat), s'.r[j]? = some (Sl.cell c) → s.r[j]? = some (Sl.cell c)) ∧ s'.M = s.M
theorem tc_name {vs : List Nat} {i : Nat} (h : i ∈ vs) : Touch vs (dgName i) := fun d s P p => ⟨p, fun j hj => List.getElem?_set_ne fun q => hj (by rw [← q]; exact h), fun j c q => (by rcases set_get q with ⟨_, q⟩ | ⟨_, q⟩; exact (nomatch q); exact q), rfl⟩
theorem tcs_nil {vs : List Nat} : Touchs vs dgsNil := fun d s P p => ⟨p.1, p.2, fun _ _ => rfl, fun _ _ q => q, rfl⟩
def MonoG (g : TGd) : Prop := ∀ d s P P', (∀ s', P s' → P' s') → g d s P → g d s P'
def MonoGs (g : TGds) : Prop := ∀ d s P P', (∀ s', P s' → P' s') → g d s P → g d s P'
structure Tc (vs : List Nat) (g : TGd) : Prop where
  t : Touch vs g
  m : MonoG g
structure Tcs (vs : List Nat) (g : TGds) : Prop where
  t : Touchs vs g
  m : MonoGs g
theorem Tc.name {vs : List Nat} {i : Nat} (h : i ∈ vs) : Tc vs (dgName i) := ⟨tc_name h, fun d s P P' k p => k _ p⟩
theorem Tcs.nil {vs : List Nat} : Tcs vs dgsNil := ⟨tcs_nil, fun d s P P' k p => ⟨p.1, k _ p.2⟩⟩
theorem Tcs.cons {vs : List Nat} {g : TGd} {gs : TGds} (h : Tc vs g) (hs : Tcs vs gs) : Tcs vs (dgsCons g gs) := ⟨fun d s P p => by
  cases d with
  | nil => exact p.elim
  | cons d r => exact h.m d s _ _ (fun s1 ⟨p1, e1, c1, m1⟩ => hs.m r s1 _ _ (fun s2 ⟨p2, e2, c2, m2⟩ => ⟨p2, fun j hj => (e2 j hj).trans (e1 j hj), fun j c q => c1 j c (c2 j c q), m2.trans m1⟩) (hs.t r s1 _ p1)) (h.t d s _ p), fun d s P P' k p => by
  cases d with
  | nil => exact p.elim
  | cons d r => exact h.m d s _ _ (fun s1 p1 => hs.m r s1 _ _ k p1) p⟩
theorem Tc.tup {vs : List Nat} {n : Nat} {gs : TGds} (h : Tcs vs gs) : Tc vs (dgTup n gs) := ⟨fun d s P p => by
  cases d <;> first | exact p.elim | exact ⟨p.1, h.t _ _ _ p.2⟩, fun d s P P' k p => by
  cases d <;> first | exact p.elim | exact ⟨p.1, h.m _ _ _ _ k p.2⟩⟩
inductive Keep : AS → AS → Prop where
  | nil : Keep [] []
  | own {x : CC} {A B : AS} (h : Keep A B) : Keep (.own x :: A) (.own x :: B)
  | dat {d : D} {v : VC} {A B : AS} (h : Keep A B) : Keep (.dat d :: A) (v :: B)
  | no {v : VC} {A B : AS} (h : Keep A B) : Keep (.no :: A) (v :: B)
theorem Keep.at_ : ∀ {A B : AS}, Keep A B → A.length = B.length ∧ ∀ (i : Nat) (x : CC), A[i]? = some (.own x) → B[i]? = some (.own x)
  | _, _, .nil => ⟨rfl, fun i v e => by simp at e⟩
  | _, _, .own h => by
    obtain ⟨l, z⟩ := h.at_
    refine ⟨by simp [l], fun i v e => ?_⟩
    cases i with
    | zero => exact e
    | succ i => exact z i v e
  | _, _, .dat h => by
    obtain ⟨l, z⟩ := h.at_
    refine ⟨by simp [l], fun i v e => ?_⟩
    cases i with
    | zero => simp at e
    | succ i => exact z i v e
  | _, _, .no h => by
    obtain ⟨l, z⟩ := h.at_
    refine ⟨by simp [l], fun i v e => ?_⟩
    cases i with
    | zero => simp at e
    | succ i => exact z i v e
inductive SameD : AS → AS → Prop where
  | nil : SameD [] []
  | own {x y : CC} {A B : AS} (h : SameD A B) : SameD (.own x :: A) (.own y :: B)
  | same {v : VC} {A B : AS} (h : SameD A B) : SameD (v :: A) (v :: B)
theorem SameD.at_ : ∀ {A B : AS}, SameD A B → A.length = B.length ∧ (∀ (i : Nat) (d : D), A[i]? = some (.dat d) → B[i]? = some (.dat d)) ∧ (∀ (i : Nat) (x : CC), A[i]? = some (.own x) → ∃ y, B[i]? = some (.own y)) ∧ ∀ (i : Nat), A[i]? = some .no → B[i]? = some .no
  | _, _, .nil => ⟨rfl, fun i v e => by simp at e, fun i v e => by simp at e, fun i e => by simp at e⟩
  | _, _, .own h => by
    obtain ⟨l, z, w, u⟩ := h.at_
    refine ⟨by simp [l], fun i v e => ?_, fun i v e => ?_, fun i e => ?_⟩ <;> cases i with
    | zero => simp at e ⊢
    | succ i => first | exact z i v e | exact w i v e | exact u i e
  | _, _, .same h => by
    obtain ⟨l, z, w, u⟩ := h.at_
    refine ⟨by simp [l], fun i v e => ?_, fun i v e => ?_, fun i e => ?_⟩ <;> cases i with
    | zero => first | exact e | exact ⟨_, e⟩
    | succ i => first | exact z i v e | exact w i v e | exact u i e
section
variable {α β σ τ : Type} {κ : Kt} {A : AS} {X : AX} {wd : TDI} {g : TGd} {tt : TDB} {te : TD} {vs : List Nat}
theorem JG.to {d : D} {P : AS → Prop} {s : S} (h : JG κ g d A P) (hs : Sat κ s A) : g d s fun s2 => ∃ A1, P A1 ∧ Sat κ s2 A1 := h s _ hs fun A1 s2 q hs2 => ⟨A1, q, hs2⟩
theorem wipeS_at : ∀ (r : List Sl) (vs : List Nat) (j : Nat), j ∉ vs → (wipeS r vs)[j]? = r[j]?
  | _, [], _, _ => rfl
  | r, v :: vs, j, h => by
    simp at h
    show ((wipeS r vs).set v .no)[j]? = _
    rw [List.getElem?_set_ne (Ne.symm h.1)]
    exact wipeS_at r vs j h.2
theorem wipeS_no {r : List Sl} {c : Nat} : ∀ (vs : List Nat), (∀ i : Nat, r[i]? ≠ some (Sl.cell c)) → ∀ i : Nat, (wipeS r vs)[i]? ≠ some (Sl.cell c)
  | [], h, i => h i
  | v :: vs, h, i => fun q => by
    rcases set_get q with ⟨_, q⟩ | ⟨_, q⟩
    · cases q
    · exact wipeS_no vs h i q
def ownsOut (A : AS) (vs : List Nat) : Bool := vs.all fun v => match A[v]? with
  | some (.own _) => false
  | _ => true
theorem ownsOut_at {A : AS} {vs : List Nat} (h : ownsOut A vs = true) {j : Nat} {x : CC} (e : A[j]? = some (.own x)) : j ∉ vs := fun q => by
  have := List.all_eq_true.mp h j q
  rw [e] at this
  exact Bool.false_ne_true this
def lcB (f : σ → α → Res (Option β × σ)) : List α → List β → σ → Res (List β × σ)
  | [], acc, s => .ok (acc, s)
  | x :: xs, acc, s => (f s x).ne.bnd fun r => match r.1 with
    | some z => if acc.length < sizeLine then lcB f xs (acc ++ [z]) r.2 else .no
    | none => lcB f xs acc r.2
theorem lcB_nil {f : σ → α → Res (Option β × σ)} {acc : List β} {s : σ} : lcB f [] acc s = .ok (acc, s) := rfl
theorem lcB_cons {f : σ → α → Res (Option β × σ)} {x : α} {xs : List α} {acc : List β} {s : σ} : lcB f (x :: xs) acc s = (f s x).ne.bnd fun r => match r.1 with
    | some z => if acc.length < sizeLine then lcB f xs (acc ++ [z]) r.2 else .no
    | none => lcB f xs acc r.2 := rfl
theorem a_lcB (enc : α → D) (e : β → D) (I : σ → AS) {f : σ → α → Res (Option β × σ)} {P : List D → AS → Prop} (hv : vs.all κ.free = true) (tc : Tc vs g) (hI : ∀ a b, SameD (I a) (I b)) (ho : ∀ a, ownsOut (I a) vs = true)
    (hb : ∀ st x (Q : Option β × σ → Prop), wp (f st x) Q (fun _ _ => False) → JG κ g (enc x) (wipeA (I st) vs) fun A1 => J κ tt A1 (fun b A2 => if b = true then J κ te A2 (fun z A3 => ∃ v st', z = e v ∧ Keep (I st') A3 ∧ Q (some v, st')) (fun _ _ _ => False) else ∃ st', Keep (I st') A2 ∧ Q (none, st')) fun _ _ _ => False) :
    ∀ (xs : List α) (acc : List β) (st : σ) (s0 s : S) (P' : List D → S → Prop), Sat κ s (I st) → Fr s0 s → (∀ l A' s', P l A' → Sat κ s' A' → Fr s0 s' → P' l s') → wp (lcB f xs acc st) (fun r => P (r.1.map e) (I r.2)) (fun _ _ => False) → lcD g tt te vs P' (xs.map enc) (acc.map e) s
  | [], acc, st, s0, s, P', hs, fr, hp, h => hp _ _ _ h hs fr
  | x :: xs, acc, st, s0, s, P', hs, fr, hp, h => by
    rw [lcB_cons, wp_bnd, wp_ne] at h
    have h1 := JG.to (hb st x _ h) (hs.wipe vs hv)
    have back : ∀ (s2 s3 : S) (A3 : AS) (st' : σ), (∀ j : Nat, j ∉ vs → s2.r[j]? = (wipeS s.r vs)[j]?) → (∀ (j c : Nat), s2.r[j]? = some (Sl.cell c) → (wipeS s.r vs)[j]? = some (Sl.cell c)) → s2.M = s.M → Fr s2 s3 → Sat κ s3 A3 → Keep (I st') A3 → Sat κ { s3 with r := s.r } (I st') ∧ Fr s0 { s3 with r := s.r } := fun s2 s3 A3 st' e2 c2 m2 f3 hs3 hk => by
      obtain ⟨kl, ka⟩ := hk.at_
      obtain ⟨sl, sd, so, sn⟩ := (hI st' st).at_
      refine ⟨hs.unwipe hs3 (by have := f3.len; rw [m2] at this; exact this) sl fun j v ev => ?_, ?_⟩
      · cases v with
        | no => exact .inl rfl
        | dat d => exact .inr (.inl ⟨d, rfl, sd j d ev⟩)
        | own y =>
          obtain ⟨y2, q⟩ := so j y ev
          have hj := ownsOut_at (ho st) q
          refine .inr (.inr ⟨y, y2, rfl, ka j y ev, q, ?_⟩)
          rw [f3.r, e2 j hj, wipeS_at _ _ _ hj]
      · refine fr.trans ⟨rfl, by have := f3.len; rw [m2] at this; exact this, fun c hc hn => ?_⟩
        have hn2 : ∀ i : Nat, s2.r[i]? ≠ some (Sl.cell c) := fun i q => wipeS_no vs hn i (c2 i c q)
        show s3.M[c]? = _
        rw [f3.at_ c (by rw [m2]; exact hc) hn2, m2]
    refine tc.m _ _ _ _ ?_ (tc.t _ _ _ h1)
    rintro s2 ⟨⟨A1, q, hs2⟩, e2, c2, m2⟩
    refine q s2 _ _ hs2 (fun b A2 s3 q hs3 f3 => ?_) (fun _ _ _ _ q _ => q.elim)
    cases b with
    | true =>
      have q := (if_pos rfl).mp q
      refine (if_pos rfl).mpr (q s3 _ _ hs3 (fun z A3 s4 ⟨v, st', ez, hk, hq⟩ hs4 f4 => ?_) (fun _ _ _ _ q _ => q.elim))
      subst ez
      obtain ⟨b1, b2⟩ := back s2 s4 A3 st' e2 c2 m2 (f3.trans f4) hs4 hk
      have hq : wp (if acc.length < sizeLine then lcB f xs (acc ++ [v]) st' else .no) _ _ := hq
      by_cases hl : acc.length < sizeLine
      · rw [if_pos hl] at hq
        refine ⟨by simpa using hl, ?_⟩
        have := a_lcB enc e I hv tc hI ho hb xs (acc ++ [v]) st' s0 _ P' b1 b2 hp hq
        simpa using this
      · rw [if_neg hl] at hq; exact hq.elim
    | false =>
      obtain ⟨st', hk, hq⟩ := (if_neg Bool.false_ne_true).mp q
      obtain ⟨b1, b2⟩ := back s2 s3 A2 st' e2 c2 m2 f3 hs3 hk
      exact (if_neg Bool.false_ne_true).mpr (a_lcB enc e I hv tc hI ho hb xs acc st' s0 _ P' b1 b2 hp hq)
theorem ne_wp {r : Res α} {f : α → Res β} {Q : β → Prop} {X X' : Str → D → Prop} (h : wp (r.ne.bnd f) Q X) (k : ∀ a, wp (f a) Q X → wp (f a) Q X') : wp (r.ne.bnd f) Q X' := by
  cases r with
  | ok a => exact k a h
  | er c x => exact h
  | no => exact h
theorem lcB_wp {f : σ → α → Res (Option β × σ)} {Q : List β × σ → Prop} {X X' : Str → D → Prop} : ∀ {xs : List α} {acc : List β} {s : σ}, wp (lcB f xs acc s) Q X → wp (lcB f xs acc s) Q X'
  | [], acc, s, h => h
  | x :: xs, acc, s, h => by
    rw [lcB_cons] at h ⊢
    refine ne_wp h fun b h => ?_
    obtain ⟨o, s'⟩ := b
    cases o with
    | some z =>
      by_cases hl : acc.length < sizeLine
      · simp only [if_pos hl] at h ⊢; exact lcB_wp h
      · simp only [if_neg hl] at h; exact h.elim
    | none => exact lcB_wp (xs := xs) h
theorem SameD.refl : ∀ A : AS, SameD A A
  | [] => .nil
  | v :: A => .same (SameD.refl A)
def szR (l : List α) : Res (List α) := if l.length ≤ sizeLine then .ok l else .no
theorem pv_yes : Pv dYes A true := fun κ P X k s P' PX hs hp hx => hp _ _ _ k hs (Fr.refl s)
end
section
variable {κ : Kt} {A : AS} {N : AN} {X : AX}
@[simp] def putXA : Option Nat → Addr → Addr → D → AS → AS
  | none, _, _, _, A => A
  | some i, a, dd, x, A => A.set i (.dat (.xc a dd x))
@[simp] def goneA : Option Nat → AN → AN
  | none, N => N
  | some i, N => { nx := fun A => N.nx (A.set i .no), rt := N.rt, bk := fun A => N.bk (A.set i .no), ct := fun A => N.ct (A.set i .no) }
def freeO (κ : Kt) : Option Nat → Bool
  | none => true
  | some i => κ.free i
def aSel (κ : Kt) (N : AN) (X : AX) : List HdD → Str → D → AS → Prop
  | [], c, x, A => X c x A
  | q :: r, c, x, A => (subE c q.2.1 = true → freeO κ q.1 = true ∧ ∀ a dd, JS κ (q.2.2 a dd) (putXA q.1 a dd x A) (goneA q.1 N) fun _ _ _ => False) ∧ (subE c q.2.1 = false → aSel κ N X r c x A)
theorem aSel_ok {E : EK} {PX : KX} {c : Str} {x : D} {s : S} (hs : Sat κ s A) (he : EndsOk κ N E) (hx : ∀ c x A' s', X c x A' → Sat κ.off s' A' → PX c x s') : ∀ hd : List HdD, aSel κ N X hd c x A → selD E PX hd c x s
  | [], h => hx _ _ _ _ h hs.off
  | q :: r, h => by
    obtain ⟨i, C, u⟩ := q
    unfold selD
    cases e : subE c C with
    | true =>
      obtain ⟨hf, h⟩ := h.1 e
      refine (if_pos rfl).mpr fun a dd => ?_
      cases i with
      | none => exact h a dd s _ _ hs he (fun _ _ _ _ q _ => q.elim)
      | some i => exact h a dd _ _ _ (hs.setDat hf) ⟨fun A' s' p hs' => he.nx _ _ p (hs'.setNo hf), he.rt, fun A' s' p hs' => he.bk _ _ p (hs'.setNo hf), fun A' s' p hs' => he.ct _ _ p (hs'.setNo hf)⟩ (fun _ _ _ _ q _ => q.elim)
    | false => exact (if_neg Bool.false_ne_true).mpr (aSel_ok hs he hx r (h.2 e))
theorem j_what (i : Nat) {a dd : Addr} {x : D} (h : A[i]? = some (.dat (.xc a dd x))) : Pv (dWhat i a dd) A x := fun κ P X k s P' PX' hs hp hx => ⟨x, hs.at_ i _ h, hp _ _ _ k hs (Fr.refl s)⟩
theorem sat0 (N : List Str) (ds : List D) (A : AS) (h : A = ds.map .dat ++ List.replicate (N.length - ds.length) .no) : Sat ⟨false, []⟩ (startS N (ds.map .dat) []) A := by
  subst h
  refine ⟨by simp, fun i v ev => ?_, fun i j c x v ei ec => ?_, fun i c q => ?_, fun q => (Bool.false_ne_true q).elim, fun p hp => nomatch hp⟩
  · by_cases hi : i < ds.length
    · rw [List.getElem?_append_left (by simpa using hi), List.getElem?_map] at ev
      obtain ⟨d, hd⟩ : ∃ d, ds[i]? = some d := ⟨_, List.getElem?_eq_getElem hi⟩
      rw [hd] at ev
      cases ev
      show (ds.map Sl.dat ++ _)[i]? = _
      rw [List.getElem?_append_left (by simpa using hi), List.getElem?_map, hd]; rfl
    · rw [List.getElem?_append_right (by simpa using hi)] at ev
      have := List.mem_of_getElem? ev
      rw [List.eq_of_mem_replicate this]; trivial
  · have := List.mem_of_getElem? ec
    simp [startS] at this
  · have := List.mem_of_getElem? q
    simp [startS] at this
theorem start0 {N : List Str} {ds : List D} {td : TSd} {P : D → Mem → Prop} {PX : KXM} (A : AS) (hA : A = ds.map .dat ++ List.replicate (N.length - ds.length) .no) (h : JS ⟨false, []⟩ td A { nx := fun _ => P .non [], rt := fun d _ => P d [], bk := fun _ => False, ct := fun _ => False } (fun c x _ => PX c x [])) : td (startS N (ds.map .dat) []) (endE 0 P) (endX 0 PX) :=
  h _ _ _ (sat0 N ds A hA) ⟨fun _ _ q _ => ⟨rfl, q⟩, fun _ _ _ q _ => ⟨rfl, q⟩, fun _ _ q _ => q, fun _ _ q _ => q⟩ fun _ _ _ _ q _ => ⟨rfl, q⟩
end
end MR
namespace MR
open PySem L2 DL
section
variable {κ : Kt} {A : AS}
def cellOf : Sl → Option Nat
  | .cell c => some c
  | _ => none
def vcSl (M : Mem) : Sl → VC
  | .no => .no
  | .dat d => .dat d
  | .cell c => match M[c]? with
    | some (some x) => .own x
    | _ => .no
def difC (a b : Option Nat) : Bool := match a, b with
  | some x, some y => x != y
  | _, _ => true
theorem pw_inj {cs : List (Option Nat)} (h : cs.Pairwise fun a b => difC a b = true) : ∀ (i j c : Nat), cs[i]? = some (some c) → cs[j]? = some (some c) → i = j := by
  have key : ∀ (i j c : Nat), i < j → cs[i]? = some (some c) → cs[j]? = some (some c) → False := fun i j c hij ei ej => by
    have hi := (List.getElem?_eq_some_iff.mp ei)
    have hj := (List.getElem?_eq_some_iff.mp ej)
    have := List.pairwise_iff_getElem.mp h i j hi.1 hj.1 hij
    rw [hi.2, hj.2] at this
    simp [difC] at this
  intro i j c ei ej
  rcases Nat.lt_trichotomy i j with q | q | q
  · exact (key i j c q ei ej).elim
  · exact q
  · exact (key j i c q ej ei).elim
theorem satG (N : List Str) (xs : List Sl) (M : Mem) (A : AS) (cs : List (Option Nat)) (hc : xs.map cellOf = cs) (hp : cs.Pairwise fun a b => difC a b = true) (hlt : cs.all (fun o => match o with | some c => decide (c < M.length) | none => true) = true) (ha : M.all Option.isSome = true)
    (hA : A = xs.map (vcSl M) ++ List.replicate (N.length - xs.length) .no) (hpin : ∀ p, p ∈ κ.pin → cs[p.1]? = some (some p.2)) (hnl : κ.nl = true → memNoL M = true) : Sat κ (startS N xs M) A := by
  subst hA
  have at_ : ∀ (i c : Nat), (startS N xs M).r[i]? = some (.cell c) → cs[i]? = some (some c) ∧ i < xs.length := fun i c q => by
    have q : (xs ++ List.replicate (N.length - xs.length) Sl.no)[i]? = some (.cell c) := q
    by_cases hi : i < xs.length
    · rw [List.getElem?_append_left hi] at q
      rw [← hc, List.getElem?_map, q]
      exact ⟨rfl, hi⟩
    · rw [List.getElem?_append_right (by simpa using hi)] at q
      have := List.mem_of_getElem? q
      exact nomatch List.eq_of_mem_replicate this
  have to : ∀ (i c : Nat), cs[i]? = some (some c) → (startS N xs M).r[i]? = some (.cell c) := fun i c q => by
    rw [← hc, List.getElem?_map] at q
    cases e : xs[i]? with
    | none => rw [e] at q; cases q
    | some y =>
      rw [e] at q
      cases y with
      | no => simp [cellOf] at q
      | dat d => simp [cellOf] at q
      | cell k =>
        simp [cellOf] at q
        subst q
        show (xs ++ _)[i]? = _
        rw [List.getElem?_append_left (List.getElem?_eq_some_iff.mp e).1]; exact e
  have lt : ∀ (i c : Nat), cs[i]? = some (some c) → c < M.length := fun i c q => by
    have := List.all_eq_true.mp hlt _ (List.mem_of_getElem? q)
    simpa using this
  refine ⟨by simp, fun i v ev => ?_, fun i j c x v ei ec ec2 _ _ => pw_inj hp i j c (at_ i c ec).1 (at_ j c ec2).1, fun i c q => lt i c (at_ i c q).1, hnl, fun p q => to _ _ (hpin p q)⟩
  by_cases hi : i < xs.length
  · rw [List.getElem?_append_left (by simpa using hi), List.getElem?_map] at ev
    obtain ⟨y, hy⟩ : ∃ y, xs[i]? = some y := ⟨_, List.getElem?_eq_getElem hi⟩
    rw [hy] at ev
    have hr : (startS N xs M).r[i]? = some y := by
      show (xs ++ _)[i]? = _
      rw [List.getElem?_append_left hi]; exact hy
    cases y with
    | no => cases ev; trivial
    | dat d => cases ev; exact hr
    | cell c =>
      cases ev
      have hl := lt i c (at_ i c hr).1
      have hs := List.all_eq_true.mp ha _ (List.getElem_mem hl)
      have e2 : M[c]? = some M[c] := List.getElem?_eq_getElem hl
      cases z : M[c] with
      | none => rw [z] at hs; cases hs
      | some x =>
        rw [z] at e2
        show SatV _ i (match M[c]? with
          | some (some x) => VC.own x
          | _ => VC.no)
        rw [e2]
        exact ⟨c, hr, e2⟩
  · rw [List.getElem?_append_right (by simpa using hi)] at ev
    have := List.mem_of_getElem? ev
    rw [List.eq_of_mem_replicate this]; trivial
theorem take1 {M : Mem} {x : CC} (h : M[0]? = some (some x)) : M.take 1 = [some x] := by
  cases M with
  | nil => simp at h
  | cons a M => simp at h ⊢; exact h
theorem Sat.pinned {s : S} (h : Sat κ s A) {i c : Nat} {x : CC} (hp : (i, c) ∈ κ.pin) (e : A[i]? = some (.own x)) : s.M[c]? = some (some x) := by
  obtain ⟨k, e1, e2⟩ := h.own e
  have := h.pin _ hp
  rw [this] at e1
  cases e1
  exact e2
theorem start1 {N : List Str} {xs : List Sl} {x : CC} {td : TSd} {P : D → Mem → Prop} {PX : KXM} (nl : Bool) (i : Nat) (A : AS) (cs : List (Option Nat)) (hc : xs.map cellOf = cs) (hp : (cs.Pairwise fun a b => difC a b = true) ∧ cs.all (fun o => match o with | some c => decide (c < 1) | none => true) = true ∧ cs[i]? = some (some 0))
    (hA : A = xs.map (vcSl [some x]) ++ List.replicate (N.length - xs.length) .no) (hnl : nl = true → ccNoL x = true)
    (h : JS ⟨nl, [(i, 0)]⟩ td A { nx := fun A' => ∃ x, A'[i]? = some (.own x) ∧ P .non [some x], rt := fun d A' => ∃ x, A'[i]? = some (.own x) ∧ P d [some x], bk := fun _ => False, ct := fun _ => False } (fun c d A' => ∃ x, A'[i]? = some (.own x) ∧ PX c d [some x])) : td (startS N xs [some x]) (endE 1 P) (endX 1 PX) :=
  h _ _ _ (satG N xs [some x] A cs hc hp.1 (by simpa using hp.2.1) rfl hA (fun p q => by simp at q; subst q; exact hp.2.2) (fun q => by simpa using hnl q))
    ⟨fun A' s' ⟨y, e, q⟩ hs => by
      have := take1 (hs.pinned (c := 0) (by simp) e)
      exact ⟨by show (List.take 1 s'.M).all _ = true; rw [this]; rfl, by show P _ (List.take 1 s'.M); rw [this]; exact q⟩, fun d A' s' ⟨y, e, q⟩ hs => by
      have := take1 (hs.pinned (c := 0) (by simp) e)
      exact ⟨by show (List.take 1 s'.M).all _ = true; rw [this]; rfl, by show P _ (List.take 1 s'.M); rw [this]; exact q⟩, fun _ _ q _ => q, fun _ _ q _ => q⟩
    fun c d A' s' ⟨y, e, q⟩ hs => by
      have := take1 (hs.pinned (c := 0) (by simp) e)
      exact ⟨by show (List.take 1 s'.M).all _ = true; rw [this]; rfl, by show PX _ _ (List.take 1 s'.M); rw [this]; exact q⟩
end
end MR
namespace MR
open PySem L2 DL
abbrev Wd := { s : Str // PyData.strOk s = true }
theorem ofString_ok (s : String) : PyData.strOk (Str.ofString s) = true := by
  unfold PyData.strOk
  rw [Str.ofString_eq_toList, ← Array.all_toList, List.all_eq_true]
  intro x hx
  obtain ⟨c, _, rfl⟩ := List.mem_map.mp hx
  have h : c.val.toNat < 0x110000 := by
    rcases c.valid with h | h
    · exact Nat.lt_trans h (by decide)
    · exact h.2
  exact decide_eq_true h
def wd (s : String) : Wd := ⟨Str.ofString s, ofString_ok s⟩
@[simp] theorem wd_inj {a b : String} : wd a = wd b ↔ a = b := by
  unfold wd
  rw [Subtype.mk.injEq, ofString_inj]
section
variable {α β γ δ ε : Type}
def eW (w : Wd) : D := .str w.1
def eT (e : α → D) (xs : List α) : D := .tup (xs.map e)
def eL (e : α → D) (xs : List α) : D := .lst (xs.map e)
def eFL (e : α → D) (xs : List α) : D := .fl (xs.map e)
def eCT (e : α → D) (xs : List α) : D := .ct (xs.map e)
def eP1 (a : α → D) (p : α) : D := .tup [a p]
def eP2 (a : α → D) (b : β → D) (p : α × β) : D := .tup [a p.1, b p.2]
def eP3 (a : α → D) (b : β → D) (c : γ → D) (p : α × β × γ) : D := .tup [a p.1, b p.2.1, c p.2.2]
def eP4 (a : α → D) (b : β → D) (c : γ → D) (d : δ → D) (p : α × β × γ × δ) : D := .tup [a p.1, b p.2.1, c p.2.2.1, d p.2.2.2]
def eP5 (a : α → D) (b : β → D) (c : γ → D) (d : δ → D) (f : ε → D) (p : α × β × γ × δ × ε) : D := .tup [a p.1, b p.2.1, c p.2.2.1, d p.2.2.2.1, f p.2.2.2.2]
def eQ1 (a : α → D) (p : α) : D := .lst [a p]
def eQ2 (a : α → D) (b : β → D) (p : α × β) : D := .lst [a p.1, b p.2]
def eQ3 (a : α → D) (b : β → D) (c : γ → D) (p : α × β × γ) : D := .lst [a p.1, b p.2.1, c p.2.2]
def eO (e : α → D) : Option α → D
  | none => .non
  | some v => e v
def eN (_ : Unit) : D := .non
structure Fld where
  s : List Int
  g : List Int
  deriving DecidableEq
def eF (f : Fld) : D := fldD f.s f.g
structure Ls where
  c : Bool
  l : List Int
def eX (x : Ls) : D := if x.c then .ct (x.l.map .int) else .tup (x.l.map .int)
abbrev cL (e : α → D) (xs : List α) : CC := .lst (xs.map e)
abbrev cK (e : α → D) (ks : List (Int × α)) : CC := .dk (ks.map fun p => (p.1, e p.2))
abbrev cT (enc : β → List Int) (e : α → D) (ks : List (β × α)) : CC := .dt (ks.map fun p => (enc p.1, e p.2))
structure EqE [DecidableEq α] (e : α → D) (k : Nat) : Prop where
  ok : ∀ v, OkN k (e v)
  eq : ∀ a b, eqD (e a) (e b) = decide (a = b)
theorem EqE.okD [DecidableEq α] {e : α → D} {k : Nat} (h : EqE e k) (hk : k ≤ 64 := by decide) (v : α) : okD (e v) = true := (h.ok v).ok hk
theorem eq_I (k : Nat := 0) : EqE D.int k := ⟨fun v => OkN.int k v, eqD_int⟩
theorem eq_B (k : Nat := 0) : EqE D.bl k := ⟨fun v => OkN.bl k v, fun a b => by rw [eqD_bl]; cases a <;> cases b <;> rfl⟩
theorem okN_le {k l : Nat} {d : D} (h : OkN k d) (q : k ≤ l) : OkN l d := ⟨h.1, Nat.le_trans h.2 q⟩
theorem EqE.le [DecidableEq α] {e : α → D} {k l : Nat} (h : EqE e k) (q : k ≤ l) : EqE e l := ⟨fun v => okN_le (h.ok v) q, h.eq⟩
theorem ev_eq [DecidableEq α] {e : α → D} {k : Nat} (h : EqE e k) (hk : k ≤ 64 := by decide) (a b : α) : ∀ P, P (.bl (decide (a = b))) → rEqD' (e a) (e b) P := fun P p => ⟨h.okD hk a, h.okD hk b, by rw [h.eq]; exact p⟩
theorem ev_ne [DecidableEq α] {e : α → D} {k : Nat} (h : EqE e k) (hk : k ≤ 64 := by decide) (a b : α) : ∀ P, P (.bl (!decide (a = b))) → rNeD' (e a) (e b) P := fun P p => ⟨h.okD hk a, h.okD hk b, by rw [h.eq]; exact p⟩
def eqR (x y : D) : Res Bool := cond (okD x && okD y) (.ok (eqD x y)) .no
theorem op_eqR (x y : D) : OpR rEqD' D.bl x y (eqR x y) := fun P X h => by
  unfold eqR at h
  cases e : okD x && okD y with
  | false => rw [e] at h; exact h.elim
  | true =>
    rw [e] at h
    simp at e
    exact ⟨_, fun P p => ⟨e.1, e.2, p⟩, h⟩
theorem op_neR (x y : D) : OpR rNeD' D.bl x y (notR (eqR x y)) := fun P X h => by
  unfold eqR at h
  cases e : okD x && okD y with
  | false => rw [e] at h; exact h.elim
  | true =>
    rw [e] at h
    simp at e
    exact ⟨_, fun P p => ⟨e.1, e.2, p⟩, h⟩
theorem ev_add (i j : Int) : ∀ P, P (.int (i + j)) → rAddD (.int i) (.int j) P := fun _ h => h
theorem ev_sub (i j : Int) : ∀ P, P (.int (i - j)) → rSubD (.int i) (.int j) P := fun _ h => h
theorem ev_neg (i : Int) : ∀ P, P (.int (-i)) → rNegD (.int i) P := fun _ h => h
theorem ev_lt (i j : Int) : ∀ P, P (.bl (decide (i < j))) → rLtD (.int i) (.int j) P := fun _ h => h
theorem ev_le (i j : Int) : ∀ P, P (.bl (decide (i ≤ j))) → rLeD (.int i) (.int j) P := fun _ h => h
theorem ev_gt (i j : Int) : ∀ P, P (.bl (decide (j < i))) → rGtD (.int i) (.int j) P := fun _ h => h
theorem ev_ge (i j : Int) : ∀ P, P (.bl (decide (j ≤ i))) → rGeD (.int i) (.int j) P := fun _ h => h
@[irreducible] def grd (p : Prop) [Decidable p] (v : α) : Res α := if p then .ok v else .no
theorem grd_ok {p : Prop} [Decidable p] {v : α} (h : p) : grd p v = .ok v := by unfold grd; exact if_pos h
theorem wp_grd {p : Prop} [Decidable p] {v : α} {Q : α → Prop} {X : Str → D → Prop} (h : wp (grd p v) Q X) : p ∧ Q v := by
  unfold grd at h
  by_cases c : p
  · rw [if_pos c] at h; exact ⟨c, h⟩
  · rw [if_neg c] at h; exact h.elim
instance (i j : Int) : Decidable (CMul i j) := by unfold CMul; infer_instance
instance (i j : Int) : Decidable (CMulW i j) := by unfold CMulW; infer_instance
instance (i j : Int) : Decidable (CDivW i j) := by unfold CDivW; infer_instance
instance (i j : Int) : Decidable (CPow i j) := by unfold CPow; infer_instance
instance (i : Int) : Decidable (small i) := by unfold small; infer_instance
def mulR (i j : Int) : Res Int := grd (CMul i j ∨ CMulW i j) (i * j)
def divR (i j : Int) : Res Int := grd (CDivW i j) (i / j)
def modR (i j : Int) : Res Int := grd (0 < j) (i % j)
def powR (i j : Int) : Res Int := grd (CPow i j) (i ^ j.toNat)
def shlR (i j : Int) : Res Int := grd (CPow i j) (i * 2 ^ j.toNat)
def shrR (i j : Int) : Res Int := grd (0 ≤ j) (i / 2 ^ j.toNat)
theorem op_mul (i j : Int) : OpR rMultD D.int (.int i) (.int j) (mulR i j) := fun P X h => ⟨_, fun P p => ⟨(wp_grd h).1, p⟩, (wp_grd h).2⟩
theorem op_div (i j : Int) : OpR rDivD D.int (.int i) (.int j) (divR i j) := fun P X h => ⟨_, fun P p => ⟨(wp_grd h).1, p⟩, (wp_grd h).2⟩
theorem op_mod (i j : Int) : OpR rModD D.int (.int i) (.int j) (modR i j) := fun P X h => ⟨_, fun P p => ⟨(wp_grd h).1, p⟩, (wp_grd h).2⟩
theorem op_pow (i j : Int) : OpR rPowD D.int (.int i) (.int j) (powR i j) := fun P X h => ⟨_, fun P p => ⟨(wp_grd h).1, p⟩, (wp_grd h).2⟩
theorem ev_mulc (i j : Int) (h : (decide (-(2 ^ 64) < j) && decide (j < 2 ^ 64)) = true) : ∀ P, P (.int (i * j)) → rMultD (.int i) (.int j) P := fun _ p => ⟨.inl (.inr (by simpa using h)), p⟩
theorem ev_mulc' (i j : Int) (h : (decide (-(2 ^ 64) < i) && decide (i < 2 ^ 64)) = true) : ∀ P, P (.int (i * j)) → rMultD (.int i) (.int j) P := fun _ p => ⟨.inl (.inl (by simpa using h)), p⟩
theorem ev_divc (i j : Int) (h : (decide (0 < j) && decide (j < 2 ^ 200)) = true) : ∀ P, P (.int (i / j)) → rDivD (.int i) (.int j) P := fun _ p => ⟨by
  simp at h
  refine ⟨h.1, ?_⟩
  have h1 : j.natAbs ≠ 0 := by omega
  have h2 : j.natAbs < 2 ^ 200 := by omega
  have := (Nat.log2_lt h1).mpr h2
  omega, p⟩
theorem ev_modc (i j : Int) (h : decide (0 < j) = true) : ∀ P, P (.int (i % j)) → rModD (.int i) (.int j) P := fun _ p => ⟨by simpa using h, p⟩
theorem ev_powc (i j : Int) (h : decide (CPow i j) = true) : ∀ P, P (.int (i ^ j.toNat)) → rPowD (.int i) (.int j) P := fun _ p => ⟨by simpa using h, p⟩
theorem atI_map {e : α → β} {xs : List α} {i : Int} : atI (xs.map e) i = (atI xs i).map e := by
  unfold atI
  rw [List.length_map]
  cases ixN xs.length i with
  | none => rfl
  | some j => simp
def ixR (xs : List α) (i : Int) : Res α := match atI xs i with
  | some v => .ok v
  | none => .no
theorem ixR_ok {xs : List α} {i : Int} {v : α} (h : atI xs i = some v) : ixR xs i = .ok v := by unfold ixR; rw [h]
theorem wp_ixR {xs : List α} {i : Int} {Q : α → Prop} {X : Str → D → Prop} (h : wp (ixR xs i) Q X) : ∃ v, atI xs i = some v ∧ Q v := by
  unfold ixR at h
  cases e : atI xs i with
  | none => rw [e] at h; exact h.elim
  | some v => rw [e] at h; exact ⟨v, rfl, h⟩
theorem op_ixFL (e : α → D) (xs : List α) (i : Int) : OpR rIxD e (eFL e xs) (.int i) (ixR xs i) := fun P X h => by
  obtain ⟨v, q, p⟩ := wp_ixR h
  exact ⟨e v, fun P p => ⟨_, by rw [atI_map, q]; rfl, p⟩, p⟩
def catR (a b : List α) : Res (List α) := grd (a.length + b.length ≤ sizeLine) (a ++ b)
theorem op_catL (e : α → D) (a b : List α) : OpR rAddD (eL e) (eL e a) (eL e b) (catR a b) := fun P X h => ⟨_, fun P p => ⟨by simpa using (wp_grd h).1, by rw [← List.map_append]; exact p⟩, (wp_grd h).2⟩
theorem map_rep {e : α → β} (k : Nat) (a : List α) : (List.replicate k (a.map e)).flatten = ((List.replicate k a).flatten).map e := by
  induction k with
  | zero => rfl
  | succ k ih => simp only [List.replicate_succ, List.flatten_cons, List.map_append, ih]
def repR (a : List α) (k : Int) : Res (List α) := grd (-(2 ^ 63) ≤ k ∧ k < 2 ^ 63 ∧ a.length * k.toNat ≤ sizeLine) (List.replicate k.toNat a).flatten
def repTR (a : List α) (k : Int) : Res (List α) := grd ((a.isEmpty = false ∧ 2 ≤ k ∧ k ≤ 1000 ∧ a.length ≤ 1000)) (List.replicate k.toNat a).flatten
def repTR' (a : List α) (k : Int) : Res (List α) := grd ((a.isEmpty = false ∧ -1000 ≤ k ∧ k ≤ 2000 ∧ a.length ≤ 1000)) (List.replicate k.toNat a).flatten
theorem ne_of_emp {e : α → β} {a : List α} (h : a.isEmpty = false) : a.map e ≠ [] := by cases a <;> simp_all
theorem op_repL (e : α → D) (a : List α) (k : Int) : OpR rMultD (eL e) (eL e a) (.int k) (repR a k) := fun P X h => ⟨_, fun P p => ⟨by simpa using (wp_grd h).1, by rw [map_rep]; exact p⟩, (wp_grd h).2⟩
theorem op_repT (e : α → D) (a : List α) (k : Int) : OpR rMultD (eT e) (eT e a) (.int k) (repTR a k) := fun P X h => ⟨_, fun P p => ⟨by have := (wp_grd h).1; exact ⟨ne_of_emp this.1, by simpa using this.2⟩, by rw [map_rep]; exact p⟩, (wp_grd h).2⟩
theorem op_repT' (e : α → D) (a : List α) (k : Int) : OpR rRepTD (eT e) (eT e a) (.int k) (repTR' a k) := fun P X h => ⟨_, fun P p => ⟨by have := (wp_grd h).1; exact ⟨ne_of_emp this.1, by simpa using this.2⟩, by rw [map_rep]; exact p⟩, (wp_grd h).2⟩
def mem [DecidableEq α] (x : α) (xs : List α) : Bool := decide (x ∈ xs)
@[simp] theorem mem_eq [DecidableEq α] (x : α) (xs : List α) : mem x xs = decide (x ∈ xs) := rfl
structure Flat (e : α → D) : Prop where
  f : ∀ v, flatD (e v) = true
end
end MR
namespace MR
open PySem L2 DL
section
variable {α β γ δ ε σ τ : Type} {κ : Kt} {A : AS} {ta tb tc td te : TD} {X : AX}
theorem ite_c {b : Bool} {m1 m2 : Res α} {Q : α → Prop} {XQ : Str → D → Prop} {p q : Prop} (h : wp (cond b m1 m2) Q XQ) (k1 : wp m1 Q XQ → p) (k2 : wp m2 Q XQ → q) : if b = true then p else q := by
  cases b with
  | true => exact (if_pos rfl).mpr (k1 h)
  | false => exact (if_neg Bool.false_ne_true).mpr (k2 h)
theorem Rv.pv {t : CT α} {e : τ → α} {v : τ} (h : Rv t A e (.ok v)) : Pv t A (e v) := fun κ P X k => h κ P X k
theorem Rv.map {t : CT α} {e : τ → α} {e' : σ → α} {r : Res τ} {f : τ → σ} (h : Rv t A e r) (k : ∀ v, e v = e' (f v)) : Rv t A e' (r.bnd fun v => .ok (f v)) := fun κ P X q => by
  rw [wp_bnd] at q
  exact h κ P X (wp_mono q (fun v q => by rw [k]; exact q) fun _ _ q => q)
theorem z1 : 1 ≤ sizeLine := by decide
theorem z2 : 2 ≤ sizeLine := by decide
theorem z5 : 5 ≤ sizeLine := by decide
theorem zle {n : Nat} (h : n ≤ 1000 := by first | decide | simp) : n ≤ sizeLine := Nat.le_trans h (by decide)
theorem rv_t0 {e : α → D} : Rv (dTup dNil) A (eT e) (.ok []) := fun κ P X k => j_tup (ja_nil ⟨[], rfl, Nat.zero_le _, k⟩)
theorem rv_t1 {a : α → D} {ra : Res α} (ha : Rv ta A a ra) : Rv (dTup (dCons ta dNil)) A (eP1 a) ra := fun κ P X k => j_tup (ja_cons (ha κ _ _ (wp_mono k (fun x k => ja_nil ⟨_, rfl, z1, k⟩) fun _ _ q => q)))
theorem rv_t2 {a : α → D} {b : β → D} {ra : Res α} {rb : Res β} (ha : Rv ta A a ra) (hb : Rv tb A b rb) : Rv (dTup (dCons ta (dCons tb dNil))) A (eP2 a b) (ra.bnd fun x => rb.bnd fun y => .ok (x, y)) := fun κ P X k => by
  rw [wp_bnd] at k
  refine j_tup (ja_cons (ha κ _ _ (wp_mono k (fun x k => ?_) fun _ _ q => q)))
  rw [wp_bnd] at k
  exact ja_cons (hb κ _ _ (wp_mono k (fun y k => ja_nil ⟨_, rfl, z2, k⟩) fun _ _ q => q))
theorem rv_l0 {e : α → D} : Rv (dLst dNil) A (List.map e) (.ok []) := fun κ P X k => j_lst (ja_nil ⟨[], rfl, Nat.zero_le _, k⟩)
def RvL (t : TDA) (A : AS) (e : α → D) (r : Res (List α)) : Prop := ∀ κ (P : List AA → AS → Prop) X, wp r (fun l => P (l.map fun v => .dat (e v)) A) (fun c x => X c x A) → JA κ t A P X
theorem rl_nil {e : α → D} : RvL dNil A e (.ok []) := fun κ P X k => ja_nil k
theorem rl_cons {tr : TDA} {e : α → D} {ra : Res α} {rr : Res (List α)} (ha : Rv ta A e ra) (hr : RvL tr A e rr) : RvL (dCons ta tr) A e (ra.bnd fun x => rr.bnd fun l => .ok (x :: l)) := fun κ P X k => by
  rw [wp_bnd] at k
  refine ja_cons (ha κ _ _ (wp_mono k (fun x k => ?_) fun _ _ q => q))
  rw [wp_bnd] at k
  exact hr κ _ _ (wp_mono k (fun l k => k) fun _ _ q => q)
theorem datsA_map (e : α → D) (l : List α) : datsA (l.map fun v => AA.dat (e v)) = some (l.map e) := by
  induction l with
  | nil => rfl
  | cons x l ih => simp only [List.map_cons, datsA, ih, Option.map_some]
theorem rv_lst {tr : TDA} {e : α → D} {r : Res (List α)} (h : RvL tr A e r) : Rv (dLst tr) A (List.map e) (r.bnd szR) := fun κ P X k => by
  rw [wp_bnd] at k
  refine j_lst (h κ _ _ (wp_mono k (fun l k => ⟨_, datsA_map e l, ?_⟩) fun _ _ q => q))
  unfold szR at k
  by_cases c : l.length ≤ sizeLine
  · rw [if_pos c] at k; exact ⟨by simpa using c, k⟩
  · rw [if_neg c] at k; exact k.elim
theorem rv_f {tf : TDF} {e : α → D} {r : Res (List α)} (h : Rv tf A (List.map e) r) : Rv (dF tf) A (eL e) r := fun κ P X k => j_f (h κ _ _ k)
theorem rv_q2 {a : α → D} {b : β → D} {ra : Res α} {rb : Res β} (ha : Rv ta A a ra) (hb : Rv tb A b rb) : Rv (dF (dLst (dCons ta (dCons tb dNil)))) A (eQ2 a b) (ra.bnd fun x => rb.bnd fun y => .ok (x, y)) := fun κ P X k => by
  rw [wp_bnd] at k
  refine j_f (j_lst (ja_cons (ha κ _ _ (wp_mono k (fun x k => ?_) fun _ _ q => q))))
  rw [wp_bnd] at k
  exact ja_cons (hb κ _ _ (wp_mono k (fun y k => ja_nil ⟨_, rfl, z2, k⟩) fun _ _ q => q))
def CbR (r : RCd) (x : D) {τ : Type} (e : τ → D) (m : Res τ) : Prop := ∀ (P : D → Prop) (X : Str → D → Prop), wp m (fun v => P (e v)) X → ∃ z, (∀ M (Q : D → Prop), Q z → r [.dat x] M Q) ∧ P z
theorem rv_cb1 {r : RCd} {a : α → D} {e : τ → D} {ra : Res α} {m : α → Res τ} (ha : Rv ta A a ra) (h : ∀ v, CbR r (a v) e (m v)) : Rv (dCB r (dCons ta dNil)) A e (ra.bnd m) := fun κ P X k => by
  rw [wp_bnd] at k
  exact j_cb (ja_cons (ha κ _ _ (wp_mono k (fun x k => ja_nil (by
    obtain ⟨z, q, p⟩ := h x (fun d => P d A) _ k
    exact ⟨_, z, rfl, fun M Q hq => q M Q hq, p⟩)) fun _ _ q => q)))
theorem CbR.one {r : RCd} {x : D} {e : τ → D} {v : τ} (h : ∀ M (Q : D → Prop), Q (e v) → r [.dat x] M Q) : CbR r x e (.ok v) := fun P X k => ⟨_, h, k⟩
theorem cb_lenT (e : α → D) (l : List α) : CbR rLenD (eT e l) D.int (.ok (l.length : Int)) := .one fun M Q q => by simpa [rLenD, eT] using q
theorem cb_lenL (e : α → D) (l : List α) : CbR rLenD (eL e l) D.int (.ok (l.length : Int)) := .one fun M Q q => by simpa [rLenD, eL] using q
theorem cb_lenFL (e : α → D) (l : List α) : CbR rLenD (eFL e l) D.int (.ok (l.length : Int)) := .one fun M Q q => by simpa [rLenD, eFL] using q
def lenDR : D → Res Int
  | .lst ds => .ok ds.length
  | .tup ds => .ok ds.length
  | .fl ds => .ok ds.length
  | _ => .no
theorem cb_intI (i : Int) : CbR rIntD (.int i) D.int (.ok i) := .one fun M Q q => q
theorem cb_intB (b : Bool) : CbR rIntD (.bl b) D.int (.ok (cond b 1 0)) := .one fun M Q q => by cases b <;> exact q
theorem cb_tupL (e : α → D) (l : List α) : CbR rTupD (eL e l) (eT e) (.ok l) := .one fun M Q q => q
def maxI : List Int → Int
  | [] => 0
  | [x] => x
  | x :: y :: r => max x (maxI (y :: r))
def minI : List Int → Int
  | [] => 0
  | [x] => x
  | x :: y :: r => min x (minI (y :: r))
def maxR (l : List Int) : Res Int := grd (l ≠ []) (maxI l)
def minR (l : List Int) : Res Int := grd (l ≠ []) (minI l)
theorem rv_2I {f : Int → Int → Int} {ra rb : Res Int} (ha : Rv ta A D.int ra) (hb : Rv tb A D.int rb) : Rv (dCB (r2I f) (dCons ta (dCons tb dNil))) A D.int (ra.bnd fun x => rb.bnd fun y => .ok (f x y)) := fun κ P X k => by
  rw [wp_bnd] at k
  refine j_cb (ja_cons (ha κ _ _ (wp_mono k (fun x k => ?_) fun _ _ q => q)))
  rw [wp_bnd] at k
  exact ja_cons (hb κ _ _ (wp_mono k (fun y k => ja_nil ⟨_, _, rfl, fun M Q q => q, k⟩) fun _ _ q => q))
theorem pv_lenC (i : Nat) {e : α → D} {l : List α} (h : A[i]? = some (.own (cL e l))) : Pv (dCB rLenD (dConsC i dNil)) A (.int (l.length : Int)) := pv_cbC i h fun M c P hm p => ⟨_, hm, by simpa using p⟩
theorem rv_fld {c n : Str} {ea : α → D} {e : τ → D} {r : Res α} {f : α → τ} (q : ∀ v, ∃ fs, ea v = .ins c fs ∧ fs.lookup n = some (e (f v))) (h : Rv ta A ea r) : Rv (dFld ta c n) A e (r.bnd fun v => .ok (f v)) := fun κ P X k s P' PX hs hp hx => by
  rw [wp_bnd] at k
  exact h κ (fun d A1 => ∃ v, d = ea v ∧ P (e (f v)) A1) X (wp_mono k (fun v k => ⟨v, rfl, k⟩) fun _ _ q => q) s _ _ hs (fun d A1 s1 ⟨v, ed, p⟩ hs1 f1 => by
    obtain ⟨fs, e1, e2⟩ := q v
    exact ⟨fs, _, ed.trans e1, e2, hp _ _ _ p hs1 f1⟩) hx
theorem mfl_n (f : Fld) : ∃ fs, eF f = .ins "Field" fs ∧ fs.lookup ("n" : Str) = some (D.int (f.s.length : Int)) := ⟨_, rfl, by simp [List.lookup]⟩
theorem mfl_s (f : Fld) : ∃ fs, eF f = .ins "Field" fs ∧ fs.lookup ("strengths" : Str) = some (eT D.int f.s) := ⟨_, rfl, by simp [List.lookup, eT, beq_iff_eq, ofString_inj, show (Str.ofString "strengths" == Str.ofString "n") = false from by decide, show (Str.ofString "guards" == Str.ofString "n") = false from by decide, show (Str.ofString "guards" == Str.ofString "strengths") = false from by decide]⟩
theorem mfl_g (f : Fld) : ∃ fs, eF f = .ins "Field" fs ∧ fs.lookup ("guards" : Str) = some (eT D.int f.g) := ⟨_, rfl, by simp [List.lookup, eT, beq_iff_eq, ofString_inj, show (Str.ofString "strengths" == Str.ofString "n") = false from by decide, show (Str.ofString "guards" == Str.ofString "n") = false from by decide, show (Str.ofString "guards" == Str.ofString "strengths") = false from by decide]⟩
theorem rv_mkF {ra rb : Res (List Int)} (ha : Rv ta A (eT D.int) ra) (hb : Rv tb A (eT D.int) rb) : Rv (dMkF "Field" (dCons ta (dCons tb dNil))) A eF (ra.bnd fun x => rb.bnd fun y => .ok ⟨x, y⟩) := fun κ P X k s P' PX hs hp hx => by
  rw [wp_bnd] at k
  have : JA κ (dCons ta (dCons tb dNil)) A (fun as A1 => ∃ x y, as = [.dat (eT D.int x), .dat (eT D.int y)] ∧ P (eF ⟨x, y⟩) A1) X := by
    refine ja_cons (ha κ _ _ (wp_mono k (fun x k => ?_) fun _ _ q => q))
    rw [wp_bnd] at k
    exact ja_cons (hb κ _ _ (wp_mono k (fun y k => ja_nil ⟨x, y, rfl, k⟩) fun _ _ q => q))
  refine this s _ _ hs (fun as xs A1 s1 ⟨x, y, e, p⟩ hs1 f1 ok => ?_) hx
  subst e
  have := ok.dats (ds := [eT D.int x, eT D.int y]) rfl
  subst this
  refine ⟨_, _, rfl, ?_⟩
  have := hp _ _ _ p hs1 f1
  simpa [eF, fldD, eT] using this
theorem rv_isO {c : Str} {ea : α → D} {r : Res α} (q : ∀ v, ∃ fs, ea v = .ins c fs) (h : Rv ta A ea r) : Rv (dIsO c ta) A D.bl (r.bnd fun _ => .ok true) := fun κ P X k s P' PX hs hp hx => by
  rw [wp_bnd] at k
  exact h κ (fun d A1 => ∃ v, d = ea v ∧ P (.bl true) A1) X (wp_mono k (fun v k => ⟨v, rfl, k⟩) fun _ _ q => q) s _ _ hs (fun d A1 s1 ⟨v, ed, p⟩ hs1 f1 => by
    obtain ⟨fs, e1⟩ := q v
    exact ⟨fs, ed.trans e1, hp _ _ _ p hs1 f1⟩) hx
def isTR (T : String) (d : D) : Res Bool := match isT T d with
  | some b => .ok b
  | none => .no
theorem rv_isT {T : String} {ea : α → D} {r : Res α} (h : Rv ta A ea r) : Rv (dIsT T ta) A D.bl (r.bnd fun v => isTR T (ea v)) := fun κ P X k s P' PX hs hp hx => by
  rw [wp_bnd] at k
  exact h κ (fun d A1 => ∃ b, isT T d = some b ∧ P (.bl b) A1) X (wp_mono k (fun v k => by
    unfold isTR at k
    cases e : isT T (ea v) with
    | none => rw [e] at k; exact k.elim
    | some b => rw [e] at k; exact ⟨b, rfl, k⟩) fun _ _ q => q) s _ _ hs (fun d A1 s1 ⟨b, e, p⟩ hs1 f1 => ⟨b, e, hp _ _ _ p hs1 f1⟩) hx
def rng (a b : Int) : List Int := (List.range (b - a).toNat).map fun (i : Nat) => a + (i : Int)
def rngR (a b : Int) : Res (List Int) := grd (small a ∧ small b) (rng a b)
theorem rangeD_rng (a b : Int) : rangeD a (b - a).toNat = (rng a b).map D.int := by unfold rangeD rng; rw [List.map_map]; rfl
theorem ri_range1 {r : Res Int} (h : Rv ta A D.int r) : Rv (dRange1 (dCons ta dNil)) A (List.map D.int) (r.bnd fun n => rngR 0 n) := fun κ P X k s P' PX hs hp hx => by
  rw [wp_bnd] at k
  have : JA κ (dCons ta dNil) A (fun as A1 => ∃ n, as = [.dat (.int n)] ∧ small n ∧ P ((rng 0 n).map D.int) A1) X := ja_cons (h κ _ _ (wp_mono k (fun n k => ja_nil ⟨n, rfl, (wp_grd k).1.2, (wp_grd k).2⟩) fun _ _ q => q))
  refine this s _ _ hs (fun as xs A1 s1 ⟨n, e, hn, p⟩ hs1 f1 ok => ?_) hx
  subst e
  have := ok.dats (ds := [D.int n]) rfl
  subst this
  exact ⟨n, rfl, hn, by have e := rangeD_rng 0 n; rw [Int.sub_zero] at e; rw [e]; exact hp _ _ _ p hs1 f1⟩
theorem sq_T (e : α → D) (v : List α) : seqD (eT e v) = some (v.map e) := rfl
theorem sq_L (e : α → D) (v : List α) : seqD (eL e v) = some (v.map e) := rfl
def enumL (l : List α) : List (Int × α) := l.zipIdx.map fun p => ((p.2 : Int), p.1)
theorem enumD_map (e : α → D) (l : List α) : enumD (l.map e) = (enumL l).map (eP2 D.int e) := by
  unfold enumD enumL
  rw [List.map_map]
  have : ∀ k, ((l.map e).zipIdx k).map (fun p => D.tup [.int (p.2 : Nat), p.1]) = (l.zipIdx k).map (eP2 D.int e ∘ fun p => ((p.2 : Int), p.1)) := by
    induction l with
    | nil => intro k; rfl
    | cons x l ih => intro k; simp only [List.map_cons, List.zipIdx_cons, ih]; rfl
  exact this 0
theorem ri_enum {ea : α → D} {e : τ → D} {r : Res α} {f : α → List τ} (q : ∀ v, seqD (ea v) = some ((f v).map e)) (h : Rv ta A ea r) : Rv (dEnum (dCons ta dNil)) A (List.map (eP2 D.int e)) (r.bnd fun v => .ok (enumL (f v))) := fun κ P X k s P' PX hs hp hx => by
  rw [wp_bnd] at k
  have : JA κ (dCons ta dNil) A (fun as A1 => ∃ v, as = [.dat (ea v)] ∧ P ((enumL (f v)).map (eP2 D.int e)) A1) X := ja_cons (h κ _ _ (wp_mono k (fun v k => ja_nil ⟨v, rfl, k⟩) fun _ _ q => q))
  refine this s _ _ hs (fun as xs A1 s1 ⟨v, ee, p⟩ hs1 f1 ok => ?_) hx
  subst ee
  have := ok.dats (ds := [ea v]) rfl
  subst this
  exact ⟨_, _, rfl, q v, by rw [enumD_map]; exact hp _ _ _ p hs1 f1⟩
def zipL : List α → List β → List (α × β)
  | x :: xs, y :: ys => (x, y) :: zipL xs ys
  | _, _ => []
theorem zipD_map (e : α → D) (f : β → D) : ∀ (a : List α) (b : List β), zipD (a.map e) (b.map f) = (zipL a b).map (eP2 e f)
  | [], _ => by simp [zipD, zipL]
  | _ :: _, [] => by simp [zipD, zipL]
  | x :: a, y :: b => by simp only [List.map_cons, zipD, zipL, zipD_map e f a b]; rfl
theorem ri_zip {ea : α → D} {eb : β → D} {e : σ → D} {e' : τ → D} {ra : Res α} {rb : Res β} {f : α → List σ} {f' : β → List τ} (q : ∀ v, seqD (ea v) = some ((f v).map e)) (q' : ∀ v, seqD (eb v) = some ((f' v).map e')) (ha : Rv ta A ea ra) (hb : Rv tb A eb rb) : Rv (dZip (dCons ta (dCons tb dNil))) A (List.map (eP2 e e')) (ra.bnd fun x => rb.bnd fun y => .ok (zipL (f x) (f' y))) := fun κ P X k s P' PX hs hp hx => by
  rw [wp_bnd] at k
  have : JA κ (dCons ta (dCons tb dNil)) A (fun as A1 => ∃ x y, as = [.dat (ea x), .dat (eb y)] ∧ P ((zipL (f x) (f' y)).map (eP2 e e')) A1) X := by
    refine ja_cons (ha κ _ _ (wp_mono k (fun m k => ?_) fun _ _ q => q))
    rw [wp_bnd] at k
    exact ja_cons (hb κ _ _ (wp_mono k (fun n k => ja_nil ⟨m, n, rfl, k⟩) fun _ _ q => q))
  refine this s _ _ hs (fun as xs A1 s1 ⟨x, y, ee, p⟩ hs1 f1 ok => ?_) hx
  subst ee
  have := ok.dats (ds := [ea x, eb y]) rfl
  subst this
  exact ⟨_, _, _, _, rfl, q x, q' y, by rw [zipD_map]; exact hp _ _ _ p hs1 f1⟩
def RvO (t : TDO) (A : AS) (r : Res (Option Int)) : Prop := Rv t A id r
theorem ro_none : Rv dNoPart A id (.ok (none : Option Int)) := fun κ P X k s P' PX hs hp hx => hp _ _ _ k hs (Fr.refl s)
theorem ro_some {r : Res Int} (h : Rv ta A D.int r) : Rv (dPart ta) A id (r.bnd fun i => .ok (some i)) := fun κ P X k s P' PX hs hp hx => by
  rw [wp_bnd] at k
  exact h κ (fun d A1 => ∃ i, d = .int i ∧ P (some i) A1) X (wp_mono k (fun i k => ⟨i, rfl, k⟩) fun _ _ q => q) s _ _ hs (fun d A1 s1 ⟨i, ed, p⟩ hs1 f1 => ⟨i, ed, hp _ _ _ p hs1 f1⟩) hx
def cutL (xs : List α) (lo hi : Option Int) : List α := (xs.drop (HT.sIx xs.length 0 lo)).take (HT.sIx xs.length xs.length hi - HT.sIx xs.length 0 lo)
theorem cutD_map (e : α → D) (xs : List α) (lo hi : Option Int) : cutD (xs.map e) lo hi = (cutL xs lo hi).map e := by unfold cutD cutL; simp
theorem rv_sl {ea : List α → D} {tl th : TDO} {r : Res (List α)} {rl rh : Res (Option Int)} (q : ∀ v l u (P : D → Prop), P (ea (cutL v l u)) → rCutD (ea v) l u P) (h : Rv ta A ea r) (hl : Rv tl A id rl) (hh : Rv th A id rh) : Rv (dSl ta tl th) A ea (r.bnd fun v => rl.bnd fun l => rh.bnd fun u => .ok (cutL v l u)) := fun κ P X k s P' PX hs hp hx => by
  rw [wp_bnd] at k
  refine h κ (fun d A1 => ∃ v, d = ea v ∧ A1 = A ∧ wp (rl.bnd fun l => rh.bnd fun u => .ok (cutL v l u)) (fun v => P (ea v) A) (fun c x => X c x A)) X (wp_mono k (fun v k => ⟨v, rfl, rfl, k⟩) fun _ _ q => q) s _ _ hs (fun d A1 s1 ⟨v, ed, eA, k⟩ hs1 f1 => ?_) hx
  subst ed; subst eA
  rw [wp_bnd] at k
  refine hl κ (fun l A2 => A2 = A1 ∧ wp (rh.bnd fun u => .ok (cutL v l u)) (fun v => P (ea v) A1) (fun c x => X c x A1)) X (wp_mono k (fun v k => ⟨rfl, k⟩) fun _ _ q => q) s1 _ _ hs1 (fun l A2 s2 ⟨eA, k⟩ hs2 f2 => ?_) hx
  subst eA
  rw [wp_bnd] at k
  exact hh κ (fun u A3 => A3 = A2 ∧ P (ea (cutL v l u)) A2) X (wp_mono k (fun v k => ⟨rfl, k⟩) fun _ _ q => q) s2 _ _ hs2 (fun u A3 s3 ⟨eA, k⟩ hs3 f3 => by subst eA; exact q v l u _ (hp _ _ _ k hs3 ((f1.trans f2).trans f3))) hx
theorem ct_L (e : α → D) (v : List α) (l u : Option Int) (P : D → Prop) (h : P (eL e (cutL v l u))) : rCutD (eL e v) l u P := by
  show P (.lst (cutD (v.map e) l u)); rw [cutD_map]; exact h
theorem rv_slL {e : α → D} {tl th : TDO} {r : Res (List α)} {rl rh : Res (Option Int)} (h : Rv ta A (eL e) r) (hl : Rv tl A id rl) (hh : Rv th A id rh) : Rv (dSlL ta tl th) A (List.map e) (r.bnd fun v => rl.bnd fun l => rh.bnd fun u => .ok (cutL v l u)) := fun κ P X k s P' PX hs hp hx => by
  rw [wp_bnd] at k
  refine h κ (fun d A1 => ∃ v, d = eL e v ∧ A1 = A ∧ wp (rl.bnd fun l => rh.bnd fun u => .ok (cutL v l u)) (fun v => P (v.map e) A) (fun c x => X c x A)) X (wp_mono k (fun v k => ⟨v, rfl, rfl, k⟩) fun _ _ q => q) s _ _ hs (fun d A1 s1 ⟨v, ed, eA, k⟩ hs1 f1 => ?_) hx
  subst ed; subst eA
  rw [wp_bnd] at k
  refine hl κ (fun l A2 => A2 = A1 ∧ wp (rh.bnd fun u => .ok (cutL v l u)) (fun v => P (v.map e) A1) (fun c x => X c x A1)) X (wp_mono k (fun v k => ⟨rfl, k⟩) fun _ _ q => q) s1 _ _ hs1 (fun l A2 s2 ⟨eA, k⟩ hs2 f2 => ?_) hx
  subst eA
  rw [wp_bnd] at k
  exact hh κ (fun u A3 => A3 = A2 ∧ P ((cutL v l u).map e) A2) X (wp_mono k (fun v k => ⟨rfl, k⟩) fun _ _ q => q) s2 _ _ hs2 (fun u A3 s3 ⟨eA, k⟩ hs3 f3 => by subst eA; exact ⟨_, rfl, by rw [cutD_map]; exact hp _ _ _ k hs3 ((f1.trans f2).trans f3)⟩) hx
theorem grd_ne {p : Prop} [Decidable p] {v : α} (c : Str) (x : D) : grd p v ≠ .er c x := by
  unfold grd
  by_cases q : p
  · rw [if_pos q]; exact fun h => nomatch h
  · rw [if_neg q]; exact fun h => nomatch h
end
end MR
namespace MR
open PySem L2 DL
section
variable {τ : Type} {κ : Kt} {A : AS} {X : AX} {sp : SpD} {e : τ → D}
theorem rv_call1 {s0 : Type} {t0 : TD} {e0 : s0 → D} {r0 : Res s0} {m : s0 → Res τ} (h0 : Rv t0 A e0 r0) (hc : ∀ a0, Call0 sp [e0 a0] e (m a0)) : Rv (dCall sp (dCons t0 (dNil))) A e (r0.bnd fun a0 => m a0) := fun κ P X k => by
  refine j_call0 ?_
  rw [wp_bnd] at k
  refine ja_cons (h0 κ _ _ (wp_mono k (fun a0 k => ?_) fun _ _ q => q))
  exact ja_nil ⟨_, rfl, τ, e, _, hc a0, k⟩
theorem rv_call2 {s0 : Type} {s1 : Type} {t0 : TD} {e0 : s0 → D} {t1 : TD} {e1 : s1 → D} {r0 : Res s0} {r1 : Res s1} {m : s0 → s1 → Res τ} (h0 : Rv t0 A e0 r0) (h1 : Rv t1 A e1 r1) (hc : ∀ a0 a1, Call0 sp [e0 a0, e1 a1] e (m a0 a1)) : Rv (dCall sp (dCons t0 (dCons t1 (dNil)))) A e (r0.bnd fun a0 => r1.bnd fun a1 => m a0 a1) := fun κ P X k => by
  refine j_call0 ?_
  rw [wp_bnd] at k
  refine ja_cons (h0 κ _ _ (wp_mono k (fun a0 k => ?_) fun _ _ q => q))
  rw [wp_bnd] at k
  refine ja_cons (h1 κ _ _ (wp_mono k (fun a1 k => ?_) fun _ _ q => q))
  exact ja_nil ⟨_, rfl, τ, e, _, hc a0 a1, k⟩
theorem rv_call3 {s0 : Type} {s1 : Type} {s2 : Type} {t0 : TD} {e0 : s0 → D} {t1 : TD} {e1 : s1 → D} {t2 : TD} {e2 : s2 → D} {r0 : Res s0} {r1 : Res s1} {r2 : Res s2} {m : s0 → s1 → s2 → Res τ} (h0 : Rv t0 A e0 r0) (h1 : Rv t1 A e1 r1) (h2 : Rv t2 A e2 r2) (hc : ∀ a0 a1 a2, Call0 sp [e0 a0, e1 a1, e2 a2] e (m a0 a1 a2)) : Rv (dCall sp (dCons t0 (dCons t1 (dCons t2 (dNil))))) A e (r0.bnd fun a0 => r1.bnd fun a1 => r2.bnd fun a2 => m a0 a1 a2) := fun κ P X k => by
  refine j_call0 ?_
  rw [wp_bnd] at k
  refine ja_cons (h0 κ _ _ (wp_mono k (fun a0 k => ?_) fun _ _ q => q))
  rw [wp_bnd] at k
  refine ja_cons (h1 κ _ _ (wp_mono k (fun a1 k => ?_) fun _ _ q => q))
  rw [wp_bnd] at k
  refine ja_cons (h2 κ _ _ (wp_mono k (fun a2 k => ?_) fun _ _ q => q))
  exact ja_nil ⟨_, rfl, τ, e, _, hc a0 a1 a2, k⟩
variable {α β : Type} {ea : α → D}
def appR (l : List α) (x : α) : Res (List α) := grd (l.length < sizeLine) (l ++ [x])
def popAtR (l : List α) (k : Int) : Res (α × List α) := if 0 ≤ k ∧ k < 2 ^ 63 then match l[k.toNat]? with
  | some z => .ok (z, l.eraseIdx k.toNat)
  | none => .no else .no
def popR (l : List α) : Res (α × List α) := match l[l.length - 1]? with
  | some z => .ok (z, l.dropLast)
  | none => .no
def remR (l : List Int) (x : Int) : Res (List Int) := grd (x ∈ l) (l.erase x)
def setR (l : List α) (i : Int) (x : α) : Res (List α) := match ixN l.length i with
  | some j => .ok (l.set j x)
  | none => .no
theorem wp_setR {l : List α} {i : Int} {x : α} {Q : List α → Prop} {XQ : Str → D → Prop} (h : wp (setR l i x) Q XQ) : ∃ j, ixN l.length i = some j ∧ Q (l.set j x) := by
  unfold setR at h
  cases e : ixN l.length i with
  | none => rw [e] at h; exact h.elim
  | some j => rw [e] at h; exact ⟨j, rfl, h⟩
def ixR0 (l : List α) (i : Int) : Res α := if 0 ≤ i then ixR l i else .no
def valK [DecidableEq β] (ks : List (β × α)) (k : β) : Option α := (ks.find? fun p => decide (p.1 = k)).map (·.2)
def putK [DecidableEq β] (ks : List (β × α)) (k : β) (d : α) : List (β × α) := if (ks.any fun p => decide (p.1 = k)) = true then ks.map (fun p => if p.1 = k then (p.1, d) else p) else ks ++ [(k, d)]
structure KeyE [DecidableEq β] (ek : β → D) (enc : β → List Int) : Prop where
  k : ∀ a, ∃ ds, ek a = .tup ds ∧ intsD ds = some (enc a)
  i : ∀ a b, enc a = enc b → a = b
abbrev enc2 (p : Int × Int) : List Int := [p.1, p.2]
abbrev enc3 (p : Int × Int × Int) : List Int := [p.1, p.2.1, p.2.2]
theorem intsD_map (xs : List Int) : intsD (xs.map D.int) = some xs := by induction xs with
  | nil => rfl
  | cons x xs ih => simp [intsD, ih]
def putR [DecidableEq β] (ks : List (β × α)) (k : β) (d : α) : Res (List (β × α)) := grd (ks.length < sizeLine) (putK ks k d)
def getR [DecidableEq β] (ks : List (β × α)) (k : β) : Res α := match valK ks k with
  | some v => .ok v
  | none => .no
variable {ta tb : TD}
theorem rv_ixC (i : Nat) {l : List α} {r : Res Int} (e : A[i]? = some (.own (cL ea l))) (h : Rv ta A D.int r) : Rv (dIxC i ta) A ea (r.bnd fun k => ixR l k) := fun κ P X k => by
  rw [wp_bnd] at k
  exact j_ixC i e (h κ _ _ (wp_mono k (fun j k => by
    obtain ⟨v, q, p⟩ := wp_ixR k
    exact ⟨_, j, ea v, e, rfl, by rw [atI_map, q]; rfl, p⟩) fun _ _ q => q))
end
end MR
namespace MR
open PySem L2 DL
section
variable {α β σ τ : Type} {κ : Kt} {A : AS} {N : AN} {X : AX} {ta tb tc : TD}
theorem opr_ok {r : RD} {x y : D} {e : τ → D} {z : τ} (h : ∀ P, P (e z) → r x y P) : OpR r e x y (.ok z) := fun P X k => ⟨_, h, k⟩
theorem rv_pp {r : RD} {e : τ → D} {x y : D} {m : Res τ} (ha : Pv ta A x) (hb : Pv tb A y) (hr : OpR r e x y m) : Rv (dOp r ta tb) A e m := fun κ P X k => j_op (ha κ _ _ (hb κ _ _ (hr.j k)))
theorem rv_rp {r : RD} {e1 : σ → D} {e : τ → D} {y : D} {ra : Res σ} {m : σ → Res τ} (ha : Rv ta A e1 ra) (hb : Pv tb A y) (hr : ∀ a, OpR r e (e1 a) y (m a)) : Rv (dOp r ta tb) A e (ra.bnd m) := fun κ P X k => by
  rw [wp_bnd] at k
  exact j_op (ha κ _ _ (wp_mono k (fun a k => hb κ _ _ ((hr a).j k)) fun _ _ h => h))
theorem rv_pr {r : RD} {e1 : σ → D} {e : τ → D} {x : D} {rb : Res σ} {m : σ → Res τ} (ha : Pv ta A x) (hb : Rv tb A e1 rb) (hr : ∀ b, OpR r e x (e1 b) (m b)) : Rv (dOp r ta tb) A e (rb.bnd m) := fun κ P X k => by
  rw [wp_bnd] at k
  exact j_op (ha κ _ _ (hb κ _ _ (wp_mono k (fun a k => (hr a).j k) fun _ _ h => h)))
theorem J.use {t : CT α} {e : τ → α} {r r' : Res τ} {f : τ → Res β} {P : α → AS → Prop} {Q : β → Prop} {XQ : Str → D → Prop} (h : wp (r'.bnd f) Q XQ) (p : Rv t A e r) (q : r = r') (k : ∀ v, wp (f v) Q XQ → P (e v) A) (kx : ∀ c x, XQ c x → X c x A) : J κ t A P X := by
  subst q
  rw [wp_bnd] at h
  exact p κ P X (wp_mono h k kx)
theorem J.useT {t : CT α} {e : τ → α} {r r' : Res τ} {P : α → AS → Prop} {Q : τ → Prop} {XQ : Str → D → Prop} (h : wp r' Q XQ) (p : Rv t A e r) (q : r = r') (k : ∀ v, Q v → P (e v) A) (kx : ∀ c x, XQ c x → X c x A) : J κ t A P X := by
  subst q
  exact p κ P X (wp_mono h k kx)
theorem wp_use {r' : Res τ} {f : τ → Res β} {Q : β → Prop} {XQ X' : Str → D → Prop} {P : τ → Prop} (h : wp (r'.bnd f) Q XQ) (k : ∀ v, wp (f v) Q XQ → P v) (kx : ∀ c x, XQ c x → X' c x) : wp r' P X' := by
  rw [wp_bnd] at h
  exact wp_mono h k kx
theorem js_tryX {L : List Str} {t : TSd} {hd : List HdD} {Xq : Str → D → Prop} (hn : κ = κ.off) (hh : ∀ c x, Xq c x → c ∈ L ∧ aSel κ N X hd c x A) (h : JS κ t A N (fun c x A' => Xq c x ∧ Le A' A)) : JS κ (dTry L t hd) A N X := fun s E PX hs he hx =>
  h s _ _ hs he (fun c x A' s' ⟨q, l⟩ hs' => ⟨(hh c x q).1, aSel_ok (by rw [hn]; exact hs'.le l) he hx hd (hh c x q).2⟩)
structure NoLs (e : α → D) : Prop where
  f : ∀ v, noL (e v) = true
theorem noLs_map {e : α → D} (h : NoLs e) (l : List α) : noLs (l.map e) = true := by
  induction l with
  | nil => rfl
  | cons x l ih => simp [h.f, ih]
theorem tr_FL (e : α → D) (l : List α) : truD (eFL e l) = some (!l.isEmpty) := by simp [eFL]
theorem rv_lstO {tr : TDA} {e : α → D} {r : Res (List α)} {l : List α} (h : RvL tr A e r) (q : r = .ok l) (hl : l.length ≤ sizeLine) : Rv (dLst tr) A (List.map e) (.ok l) := fun κ P X k => by
  subst q
  exact j_lst (h κ _ _ ⟨_, datsA_map e l, by simpa using hl, k⟩)
def un2 (l : List α) : Res (α × α) := match l with
  | [a, b] => .ok (a, b)
  | _ => .no
def un3 (l : List α) : Res (α × α × α) := match l with
  | [a, b, c] => .ok (a, b, c)
  | _ => .no
def unD2 : D → Res (D × D)
  | .tup [a, b] => .ok (a, b)
  | _ => .no
def unD3 : D → Res (D × D × D)
  | .tup [a, b, c] => .ok (a, b, c)
  | _ => .no
def ixDR (x : D) (i : Int) : Res D := match x with
  | .lst ds => ixR ds i
  | .tup ds => ixR ds i
  | .fl ds => ixR ds i
  | _ => .no
def asI : D → Res Int
  | .int i => .ok i
  | _ => .no
def asB : D → Res Bool
  | .bl b => .ok b
  | _ => .no
end
end MR
namespace MR
open PySem L2 DL
section
variable {α β γ σ τ : Type} {κ : Kt} {A : AS} {N : AN} {X : AX} {ta tb tc : TD} {wd : TDI} {g : TGd} {tt : TDB} {te : TD} {vs : List Nat}
def aLc (κ : Kt) (g : TGd) (tt : TDB) (te : TD) (vs : List Nat) (ds : List D) (A : AS) (P : List D → AS → Prop) : Prop := ∀ s P', Sat κ s A → (∀ l A' s', P l A' → Sat κ s' A' → Fr s s' → P' l s') → lcD g tt te vs P' ds [] s
theorem j_lc {P : List D → AS → Prop} (h : J κ wd A (fun ds A1 => aLc κ g tt te vs ds A1 P) X) : J κ (dLc wd g tt te vs) A P X := fun s P' PX hs hp hx =>
  h s _ _ hs (fun ds A1 s1 q hs1 f1 => q s1 P' hs1 fun l A' s' p hs' f' => hp l A' s' p hs' (f1.trans f')) hx
theorem al_B (enc : α → D) (e : β → D) (I : σ → AS) {f : σ → α → Res (Option β × σ)} {xs : List α} {st : σ} {P : List D → AS → Prop} {XQ : Str → D → Prop} (hA : A = I st) (hv : vs.all κ.free = true) (tc : Tc vs g) (hI : ∀ a b, SameD (I a) (I b)) (ho : ∀ a, ownsOut (I a) vs = true)
    (h : wp (lcB f xs [] st) (fun r => P (r.1.map e) (I r.2)) XQ)
    (hb : ∀ st x (Q : Option β × σ → Prop), wp (f st x) Q (fun _ _ => False) → JG κ g (enc x) (wipeA (I st) vs) fun A1 => J κ tt A1 (fun b A2 => if b = true then J κ te A2 (fun z A3 => ∃ v st', z = e v ∧ Keep (I st') A3 ∧ Q (some v, st')) (fun _ _ _ => False) else ∃ st', Keep (I st') A2 ∧ Q (none, st')) fun _ _ _ => False) : aLc κ g tt te vs (xs.map enc) A P := fun s P' hs hp => by
  subst hA
  exact a_lcB enc e I hv tc hI ho hb xs [] st s s P' hs (Fr.refl s) hp (lcB_wp h)
theorem CbR.ev {r : RCd} {x : D} {e : τ → D} {v : τ} (c : CbR r x e (.ok v)) (M : Mem) (P : D → Prop) (p : P (e v)) : r ([x].map .dat) M P := by
  obtain ⟨z, q, hz⟩ := c (fun z => z = e v) (fun _ _ => False) rfl
  subst hz
  exact q M P p
theorem CbR.use {r : RCd} {x : D} {e : τ → D} {m : Res τ} {f : τ → Res β} {Q : β → Prop} {XQ : Str → D → Prop} (c : CbR r x e m) (h : wp (m.bnd f) Q XQ) (hne : ∀ c x, m ≠ .er c x) : ∃ v, (∀ (M : Mem) (P : D → Prop), P (e v) → r ([x].map .dat) M P) ∧ wp (f v) Q XQ := by
  rw [wp_bnd] at h
  cases q : m with
  | ok v => rw [q] at h c; exact ⟨v, fun M P p => c.ev M P p, h⟩
  | er c x => exact (hne c x q).elim
  | no => rw [q] at h; exact h.elim
theorem setR_use {ea : α → D} {l : List α} {i : Int} {x : α} {f : List α → Res β} {Q : β → Prop} {XQ : Str → D → Prop} (h : wp ((setR l i x).bnd f) Q XQ) : ∃ y j, ixN (l.map ea).length i = some j ∧ (l.map ea).set j (ea x) = y.map ea ∧ wp (f y) Q XQ := by
  rw [wp_bnd] at h
  obtain ⟨j, q, p⟩ := wp_setR h
  exact ⟨_, j, by simpa using q, by rw [List.map_set], p⟩
theorem hdl_c {c C : Str} {m1 m2 : Res α} {Q : α → Prop} {XQ : Str → D → Prop} {p q : Prop} (h : wp (cond (subE c C) m1 m2) Q XQ) (k1 : wp m1 Q XQ → p) (k2 : wp m2 Q XQ → q) : (subE c C = true → p) ∧ (subE c C = false → q) := by
  cases e : subE c C with
  | true => rw [e] at h; exact ⟨fun _ => k1 h, fun q => Bool.noConfusion q⟩
  | false => rw [e] at h; exact ⟨fun q => Bool.noConfusion q, fun _ => k2 h⟩
theorem hdl_in {L : List Str} {c : Str} {m : Res α} {Q : α → Prop} {XQ : Str → D → Prop} {p : Prop} (h : wp (cond (decide (c ∈ L)) m .no) Q XQ) (k : wp m Q XQ → p) : c ∈ L ∧ p := by
  by_cases q : c ∈ L
  · rw [decide_eq_true q] at h; exact ⟨q, k h⟩
  · rw [decide_eq_false q] at h; exact h.elim
theorem pick_map (p : List Nat) (ds : List D) : pick p (ds.map Sl.dat) = (pick p ds).map Sl.dat := by
  unfold pick
  rw [List.map_filterMap]
  congr 1
  funext i
  simp
theorem j_callK0 {sp : SpD} {n m : Nat} {p : List Nat} {t u : TDA} {P : D → AS → Prop} (h : JA κ t A (fun as A1 => JA κ u A1 (fun bs A2 => as.length = n ∧ bs.length = m ∧ ∃ ds, (match datsA as, datsA bs with | some a, some b => some (pick p (a ++ b)) | _, _ => none) = some ds ∧ ∃ (τ : Type) (e : τ → D) (m : Res τ), Call0 sp ds e m ∧ wp m (fun v => P (e v) A2) (fun c x => X c x A2)) X) X) : J κ (dCallK sp n m p t u) A P X := fun s P' PX' hs hp hx =>
  h s _ _ hs (fun as xs A1 s1 h1 hs1 f1 ok => h1 s1 _ _ hs1 (fun bs ys A2 s2 ⟨l1, l2, ds, e, τ, en, m, hc, hw⟩ hs2 f2 ok2 => by
    cases ea : datsA as with
    | none => rw [ea] at e; cases e
    | some a =>
      cases eb : datsA bs with
      | none => rw [ea, eb] at e; cases e
      | some b =>
        rw [ea, eb] at e
        cases e
        have ex := ok.dats ea
        have ey := ok2.dats eb
        subst ex; subst ey
        have len : ∀ {as : List AA} {ds : List D}, datsA as = some ds → as.length = ds.length := by
          intro as
          induction as with
          | nil => intro ds h; cases h; rfl
          | cons q as ih =>
            intro ds h
            cases q with
            | dat d =>
              simp only [datsA] at h
              cases e : datsA as with
              | none => rw [e] at h; cases h
              | some z => rw [e] at h; cases h; simp [ih e]
            | cell i => cases h
            | new x => cases h
        refine ⟨by rw [List.length_map, ← len ea]; exact l1, by rw [List.length_map, ← len eb]; exact l2, ?_⟩
        rw [← List.map_append, pick_map]
        unfold callM
        rw [cellsIn_map]
        exact hc _ _ (wp_mono hw (fun v p => hp _ _ _ p hs2 (f1.trans f2)) fun c x q => hx _ _ _ _ q hs2.off)) hx) hx
def CallF (sp : SpF) (ds : List D) {τ : Type} (e : τ → D) (m : Res (List τ)) : Prop := ∀ P, wp m (fun l => P (l.map e)) (fun _ _ => False) → sp (ds.map .dat) [] P
theorem rv_callF2 {s1 s2 : Type} {e1 : s1 → D} {e2 : s2 → D} {e : τ → D} {sp : SpF} {r1 : Res s1} {r2 : Res s2} {m : s1 → s2 → Res (List τ)} (h1 : Rv ta A e1 r1) (h2 : Rv tb A e2 r2) (hc : ∀ a b, CallF sp [e1 a, e2 b] e (m a b)) (hne : ∀ a b c x, m a b ≠ .er c x) : Rv (dCallF sp (dCons ta (dCons tb dNil))) A (List.map e) (r1.bnd fun a => r2.bnd fun b => m a b) := fun κ P X k s P' PX hs hp hx => by
  rw [wp_bnd] at k
  have : JA κ (dCons ta (dCons tb dNil)) A (fun as A1 => ∃ a b, as = [.dat (e1 a), .dat (e2 b)] ∧ wp (m a b) (fun l => P (l.map e) A1) (fun c x => X c x A1)) X := by
    refine ja_cons (h1 κ _ _ (wp_mono k (fun a k => ?_) fun _ _ q => q))
    rw [wp_bnd] at k
    exact ja_cons (h2 κ _ _ (wp_mono k (fun b k => ja_nil ⟨a, b, rfl, k⟩) fun _ _ q => q))
  refine this s _ _ hs (fun as xs A1 s1 ⟨a, b, ee, w⟩ hs1 f1 ok => ?_) hx
  subst ee
  have := ok.dats (ds := [e1 a, e2 b]) rfl
  subst this
  refine ⟨rfl, hc a b _ ?_⟩
  cases e : m a b with
  | ok l => rw [e] at w; exact hp _ _ _ w hs1 f1
  | er c x => exact (hne _ _ _ _ e).elim
  | no => rw [e] at w; exact w
theorem rv_callNew {ea : α → D} {e : τ → D} {sp : SpD} {tf : TDF} {r : Res (List α)} {m : List α → Res (τ × List α)} (h : Rv tf A (List.map ea) r) (hc : ∀ l, Call1 sp [.cell 0] (cL ea l) (fun q : τ × List α => e q.1) (fun q => cL ea q.2) (m l)) : Rv (dCallNew sp tf) A e (r.bnd fun l => (m l).bnd fun q => .ok q.1) := fun κ P X k s P' PX hs hp hx => by
  rw [wp_bnd] at k
  refine h κ (fun ds A1 => ∃ l, ds = l.map ea ∧ wp ((m l).bnd fun q => .ok q.1) (fun v => P (e v) A1) (fun c x => X c x A1)) X (wp_mono k (fun l k => ⟨l, rfl, k⟩) fun _ _ q => q) s _ _ hs (fun ds A1 s1 ⟨l, ed, w⟩ hs1 f1 => ?_) hx
  subst ed
  rw [wp_bnd] at w
  exact hc l _ _ (wp_mono w (fun q w => hp _ _ _ w hs1 f1) fun c x w y => hx _ _ _ _ w hs1.off)
def FUEL : Nat := 1000000000000
end
end MR
namespace MR
open PySem L2 DL
section
variable {α β γ δ σ τ : Type} {κ : Kt} {A : AS} {N : AN} {X : AX} {ta tb tc : TD}
structure Nar (n : D → Res α) (e : α → D) : Prop where
  ok : ∀ d v, n d = .ok v → d = e v
  ne : ∀ d c x, n d ≠ .er c x
theorem rv_nar {n : D → Res α} {e : α → D} {t : TD} {r : Res D} (hn : Nar n e) (h : Rv t A id r) : Rv t A e (r.bnd n) := fun κ P X k => by
  rw [wp_bnd] at k
  refine h κ _ _ (wp_mono k (fun d k => ?_) fun _ _ q => q)
  cases q : n d with
  | ok v => rw [q] at k; rw [hn.ok d v q]; exact k
  | er c x => exact (hn.ne _ _ _ q).elim
  | no => rw [q] at k; exact k.elim
def nD : D → Res D := fun d => .ok d
def nN : D → Res Unit
  | .non => .ok ()
  | _ => .no
def nW : D → Res Wd
  | .str s => if h : PyData.strOk s = true then .ok ⟨s, h⟩ else .no
  | _ => .no
def nP1 (a : D → Res α) : D → Res α
  | .tup [x] => a x
  | _ => .no
def nP2 (a : D → Res α) (b : D → Res β) : D → Res (α × β)
  | .tup [x, y] => (a x).bnd fun u => (b y).bnd fun v => .ok (u, v)
  | _ => .no
def nP3 (a : D → Res α) (b : D → Res β) (c : D → Res γ) : D → Res (α × β × γ)
  | .tup [x, y, z] => (a x).bnd fun u => (b y).bnd fun v => (c z).bnd fun w => .ok (u, v, w)
  | _ => .no
def nP4 (a : D → Res α) (b : D → Res β) (c : D → Res γ) (d : D → Res δ) : D → Res (α × β × γ × δ)
  | .tup [x, y, z, t] => (a x).bnd fun u => (b y).bnd fun v => (c z).bnd fun w => (d t).bnd fun s => .ok (u, v, w, s)
  | _ => .no
def mapR (n : α → Res β) : List α → Res (List β)
  | [] => .ok []
  | x :: xs => (n x).bnd fun y => (mapR n xs).bnd fun ys => .ok (y :: ys)
def nT (n : D → Res α) : D → Res (List α)
  | .tup ds => mapR n ds
  | _ => .no
def nL (n : D → Res α) : D → Res (List α)
  | .lst ds => mapR n ds
  | _ => .no
theorem bnd_okE {r : Res α} {f : α → Res β} {v : β} (h : r.bnd f = .ok v) : ∃ a, r = .ok a ∧ f a = .ok v := by
  cases r with
  | ok a => exact ⟨a, rfl, h⟩
  | er c x => cases h
  | no => cases h
theorem ok_neer {v : α} (c : Str) (x : D) : Res.ok v ≠ .er c x := fun h => (by cases h)
theorem bnd_neE {r : Res α} {f : α → Res β} (h : ∀ c x, r ≠ .er c x) (k : ∀ a c x, f a ≠ .er c x) (c : Str) (x : D) : r.bnd f ≠ .er c x := by
  cases r with
  | ok a => exact k a c x
  | er c x => exact (h _ _ rfl).elim
  | no => exact fun h => nomatch h
theorem na_I : Nar asI D.int := ⟨fun d v h => (by cases d <;> first | (cases h; done) | (cases h; rfl)), fun d c x h => (by cases d <;> cases h)⟩
theorem mapR_ok {n : D → Res α} {e : α → D} (h : Nar n e) : ∀ ds v, mapR n ds = .ok v → ds = v.map e
  | [], v, q => by cases q; rfl
  | d :: ds, v, q => by
    obtain ⟨u, h1, q⟩ := bnd_okE q
    obtain ⟨w, h2, q⟩ := bnd_okE q
    cases q
    rw [h.ok _ _ h1, mapR_ok h ds w h2]; rfl
theorem mapR_ne {n : D → Res α} {e : α → D} (h : Nar n e) : ∀ ds c x, mapR n ds ≠ .er c x
  | [], c, x => fun q => nomatch q
  | d :: ds, c, x => bnd_neE (h.ne _) (fun _ => bnd_neE (mapR_ne h ds) fun _ => ok_neer) _ _
theorem na_T {n : D → Res α} {e : α → D} (h : Nar n e) : Nar (nT n) (eT e) where
  ok d v q := by
    cases d <;> first | (cases q; done) | exact congrArg D.tup (mapR_ok h _ _ q)
  ne d c x q := by
    cases d <;> first | (cases q; done) | exact mapR_ne h _ _ _ q
@[simp] theorem asI_int (i : Int) : asI (.int i) = .ok i := rfl
@[simp] theorem asB_bl (b : Bool) : asB (.bl b) = .ok b := rfl
@[simp] theorem nW_eW (w : Wd) : nW (eW w) = .ok w := by unfold nW eW; exact dif_pos w.2
@[simp] theorem nD_ok (d : D) : nD d = .ok d := rfl
@[simp] theorem nP2_e {a : D → Res α} {b : D → Res β} {ea : α → D} {eb : β → D} (v : α × β) : nP2 a b (eP2 ea eb v) = (a (ea v.1)).bnd fun u => (b (eb v.2)).bnd fun w => .ok (u, w) := rfl
@[simp] theorem nP3_e {a : D → Res α} {b : D → Res β} {c : D → Res γ} {ea : α → D} {eb : β → D} {ec : γ → D} (v : α × β × γ) : nP3 a b c (eP3 ea eb ec v) = (a (ea v.1)).bnd fun u => (b (eb v.2.1)).bnd fun w => (c (ec v.2.2)).bnd fun z => .ok (u, w, z) := rfl
@[simp] theorem unD3_e {ea : α → D} {eb : β → D} {ec : γ → D} (v : α × β × γ) : unD3 (eP3 ea eb ec v) = .ok (ea v.1, eb v.2.1, ec v.2.2) := rfl
@[simp] theorem unD2_e {ea : α → D} {eb : β → D} (v : α × β) : unD2 (eP2 ea eb v) = .ok (ea v.1, eb v.2) := rfl
theorem mapR_map {n : β → Res γ} {f : α → β} {g : α → γ} (h : ∀ x, n (f x) = .ok (g x)) : ∀ l : List α, mapR n (l.map f) = .ok (l.map g)
  | [] => rfl
  | x :: l => by rw [List.map_cons, mapR, h, ok_bnd, mapR_map h l]; rfl
def insR (l : List α) (i : Int) (x : α) : Res (List α) := grd (0 ≤ i ∧ i < 2 ^ 63 ∧ l.length < sizeLine) (l.take i.toNat ++ [x] ++ l.drop i.toNat)
end
end MR
namespace MR
open PySem L2 DL
section
variable {α β γ σ τ : Type} {κ : Kt} {A : AS} {X : AX} {ta tb tc : TD}
theorem js_midW {κ : Kt} {A : AS} {N : AN} {X : AX} {t u : TSd} {m : Res β} {f : β → Res γ} {QF : γ → Prop} {XQ : Str → D → Prop} (h : wp (m.bnd f) QF XQ) (I : β → AS) (h1 : wp m (fun b => wp (f b) QF XQ) XQ → JS κ t A (nxA (fun A1 => ∃ b, Le A1 (I b) ∧ wp (f b) QF XQ) N) X) (k : ∀ b, wp (f b) QF XQ → JS κ u (I b) N X) : JS κ (dSeq t u) A N X := by
  rw [wp_bnd] at h
  exact js_mid I _ (h1 h) k
theorem cutW {κ : Kt} {A : AS} {X : AX} {t : CT α} {P : α → AS → Prop} {m : Res β} {f : β → Res γ} {QF : γ → Prop} {XQ : Str → D → Prop} (h : wp (m.bnd f) QF XQ) (I : β → AS) (g : β → α) (h1 : wp m (fun b => wp (f b) QF XQ) XQ → J κ t A (fun a A1 => ∃ v, a = g v ∧ A1 = I v ∧ wp (f v) QF XQ) X) (k : ∀ v, wp (f v) QF XQ → P (g v) (I v)) : J κ t A P X := by
  rw [wp_bnd] at h
  exact J.cut I g _ (h1 h) k
theorem js_tryW {κ : Kt} {A : AS} {N : AN} {X : AX} {L : List Str} {t : TSd} {hds : List HdD} {m : Res β} {hd : Str → D → Res β} {QF : β → Prop} {XQ : Str → D → Prop} (h : wp (m.tr hd) QF XQ) (hn : κ = κ.off) (hh : ∀ c x, wp (hd c x) QF XQ → c ∈ L ∧ aSel κ N X hds c x A) (hb : wp m QF (fun c x => wp (hd c x) QF XQ) → JS κ t A N (fun c x A' => wp (hd c x) QF XQ ∧ Le A' A)) : JS κ (dTry L t hds) A N X := by
  rw [wp_tr] at h
  exact js_tryX hn hh (hb h)
theorem nlf {κ : Kt} {p : Prop} (h : κ.nl = false) : κ.nl = true → p := fun q => by rw [h] at q; cases q
end
end MR
namespace MR
open PySem L2 DL
section
variable {κ : Kt} {A : AS}
def JN (κ : Kt) (t : S → (List D → S → Prop) → KX → Prop) (A : AS) (P : List D → AS → Prop) : Prop := ∀ s P', Sat κ s A → (∀ l A' s', P l A' → Sat κ s' A' → P' l s') → t s P' noX
theorem jn_seq {t : TSd} {u : S → (List D → S → Prop) → KX → Prop} {P : List D → AS → Prop} (h : JS κ t A ⟨fun A1 => JN κ u A1 P, fun _ _ => False, fun _ => False, fun _ => False⟩ (fun _ _ _ => False)) : JN κ (dSeqF t u) A P := fun s P' hs hp =>
  h s _ _ hs ⟨fun A1 s1 q hs1 => q s1 P' hs1 hp, fun _ _ _ q _ => q, fun _ _ q _ => q, fun _ _ q _ => q⟩ (fun _ _ _ _ q _ => q)
theorem jn_midW {β γ : Type} {t : TSd} {u : S → (List D → S → Prop) → KX → Prop} {P : List D → AS → Prop} {m : Res β} {f : β → Res γ} {QF : γ → Prop} {XQ : Str → D → Prop} (h : wp (m.bnd f) QF XQ) (I : β → AS) (h1 : wp m (fun b => wp (f b) QF XQ) XQ → JS κ t A (nxA (fun A1 => ∃ b, Le A1 (I b) ∧ wp (f b) QF XQ) ⟨fun _ => False, fun _ _ => False, fun _ => False, fun _ => False⟩) (fun _ _ _ => False)) (k : ∀ b, wp (f b) QF XQ → JN κ u (I b) P) : JN κ (dSeqF t u) A P := fun s P' hs hp => by
  rw [wp_bnd] at h
  exact h1 h s _ _ hs ⟨fun A1 s1 ⟨b, l, q⟩ hs1 => k b q s1 P' (hs1.le l) hp, fun _ _ _ q _ => q, fun _ _ q _ => q, fun _ _ q _ => q⟩ (fun _ _ _ _ q _ => q)
theorem js_midS {β ω γ : Type} {N : AN} {X : AX} {t u : TSd} {m : Res (Stp β ω)} {k : β → Res γ} {r : ω → Res γ} {QF : γ → Prop} {XQ : Str → D → Prop} (h : wp (m.bnd fun st => st.on k r) QF XQ) (I : β → AS) (h1 : wp m (fun st => wp (st.on k r) QF XQ) XQ → JS κ t A (nxA (fun A1 => ∃ b, Le A1 (I b) ∧ wp (k b) QF XQ) N) X) (k1 : ∀ b, wp (k b) QF XQ → JS κ u (I b) N X) : JS κ (dSeq t u) A N X := by
  rw [wp_bnd] at h
  exact js_mid I (fun b => wp (k b) QF XQ) (h1 h) k1
theorem js_norm {t : TSd} {N : AN} {X : AX} (B : AS) (e : A = B) (h : JS κ t B N X) : JS κ t A N X := by rw [e]; exact h
theorem jn_last {tf : TDF} {P : List D → AS → Prop} (h : J κ tf A P (fun _ _ _ => False)) : JN κ tf A P := fun s P' hs hp => h s P' noX hs (fun l A' s' q hs' _ => hp l A' s' q hs') (fun _ _ _ _ q _ => q)
theorem startF {N : List Str} {ds : List D} {td : S → (List D → S → Prop) → KX → Prop} {P : List D → Prop} (A : AS) (hA : A = ds.map .dat ++ List.replicate (N.length - ds.length) .no) (h : JN ⟨false, []⟩ td A (fun l _ => P l)) : td (startS N (ds.map .dat) []) (fun ds _ => P ds) noX :=
  h _ _ (sat0 N ds A hA) fun _ _ _ q _ => q
end
end MR
namespace MR
open PySem L2 DL
section
variable {α β γ σ τ ρ : Type}
theorem mulR_ok {i j : Int} (h : (-(2 ^ 64) < i ∧ i < 2 ^ 64) ∨ (-(2 ^ 64) < j ∧ j < 2 ^ 64)) : mulR i j = .ok (i * j) := grd_ok (.inl h)
theorem modR_ok {i j : Int} (h : 0 < j) : modR i j = .ok (i % j) := grd_ok h
theorem divR_ok {i j : Int} (h : 0 < j) (h2 : j < 2 ^ 200) : divR i j = .ok (i / j) := grd_ok ⟨h, by
  have h1 : j.natAbs ≠ 0 := by omega
  have h2 : j.natAbs < 2 ^ 200 := by omega
  have := (Nat.log2_lt h1).mpr h2
  omega⟩
theorem small_of {i : Int} (h : -1000000000000000000 ≤ i) (h2 : i ≤ 1000000000000000000) : small i := by unfold small; omega
theorem rngR_ok {a b : Int} (h1 : -1000000000000000000 ≤ a) (h2 : a ≤ 1000000000000000000) (h3 : -1000000000000000000 ≤ b) (h4 : b ≤ 1000000000000000000) : rngR a b = .ok (rng a b) := grd_ok ⟨small_of h1 h2, small_of h3 h4⟩
theorem rng_mem {a b x : Int} : x ∈ rng a b ↔ a ≤ x ∧ x < b := by
  unfold rng
  simp only [List.mem_map, List.mem_range]
  constructor
  · rintro ⟨i, h, rfl⟩; omega
  · intro h; exact ⟨(x - a).toNat, by omega, by omega⟩
theorem rng_len (a b : Int) : (rng a b).length = (b - a).toNat := by simp [rng]
theorem rng0 (n : Nat) : rng 0 (n : Int) = rangeI n := by unfold rng rangeI; simp
theorem szR_ok {l : List α} (h : l.length ≤ sizeLine) : szR l = .ok l := if_pos h
theorem szR_ok' {l : List α} (h : l.length ≤ 16000000) : szR l = .ok l := szR_ok (Nat.le_trans h (by decide))
theorem catR_ok {a b : List α} (h : a.length + b.length ≤ 16000000) : catR a b = .ok (a ++ b) := grd_ok (Nat.le_trans h (by decide))
theorem repR_ok {a : List α} {k : Int} (h : 0 ≤ k) (h2 : k ≤ 100000) (h3 : a.length ≤ 100) : repR a k = .ok (List.replicate k.toNat a).flatten := grd_ok ⟨by omega, by omega, by
  have : a.length * k.toNat ≤ 100 * 100000 := Nat.mul_le_mul h3 (by omega)
  exact Nat.le_trans this (by decide)⟩
theorem repTR'_ok {a : List α} {k : Int} (h : a.isEmpty = false) (h2 : -1000 ≤ k) (h3 : k ≤ 2000) (h4 : a.length ≤ 1000) : repTR' a k = .ok (List.replicate k.toNat a).flatten := grd_ok ⟨h, h2, h3, h4⟩
theorem atI_pos {xs : List α} {i : Int} (h : 0 ≤ i) : atI xs i = xs[i.toNat]? := by
  unfold atI ixN
  rw [if_pos h]
  by_cases c : i < xs.length
  · rw [if_pos c]; rfl
  · rw [if_neg c, List.getElem?_eq_none (by omega)]; rfl
theorem ixR_at {xs : List α} {i : Int} (h0 : 0 ≤ i) (h : i < xs.length) : ∃ v, xs[i.toNat]? = some v ∧ ixR xs i = .ok v := by
  have hl : i.toNat < xs.length := by omega
  exact ⟨xs[i.toNat], List.getElem?_eq_getElem hl, ixR_ok (by rw [atI_pos h0]; exact List.getElem?_eq_getElem hl)⟩
theorem ixR_mem {xs : List α} {i : Int} {v : α} (h : ixR xs i = .ok v) : v ∈ xs := by
  unfold ixR at h
  cases e : atI xs i with
  | none => rw [e] at h; cases h
  | some w =>
    rw [e] at h; cases h
    unfold atI at e
    cases q : ixN xs.length i with
    | none => rw [q] at e; cases e
    | some j => rw [q] at e; exact List.mem_of_getElem? e
theorem setR_ok {l : List α} {i : Int} {x : α} (h0 : 0 ≤ i) (h : i < l.length) : setR l i x = .ok (l.set i.toNat x) := by
  unfold setR ixN
  rw [if_pos h0, if_pos h]
theorem forR_find {f : Unit → α → Res Unit} (bad : α → Option (Str × D)) : ∀ {xs : List α}, (∀ x ∈ xs, f () x = match bad x with | some e => .er e.1 e.2 | none => .ok ()) → forR f xs () = match xs.findSome? bad with | some e => .er e.1 e.2 | none => .ok ()
  | [], _ => rfl
  | x :: xs, k => by
    rw [forR_cons, k x List.mem_cons_self, List.findSome?_cons]
    cases bad x with
    | some e => rfl
    | none => exact forR_find bad fun y hy => k y (List.mem_cons_of_mem _ hy)
theorem forS_inv (I : β → Prop) {f : β → α → Res (Stp β ρ)} {xs : List α} {b : β} (h : I b) (k : ∀ b x, I b → x ∈ xs → ∃ b', f b x = .ok (.nx b') ∧ I b') : ∃ b', forS f xs b = .ok (.nx b') ∧ I b' := by
  induction xs generalizing b with
  | nil => exact ⟨b, rfl, h⟩
  | cons x xs ih =>
    obtain ⟨b1, e, h1⟩ := k b x h List.mem_cons_self
    obtain ⟨b2, e2, h2⟩ := ih h1 fun b y hb hy => k b y hb (List.mem_cons_of_mem _ hy)
    exact ⟨b2, by rw [forS_cons, e, ok_bnd]; exact e2, h2⟩
theorem lcB_all (I : σ → Prop) (J : α → β → Prop) {f : σ → α → Res (Option β × σ)} (n : Nat) (hn : n ≤ 16000000) : ∀ {xs : List α} {acc : List β} {s : σ}, I s → acc.length + xs.length ≤ n → (∀ s x, I s → x ∈ xs → ∃ z s', f s x = .ok (some z, s') ∧ I s' ∧ J x z) → ∃ l s', lcB f xs acc s = .ok (acc ++ l, s') ∧ I s' ∧ l.length = xs.length ∧ (∀ z ∈ l, ∃ x ∈ xs, J x z)
  | [], acc, s, h, _, _ => ⟨[], s, by rw [lcB_nil, List.append_nil], h, rfl, fun _ h => nomatch h⟩
  | x :: xs, acc, s, h, hl, k => by
    obtain ⟨z, s1, e, h1, hj⟩ := k s x h List.mem_cons_self
    rw [List.length_cons] at hl
    obtain ⟨l, s2, e2, h2, l2, j2⟩ := lcB_all I J n hn (acc := acc ++ [z]) h1 (by simp; omega) fun s y hs hy => k s y hs (List.mem_cons_of_mem _ hy)
    refine ⟨z :: l, s2, ?_, h2, by simp [l2], fun w hw => ?_⟩
    · rw [lcB_cons, e, ok_ne, ok_bnd]
      show (if acc.length < sizeLine then lcB f xs (acc ++ [z]) s1 else .no) = _
      rw [if_pos (by have : (16000000 : Nat) ≤ sizeLine := by decide
                     omega), e2]; simp
    · rcases List.mem_cons.mp hw with rfl | hw
      · exact ⟨x, List.mem_cons_self, hj⟩
      · exact (j2 w hw).imp fun y hy => ⟨List.mem_cons_of_mem _ hy.1, hy.2⟩
theorem ixR_neer {xs : List α} {i : Int} (c : Str) (x : D) : ixR xs i ≠ .er c x := by
  unfold ixR
  cases atI xs i <;> exact fun h => (by cases h)
theorem mulR_neer {i j : Int} (c : Str) (x : D) : mulR i j ≠ .er c x := grd_ne c x
theorem ixR_cons0 {x : α} {xs : List α} : ixR (x :: xs) 0 = .ok x := ixR_ok (by rw [atI_pos (by decide)]; rfl)
theorem szR_neer {xs : List α} (c : Str) (x : D) : szR xs ≠ .er c x := by
  unfold szR
  by_cases q : xs.length ≤ sizeLine
  · rw [if_pos q]; exact ok_neer c x
  · rw [if_neg q]; exact fun h => (by cases h)
def Gs (s : List Int) : Prop := ∃ a b, s = [a, b] ∧ Good a b
theorem ix0 (a b : Int) : ixR [a, b] 0 = .ok a := ixR_ok rfl
theorem ix1 (a b : Int) : ixR [a, b] 1 = .ok b := ixR_ok rfl
theorem set0 (a b x : Int) : setR [a, b] 0 x = .ok [x, b] := rfl
theorem set1 (a b x : Int) : setR [a, b] 1 x = .ok [a, x] := rfl
end
end MR
namespace MR
end MR
namespace MR
open PySem L2 DL
theorem notR_ok {x : Bool} : notR (.ok x) = .ok (!x) := ok_bnd
theorem andR_ok {x : Bool} {b : Res Bool} : andR (.ok x) b = cond x b (.ok false) := ok_bnd
theorem orR_ok {x : Bool} {b : Res Bool} : orR (.ok x) b = cond x (.ok true) b := ok_bnd
theorem andR_oo {x y : Bool} : andR (.ok x) (.ok y) = .ok (x && y) := by rw [andR_ok]; cases x <;> rfl
theorem orR_oo {x y : Bool} : orR (.ok x) (.ok y) = .ok (x || y) := by rw [orR_ok]; cases x <;> rfl
theorem isI_int (i : Int) : isTR "int" (.int i) = .ok true := rfl
theorem isB_int (i : Int) : isTR "bool" (.int i) = .ok false := rfl
theorem isI_str (w : Wd) : isTR "int" (eW w) = .ok false := rfl
theorem asI_i (i : Int) : asI (.int i) = .ok i := rfl
theorem zipL_eq {β : Type} : ∀ (a : List α) (b : List β), zipL a b = a.zip b
  | [], _ => by unfold zipL; simp
  | _ :: _, [] => by unfold zipL; simp
  | x :: a, y :: b => by rw [zipL, zipL_eq a b]; rfl
structure Cp (S G : List Int) (ps : List (Int × Int)) : Prop where
  c : CupP S G ps
  n1 : 1 ≤ S.length
  n2 : S.length ≤ 100
  g : G.length = S.length
theorem Cp.len {S G : List Int} {ps : List (Int × Int)} (h : Cp S G ps) : ps.length = S.length := h.c.len
def mx (ps : List (Int × Int)) : Int := maxL (ps.map (·.1))
def outL (ps : List (Int × Int)) (r : Int) : List Int := (rangeI ps.length).filter fun x => decide ((cg ps x).1 = r)
def thruL (ps : List (Int × Int)) (r : Int) : List Int := (rangeI ps.length).filter fun x => thruB ps x r
def restB (ps : List (Int × Int)) (r x : Int) : Bool := thruB ps x r && decide ((r, x) ∉ ps)
def restL (ps : List (Int × Int)) (r : Int) : List Int := (rangeI ps.length).filter fun x => restB ps r x
abbrev Dd := Wd × Int × Int
abbrev shW : Wd := wd "shift"
abbrev exW : Wd := wd "exchange"
theorem ex_sh : exW ≠ shW := by simp [exW, shW]
abbrev dE : Dd → D := eP3 eW D.int D.int
def formD (q : Dd) : Bool := decide (q.1 = shW) || (decide (q.1 = exW) && decide (q.2.1 < q.2.2))
def sidesD (n : Int) (q : Dd) : Bool := (decide (0 ≤ q.2.1) && decide (q.2.1 < n)) && (decide (0 ≤ q.2.2) && decide (q.2.2 < n))
def letD (S G : List Int) (ps : List (Int × Int)) (L : List Int) (q : Dd) : Bool :=
  if q.1 = shW then decide ((cg ps q.2.1).1 ∈ L) && (restB ps (cg ps q.2.1).1 q.2.2 && mayB S G q.2.2 q.2.1)
  else decide (0 < (cg ps q.2.1).1) && (decide ((cg ps q.2.2).1 = (cg ps q.2.1).1) && (mayB S G (cg ps q.2.2).2 q.2.1 && mayB S G (cg ps q.2.1).2 q.2.2))
def newD (ps : List (Int × Int)) (q : Dd) : List (Int × Int) := if q.1 = shW then ps.set q.2.1.toNat ((cg ps q.2.1).1, q.2.2) else (ps.set q.2.1.toNat (cg ps q.2.2)).set q.2.2.toNat (cg ps q.2.1)
def backD (ps : List (Int × Int)) (q : Dd) : Dd := if q.1 = shW then (shW, q.2.1, (cg ps q.2.1).2) else q
theorem sidesD_iff {n : Int} {q : Dd} : sidesD n q = true ↔ (0 ≤ q.2.1 ∧ q.2.1 < n) ∧ (0 ≤ q.2.2 ∧ q.2.2 < n) := by unfold sidesD; simp
theorem newD_len (ps : List (Int × Int)) (q : Dd) : (newD ps q).length = ps.length := by unfold newD; split <;> simp
theorem Cp.mx {S G : List Int} {ps : List (Int × Int)} (h : Cp S G ps) : 0 ≤ mx ps ∧ mx ps < S.length := h.c.max h.n1
def looseBad : Nat → Int → List Int → Option Nat
  | _, _, [] => none
  | k, last, r :: L => if r ≤ last then some k else looseBad (k + 1) r L
theorem letD_sh {S G : List Int} {ps : List (Int × Int)} {L : List Int} {x y : Int} : letD S G ps L (shW, x, y) = true ↔ (cg ps x).1 ∈ L ∧ (thruB ps y (cg ps x).1 = true ∧ ((cg ps x).1, y) ∉ ps) ∧ mayB S G y x = true := by
  unfold letD restB; simp [and_assoc]
theorem letD_ex {S G : List Int} {ps : List (Int × Int)} {L : List Int} {x y : Int} : letD S G ps L (exW, x, y) = true ↔ 0 < (cg ps x).1 ∧ (cg ps y).1 = (cg ps x).1 ∧ mayB S G (cg ps y).2 x = true ∧ mayB S G (cg ps x).2 y = true := by
  unfold letD; simp [ex_sh]
theorem Cp.of {S G : List Int} {ps p2 : List (Int × Int)} (h : Cp S G ps) (hl : p2.length = ps.length) (fst : ∀ z : Int, 0 ≤ z → z < S.length → (cg p2 z).1 = (cg ps z).1) (stay : ∀ z : Int, 0 ≤ z → z < S.length → cg ps z = (0, -1) → cg p2 z = (0, -1))
    (form : ∀ z : Int, 0 ≤ z → z < S.length → cg p2 z = (0, -1) ∨ (1 ≤ (cg p2 z).1 ∧ 0 ≤ (cg p2 z).2 ∧ (cg p2 z).2 < S.length ∧ mayB S G (cg p2 z).2 z = true ∧ (cg ps (cg p2 z).2 = (0, -1) ∨ (cg p2 z).1 < (cg ps (cg p2 z).2).1)))
    (one : ∀ u v : Int, 0 ≤ u → u < S.length → 0 ≤ v → v < S.length → cg p2 u = cg p2 v → 1 ≤ (cg p2 u).1 → u = v) : Cp S G p2 where
  n1 := h.n1
  n2 := h.n2
  g := h.g
  c := {
    len := by rw [hl]; exact h.len
    form := fun z z0 z1 => by
      rcases form z z0 z1 with c | ⟨a, b, c, d, e⟩
      · exact .inl c
      · refine .inr ⟨a, b, c, d, ?_⟩
        rcases e with e | e
        · exact .inl (stay _ b c e)
        · exact .inr (by rw [fst _ b c]; exact e)
    one := one
    gap := fun x r x0 x1 r1 r2 => by
      rw [fst x x0 x1] at r2
      obtain ⟨z, z0, z1, e⟩ := h.c.gap x r x0 x1 r1 r2
      exact ⟨z, z0, z1, by rw [fst z z0 z1]; exact e⟩
    top := fun x x0 x1 => by rw [fst x x0 x1]; exact h.c.top x x0 x1 }
theorem formD_cases {q : Dd} (h : formD q = true) : (∃ x y, q = (shW, x, y)) ∨ ∃ x y, q = (exW, x, y) ∧ x < y := by
  obtain ⟨w, x, y⟩ := q
  unfold formD at h
  simp at h
  rcases h with rfl | ⟨rfl, h⟩
  · exact .inl ⟨x, y, rfl⟩
  · exact .inr ⟨x, y, rfl, h⟩
theorem newD_ex {ps : List (Int × Int)} {x y z : Int} (x0 : 0 ≤ x) (x1 : x < ps.length) (y0 : 0 ≤ y) (y1 : y < ps.length) (z0 : 0 ≤ z) : cg (newD ps (exW, x, y)) z = if z = y then cg ps x else if z = x then cg ps y else cg ps z := by
  unfold newD
  simp only [ex_sh, if_false]
  rw [cg_set y0 (by simpa using y1) z0, cg_set x0 x1 z0]
theorem newD_sh {ps : List (Int × Int)} {x y z : Int} (x0 : 0 ≤ x) (x1 : x < ps.length) (z0 : 0 ≤ z) : cg (newD ps (shW, x, y)) z = if z = x then ((cg ps x).1, y) else cg ps z := by
  unfold newD
  simp only [if_true]
  rw [cg_set x0 x1 z0]
theorem Cp.newD {S G : List Int} {ps : List (Int × Int)} (h : Cp S G ps) {L : List Int} (hL : ∀ r ∈ L, 1 ≤ r) {q : Dd} (hs : sidesD S.length q = true) (hq : formD q = true) (hl : letD S G ps L q = true) : Cp S G (newD ps q) := by
  have hlen := h.len
  obtain ⟨⟨x0, x1⟩, ⟨y0, y1⟩⟩ := sidesD_iff.mp hs
  rcases formD_cases hq with ⟨x, y, rfl⟩ | ⟨x, y, rfl, hxy⟩
  · simp only at x0 x1 y0 y1
    obtain ⟨hr, ⟨ht, hn⟩, m⟩ := letD_sh.mp hl
    have r1 := hL _ hr
    have hcg : ∀ z : Int, 0 ≤ z → cg (MR.newD ps (shW, x, y)) z = if z = x then ((cg ps x).1, y) else cg ps z := fun z z0 => newD_sh x0 (by omega) z0
    have other : ∀ w : Int, 0 ≤ w → w < S.length → cg ps w = ((cg ps x).1, y) → False := fun w w0 w1 hw => by
      have := cg_mem (ps := ps) w0 (by omega)
      rw [hw] at this
      exact hn this
    refine h.of (newD_len _ _) (fun z z0 z1 => ?_) (fun z z0 z1 hz => ?_) (fun z z0 z1 => ?_) (fun u v u0 u1 v0 v1 he hu => ?_)
    · rw [hcg z z0]
      by_cases c : z = x
      · rw [if_pos c, c]
      · rw [if_neg c]
    · rw [hcg z z0]
      by_cases c : z = x
      · rw [← c] at r1; rw [hz] at r1; exact absurd r1 (by decide)
      · rw [if_neg c]; exact hz
    · rw [hcg z z0]
      by_cases c : z = x
      · rw [if_pos c, c]
        refine .inr ⟨r1, y0, y1, m, ?_⟩
        unfold thruB at ht
        simp at ht
        rcases ht with ht | ht
        · left
          rcases h.c.form y y0 y1 with f | ⟨a, _⟩
          · exact f
          · omega
        · exact .inr ht
      · rw [if_neg c]
        exact h.c.form z z0 z1
    · rw [hcg u u0, hcg v v0] at he
      rw [hcg u u0] at hu
      by_cases a1 : u = x
      · rw [if_pos a1] at he
        by_cases b1 : v = x
        · omega
        · rw [if_neg b1] at he
          exact (other v v0 v1 he.symm).elim
      · rw [if_neg a1] at he hu
        by_cases b1 : v = x
        · rw [if_pos b1] at he
          exact (other u u0 u1 he).elim
        · rw [if_neg b1] at he
          exact h.c.one u v u0 u1 v0 v1 he hu
  · simp only at x0 x1 y0 y1
    obtain ⟨r0, er, m1, m2⟩ := letD_ex.mp hl
    have hxy : x ≠ y := by omega
    have hcg : ∀ z : Int, 0 ≤ z → cg (MR.newD ps (exW, x, y)) z = if z = y then cg ps x else if z = x then cg ps y else cg ps z := fun z z0 => newD_ex x0 (by omega) y0 (by omega) z0
    have fx := h.c.form x x0 x1
    have fy := h.c.form y y0 y1
    refine h.of (newD_len _ _) (fun z z0 z1 => ?_) (fun z z0 z1 hz => ?_) (fun z z0 z1 => ?_) (fun u v u0 u1 v0 v1 he hu => ?_)
    · rw [hcg z z0]
      by_cases c : z = y
      · rw [if_pos c, c]; exact er.symm
      · rw [if_neg c]
        by_cases c' : z = x
        · rw [if_pos c', c']; exact er
        · rw [if_neg c']
    · rw [hcg z z0]
      by_cases c : z = y
      · rw [← c] at er; rw [hz] at er; have er : (0 : Int) = (cg ps x).1 := er; omega
      · rw [if_neg c]
        by_cases c' : z = x
        · rw [← c'] at r0; rw [hz] at r0; exact absurd r0 (by decide)
        · rw [if_neg c']; exact hz
    · rw [hcg z z0]
      by_cases c : z = y
      · rw [if_pos c, c]
        rcases fx with fx | ⟨a, b, c', d, e⟩
        · rw [fx] at r0; exact absurd r0 (by decide)
        · exact .inr ⟨a, b, c', m2, e⟩
      · rw [if_neg c]
        by_cases c' : z = x
        · rw [if_pos c', c']
          rcases fy with fy | ⟨a, b, c', d, e⟩
          · rw [fy] at er; have er : (0 : Int) = (cg ps x).1 := er; omega
          · exact .inr ⟨a, b, c', m1, e⟩
        · rw [if_neg c']
          exact h.c.form z z0 z1
    · rw [hcg u u0, hcg v v0] at he
      rw [hcg u u0] at hu
      have key := h.c.one
      by_cases a1 : u = y
      · rw [if_pos a1] at he hu
        by_cases b1 : v = y
        · omega
        · rw [if_neg b1] at he
          by_cases b2 : v = x
          · rw [if_pos b2] at he; exact absurd (key x y x0 x1 y0 y1 he hu) hxy
          · rw [if_neg b2] at he; exact absurd (key x v x0 x1 v0 v1 he hu).symm b2
      · rw [if_neg a1] at he hu
        by_cases a2 : u = x
        · rw [if_pos a2] at he hu
          by_cases b1 : v = y
          · rw [if_pos b1] at he; exact absurd (key y x y0 y1 x0 x1 he hu).symm hxy
          · rw [if_neg b1] at he
            by_cases b2 : v = x
            · omega
            · rw [if_neg b2] at he; exact absurd (key y v y0 y1 v0 v1 he hu).symm b1
        · rw [if_neg a2] at he hu
          by_cases b1 : v = y
          · rw [if_pos b1] at he; exact absurd (key u x u0 u1 x0 x1 he hu) a2
          · rw [if_neg b1] at he
            by_cases b2 : v = x
            · rw [if_pos b2] at he; exact absurd (key u y u0 u1 y0 y1 he hu) a1
            · rw [if_neg b2] at he; exact key u v u0 u1 v0 v1 he hu
def exL (n : Nat) (x : Int) : List Dd := (rng (x + 1) n).map fun y => (exW, x, y)
def shL (n : Nat) (x : Int) : List Dd := (rangeI n).map fun y => (shW, x, y)
def offD (S G : List Int) (ps : List (Int × Int)) (L : List Int) : List Dd := ((rangeI S.length).flatMap (exL S.length)).filter (letD S G ps L) ++ ((rangeI S.length).flatMap (shL S.length)).filter (letD S G ps L)
end MR
namespace MR
open PySem L2 DL
theorem cg_ext {a b : List (Int × Int)} (hl : a.length = b.length) (h : ∀ z : Int, 0 ≤ z → z < b.length → cg a z = cg b z) : a = b := by
  apply List.ext_getElem hl
  intro i h1 h2
  have := h i (by omega) (by omega)
  rwa [cg_get (List.getElem?_eq_getElem h1), cg_get (List.getElem?_eq_getElem h2)] at this
structure Let (S G : List Int) (ps : List (Int × Int)) (L : List Int) (q : Dd) : Prop where
  f : formD q = true
  s : sidesD S.length q = true
  l : letD S G ps L q = true
theorem Let.back {S G : List Int} {ps : List (Int × Int)} {L : List Int} {q : Dd} (h : Cp S G ps) (hL : ∀ r ∈ L, 1 ≤ r) (hq : Let S G ps L q) : Let S G (newD ps q) L (backD ps q) ∧ newD (newD ps q) (backD ps q) = ps ∧ backD (newD ps q) (backD ps q) = q := by
  obtain ⟨hf, hs, hl⟩ := hq
  have len := h.len
  have ln := newD_len ps q
  obtain ⟨⟨x0, x1⟩, y0, y1⟩ := sidesD_iff.mp hs
  rcases formD_cases hf with ⟨x, y, rfl⟩ | ⟨x, y, rfl, hxy⟩
  · simp only at x0 x1 y0 y1
    obtain ⟨l1, ⟨l2, l3⟩, l4⟩ := letD_sh.mp hl
    have r1 := hL _ l1
    have xl : x < ps.length := by omega
    obtain c | ⟨a, b, c, d, e⟩ := h.c.form x x0 x1
    · rw [c] at r1; exact absurd r1 (by decide)
    have eb : backD ps (shW, x, y) = (shW, x, (cg ps x).2) := by unfold backD; rw [if_pos rfl]
    have hn : ∀ z : Int, 0 ≤ z → cg (newD ps (shW, x, y)) z = if z = x then ((cg ps x).1, y) else cg ps z := fun z z0 => newD_sh x0 xl z0
    have hx : cg (newD ps (shW, x, y)) x = ((cg ps x).1, y) := by rw [hn x x0, if_pos rfl]
    have hne : (cg ps x).2 ≠ x := fun z => (mayB_ne d) z
    rw [eb]
    refine ⟨⟨by unfold formD; simp, sidesD_iff.mpr ⟨⟨x0, x1⟩, b, c⟩, letD_sh.mpr ⟨by rw [hx]; exact l1, ⟨?_, ?_⟩, d⟩⟩, ?_, ?_⟩
    · rw [hx]
      unfold thruB
      rw [hn _ b, if_neg hne]
      rcases e with e | e
      · rw [e]; rfl
      · rw [decide_eq_true e, Bool.or_true]
    · rw [hx]
      intro hm
      obtain ⟨j, hj⟩ := List.getElem?_of_mem hm
      have hjl := (List.getElem?_eq_some_iff.mp hj).1
      have ej := cg_get hj
      rw [hn j (by omega)] at ej
      by_cases cj : (j : Int) = x
      · rw [if_pos cj] at ej
        have : y = (cg ps x).2 := congrArg Prod.snd ej
        exact l3 (by rw [this]; exact cg_mem x0 xl)
      · rw [if_neg cj] at ej
        exact cj (h.c.one x j x0 x1 (by omega) (by omega) ej.symm a).symm
    · refine cg_ext (by rw [newD_len, newD_len]) fun z z0 z1 => ?_
      rw [newD_sh x0 (by omega) z0, hx, hn z z0]
      by_cases cz : z = x
      · rw [if_pos cz, cz]
      · rw [if_neg cz, if_neg cz]
    · unfold backD
      rw [if_pos rfl, hx]
  · simp only at x0 x1 y0 y1
    obtain ⟨l1, l2, l3, l4⟩ := letD_ex.mp hl
    have xl : x < ps.length := by omega
    have yl : y < ps.length := by omega
    have nxy : ¬ x = y := by omega
    have nyx : ¬ y = x := by omega
    have eb : backD ps (exW, x, y) = (exW, x, y) := by unfold backD; rw [if_neg ex_sh]
    have hn : ∀ z : Int, 0 ≤ z → cg (newD ps (exW, x, y)) z = if z = y then cg ps x else if z = x then cg ps y else cg ps z := fun z z0 => newD_ex x0 xl y0 yl z0
    have hx : cg (newD ps (exW, x, y)) x = cg ps y := by rw [hn x x0, if_neg nxy, if_pos rfl]
    have hy : cg (newD ps (exW, x, y)) y = cg ps x := by rw [hn y y0, if_pos rfl]
    have fx : mayB S G (cg ps x).2 x = true := by
      obtain c | ⟨a, b, c, d, e⟩ := h.c.form x x0 x1
      · rw [c] at l1; exact absurd l1 (by decide)
      · exact d
    have fy : mayB S G (cg ps y).2 y = true := by
      obtain c | ⟨a, b, c, d, e⟩ := h.c.form y y0 y1
      · rw [← l2, c] at l1; exact absurd l1 (by decide)
      · exact d
    rw [eb]
    refine ⟨⟨by unfold formD; simp [hxy], hs, letD_ex.mpr ?_⟩, ?_, ?_⟩
    · rw [hx, hy]
      exact ⟨by rw [l2]; exact l1, l2.symm, fx, fy⟩
    · refine cg_ext (by rw [newD_len, newD_len]) fun z z0 z1 => ?_
      rw [newD_ex x0 (by omega) y0 (by omega) z0, hx, hy, hn z z0]
      by_cases c1 : z = y
      · rw [if_pos c1, c1]
      · rw [if_neg c1, if_neg c1]
        by_cases c2 : z = x
        · rw [if_pos c2, c2]
        · rw [if_neg c2, if_neg c2]
    · unfold backD
      rw [if_neg ex_sh]
def runD (S G L : List Int) : List (Int × Int) → List Dd → Prop
  | _, [] => True
  | ps, q :: R => Let S G ps L q ∧ runD S G L (newD ps q) R
def endD : List (Int × Int) → List Dd → List (Int × Int)
  | ps, [] => ps
  | ps, q :: R => endD (newD ps q) R
def backsD : List (Int × Int) → List Dd → List Dd
  | _, [] => []
  | ps, q :: R => backsD (newD ps q) R ++ [backD ps q]
def cupsD : List (Int × Int) → List Dd → List (List (Int × Int))
  | ps, [] => [ps]
  | ps, q :: R => ps :: cupsD (newD ps q) R
theorem Let.cp {S G : List Int} {ps : List (Int × Int)} {L : List Int} {q : Dd} (h : Cp S G ps) (hL : ∀ r ∈ L, 1 ≤ r) (hq : Let S G ps L q) : Cp S G (newD ps q) := h.newD hL hq.s hq.f hq.l
end MR
namespace MR
open PySem L2 DL
abbrev eqB {α : Type} [DecidableEq α] (a b : α) : Bool := decide (a = b)
def rpW (b : Bool) : Wd := wd (if b = true then "True" else "False")
section
variable {κ : Kt} {A : AS} {ta tb tc : TD} {τ : Type}
def NE {α : Type} (m : Res α) : Prop := ∀ c x, m ≠ .er c x
variable {α β σ ρ : Type}
theorem NE.ok {v : α} : NE (.ok v) := fun c x => ok_neer c x
theorem NE.no : NE (.no : Res α) := fun c x h => by cases h
theorem NE.bnd {m : Res α} {f : α → Res β} (h : NE m) (k : ∀ v, NE (f v)) : NE (m.bnd f) := fun c x => bnd_neE h k c x
theorem NE.cond {c : Bool} {a b : Res α} (h1 : NE a) (h2 : NE b) : NE (cond c a b) := by cases c <;> assumption
theorem NE.grd {p : Prop} [Decidable p] {v : α} : NE (grd p v) := fun c x => grd_ne c x
theorem NE.ix {xs : List α} {i : Int} : NE (ixR xs i) := fun c x => ixR_neer c x
theorem NE.sz {xs : List α} : NE (szR xs) := fun c x => szR_neer c x
end
theorem eqR_ok {x y : D} (h1 : okD x = true) (h2 : okD y = true) : eqR x y = .ok (eqD x y) := by unfold eqR; rw [h1, h2]; rfl
section
variable {α β γ ρ σ : Type}
def Gd (Q : α → Prop) (m : Res α) : Prop := ∃ v, m = .ok v ∧ Q v
theorem gd_ok {Q : α → Prop} {v : α} (h : Q v) : Gd Q (.ok v) := ⟨v, rfl, h⟩
theorem gd_bnd {P : α → Prop} {Q : β → Prop} {m : Res α} {f : α → Res β} (h : Gd P m) (k : ∀ v, P v → Gd Q (f v)) : Gd Q (m.bnd f) := by
  obtain ⟨v, e, p⟩ := h
  rw [e, ok_bnd]; exact k v p
theorem gd_eq {Q : β → Prop} {m : Res α} {f : α → Res β} {v : α} (e : m = .ok v) (k : Gd Q (f v)) : Gd Q (m.bnd f) := by rw [e, ok_bnd]; exact k
theorem gd_cond {Q : α → Prop} {c : Bool} {a b : Res α} (h1 : c = true → Gd Q a) (h2 : c = false → Gd Q b) : Gd Q (cond c a b) := by
  cases c with
  | true => exact h1 rfl
  | false => exact h2 rfl
theorem gd_forN (I : β → Prop) {f : β → α → Res (Stp β ρ)} {xs : List α} {b : β} (h : I b) (k : ∀ b x, I b → x ∈ xs → Gd (fun st => ∃ b', st = .nx b' ∧ I b') (f b x)) : Gd (fun st => ∃ b', st = .nx b' ∧ I b') (forS f xs b) := by
  obtain ⟨b', e, hb⟩ := forS_inv I h fun b x hb hx => by
    obtain ⟨_, e, b', rfl, q⟩ := k b x hb hx
    exact ⟨b', e, q⟩
  exact ⟨_, e, b', rfl, hb⟩
theorem gd_lcB (I : σ → Prop) (J : α → β → Prop) {f : σ → α → Res (Option β × σ)} (n : Nat) (hn : n ≤ 16000000) {xs : List α} {s : σ} (h : I s) (hl : xs.length ≤ n) (k : ∀ s x, I s → x ∈ xs → Gd (fun q => I q.2 ∧ ∃ z, q.1 = some z ∧ J x z) (f s x)) : Gd (fun q => I q.2 ∧ q.1.length = xs.length ∧ ∀ z ∈ q.1, ∃ x ∈ xs, J x z) (lcB f xs [] s) := by
  obtain ⟨l, s', e, h1, h2, h3⟩ := lcB_all I J n hn (xs := xs) (acc := []) (s := s) h (by simpa using hl) fun s x hs hx => by
    obtain ⟨⟨o, s'⟩, e, q, z, ez, j⟩ := k s x hs hx
    simp only at ez q
    subst ez
    exact ⟨z, s', e, q, j⟩
  exact ⟨_, e, h1, by simpa using h2, by simpa using h3⟩
theorem gd_rng {a b : Int} {Q : β → Prop} {f : List Int → Res β} (h1 : -1000000000000000000 ≤ a) (h2 : a ≤ 1000000000000000000) (h3 : -1000000000000000000 ≤ b) (h4 : b ≤ 1000000000000000000) (k : Gd Q (f (rng a b))) : Gd Q ((rngR a b).bnd f) := gd_eq (rngR_ok h1 h2 h3 h4) k
end
end MR
namespace MR
open PySem L2 DL
structure Al (S G : List Int) (ps row : List (Int × Int)) : Prop where
  len : row.length = S.length
  fst : ∀ z : Int, 0 ≤ z → z < S.length → (cg row z).1 = (cg ps z).1
  stay : ∀ z : Int, 0 ≤ z → z < S.length → cg ps z = (0, -1) → cg row z = (0, -1)
  form : ∀ z : Int, 0 ≤ z → z < S.length → 1 ≤ (cg ps z).1 → 0 ≤ (cg row z).2 ∧ (cg row z).2 < S.length ∧ mayB S G (cg row z).2 z = true ∧ thruB ps (cg row z).2 (cg ps z).1 = true
  one : ∀ u v : Int, 0 ≤ u → u < S.length → 0 ≤ v → v < S.length → cg row u = cg row v → 1 ≤ (cg row u).1 → u = v
theorem thru_stay {S G : List Int} {ps : List (Int × Int)} (h : Cp S G ps) {y r : Int} (y0 : 0 ≤ y) (y1 : y < S.length) (ht : thruB ps y r = true) : cg ps y = (0, -1) ∨ r < (cg ps y).1 := by
  unfold thruB at ht
  simp at ht
  rcases ht with ht | ht
  · left
    rcases h.c.form y y0 y1 with f | ⟨a, _⟩
    · exact f
    · omega
  · exact .inr ht
theorem Al.cp {S G : List Int} {ps row : List (Int × Int)} (h : Cp S G ps) (a : Al S G ps row) : Cp S G row := by
  refine h.of (by rw [a.len, h.len]) a.fst a.stay (fun z z0 z1 => ?_) a.one
  rcases h.c.form z z0 z1 with f | ⟨r1, _⟩
  · exact .inl (a.stay z z0 z1 f)
  · obtain ⟨b, c, d, e⟩ := a.form z z0 z1 r1
    rw [a.fst z z0 z1]
    exact .inr ⟨r1, b, c, d, thru_stay h b c e⟩
theorem cup_thru {S G : List Int} {ps : List (Int × Int)} (h : Cp S G ps) {z : Int} (z0 : 0 ≤ z) (z1 : z < S.length) (r1 : 1 ≤ (cg ps z).1) : 0 ≤ (cg ps z).2 ∧ (cg ps z).2 < S.length ∧ mayB S G (cg ps z).2 z = true ∧ thruB ps (cg ps z).2 (cg ps z).1 = true := by
  rcases h.c.form z z0 z1 with f | ⟨a, b, c, d, e⟩
  · rw [f] at r1; exact absurd r1 (by decide)
  · refine ⟨b, c, d, ?_⟩
    unfold thruB
    rcases e with e | e
    · rw [e]; rfl
    · rw [decide_eq_true e, Bool.or_true]
theorem Al.refl {S G : List Int} {ps : List (Int × Int)} (h : Cp S G ps) : Al S G ps ps :=
  ⟨h.len, fun _ _ _ => rfl, fun _ _ _ e => e, fun z z0 z1 r1 => cup_thru h z0 z1 r1, h.c.one⟩
structure Fill (S G : List Int) (r : Int) (X Z : List Int) (row row' : List (Int × Int)) : Prop where
  len : row'.length = S.length
  in_ : ∀ x ∈ X, (cg row' x).1 = r ∧ (cg row' x).2 ∈ Z ∧ mayB S G (cg row' x).2 x = true
  inj : ∀ u ∈ X, ∀ v ∈ X, (cg row' u).2 = (cg row' v).2 → u = v
  out : ∀ z : Int, 0 ≤ z → z ∉ X → cg row' z = cg row z
theorem outL_in {ps : List (Int × Int)} {r x : Int} : x ∈ outL ps r ↔ (0 ≤ x ∧ x < ps.length) ∧ (cg ps x).1 = r := by
  unfold outL
  rw [List.mem_filter, ← rng0, rng_mem]; simp
theorem Al.fill {S G : List Int} {ps row row' : List (Int × Int)} {r : Int} {X Z : List Int} (h : Cp S G ps) (a : Al S G ps row) (hr : 1 ≤ r) (hX : ∀ x, x ∈ X ↔ x ∈ outL ps r) (hZ : ∀ z ∈ Z, (0 ≤ z ∧ z < S.length) ∧ thruB ps z r = true) (k : Fill S G r X Z row row') : Al S G ps row' := by
  have len := h.len
  have mX : ∀ x, x ∈ X ↔ (0 ≤ x ∧ x < S.length) ∧ (cg ps x).1 = r := fun x => by rw [hX, outL_in, len]
  refine ⟨k.len, fun z z0 z1 => ?_, fun z z0 z1 e => ?_, fun z z0 z1 r1 => ?_, fun u v u0 u1 v0 v1 e hu => ?_⟩
  · by_cases c : z ∈ X
    · rw [(k.in_ z c).1, ((mX z).mp c).2]
    · rw [k.out z z0 c, a.fst z z0 z1]
  · have c : z ∉ X := fun c => by have := ((mX z).mp c).2; rw [e] at this; have : (0 : Int) = r := this; omega
    rw [k.out z z0 c, a.stay z z0 z1 e]
  · by_cases c : z ∈ X
    · obtain ⟨k1, k2, k3⟩ := k.in_ z c
      obtain ⟨⟨a1, a2⟩, a3⟩ := hZ _ k2
      rw [((mX z).mp c).2]
      exact ⟨a1, a2, k3, a3⟩
    · rw [k.out z z0 c]
      exact a.form z z0 z1 r1
  · have fu : ∀ w : Int, 0 ≤ w → w < S.length → (w ∈ X ↔ (cg row' w).1 = r) := fun w w0 w1 => by
      rw [mX]
      by_cases c : w ∈ X
      · rw [(k.in_ w c).1, ((mX w).mp c).2]; simp [w0, w1]
      · rw [k.out w w0 c, a.fst w w0 w1]; simp [w0, w1]
    by_cases c : u ∈ X
    · have cv : v ∈ X := (fu v v0 v1).mpr (by rw [← e]; exact (fu u u0 u1).mp c)
      exact k.inj u c v cv (congrArg Prod.snd e)
    · have cv : v ∉ X := fun cv => c ((fu u u0 u1).mpr (by rw [e]; exact (fu v v0 v1).mp cv))
      rw [k.out u u0 c, k.out v v0 cv] at e
      rw [k.out u u0 c] at hu
      exact a.one u v u0 u1 v0 v1 e hu
def hallL (ps : List (Int × Int)) (r : Int) (L : List Int) : List Int := if r ∈ L then thruL ps r else sortI ((outL ps r).map fun x => (cg ps x).2)
def winL (ps : List (Int × Int)) (r : Int) : List Int := sortI ((ps.filter fun p => decide (p.1 = r)).map (·.2))
def sameB (one two : List (Int × Int)) (L : List Int) : Bool := decide (one.map (·.1) = two.map (·.1)) && (rng 1 (mx one + 1)).all fun r => decide (r ∈ L) || decide (winL one r = winL two r)
def hallsL (ps : List (Int × Int)) (L : List Int) : List (List Int) := (rng 1 (mx ps + 1)).map fun r => if r ∈ L then thruL ps r else winL ps r
end MR
namespace MR
open PySem L2 DL
structure Sq (α : Type) where
  c : Bool
  l : List α
def eY {α : Type} (e : α → D) (x : Sq α) : D := if x.c = true then .lst (x.l.map e) else .tup (x.l.map e)
structure Plr where
  field : Fld
  exits : List Int
  halls : List (List Int)
  told : List (Int × Int)
  deriving DecidableEq
def ePool (p : Plr) : D := .ins "Pool" [("field", eF p.field), ("exits", eT D.int p.exits), ("halls", eT (eT D.int) p.halls), ("told", eT (eP2 D.int D.int) p.told)]
section
variable {κ : Kt} {A : AS} {ta tb tc td : TD}
end
end MR
namespace BD
open PySem L2 DL MR
def rowOf (gs : List Int) : List Int := (sortP (gs.zipIdx.map fun p => (-p.1, ((p.2 : Nat) : Int)))).map (·.2)
def reach (ss : List Int) (g : Int) : Nat := (ss.filter fun s => decide (g ≤ s)).length
def grd (gs : List Int) (x : Int) : Int := gs.getD x.toNat 0
def chs (gs ss : List Int) : List (Int × Int) := (rowOf gs).zipIdx.map fun p => (p.1, (reach ss (grd gs p.1) : Int) - ((p.2 : Nat) : Int))
def prod (l : List (Int × Int)) : Int := l.foldl (fun t p => t * p.2) 1
def fillR (ss : List Int) (rows : List (List Int)) (g : Int) : List (List Int) := rows.flatMap fun r => ((List.range ss.length).filter fun (s : Nat) => (!r.contains (s : Int)) && decide (g ≤ ss.getD s 0)).map fun (s : Nat) => r ++ [(s : Int)]
def fill (ss : List Int) : List (List Int) → List Int → List (List Int)
  | rows, [] => rows
  | rows, g :: gs => fill ss (fillR ss rows g) gs
abbrev okS (ss : List Int) (u : List Int) (g : Int) (s : Nat) : Bool := (!u.contains (s : Int)) && decide (g ≤ ss.getD s 0)
def cnt (ss : List Int) : List Int → List Int → Nat
  | _, [] => 1
  | u, g :: gs => (((List.range ss.length).filter (okS ss u g)).map fun (s : Nat) => cnt ss (u ++ [(s : Int)]) gs).sum
def prodN (ss : List Int) : Nat → List Int → Nat
  | _, [] => 1
  | i, g :: gs => (reach ss g - i) * prodN ss (i + 1) gs
def prodI (ss : List Int) : Nat → List Int → Int
  | _, [] => 1
  | i, g :: gs => ((reach ss g : Int) - (i : Nat)) * prodI ss (i + 1) gs
end BD
namespace BD
open PySem L2 DL MR
def rest (ss u : List Int) : List Int := ((List.range ss.length).filter fun (s : Nat) => !u.contains (s : Int)).map fun (s : Nat) => ss.getD s 0
variable (p : Nat → Option Nat)
def okA (k : Nat) (s : Int) : Bool := match p k with
  | some j => decide (s = (j : Int))
  | none => true
def sat (r : List Int) : Bool := (List.range r.length).all fun k => okA p k (r.getD k 0)
def hit (ss : List Int) : Nat → List Int → List Int → Nat
  | _, _, [] => 1
  | k, u, g :: gs => (((List.range ss.length).filter fun (s : Nat) => okS ss u g s && okA p k s).map fun (s : Nat) => hit ss (k + 1) (u ++ [(s : Int)]) gs).sum
def resv : Nat → List Int → List Int
  | _, [] => []
  | k, _ :: gs => (match p k with | some j => [(j : Int)] | none => []) ++ resv (k + 1) gs
def free : Nat → List Int → List Int
  | _, [] => []
  | k, g :: gs => match p k with | some _ => free (k + 1) gs | none => g :: free (k + 1) gs
end BD
namespace BD
open PySem L2 DL MR
theorem val_put {β α : Type} [DecidableEq β] (K : List (β × α)) (k k' : β) (v : α) : valK (MR.putK K k v) k' = if k' = k then some v else valK K k' := by
  unfold valK MR.putK
  by_cases c : (K.any fun p => decide (p.1 = k)) = true
  · rw [if_pos c]
    induction K with
    | nil => simp at c
    | cons p K ih =>
      rw [List.map_cons, List.find?_cons]
      by_cases e : p.1 = k
      · subst e
        rw [if_pos rfl]
        by_cases d : k' = p.1
        · rw [if_pos d, decide_eq_true (show p.1 = k' from d.symm)]; rfl
        · have dn : decide (p.1 = k') = false := decide_eq_false fun z => d z.symm
          rw [if_neg d, dn, List.find?_cons, dn]
          simp only
          by_cases c2 : (K.any fun q => decide (q.1 = p.1)) = true
          · have := ih c2; rwa [if_neg d] at this
          · congr 1
            have : K.map (fun q => if q.1 = p.1 then (q.1, v) else q) = K := by
              rw [List.map_congr_left (g := id) fun q hq => ?_, List.map_id]
              rw [if_neg fun z => c2 (List.any_eq_true.mpr ⟨q, hq, decide_eq_true z⟩)]; rfl
            rw [this]
      · rw [if_neg e]
        have c2 : (K.any fun p => decide (p.1 = k)) = true := by simpa [e] using c
        have i := ih c2
        by_cases d : p.1 = k'
        · rw [decide_eq_true d, List.find?_cons, decide_eq_true d, if_neg fun z => e (by rw [d, z])]
        · rw [decide_eq_false d, List.find?_cons, decide_eq_false d]
          exact i
  · rw [if_neg c, List.find?_append]
    by_cases d : k' = k
    · rw [if_pos d]
      have : K.find? (fun p => decide (p.1 = k')) = none := by
        rw [List.find?_eq_none]
        intro q hq z
        exact c (List.any_eq_true.mpr ⟨q, hq, by rw [← d]; exact z⟩)
      rw [this]
      simp [d]
    · rw [if_neg d]
      cases K.find? (fun p => decide (p.1 = k')) with
      | some q => rfl
      | none => simp; exact fun z => d z.symm
structure Held (G S : List Int) (done : List (Int × Int)) (K1 K2 : List (Int × Int)) : Prop where
  one : ∀ i j : Int, valK K1 i = some j ↔ (i, j) ∈ done
  two : ∀ i j : Int, valK K2 j = some i ↔ (i, j) ∈ done
  can : ∀ q ∈ done, atG G q.1 ≤ atG S q.2
  l1 : K1.length ≤ done.length
  l2 : K2.length ≤ done.length
theorem put_le {β α : Type} [DecidableEq β] (K : List (β × α)) (k : β) (v : α) : (MR.putK K k v).length ≤ K.length + 1 := by unfold MR.putK; split <;> simp
theorem Held.next {G S : List Int} {done : List (Int × Int)} {K1 K2 : List (Int × Int)} {i j : Int} (h : Held G S done K1 K2) (hc : atG G i ≤ atG S j) (h1 : ∀ j', valK K1 i = some j' → j' = j) (h2 : ∀ i', valK K2 j = some i' → i' = i) : Held G S (done ++ [(i, j)]) (MR.putK K1 i j) (MR.putK K2 j i) where
  one := fun a b => by
    rw [val_put, List.mem_append, List.mem_singleton]
    by_cases c : a = i
    · rw [if_pos c]
      subst c
      constructor
      · intro e; exact .inr (by rw [Option.some.inj e])
      · rintro (e | e)
        · rw [h1 b ((h.one a b).mpr e)]
        · have := congrArg Prod.snd e
          simp only at this
          rw [this]
    · rw [if_neg c, h.one]
      constructor
      · exact .inl
      · rintro (e | e)
        · exact e
        · exact absurd (congrArg Prod.fst e) c
  two := fun a b => by
    rw [val_put, List.mem_append, List.mem_singleton]
    by_cases c : b = j
    · rw [if_pos c]
      subst c
      constructor
      · intro e; exact .inr (by rw [Option.some.inj e])
      · rintro (e | e)
        · rw [h2 a ((h.two a b).mpr e)]
        · have := congrArg Prod.fst e
          simp only at this
          rw [this]
    · rw [if_neg c, h.two]
      constructor
      · exact .inl
      · rintro (e | e)
        · exact e
        · exact absurd (congrArg Prod.snd e) c
  can := fun q hq => by
    rcases List.mem_append.mp hq with hq | hq
    · exact h.can q hq
    · rw [List.mem_singleton.mp hq]; exact hc
  l1 := by have := put_le K1 i j; have := h.l1; simp; omega
  l2 := by have := put_le K2 j i; have := h.l2; simp; omega
def satP (pairs : List (Int × Int)) (r : List Int) : Bool := pairs.all fun q => decide (r.getD q.1.toNat 0 = q.2)
def pOf (K : List (Int × Int)) (k : Nat) : Option Nat := (valK K (k : Int)).map Int.toNat
def eu (q : Int × Int) : Int × Int := if 0 < q.2 then (q.2, q.1 % q.2) else q
end BD
namespace MR
open PySem L2 DL
section
variable {κ : Kt} {A : AS} {ta tb : TD}
def minRowR (l : List (List Int)) : Res (List Int) := grd (l ≠ []) (minRow l)
def minL2 (x y : List Int) : List Int := if ltI y x then y else x
end
end MR
namespace MR
open PySem L2 DL
abbrev leI (a b : List Int) : Prop := ltI b a = false
def cmb (x y : List Int) : List Int := minL2 (x ++ y) (y ++ x)
def leastP : Nat → List Int → List Int
  | 0, r => r
  | n + 1, r => cmb (leastP n (r.take (2 ^ n))) (leastP n (r.drop (2 ^ n)))
def turn (r : List Int) (w a : Nat) : List Int := r.take a ++ ((r.drop (a + w / 2)).take (w / 2) ++ ((r.drop a).take (w / 2) ++ r.drop (a + w)))
def grow (F : List (List Int)) (s : Nat × Nat) : List (List Int) := F ++ F.map fun q => turn q s.1 s.2
def stepsN : Nat → List (Nat × Nat)
  | 1 => [(2, 0)]
  | 2 => [(2, 0), (2, 2), (4, 0)]
  | 3 => [(2, 0), (2, 2), (2, 4), (2, 6), (4, 0), (4, 4), (8, 0)]
  | _ => []
def allP (n : Nat) (r : List Int) : List (List Int) := (stepsN n).foldl grow [r]
end MR
namespace MR
open PySem L2 DL
def eM {β : Type} (e : β → D) (ks : List (Int × β)) : D := .dk (ks.map fun p => (p.1, e p.2))
section
variable {α β σ τ : Type} {κ : Kt} {A : AS} {X : AX} {wd : TDI} {g : TGd} {ta tb tk tv : TD} {vs : List Nat}
def ixK (ks : List (Int × β)) (k : Int) : Res β := match valK ks k with
  | some v => .ok v
  | none => .no
def dcR (f : α → Res (Int × β)) : List α → List (Int × β) → Res (List (Int × β))
  | [], acc => .ok acc
  | x :: xs, acc => (f x).ne.bnd fun z => if acc.length < sizeLine then dcR f xs (putK acc z.1 z.2) else .no
def lc2R {γ : Type} (rw : α → Res (List β)) (f : α → β → Res γ) : List α → List γ → Res (List γ)
  | [], acc => .ok acc
  | x :: xs, acc => (rw x).ne.bnd fun ys => (lcR (fun _ => .ok true) (f x) ys acc).bnd fun acc' => lc2R rw f xs acc'
end
end MR
namespace MR
open PySem L2 DL
section
variable {α β γ δ : Type}
def AlE (e : α → D) : Prop := ∀ a b, PySem.W.alike (toPy (e a)) (toPy (e b)) = true
def sortN (e : α → D) (l : List α) : List α := l.mergeSort fun a b => leD (e a) (e b)
def oI : Option Int → Res Int
  | some i => .ok i
  | none => .no
end
end MR
namespace MR
open PySem L2 DL
section
variable {α β γ : Type}
end
end MR
namespace MR
open PySem L2 DL
def oV {α : Type} (f : α → VC) : Option α → VC
  | none => .no
  | some v => f v
def oG {α : Type} : Option α → Res α
  | none => .no
  | some v => .ok v
end MR
namespace MR
open PySem L2 DL
variable {ta tb : TD} {A : AS}
def combR (a b : Int) : Res Int := grd (0 ≤ a ∧ 0 ≤ b ∧ a < 2 ^ 64 ∧ a ≤ 18000) (PySem.W.mcComb a b)
end MR
namespace MR
open PySem L2 DL
section
variable {α β : Type} {κ : Kt} {A : AS} {N : AN} {X : AX} {wd : TDI} {g : TGd} {tk tv : TD} {vs : List Nat}
instance : Coe (List Int) (Sq Int) := ⟨Sq.mk true⟩
end
end MR
namespace MR
open PySem L2 DL
section
variable {α β σ τ : Type} {κ : Kt} {A : AS} {X : AX} {wd : TDI} {g : TGd} {te : TD} {vs : List Nat}
def seqDR (d : D) : Res (List D) := match seqD d with
  | some ds => .ok ds
  | none => .no
theorem ri_iterD {ta : TD} {r : Res D} (h : Rv ta A id r) : Rv (dIter ta) A (List.map id) (r.bnd seqDR) := fun κ P X k s P' PX hs hp hx => by
  rw [wp_bnd] at k
  refine h κ (fun d A1 => ∃ ds, seqD d = some ds ∧ P (ds.map id) A1) X (wp_mono k (fun v k => ?_) fun _ _ q => q) s _ _ hs (fun d A1 s1 ⟨ds, ed, p⟩ hs1 f1 => ⟨ds, ed, hp _ _ _ (by simpa using p) hs1 f1⟩) hx
  unfold seqDR at k
  cases e : seqD v with
  | none => rw [e] at k; exact k.elim
  | some ds => rw [e] at k; exact ⟨ds, e, k⟩
def allR (f : α → Res Bool) : List α → Res Bool
  | [] => .ok true
  | x :: xs => (f x).ne.bnd fun b => cond b (allR f xs) (.ok false)
theorem allR_cons {f : α → Res Bool} {x : α} {xs : List α} : allR f (x :: xs) = (f x).ne.bnd fun b => cond b (allR f xs) (.ok false) := rfl
theorem allR_ok {f : α → Res Bool} {p : α → Bool} : ∀ {xs : List α}, (∀ x ∈ xs, f x = .ok (p x)) → allR f xs = .ok (xs.all p)
  | [], _ => rfl
  | x :: xs, h => by
    rw [allR_cons, h x (.head _), ok_ne, ok_bnd, List.all_cons]
    cases p x with
    | true => exact allR_ok fun y hy => h y (.tail _ hy)
    | false => rfl
theorem allR_wp {f : α → Res Bool} {Q : Bool → Prop} {X X' : Str → D → Prop} : ∀ {xs : List α}, wp (allR f xs) Q X → wp (allR f xs) Q X'
  | [], h => h
  | x :: xs, h => by
    rw [allR_cons] at h ⊢
    refine ne_wp h fun b h => ?_
    cases b with
    | true => exact allR_wp (xs := xs) h
    | false => exact h
theorem Sat.off_pin {s : S} (h : Sat κ s A) : Sat ⟨κ.nl, []⟩ s A where
  len := h.len
  at_ := h.at_
  ne := fun i j c x v a b e f hv => h.ne i j c x v a b e f (hv.imp id fun q => by simp [Kt.free] at q)
  lt := h.lt
  nl := h.nl
  pin := fun p hp => by cases hp
theorem a_allR (enc : α → D) {f : α → Res Bool} {P : Bool → AS → Prop} (tc : Tc vs g) (ho : ownsOut A vs = true)
    (hb : ∀ nl x, JG ⟨nl, []⟩ g (enc x) (wipeA A vs) fun A1 => Keep A A1 ∧ Rv te A1 D.bl (f x)) :
    ∀ (xs : List α) (s0 s : S) (P' : D → S → Prop), Sat κ s A → Fr s0 s → (∀ b A' s', P b A' → Sat κ s' A' → Fr s0 s' → P' (.bl b) s') → wp (allR f xs) (fun b => P b A) (fun _ _ => False) → allD g te vs P' (xs.map enc) s
  | [], s0, s, P', hs, fr, hp, h => hp _ _ _ h hs fr
  | x :: xs, s0, s, P', hs, fr, hp, h => by
    rw [allR_cons, wp_bnd, wp_ne] at h
    have h1 := JG.to (hb κ.nl x) (hs.off_pin.wipe vs (by simp [Kt.free]))
    have back : ∀ (s2 s3 : S) (A3 : AS), (∀ j : Nat, j ∉ vs → s2.r[j]? = (wipeS s.r vs)[j]?) → (∀ (j c : Nat), s2.r[j]? = some (Sl.cell c) → (wipeS s.r vs)[j]? = some (Sl.cell c)) → s2.M = s.M → Fr s2 s3 → Sat ⟨κ.nl, []⟩ s3 A3 → Keep A A3 → Sat κ { s3 with r := s.r } A ∧ Fr s0 { s3 with r := s.r } := fun s2 s3 A3 e2 c2 m2 f3 hs3 hk => by
      obtain ⟨kl, ka⟩ := hk.at_
      obtain ⟨sl, sd, so, sn⟩ := (SameD.refl A).at_
      have hs4 : Sat ⟨κ.nl, []⟩ { s3 with r := s.r } A := by
        refine hs.off_pin.unwipe hs3 (by have := f3.len; rw [m2] at this; exact this) sl fun j v ev => ?_
        cases v with
        | no => exact .inl rfl
        | dat d => exact .inr (.inl ⟨d, rfl, sd j d ev⟩)
        | own y =>
          obtain ⟨y2, q⟩ := so j y ev
          have hj := ownsOut_at ho q
          refine .inr (.inr ⟨y, y2, rfl, ka j y ev, q, ?_⟩)
          rw [f3.r, e2 j hj, wipeS_at _ _ _ hj]
      refine ⟨⟨hs4.len, hs4.at_, fun i j c x v a b e f hv => hs.ne i j c x v a b e f hv, hs4.lt, hs4.nl, hs.pin⟩, ?_⟩
      refine fr.trans ⟨rfl, by have := f3.len; rw [m2] at this; exact this, fun c hc hn => ?_⟩
      have hn2 : ∀ i : Nat, s2.r[i]? ≠ some (Sl.cell c) := fun i q => wipeS_no vs hn i (c2 i c q)
      show s3.M[c]? = _
      rw [f3.at_ c (by rw [m2]; exact hc) hn2, m2]
    refine tc.m _ _ _ _ ?_ (tc.t _ _ _ h1)
    rintro s2 ⟨⟨A1, ⟨hk, he⟩, hs2⟩, e2, c2, m2⟩
    refine he ⟨κ.nl, []⟩ (fun y A2 => ∃ b, y = D.bl b ∧ A2 = A1 ∧ wp (cond b (allR f xs) (.ok false)) (fun b => P b A) (fun _ _ => False)) (fun _ _ _ => False) (wp_mono h (fun b h => ⟨b, rfl, rfl, h⟩) fun _ _ q => q) s2 _ _ hs2 (fun y A2 s3 ⟨b, ey, eA, h⟩ hs3 f3 => ?_) (fun _ _ _ _ q _ => q.elim)
    subst ey eA
    obtain ⟨b1, b2⟩ := back s2 s3 A2 e2 c2 m2 f3 hs3 hk
    refine ⟨b, rfl, fun eb => ?_, fun eb => ?_⟩
    · subst eb
      exact a_allR enc tc ho hb xs s0 _ P' b1 b2 hp h
    · subst eb
      exact hp _ _ _ h b1 b2
theorem rv_allG (enc : α → D) {f : α → Res Bool} {r : Res (List α)} (tc : Tc vs g) (ho : ownsOut A vs = true) (hw : Rv wd A (List.map enc) r)
    (hb : ∀ nl x, JG ⟨nl, []⟩ g (enc x) (wipeA A vs) fun A1 => Keep A A1 ∧ Rv te A1 D.bl (f x)) : Rv (dAllG wd g te vs) A D.bl (r.bnd fun xs => allR f xs) := fun κ P X h s P' PX hs hp hx => by
  rw [wp_bnd] at h
  refine hw κ (fun ds A1 => ∃ xs, ds = xs.map enc ∧ A1 = A ∧ wp (allR f xs) (fun b => P (.bl b) A) (fun c x => X c x A)) X (wp_mono h (fun xs q => ⟨xs, rfl, rfl, q⟩) fun _ _ q => q) s _ _ hs (fun ds A1 s1 ⟨xs, ed, eA, q⟩ hs1 f1 => ?_) hx
  subst ed; subst eA
  exact a_allR (κ := κ) (P := fun b A' => P (.bl b) A') enc tc ho hb xs s s1 _ hs1 f1 (fun b A' s' p hs' fr => hp _ _ _ p hs' fr) (allR_wp q)
end
end MR
namespace LawP
open PySem L2 DL MR
def topS (i : Nat) : Stmt := PySem.Challenge.pw_boutstairs_k01_fields_and_their_errors.main.body.getD i (.Pass ⟨0, 0, 0, 0⟩)
abbrev st_is_number : Stmt := topS 8
theorem sc_is_number : FnScope ["value"] ["value"] (defScope st_is_number) := ⟨rfl, rfl, rfl, by decide +kernel, rfl, by decide +kernel, by decide +kernel⟩
abbrev st_are_numbers : Stmt := topS 9
theorem sc_are_numbers : FnScope ["value", "part"] ["value"] (defScope st_are_numbers) := ⟨rfl, rfl, rfl, by decide +kernel, rfl, by decide +kernel, by decide +kernel⟩
abbrev st_made_field : Stmt := topS 13
theorem sc_made_field : FnScope ["strengths", "guards", "index", "strength", "guard"] ["strengths", "guards"] (defScope st_made_field) := ⟨rfl, rfl, rfl, by decide +kernel, rfl, by decide +kernel, by decide +kernel⟩
abbrev st_is_field : Stmt := topS 14
theorem sc_is_field : FnScope ["strengths", "guards"] ["strengths", "guards"] (defScope st_is_field) := ⟨rfl, rfl, rfl, by decide +kernel, rfl, by decide +kernel, by decide +kernel⟩
abbrev st__law_pool : Stmt := topS 16
theorem sc__law_pool : FnScope ["_law_script", "_law_k", "_law_cell", "_law_big", "_law_stirred"] ["_law_script", "_law_k"] (defScope st__law_pool) := ⟨rfl, rfl, rfl, by decide +kernel, rfl, by decide +kernel, by decide +kernel⟩
abbrev st__law_take : Stmt := topS 17
theorem sc__law_take : FnScope ["_law_source", "_law_top", "_law_digit"] ["_law_source", "_law_top"] (defScope st__law_take) := ⟨rfl, rfl, rfl, by decide +kernel, rfl, by decide +kernel, by decide +kernel⟩
abbrev st__law_one : Stmt := topS 18
theorem sc__law_one : FnScope ["_law_source", "_law_things"] ["_law_source", "_law_things"] (defScope st__law_one) := ⟨rfl, rfl, rfl, by decide +kernel, rfl, by decide +kernel, by decide +kernel⟩
abbrev st__law_number : Stmt := topS 19
theorem sc__law_number : FnScope ["_law_thing"] ["_law_thing"] (defScope st__law_number) := ⟨rfl, rfl, rfl, by decide +kernel, rfl, by decide +kernel, by decide +kernel⟩
abbrev st__law_row : Stmt := topS 20
theorem sc__law_row : FnScope ["_law_told", "_law_due", "_law_a", "_law_b"] ["_law_told", "_law_due"] (defScope st__law_row) := ⟨rfl, rfl, rfl, by decide +kernel, rfl, by decide +kernel, by decide +kernel⟩
abbrev st__law_said : Stmt := topS 21
theorem sc__law_said : FnScope ["_law_told", "_law_due"] ["_law_told", "_law_due"] (defScope st__law_said) := ⟨rfl, rfl, rfl, by decide +kernel, rfl, by decide +kernel, by decide +kernel⟩
abbrev st__law_entry : Stmt := topS 22
theorem sc__law_entry : FnScope ["_law_source", "_law_top", "_law_size"] ["_law_source", "_law_top"] (defScope st__law_entry) := ⟨rfl, rfl, rfl, by decide +kernel, rfl, by decide +kernel, by decide +kernel⟩
abbrev st__law_numbers : Stmt := topS 23
theorem sc__law_numbers : FnScope ["_law_source", "_law_n", "_law_top", "_law_x"] ["_law_source", "_law_n"] (defScope st__law_numbers) := ⟨rfl, rfl, rfl, by decide +kernel, rfl, by decide +kernel, by decide +kernel⟩
abbrev st__law_field_is : Stmt := topS 24
theorem sc__law_field_is : FnScope ["_law_told", "_law_strengths", "_law_guards"] ["_law_told", "_law_strengths", "_law_guards"] (defScope st__law_field_is) := ⟨rfl, rfl, rfl, by decide +kernel, rfl, by decide +kernel, by decide +kernel⟩
abbrev st__law_fault : Stmt := topS 25
theorem sc__law_fault : FnScope ["_law_strengths", "_law_guards", "_law_at", "_law_number_here"] ["_law_strengths", "_law_guards"] (defScope st__law_fault) := ⟨rfl, rfl, rfl, by decide +kernel, rfl, by decide +kernel, by decide +kernel⟩
abbrev st__law_refusal : Stmt := topS 26
theorem sc__law_refusal : FnScope ["_law_strengths", "_law_guards", "e"] ["_law_strengths", "_law_guards"] (defScope st__law_refusal) := ⟨rfl, rfl, rfl, by decide +kernel, rfl, by decide +kernel, by decide +kernel⟩
abbrev st__law_beyond : Stmt := topS 27
theorem sc__law_beyond : FnScope ["_law_source", "_law_size"] ["_law_source"] (defScope st__law_beyond) := ⟨rfl, rfl, rfl, by decide +kernel, rfl, by decide +kernel, by decide +kernel⟩
abbrev st__law_bent : Stmt := topS 28
theorem sc__law_bent : FnScope ["_law_source", "_law_strengths", "_law_guards", "_law_low", "_law_high"] ["_law_source", "_law_strengths", "_law_guards"] (defScope st__law_bent) := ⟨rfl, rfl, rfl, by decide +kernel, rfl, by decide +kernel, by decide +kernel⟩
abbrev st__law_right : Stmt := topS 29
theorem sc__law_right : FnScope ["_law_source", "_law_n", "_law_strengths", "_law_guards", "_law_told", "_law_turn", "_law_low", "_law_high", "_law_due", "_law_odd"] ["_law_source"] (defScope st__law_right) := ⟨rfl, rfl, rfl, by decide +kernel, rfl, by decide +kernel, by decide +kernel⟩
abbrev st_law : Stmt := topS 30
theorem sc_law : FnScope ["_law_script", "_law_k"] ["_law_script"] (defScope st_law) := ⟨rfl, rfl, rfl, by decide +kernel, rfl, by decide +kernel, by decide +kernel⟩
def clsB : Stmt → List Stmt
  | .ClassDef (body := b) .. => b
  | _ => []
abbrev st_ini : Stmt := (clsB (topS 1)).getD 0 (.Pass ⟨0, 0, 0, 0⟩)
theorem sc_ini : FnScope ["self", "what"] ["self", "what"] (defScope st_ini) := ⟨rfl, rfl, rfl, by decide +kernel, rfl, by decide +kernel, by decide +kernel⟩
def LC_ : List Str := ["BadSize", "Unlike", "BadStrength", "BadGuard"]
def HC_ : List Str := ["Refused", "BadSize", "BadStrength", "Unlike", "BadGuard"]
abbrev st_fini : Stmt := (clsB (topS 12)).getD 0 (.Pass ⟨0, 0, 0, 0⟩)
theorem sc_fini : FnScope ["self", "strengths", "guards"] ["self", "strengths", "guards"] (defScope st_fini) := ⟨rfl, rfl, rfl, by decide +kernel, rfl, by decide +kernel, by decide +kernel⟩
structure Txt (K : PySem.W.Frag) (mg : Str → Option Value) (CA : Str → Addr) where
  iF_Field : InsC K (CA "Field")
  f_fini : Addr
  fd_fini : FuncData
  F_fini : Fun K "__init__" "Field.__init__" st_fini f_fini fd_fini
  b_fini : Binds K fd_fini ["self", "strengths", "guards"] []
  fc_Field : FldC K (CA "Field") f_fini
  gC_Field : mg "Field" = some (.ref (CA "Field"))
  f_ini : Addr
  fd_ini : FuncData
  F_ini : Fun K "__init__" "Refused.__init__" st_ini f_ini fd_ini
  b_ini : Binds K fd_ini ["self", "what"] []
  ti_ini : PySem.W.typeIn K (.ref f_ini) = some (.type "function")
  e_er : ∀ c ∈ LC_, ErrC K (CA c) f_ini
  em_er : ∀ c ∈ LC_, ∀ C ∈ HC_, PySem.W.exmOne K (.ref (CA c)) (.ref (CA C)) = some (subE c C)
  gC_Refused : mg "Refused" = some (.ref (CA "Refused"))
  gC_BadSize : mg "BadSize" = some (.ref (CA "BadSize"))
  gC_BadStrength : mg "BadStrength" = some (.ref (CA "BadStrength"))
  gC_BadGuard : mg "BadGuard" = some (.ref (CA "BadGuard"))
  gC_Unlike : mg "Unlike" = some (.ref (CA "Unlike"))
  f_is_number : Addr
  fd_is_number : FuncData
  F_is_number : Fun K "is_number" "is_number" st_is_number f_is_number fd_is_number
  b_is_number : Binds K fd_is_number ["value"] []
  g_is_number : mg "is_number" = some (.ref f_is_number)
  f_are_numbers : Addr
  fd_are_numbers : FuncData
  F_are_numbers : Fun K "are_numbers" "are_numbers" st_are_numbers f_are_numbers fd_are_numbers
  b_are_numbers : Binds K fd_are_numbers ["value"] []
  g_are_numbers : mg "are_numbers" = some (.ref f_are_numbers)
  cc_are_numbers : Addr
  tt_are_numbers : Addr
  FC_are_numbers : FunC K "are_numbers" "are_numbers" st_are_numbers f_are_numbers fd_are_numbers cc_are_numbers
  f_made_field : Addr
  fd_made_field : FuncData
  F_made_field : Fun K "made_field" "made_field" st_made_field f_made_field fd_made_field
  b_made_field : Binds K fd_made_field ["strengths", "guards"] []
  g_made_field : mg "made_field" = some (.ref f_made_field)
  f_is_field : Addr
  fd_is_field : FuncData
  F_is_field : Fun K "is_field" "is_field" st_is_field f_is_field fd_is_field
  b_is_field : Binds K fd_is_field ["strengths", "guards"] []
  g_is_field : mg "is_field" = some (.ref f_is_field)
  f__law_pool : Addr
  fd__law_pool : FuncData
  F__law_pool : Fun K "_law_pool" "_law_pool" st__law_pool f__law_pool fd__law_pool
  b__law_pool : Binds K fd__law_pool ["_law_script", "_law_k"] []
  g__law_pool : mg "_law_pool" = some (.ref f__law_pool)
  f__law_take : Addr
  fd__law_take : FuncData
  F__law_take : Fun K "_law_take" "_law_take" st__law_take f__law_take fd__law_take
  b__law_take : Binds K fd__law_take ["_law_source", "_law_top"] []
  g__law_take : mg "_law_take" = some (.ref f__law_take)
  f__law_one : Addr
  fd__law_one : FuncData
  F__law_one : Fun K "_law_one" "_law_one" st__law_one f__law_one fd__law_one
  b__law_one : Binds K fd__law_one ["_law_source", "_law_things"] []
  g__law_one : mg "_law_one" = some (.ref f__law_one)
  f__law_number : Addr
  fd__law_number : FuncData
  F__law_number : Fun K "_law_number" "_law_number" st__law_number f__law_number fd__law_number
  b__law_number : Binds K fd__law_number ["_law_thing"] []
  g__law_number : mg "_law_number" = some (.ref f__law_number)
  f__law_row : Addr
  fd__law_row : FuncData
  F__law_row : Fun K "_law_row" "_law_row" st__law_row f__law_row fd__law_row
  b__law_row : Binds K fd__law_row ["_law_told", "_law_due"] []
  g__law_row : mg "_law_row" = some (.ref f__law_row)
  f__law_said : Addr
  fd__law_said : FuncData
  F__law_said : Fun K "_law_said" "_law_said" st__law_said f__law_said fd__law_said
  b__law_said : Binds K fd__law_said ["_law_told", "_law_due"] []
  g__law_said : mg "_law_said" = some (.ref f__law_said)
  f__law_entry : Addr
  fd__law_entry : FuncData
  F__law_entry : Fun K "_law_entry" "_law_entry" st__law_entry f__law_entry fd__law_entry
  b__law_entry : Binds K fd__law_entry ["_law_source", "_law_top"] []
  g__law_entry : mg "_law_entry" = some (.ref f__law_entry)
  f__law_numbers : Addr
  fd__law_numbers : FuncData
  F__law_numbers : Fun K "_law_numbers" "_law_numbers" st__law_numbers f__law_numbers fd__law_numbers
  b__law_numbers : Binds K fd__law_numbers ["_law_source", "_law_n"] []
  g__law_numbers : mg "_law_numbers" = some (.ref f__law_numbers)
  f__law_field_is : Addr
  fd__law_field_is : FuncData
  F__law_field_is : Fun K "_law_field_is" "_law_field_is" st__law_field_is f__law_field_is fd__law_field_is
  b__law_field_is : Binds K fd__law_field_is ["_law_told", "_law_strengths", "_law_guards"] []
  g__law_field_is : mg "_law_field_is" = some (.ref f__law_field_is)
  f__law_fault : Addr
  fd__law_fault : FuncData
  F__law_fault : Fun K "_law_fault" "_law_fault" st__law_fault f__law_fault fd__law_fault
  b__law_fault : Binds K fd__law_fault ["_law_strengths", "_law_guards"] []
  g__law_fault : mg "_law_fault" = some (.ref f__law_fault)
  f__law_refusal : Addr
  fd__law_refusal : FuncData
  F__law_refusal : Fun K "_law_refusal" "_law_refusal" st__law_refusal f__law_refusal fd__law_refusal
  b__law_refusal : Binds K fd__law_refusal ["_law_strengths", "_law_guards"] []
  g__law_refusal : mg "_law_refusal" = some (.ref f__law_refusal)
  f__law_beyond : Addr
  fd__law_beyond : FuncData
  F__law_beyond : Fun K "_law_beyond" "_law_beyond" st__law_beyond f__law_beyond fd__law_beyond
  b__law_beyond : Binds K fd__law_beyond ["_law_source"] []
  g__law_beyond : mg "_law_beyond" = some (.ref f__law_beyond)
  f__law_bent : Addr
  fd__law_bent : FuncData
  F__law_bent : Fun K "_law_bent" "_law_bent" st__law_bent f__law_bent fd__law_bent
  b__law_bent : Binds K fd__law_bent ["_law_source", "_law_strengths", "_law_guards"] []
  g__law_bent : mg "_law_bent" = some (.ref f__law_bent)
  f__law_right : Addr
  fd__law_right : FuncData
  F__law_right : Fun K "_law_right" "_law_right" st__law_right f__law_right fd__law_right
  b__law_right : Binds K fd__law_right ["_law_source"] []
  g__law_right : mg "_law_right" = some (.ref f__law_right)
  f_law : Addr
  fd_law : FuncData
  F_law : Fun K "law" "law" st_law f_law fd_law
  b_law : Binds K fd_law ["_law_script"] []
  g_law : mg "law" = some (.ref f_law)
  z_all : mg "all" = none
  z_bool : mg "bool" = none
  z_enumerate : mg "enumerate" = none
  z_int : mg "int" = none
  z_isinstance : mg "isinstance" = none
  z_len : mg "len" = none
  z_max : mg "max" = none
  z_min : mg "min" = none
  z_range : mg "range" = none
  z_tuple : mg "tuple" = none
  z_zip : mg "zip" = none
  t_MOST : Tok
  c_MOST : mg "MOST" = some (.int 1000000000 t_MOST)
  t_MOST_SIDES : Tok
  c_MOST_SIDES : mg "MOST_SIDES" = some (.int 32 t_MOST_SIDES)
abbrev Txt.TA {K : PySem.W.Frag} {mg : Str → Option Value} {CA : Str → Addr} (T : Txt K mg CA) : List Addr := [T.tt_are_numbers]
theorem Txt.mem_are_numbers {K : PySem.W.Frag} {mg : Str → Option Value} {CA : Str → Addr} (T : Txt K mg CA) : T.tt_are_numbers ∈ T.TA := by simp [Txt.TA]
theorem ok_INI {P : Program} {w : World} {K : PySem.W.Frag} {mg : Str → Option Value} {base : Heap} {CA : Str → Addr} (T : Txt K mg CA) : FnOk P w K mg base (L2.CX P w) 1 T.f_ini T.fd_ini ["self", "what"] (spIni K) :=
  ok_ini T.F_ini sc_ini fun cdv A outer s H E => pss_one (ps_ost (pv 0) (pv 1))
theorem ok_FINI {P : Program} {w : World} {K : PySem.W.Frag} {mg : Str → Option Value} {base : Heap} {CA : Str → Addr} (T : Txt K mg CA) : FnOk P w K mg base (L2.CX P w) 1 T.f_fini T.fd_fini ["self", "strengths", "guards"] (spFI K) :=
  T.F_fini.okX sc_fini (fun vs H Q E h => by obtain ⟨_, _, _, _, _, _, _, rfl, _⟩ := h; rfl) fun cdv A outer s H vs Q E hr h => ⟨_, pss_cons (ps_fld (pv 0) (pe_callB call_len_seq (by rfl) T.z_len PySem.boot_len (pa_cons (pv 1) pa_nil)) rfl) (pss_cons (ps_fld (pv 0) (pv 1) rfl) (pss_one (ps_fld (pv 0) (pv 2) rfl))), fi_reads (fun σ H Q ⟨t1, xs, e, h, q⟩ => ⟨_, e, t1, xs, rfl, .inr h, q⟩) h⟩
section
variable {κ : Kt}
theorem rv_callK0_2_1_0 {τ : Type} {A : AS} {sp : SpD} {e : τ → D} {s0 : Type} {s1 : Type} {t0 : TD} {e0 : s0 → D} {t1 : TD} {e1 : s1 → D} {r0 : Res s0} {r1 : Res s1} {m : s0 → s1 → Res τ} (h0 : Rv t0 A e0 r0) (h1 : Rv t1 A e1 r1) (hc : ∀ a0 a1, Call0 sp [e1 a1, e0 a0] e (m a0 a1)) : Rv (dCallK sp 0 2 [1, 0] (dNil) (dCons t0 (dCons t1 (dNil)))) A e (r0.bnd fun a0 => r1.bnd fun a1 => m a0 a1) := fun κ P X k => by
  refine j_callK0 ?_
  refine ja_nil ?_
  rw [wp_bnd] at k
  refine ja_cons (h0 κ _ _ (wp_mono k (fun a0 k => ?_) fun _ _ q => q))
  rw [wp_bnd] at k
  refine ja_cons (h1 κ _ _ (wp_mono k (fun a1 k => ?_) fun _ _ q => q))
  exact ja_nil ⟨rfl, rfl, _, rfl, τ, e, _, hc a0 a1, k⟩
end
@[irreducible] def m_is_number (value1 : D) : Res Bool :=
  andR (isTR "int" (id value1)) (notR (isTR "bool" (id value1)))
def sp_is_number : SpD := fun xs M P PX => ∃ (value1 : D), xs = [.dat (id value1)] ∧ M = [] ∧ wp (m_is_number value1) (fun v => P (D.bl v) []) (fun c x => PX c x [])
theorem len_is_number : ∀ xs M P PX, sp_is_number xs M P PX → xs.length = 1 := by rintro _ _ _ _ ⟨_, rfl, _⟩; rfl
theorem call_is_number (value1 : D) : Call0 sp_is_number [id value1] D.bl (m_is_number value1) := fun P PX h => ⟨_, rfl, rfl, h⟩
theorem num_int (i : Int) : m_is_number (.int i) = .ok true := by
  unfold m_is_number
  rw [show isTR "int" (id (D.int i)) = .ok true from isI_int i, show isTR "bool" (id (D.int i)) = .ok false from isB_int i, notR_ok, andR_oo]; rfl
theorem num_str (w : Wd) : m_is_number (eW w) = .ok false := by
  unfold m_is_number
  rw [show isTR "int" (id (eW w)) = .ok false from isI_str w, andR_ok, cond_false]
@[irreducible] def m_are_numbers (value1 : D) : Res Bool :=
  andR (isTR "tuple" (id value1)) ((seqDR value1).bnd fun (xs_ : List D) => allR (fun (x2 : D) => m_is_number x2) xs_)
def sp_are_numbers : SpD := fun xs M P PX => ∃ (value1 : D), xs = [.dat (id value1)] ∧ M = [] ∧ wp (m_are_numbers value1) (fun v => P (D.bl v) []) (fun c x => PX c x [])
theorem len_are_numbers : ∀ xs M P PX, sp_are_numbers xs M P PX → xs.length = 1 := by rintro _ _ _ _ ⟨_, rfl, _⟩; rfl
theorem call_are_numbers (value1 : D) : Call0 sp_are_numbers [id value1] D.bl (m_are_numbers value1) := fun P PX h => ⟨_, rfl, rfl, h⟩
@[irreducible] def m_made_field (strengths1 : List Int) (guards2 : List Int) : Res Fld :=
  cond (!(decide (1 ≤ ((strengths1.length : Int))) && decide (((strengths1.length : Int)) ≤ 32))) (Res.er "BadSize" (D.int ((strengths1.length : Int))))
   ((forR (fun (b3 : Unit) (x4 : Int × Int) => cond (!(decide ((-1000000000) ≤ x4.2) && decide (x4.2 ≤ 1000000000))) (Res.er "BadStrength" (D.int x4.1))
   (Res.ok (()))) (enumL strengths1) (())).bnd fun (b5 : Unit) =>
   cond (!decide ((guards2.length : Int) = (strengths1.length : Int))) (Res.er "Unlike" (D.int ((guards2.length : Int))))
   ((forR (fun (b6 : Unit) (x7 : Int × Int) => cond (!(decide ((-1000000000) ≤ x7.2) && decide (x7.2 ≤ 1000000000))) (Res.er "BadGuard" (D.int x7.1))
   (Res.ok (()))) (enumL guards2) (())).bnd fun (b8 : Unit) =>
   Res.ok ((Fld.mk strengths1 guards2))))
def sp_made_field : SpD := fun xs M P PX => ∃ (strengths1 : List Int) (guards2 : List Int), xs = [.dat ((eT D.int) strengths1), .dat ((eT D.int) guards2)] ∧ M = [] ∧ wp (m_made_field strengths1 guards2) (fun v => P (eF v) []) (fun c x => PX c x [])
theorem len_made_field : ∀ xs M P PX, sp_made_field xs M P PX → xs.length = 2 := by rintro _ _ _ _ ⟨_, _, rfl, _⟩; rfl
theorem call_made_field (strengths1 : List Int) (guards2 : List Int) : Call0 sp_made_field [(eT D.int) strengths1, (eT D.int) guards2] eF (m_made_field strengths1 guards2) := fun P PX h => ⟨_, _, rfl, rfl, h⟩
theorem field_ok {S G : List Int} (h1 : 1 ≤ S.length) (h2 : S.length ≤ 32) (e : G.length = S.length) (hs : ∀ v ∈ S, -1000000000 ≤ v ∧ v ≤ 1000000000) (hg : ∀ v ∈ G, -1000000000 ≤ v ∧ v ≤ 1000000000) : m_made_field S G = .ok ⟨S, G⟩ := by
  have key : ∀ (L : List Int) (c : Str), (∀ v ∈ L, -1000000000 ≤ v ∧ v ≤ 1000000000) → forR (fun (_ : Unit) (x4 : Int × Int) => cond (!(decide ((-1000000000) ≤ x4.2) && decide (x4.2 ≤ 1000000000))) (Res.er c (D.int x4.1)) (Res.ok (()))) (enumL L) (()) = .ok () := fun L c hL => by
    rw [forR_find (fun _ => none) fun x hx => ?_]
    · have : List.findSome? (fun _ : Int × Int => (none : Option (Str × D))) (enumL L) = none := by rw [List.findSome?_eq_none_iff]; intros; rfl
      rw [this]
    · unfold enumL at hx
      obtain ⟨p, hp, rfl⟩ := List.mem_map.mp hx
      have hm : p.1 ∈ L := (List.mem_zipIdx' hp).2 ▸ List.getElem_mem _
      have := hL _ hm
      simp [this.1, this.2]
  unfold m_made_field
  rw [key S _ hs, key G _ hg]
  have h1' : (1 : Int) ≤ S.length := by omega
  have h2' : (S.length : Int) ≤ 32 := by omega
  simp [e, h1', h2']
@[irreducible] def m_is_field (strengths1 : D) (guards2 : D) : Res Bool :=
  (orR (notR (m_are_numbers strengths1)) (notR (m_are_numbers guards2))).bnd fun (v5 : Bool) =>
   cond v5 (Res.ok false)
   (((((((nT asI) strengths1).bnd fun v6 => ((nT asI) guards2).bnd fun v7 => m_made_field v6 v7).bnd fun (v8 : Fld) =>
   Res.ok (Stp.nx (()))).tr fun c9 x10 => cond (decide (c9 ∈ LC_)) (cond (subE c9 "Refused") (Res.ok (Stp.rt false))
   (Res.er c9 x10)) Res.no)).bnd fun (st12 : Stp (Unit) (Bool)) => Stp.on st12 (fun (j11 : Unit) =>
   Res.ok true)
   (fun (w13 : Bool) => Res.ok w13))
def sp_is_field : SpD := fun xs M P PX => ∃ (strengths1 : D) (guards2 : D), xs = [.dat (id strengths1), .dat (id guards2)] ∧ M = [] ∧ wp (m_is_field strengths1 guards2) (fun v => P (D.bl v) []) (fun c x => PX c x [])
theorem len_is_field : ∀ xs M P PX, sp_is_field xs M P PX → xs.length = 2 := by rintro _ _ _ _ ⟨_, _, rfl, _⟩; rfl
theorem call_is_field (strengths1 : D) (guards2 : D) : Call0 sp_is_field [id strengths1, id guards2] D.bl (m_is_field strengths1 guards2) := fun P PX h => ⟨_, _, rfl, rfl, h⟩
@[irreducible] def m__law_pool (script1 : List Int) (k2 : Int) : Res (List Int) :=
  (cond (decide (k2 < ((script1.length : Int)))) ((ixR script1 k2).bnd fun (v3 : Int) =>
   Res.ok v3)
   (cond (!script1.isEmpty) ((ixR script1 0).bnd fun (v4 : Int) =>
   Res.ok v4)
   (Res.ok 0))).bnd fun (j5 : Int) =>
   (((((((mulR (7919 * k2) k2).bnd fun v6 => Res.ok ((((if ((-1) - j5) > j5 then ((-1) - j5) else j5)) % 2147483629) + v6)).bnd fun v7 => Res.ok (v7 + (31 * k2))).bnd fun v8 => Res.ok (v8 + 17)).bnd fun v9 => Res.ok (v9 * 48271)).bnd fun v10 => Res.ok v10).bnd fun v11 => Res.ok (v11 % 2147483647)).bnd fun (v12 : Int) =>
   ((mulR ((if ((-1) - j5) > j5 then ((-1) - j5) else j5)) ((cond (decide ((10 ^ (18 : Int).toNat) ≤ ((if ((-1) - j5) > j5 then ((-1) - j5) else j5)))) 1 0 : Int))).bnd fun v13 => szR [v13, v12]).bnd fun (l14 : List Int) =>
   Res.ok l14
def sp__law_pool : SpF := fun xs _ P => ∃ (script1 : List Int) (k2 : Int), xs = [.dat ((eFL D.int) script1), .dat (D.int k2)] ∧ wp (m__law_pool script1 k2) (fun l => P (l.map D.int)) (fun _ _ => False)
theorem len__law_pool : ∀ xs M P, sp__law_pool xs M P → xs.length = 2 := by rintro _ _ _ ⟨_, _, rfl, _⟩; rfl
theorem call__law_pool (script1 : List Int) (k2 : Int) : CallF sp__law_pool [(eFL D.int) script1, D.int k2] D.int (m__law_pool script1 k2) := fun P h => ⟨_, _, rfl, h⟩
theorem pool_eq (ns : List Int) (k : Int) (hk : 0 ≤ k) (hk2 : k ≤ 1000000) : ∃ s, m__law_pool ns k = .ok s ∧ Gs s := by
  have cell : ∃ c, (cond (decide (k < (ns.length : Int))) ((ixR ns k).bnd fun v => .ok v) (cond (!ns.isEmpty) ((ixR ns 0).bnd fun v => .ok v) (.ok 0)) : Res Int) = .ok c := by
    by_cases c : k < (ns.length : Int)
    · obtain ⟨v, _, e⟩ := ixR_at (xs := ns) hk c
      rw [decide_eq_true c, cond_true, e]; exact ⟨v, rfl⟩
    · rw [decide_eq_false c, cond_false]
      cases ns with
      | nil => exact ⟨0, rfl⟩
      | cons n ns => exact ⟨n, by rw [ixR_cons0]; rfl⟩
  obtain ⟨c, e⟩ := cell
  unfold m__law_pool
  rw [e, ok_bnd, mulR_ok (.inr ⟨by omega, by omega⟩)]
  simp only [ok_bnd]
  generalize hb : (if -1 - c > c then -1 - c else c) = b
  have b0 : 0 ≤ b := by rw [← hb]; by_cases h : -1 - c > c <;> simp only [h, if_true, if_false] <;> omega
  have mb : ∀ z : Int, (z = 0 ∨ z = 1) → mulR b z = .ok (b * z) := fun z hz => mulR_ok (.inr (by omega))
  have key : ∀ z : Int, (z = 0 ∨ z = 1) → ∀ w : Int, ∃ s, (((mulR b z).bnd fun v => szR [v, w % 2147483647]).bnd fun l => .ok l) = .ok s ∧ Gs s := fun z hz w => by
    rw [mb z hz, ok_bnd, szR_ok (by simp; decide : [b * z, w % 2147483647].length ≤ sizeLine), ok_bnd]
    exact ⟨_, rfl, _, _, rfl, by rcases hz with rfl | rfl <;> omega, Int.emod_nonneg _ (by decide), Int.emod_lt_of_pos _ (by decide)⟩
  refine key _ ?_ _
  cases decide ((10 : Int) ^ (18 : Int).toNat ≤ b) <;> simp
theorem ne__law_pool (a : List Int) (b : Int) (c : Str) (x : D) : m__law_pool a b ≠ .er c x := by
  unfold m__law_pool
  refine bnd_neE (fun c x => ?_) (fun j => bnd_neE (fun c x => ?_) fun l => bnd_neE (bnd_neE mulR_neer fun _ => szR_neer) fun _ => ok_neer) c x
  · cases decide (b < (a.length : Int)) with
    | true => exact bnd_neE ixR_neer (fun _ => ok_neer) c x
    | false =>
      cases (!a.isEmpty) with
      | true => exact bnd_neE ixR_neer (fun _ => ok_neer) c x
      | false => exact ok_neer c x
  · refine bnd_neE (bnd_neE (bnd_neE (bnd_neE (bnd_neE (bnd_neE mulR_neer fun _ => ok_neer) fun _ => ok_neer) fun _ => ok_neer) fun _ => ok_neer) fun _ => ok_neer) (fun _ => ok_neer) c x
@[irreducible] def m__law_take (source1 : List Int) (top2 : Int) : Res (Int × (List Int)) :=
  ((ixR source1 0).bnd fun v3 => Res.ok (decide (0 < v3))).bnd fun (v4 : Bool) =>
   cond v4 ((((ixR source1 0).bnd fun v5 => Res.ok v5).bnd fun v6 => modR v6 top2).bnd fun (v7 : Int) =>
   ((ixR source1 0).bnd fun v8 => divR v8 top2).bnd fun (v9 : Int) =>
   (setR source1 0 v9).bnd fun source10 =>
   Res.ok ((v7, source10)))
   ((((((ixR source1 1).bnd fun v11 => Res.ok (v11 * 39373)).bnd fun v12 => Res.ok (v12 + 7)).bnd fun v13 => Res.ok v13).bnd fun v14 => Res.ok (v14 % 2147483647)).bnd fun (v15 : Int) =>
   (setR source1 1 v15).bnd fun source16 =>
   (((((((ixR source16 1).bnd fun v17 => (ixR source16 1).bnd fun v18 => mulR v17 v18).bnd fun v19 => Res.ok v19).bnd fun v20 => Res.ok (v20 % 2147483629)).bnd fun v21 => Res.ok (v21 / 32)).bnd fun v22 => Res.ok v22).bnd fun v23 => modR v23 top2).bnd fun (v24 : Int) =>
   Res.ok ((v24, source16)))
def sp__law_take : SpD := fun xs M P PX => ∃ (source1 : List Int) (top2 : Int), xs = [.cell 0, .dat (D.int top2)] ∧ M = [some (cL D.int source1)] ∧ wp (m__law_take source1 top2) (fun q => P (D.int q.1) [some (cL D.int q.2)]) (fun c x => ∀ y, PX c x [some y])
theorem len__law_take : ∀ xs M P PX, sp__law_take xs M P PX → xs.length = 2 := by rintro _ _ _ _ ⟨_, _, rfl, _⟩; rfl
theorem call__law_take (source1 : List Int) (top2 : Int) : Call1 sp__law_take [.cell 0, .dat (D.int top2)] (cL D.int source1) (fun q => D.int q.1) (fun q => (cL D.int q.2)) (m__law_take source1 top2) := fun P PX h => ⟨_, _, rfl, rfl, h⟩
theorem take_ok {s : List Int} {k : Int} (hs : Gs s) (h : 1 ≤ k) (h2 : k < 2 ^ 200) : ∃ v s', m__law_take s k = .ok (v, s') ∧ 0 ≤ v ∧ v < k ∧ Gs s' := by
  obtain ⟨a, b, rfl, g⟩ := hs
  have a0 := g.a0
  have b0 := g.b0
  have b1 := g.b1
  unfold m__law_take
  simp only [ix0, ok_bnd]
  by_cases c : 0 < a
  · simp only [decide_eq_true c, cond_true, modR_ok (show 0 < k by omega), divR_ok (show 0 < k by omega) h2, set0, ok_bnd]
    exact ⟨_, _, rfl, Int.emod_nonneg _ (by omega), Int.emod_lt_of_pos _ (by omega), _, _, rfl, Int.ediv_nonneg a0 (by omega), b0, b1⟩
  · simp only [decide_eq_false c, cond_false, ix1, ok_bnd, set1]
    generalize hq : (b * 39373 + 7) % 2147483647 = q
    have q0 : 0 ≤ q := by rw [← hq]; exact Int.emod_nonneg _ (by decide)
    have q1 : q < 2147483647 := by rw [← hq]; exact Int.emod_lt_of_pos _ (by decide)
    rw [mulR_ok (.inl ⟨by omega, by omega⟩)]
    simp only [ok_bnd, modR_ok (show 0 < k by omega)]
    exact ⟨_, _, rfl, Int.emod_nonneg _ (by omega), Int.emod_lt_of_pos _ (by omega), _, _, rfl, a0, q0, q1⟩
theorem take_gd {s : List Int} {k : Int} (hs : Gs s) (h : 1 ≤ k) (h2 : k < 2 ^ 200) : Gd (fun q : Int × List Int => (0 ≤ q.1 ∧ q.1 < k) ∧ Gs q.2) (m__law_take s k) := by
  obtain ⟨v, s', e, v0, v1, g⟩ := take_ok hs h h2
  exact ⟨_, e, ⟨v0, v1⟩, g⟩
@[irreducible] def m__law_one {α : Type} (s : List Int) (xs : List α) : Res (α × List Int) := (m__law_take s (xs.length : Int)).bnd fun q => (ixR xs q.1).bnd fun v => Res.ok (v, q.2)
def sp__law_one : SpD := fun xs M P PX => ∃ (s : List Int) (d : D) (ds : List D), xs = [.cell 0, .dat d] ∧ seqD d = some ds ∧ M = [some (cL D.int s)] ∧ wp (m__law_one s ds) (fun q => P q.1 [some (cL D.int q.2)]) (fun c x => ∀ y, PX c x [some y])
theorem len__law_one : ∀ xs M P PX, sp__law_one xs M P PX → xs.length = 2 := by rintro _ _ _ _ ⟨_, _, _, rfl, _⟩; rfl
theorem m__law_one_map {α : Type} (e : α → D) (s : List Int) (xs : List α) : m__law_one s (xs.map e) = (m__law_one s xs).bnd fun q => .ok (e q.1, q.2) := by
  unfold m__law_one
  rw [List.length_map, bnd_bnd]
  congr 1
  funext q
  rw [bnd_bnd]
  unfold ixR
  rw [atI_map]
  cases atI xs q.1 <;> rfl
theorem call__law_one_L {α : Type} (e : α → D) (s : List Int) (xs : List α) : Call1 sp__law_one [.cell 0, .dat (eL e xs)] (cL D.int s) (fun q : α × List Int => e q.1) (fun q => cL D.int q.2) (m__law_one s xs) := fun P PX h => ⟨s, _, _, rfl, rfl, rfl, by rw [m__law_one_map, wp_bnd]; exact h⟩
theorem one_ok {α : Type} {s : List Int} {xs : List α} (hs : Gs s) (h : xs ≠ []) (h2 : xs.length < 2 ^ 60) : ∃ v s', m__law_one s xs = .ok (v, s') ∧ v ∈ xs ∧ Gs s' := by
  have hl : 0 < xs.length := List.length_pos_iff.mpr h
  obtain ⟨v, s', e, v0, v1, g⟩ := take_ok hs (k := (xs.length : Int)) (by omega) (by omega)
  obtain ⟨w, _, q⟩ := ixR_at v0 v1
  unfold m__law_one
  rw [e, ok_bnd, q, ok_bnd]
  exact ⟨_, _, rfl, ixR_mem q, g⟩
theorem one_gd {α : Type} {s : List Int} {xs : List α} (hs : Gs s) (h : xs ≠ []) (h2 : xs.length < 2 ^ 60) : Gd (fun q : α × List Int => q.1 ∈ xs ∧ Gs q.2) (m__law_one s xs) := by
  obtain ⟨v, s', e, v0, g⟩ := one_ok hs h h2
  exact ⟨_, e, v0, g⟩
@[irreducible] def m__law_number (thing1 : Int) : Res Bool :=
  andR (isTR "int" (D.int thing1)) (notR (isTR "bool" (D.int thing1)))
def sp__law_number : SpD := fun xs M P PX => ∃ (thing1 : Int), xs = [.dat (D.int thing1)] ∧ M = [] ∧ wp (m__law_number thing1) (fun v => P (D.bl v) []) (fun c x => PX c x [])
theorem len__law_number : ∀ xs M P PX, sp__law_number xs M P PX → xs.length = 1 := by rintro _ _ _ _ ⟨_, rfl, _⟩; rfl
theorem call__law_number (thing1 : Int) : Call0 sp__law_number [D.int thing1] D.bl (m__law_number thing1) := fun P PX h => ⟨_, rfl, rfl, h⟩
@[irreducible] def m__law_row (told1 : List Int) (due2 : List Int) : Res Bool :=
  (orR (notR (isTR "tuple" ((eT D.int) told1))) (Res.ok (!decide ((told1.length : Int) = (due2.length : Int))))).bnd fun (v4 : Bool) =>
   cond v4 (Res.ok false)
   ((forS (ρ := Bool) (fun (b5 : Unit) (x6 : Int × Int) => (orR (notR (m__law_number x6.1)) (Res.ok (!decide (x6.1 = x6.2)))).bnd fun (v8 : Bool) =>
   cond v8 (Res.ok (Stp.rt false))
   (Res.ok (Stp.nx (())))) (zipL told1 due2) (())).bnd fun st11 =>
   Stp.on st11 (fun (b9 : Unit) => Res.ok true)
   (fun (v10 : Bool) => Res.ok v10))
def sp__law_row : SpD := fun xs M P PX => ∃ (told1 : List Int) (due2 : List Int), xs = [.dat ((eT D.int) told1), .dat ((eL D.int) due2)] ∧ M = [] ∧ wp (m__law_row told1 due2) (fun v => P (D.bl v) []) (fun c x => PX c x [])
theorem len__law_row : ∀ xs M P PX, sp__law_row xs M P PX → xs.length = 2 := by rintro _ _ _ _ ⟨_, _, rfl, _⟩; rfl
theorem call__law_row (told1 : List Int) (due2 : List Int) : Call0 sp__law_row [(eT D.int) told1, (eL D.int) due2] D.bl (m__law_row told1 due2) := fun P PX h => ⟨_, _, rfl, rfl, h⟩
@[irreducible] def m__law_said (told1 : Bool) (due2 : Bool) : Res Bool :=
  andR (isTR "bool" (D.bl told1)) (Res.ok (decide (told1 = due2)))
def sp__law_said : SpD := fun xs M P PX => ∃ (told1 : Bool) (due2 : Bool), xs = [.dat (D.bl told1), .dat (D.bl due2)] ∧ M = [] ∧ wp (m__law_said told1 due2) (fun v => P (D.bl v) []) (fun c x => PX c x [])
theorem len__law_said : ∀ xs M P PX, sp__law_said xs M P PX → xs.length = 2 := by rintro _ _ _ _ ⟨_, _, rfl, _⟩; rfl
theorem call__law_said (told1 : Bool) (due2 : Bool) : Call0 sp__law_said [D.bl told1, D.bl due2] D.bl (m__law_said told1 due2) := fun P PX h => ⟨_, _, rfl, rfl, h⟩
@[irreducible] def m__law_entry (source1 : List Int) (top2 : Int) : Res (Int × (List Int)) :=
  (m__law_take source1 top2).bnd fun (q3 : Int × (List Int)) =>
   ((m__law_take q3.2 2).bnd fun (q4 : Int × (List Int)) =>
   cond (decide (q4.1 = 0)) (Res.ok ((-q3.1, q4.2))) (Res.ok ((q3.1, q4.2)))).bnd fun (q5 : Int × (List Int)) =>
   Res.ok ((q5.1, q5.2))
def sp__law_entry : SpD := fun xs M P PX => ∃ (source1 : List Int) (top2 : Int), xs = [.cell 0, .dat (D.int top2)] ∧ M = [some (cL D.int source1)] ∧ wp (m__law_entry source1 top2) (fun q => P (D.int q.1) [some (cL D.int q.2)]) (fun c x => ∀ y, PX c x [some y])
theorem len__law_entry : ∀ xs M P PX, sp__law_entry xs M P PX → xs.length = 2 := by rintro _ _ _ _ ⟨_, _, rfl, _⟩; rfl
theorem call__law_entry (source1 : List Int) (top2 : Int) : Call1 sp__law_entry [.cell 0, .dat (D.int top2)] (cL D.int source1) (fun q => D.int q.1) (fun q => (cL D.int q.2)) (m__law_entry source1 top2) := fun P PX h => ⟨_, _, rfl, rfl, h⟩
@[irreducible] def m__law_numbers (source1 : List Int) (n2 : Int) : Res ((List Int) × (List Int)) :=
  (m__law_one source1 ([1, 2, 4, (10 ^ (9 : Int).toNat) + 1])).bnd fun (q3 : Int × List Int) =>
   (rngR 0 n2).bnd fun (xs4 : List Int) =>
   (lcB (fun (st6 : (List Int)) (x7 : Int) => (m__law_entry st6 q3.1).bnd fun (q8 : Int × (List Int)) =>
   Res.ok ((some q8.1, q8.2))) xs4 [] q3.2).bnd fun (q9 : List Int × ((List Int))) =>
   Res.ok ((q9.1, q9.2))
def sp__law_numbers : SpD := fun xs M P PX => ∃ (source1 : List Int) (n2 : Int), xs = [.cell 0, .dat (D.int n2)] ∧ M = [some (cL D.int source1)] ∧ wp (m__law_numbers source1 n2) (fun q => P ((eL D.int) q.1) [some (cL D.int q.2)]) (fun c x => ∀ y, PX c x [some y])
theorem len__law_numbers : ∀ xs M P PX, sp__law_numbers xs M P PX → xs.length = 2 := by rintro _ _ _ _ ⟨_, _, rfl, _⟩; rfl
theorem call__law_numbers (source1 : List Int) (n2 : Int) : Call1 sp__law_numbers [.cell 0, .dat (D.int n2)] (cL D.int source1) (fun q => (eL D.int) q.1) (fun q => (cL D.int q.2)) (m__law_numbers source1 n2) := fun P PX h => ⟨_, _, rfl, rfl, h⟩
@[irreducible] def m__law_field_is (told1 : Fld) (strengths2 : List Int) (guards3 : List Int) : Res Bool :=
  (cond (!true) (Res.ok true) (orR (notR (m__law_number ((told1.s.length : Int)))) (Res.ok (!decide ((told1.s.length : Int) = (strengths2.length : Int)))))).bnd fun (v5 : Bool) =>
   cond v5 (Res.ok false)
   (andR (m__law_row told1.s strengths2) (m__law_row told1.g guards3))
def sp__law_field_is : SpD := fun xs M P PX => ∃ (told1 : Fld) (strengths2 : List Int) (guards3 : List Int), xs = [.dat (eF told1), .dat ((eL D.int) strengths2), .dat ((eL D.int) guards3)] ∧ M = [] ∧ wp (m__law_field_is told1 strengths2 guards3) (fun v => P (D.bl v) []) (fun c x => PX c x [])
theorem len__law_field_is : ∀ xs M P PX, sp__law_field_is xs M P PX → xs.length = 3 := by rintro _ _ _ _ ⟨_, _, _, rfl, _⟩; rfl
theorem call__law_field_is (told1 : Fld) (strengths2 : List Int) (guards3 : List Int) : Call0 sp__law_field_is [eF told1, (eL D.int) strengths2, (eL D.int) guards3] D.bl (m__law_field_is told1 strengths2 guards3) := fun P PX h => ⟨_, _, _, rfl, rfl, h⟩
@[irreducible] def m__law_fault (strengths1 : List Int) (guards2 : List Int) : Res D :=
  cond (!(decide (1 ≤ ((strengths1.length : Int))) && decide (((strengths1.length : Int)) ≤ 32))) (Res.ok ((eQ2 eW D.int) (((wd "size"), (strengths1.length : Int)))))
   ((forS (ρ := D) (fun (b3 : Unit) (x4 : Int × Int) => cond (!(decide ((-(10 ^ (9 : Int).toNat)) ≤ x4.2) && decide (x4.2 ≤ (10 ^ (9 : Int).toNat)))) (Res.ok (Stp.rt ((eQ2 eW D.int) (((wd "strength"), x4.1)))))
   (Res.ok (Stp.nx (())))) (enumL strengths1) (())).bnd fun st12 =>
   Stp.on st12 (fun (b5 : Unit) => cond (!decide ((guards2.length : Int) = (strengths1.length : Int))) (Res.ok ((eQ2 eW D.int) (((wd "unlike"), (guards2.length : Int)))))
   ((forS (ρ := D) (fun (b6 : Unit) (x7 : Int × Int) => cond (!(decide ((-(10 ^ (9 : Int).toNat)) ≤ x7.2) && decide (x7.2 ≤ (10 ^ (9 : Int).toNat)))) (Res.ok (Stp.rt ((eQ2 eW D.int) (((wd "guard"), x7.1)))))
   (Res.ok (Stp.nx (())))) (enumL guards2) (())).bnd fun st10 =>
   Stp.on st10 (fun (b8 : Unit) => Res.ok ((eL D.int) ([])))
   (fun (v9 : D) => Res.ok v9)))
   (fun (v11 : D) => Res.ok v11))
def sp__law_fault : SpD := fun xs M P PX => ∃ (strengths1 : List Int) (guards2 : List Int), xs = [.dat ((eL D.int) strengths1), .dat ((eL D.int) guards2)] ∧ M = [] ∧ wp (m__law_fault strengths1 guards2) (fun v => P (id v) []) (fun c x => PX c x [])
theorem len__law_fault : ∀ xs M P PX, sp__law_fault xs M P PX → xs.length = 2 := by rintro _ _ _ _ ⟨_, _, rfl, _⟩; rfl
theorem call__law_fault (strengths1 : List Int) (guards2 : List Int) : Call0 sp__law_fault [(eL D.int) strengths1, (eL D.int) guards2] id (m__law_fault strengths1 guards2) := fun P PX h => ⟨_, _, rfl, rfl, h⟩
@[irreducible] def m__law_refusal (strengths1 : List Int) (guards2 : List Int) : Res D :=
  ((((m_made_field strengths1 guards2).bnd fun (v3 : Fld) =>
   Res.ok (Stp.nx (()))).tr fun c4 x5 => cond (decide (c4 ∈ LC_)) (cond (subE c4 "BadSize") (Res.ok (Stp.rt ((eQ2 eW id) (((wd "size"), x5)))))
   (cond (subE c4 "BadStrength") (Res.ok (Stp.rt ((eQ2 eW id) (((wd "strength"), x5)))))
   (cond (subE c4 "Unlike") (Res.ok (Stp.rt ((eQ2 eW id) (((wd "unlike"), x5)))))
   (cond (subE c4 "BadGuard") (Res.ok (Stp.rt ((eQ2 eW id) (((wd "guard"), x5)))))
   (cond (subE c4 "Refused") (Res.ok (Stp.rt ((eQ2 eW D.int) (((wd "other"), 0)))))
   (Res.er c4 x5)))))) Res.no)).bnd fun (st7 : Stp (Unit) (D)) => Stp.on st7 (fun (j6 : Unit) =>
   Res.ok ((eL D.int) ([])))
   (fun (w8 : D) => Res.ok w8)
def sp__law_refusal : SpD := fun xs M P PX => ∃ (strengths1 : List Int) (guards2 : List Int), xs = [.dat ((eL D.int) strengths1), .dat ((eL D.int) guards2)] ∧ M = [] ∧ wp (m__law_refusal strengths1 guards2) (fun v => P (id v) []) (fun c x => PX c x [])
theorem len__law_refusal : ∀ xs M P PX, sp__law_refusal xs M P PX → xs.length = 2 := by rintro _ _ _ _ ⟨_, _, rfl, _⟩; rfl
theorem call__law_refusal (strengths1 : List Int) (guards2 : List Int) : Call0 sp__law_refusal [(eL D.int) strengths1, (eL D.int) guards2] id (m__law_refusal strengths1 guards2) := fun P PX h => ⟨_, _, rfl, rfl, h⟩
@[irreducible] def m__law_beyond (source1 : List Int) : Res (Int × (List Int)) :=
  (m__law_take source1 (10 ^ (9 : Int).toNat)).bnd fun (q2 : Int × (List Int)) =>
   (m__law_one q2.2 ([1, 1, 1 + q2.1, 10 ^ (30 : Int).toNat])).bnd fun (q3 : Int × List Int) =>
   ((m__law_take q3.2 2).bnd fun (q4 : Int × (List Int)) =>
   cond (decide (q4.1 = 0)) (Res.ok ((-((10 ^ (9 : Int).toNat) + q3.1), q4.2))) (Res.ok (((10 ^ (9 : Int).toNat) + q3.1, q4.2)))).bnd fun (q5 : Int × (List Int)) =>
   Res.ok ((q5.1, q5.2))
def sp__law_beyond : SpD := fun xs M P PX => ∃ (source1 : List Int), xs = [.cell 0] ∧ M = [some (cL D.int source1)] ∧ wp (m__law_beyond source1) (fun q => P (D.int q.1) [some (cL D.int q.2)]) (fun c x => ∀ y, PX c x [some y])
theorem len__law_beyond : ∀ xs M P PX, sp__law_beyond xs M P PX → xs.length = 1 := by rintro _ _ _ _ ⟨_, rfl, _⟩; rfl
theorem call__law_beyond (source1 : List Int) : Call1 sp__law_beyond [.cell 0] (cL D.int source1) (fun q => D.int q.1) (fun q => (cL D.int q.2)) (m__law_beyond source1) := fun P PX h => ⟨_, rfl, rfl, h⟩
@[irreducible] def m__law_bent (source1 : List Int) (strengths2 : List Int) (guards3 : List Int) : Res (((List Int) × (List Int)) × (List Int)) :=
  ((m__law_take source1 3).bnd fun (q6 : Int × (List Int)) =>
   cond (decide (q6.1 = 0)) ((m__law_beyond q6.2).bnd fun (q7 : Int × (List Int)) =>
   (m__law_take q7.2 (((cutL strengths2 none none).length : Int))).bnd fun (q8 : Int × (List Int)) =>
   (setR (cutL strengths2 none none) q8.1 q7.1).bnd fun low9 =>
   Res.ok ((q8.2, low9)))
   (Res.ok ((q6.2, cutL strengths2 none none)))).bnd fun (j10 : (List Int) × (List Int)) =>
   ((m__law_take j10.1 3).bnd fun (q11 : Int × (List Int)) =>
   cond (decide (q11.1 = 0)) ((m__law_beyond q11.2).bnd fun (q12 : Int × (List Int)) =>
   (m__law_take q12.2 (((cutL guards3 none none).length : Int))).bnd fun (q13 : Int × (List Int)) =>
   (setR (cutL guards3 none none) q13.1 q12.1).bnd fun high14 =>
   Res.ok ((q13.2, high14)))
   (Res.ok ((q11.2, cutL guards3 none none)))).bnd fun (j15 : (List Int) × (List Int)) =>
   ((m__law_take j15.1 3).bnd fun (q16 : Int × (List Int)) =>
   cond (decide (q16.1 = 0)) (((catR j15.2 ([0])).bnd fun v17 => (catR j15.2 j15.2).bnd fun v18 => (repR ([0]) 33).bnd fun v19 => szR [cutL j15.2 (some 1) none, v17, [], v18, v19]).bnd fun (v20 : List (List Int)) =>
   (m__law_one q16.2 v20).bnd fun (q21 : (List Int) × List Int) =>
   Res.ok ((q21.2, q21.1)))
   (Res.ok ((q16.2, j15.2)))).bnd fun (j22 : (List Int) × (List Int)) =>
   ((m__law_take j22.1 8).bnd fun (q23 : Int × (List Int)) =>
   cond (decide (q23.1 = 0)) (((repR ([1]) 33).bnd fun v24 => (repR ([10 ^ (10 : Int).toNat]) 40).bnd fun v25 => (repR j10.2 33).bnd fun v26 => szR [[], v24, v25, v26]).bnd fun (v27 : List (List Int)) =>
   (m__law_one q23.2 v27).bnd fun (q28 : (List Int) × List Int) =>
   Res.ok ((q28.2, q28.1)))
   (Res.ok ((q23.2, j10.2)))).bnd fun (j29 : (List Int) × (List Int)) =>
   Res.ok (((j29.2, j22.2), j29.1))
def sp__law_bent : SpD := fun xs M P PX => ∃ (source1 : List Int) (strengths2 : List Int) (guards3 : List Int), xs = [.cell 0, .dat ((eL D.int) strengths2), .dat ((eL D.int) guards3)] ∧ M = [some (cL D.int source1)] ∧ wp (m__law_bent source1 strengths2 guards3) (fun q => P ((eP2 (eL D.int) (eL D.int)) q.1) [some (cL D.int q.2)]) (fun c x => ∀ y, PX c x [some y])
theorem len__law_bent : ∀ xs M P PX, sp__law_bent xs M P PX → xs.length = 3 := by rintro _ _ _ _ ⟨_, _, _, rfl, _⟩; rfl
theorem call__law_bent (source1 : List Int) (strengths2 : List Int) (guards3 : List Int) : Call1 sp__law_bent [.cell 0, .dat ((eL D.int) strengths2), .dat ((eL D.int) guards3)] (cL D.int source1) (fun q => (eP2 (eL D.int) (eL D.int)) q.1) (fun q => (cL D.int q.2)) (m__law_bent source1 strengths2 guards3) := fun P PX h => ⟨_, _, _, rfl, rfl, h⟩
@[irreducible] def m__law_right (source1 : List Int) : Res (Bool × (List Int)) :=
  (m__law_one source1 ([1, 2, 3, 4, 5, 6, 8, 8])).bnd fun (q2 : Int × List Int) =>
   ((m__law_take q2.2 20).bnd fun (q3 : Int × (List Int)) =>
   cond (decide (q3.1 = 0)) (Res.ok ((q3.2, 32)))
   (Res.ok ((q3.2, q2.1)))).bnd fun (j4 : (List Int) × Int) =>
   (m__law_numbers j4.1 j4.2).bnd fun (q5 : (List Int) × (List Int)) =>
   (m__law_numbers q5.2 j4.2).bnd fun (q6 : (List Int) × (List Int)) =>
   (m_made_field q5.1 q6.1).bnd fun (v7 : Fld) =>
   (orR (notR (m__law_field_is v7 q5.1 q6.1)) (notR ((m_is_field ((eT D.int) q5.1) ((eT D.int) q6.1)).bnd fun v9 => m__law_said v9 true))).bnd fun (v11 : Bool) =>
   cond v11 (Res.ok ((false, q6.2)))
   ((rngR 0 3).bnd fun (xs12 : List Int) =>
   (forS (ρ := Bool × (List Int)) (fun (b13 : (List Int)) (x14 : Int) => (m__law_bent b13 q5.1 q6.1).bnd fun (q15 : ((List Int) × (List Int)) × (List Int)) =>
   (m__law_fault q15.1.1 q15.1.2).bnd fun (v16 : D) =>
   ((m__law_refusal q15.1.1 q15.1.2).bnd fun v17 => notR (eqR v17 v16)).bnd fun (v18 : Bool) =>
   cond v18 (Res.ok (Stp.rt ((false, q15.2))))
   ((notR ((m_is_field ((eT D.int) q15.1.1) ((eT D.int) q15.1.2)).bnd fun v19 => (eqR v16 ((eL D.int) ([]))).bnd fun v20 => m__law_said v19 v20)).bnd fun (v22 : Bool) =>
   cond v22 (Res.ok (Stp.rt ((false, q15.2))))
   (Res.ok (Stp.nx q15.2)))) xs12 q6.2).bnd fun st40 =>
   Stp.on st40 (fun (b23 : (List Int)) => (((repTR' ([()]) j4.2).bnd fun v24 => Res.ok ((eT eN) v24)).bnd fun v27 => ((repTR' ([1]) j4.2).bnd fun v25 => Res.ok ((eT (eP1 D.int)) v25)).bnd fun v28 => ((repTR' ([(wd "1")]) j4.2).bnd fun v26 => Res.ok ((eT eW) v26)).bnd fun v29 => szR [D.int 7, eW ((wd "")), eW ((wd "01")), eN (()), v27, v28, v29, (eP2 D.int eW) ((0, (wd "0"))), (eP2 (eT D.int) D.int) ((([] : List Int), 0))]).bnd fun (v30 : List D) =>
   (m__law_one b23 v30).bnd fun (q31 : D × List Int) =>
   (orR (notR ((m_is_field q31.1 ((eT D.int) q6.1)).bnd fun v32 => m__law_said v32 false)) (notR ((m_is_field ((eT D.int) q5.1) q31.1).bnd fun v34 => m__law_said v34 false))).bnd fun (v36 : Bool) =>
   cond v36 (Res.ok ((false, q31.2)))
   ((andR ((m_is_field q31.1 q31.1).bnd fun v37 => m__law_said v37 false) (m__law_field_is v7 q5.1 q6.1)).bnd fun (v38 : Bool) =>
   Res.ok ((v38, q31.2))))
   (fun (v39 : Bool × (List Int)) => Res.ok v39))
def sp__law_right : SpD := fun xs M P PX => ∃ (source1 : List Int), xs = [.cell 0] ∧ M = [some (cL D.int source1)] ∧ wp (m__law_right source1) (fun q => P (D.bl q.1) [some (cL D.int q.2)]) (fun c x => ∀ y, PX c x [some y])
theorem len__law_right : ∀ xs M P PX, sp__law_right xs M P PX → xs.length = 1 := by rintro _ _ _ _ ⟨_, rfl, _⟩; rfl
theorem call__law_right (source1 : List Int) : Call1 sp__law_right [.cell 0] (cL D.int source1) (fun q => D.bl q.1) (fun q => (cL D.int q.2)) (m__law_right source1) := fun P PX h => ⟨_, rfl, rfl, h⟩
@[irreducible] def m_law (script1 : List Int) : Res Bool :=
  (rngR 0 ((if ((if 3 < ((script1.length : Int)) then 3 else ((script1.length : Int)))) > 1 then ((if 3 < ((script1.length : Int)) then 3 else ((script1.length : Int)))) else 1))).bnd fun (xs2 : List Int) =>
   (forS (ρ := Bool) (fun (b3 : Unit) (x4 : Int) => (notR ((m__law_pool script1 x4).bnd fun v5 => (m__law_right v5).bnd fun q6 => Res.ok q6.1)).bnd fun (v8 : Bool) =>
   cond v8 (Res.ok (Stp.rt false))
   (Res.ok (Stp.nx (())))) xs2 (())).bnd fun st11 =>
   Stp.on st11 (fun (b9 : Unit) => Res.ok true)
   (fun (v10 : Bool) => Res.ok v10)
def sp_law : SpD := fun xs M P PX => ∃ (script1 : List Int), xs = [.dat ((eFL D.int) script1)] ∧ M = [] ∧ wp (m_law script1) (fun v => P (D.bl v) []) (fun c x => PX c x [])
theorem len_law : ∀ xs M P PX, sp_law xs M P PX → xs.length = 1 := by rintro _ _ _ _ ⟨_, rfl, _⟩; rfl
def inB (v : Int) : Bool := decide ((-1000000000) ≤ v) && decide (v ≤ 1000000000)
def badI (k : Nat) : List Int → Option Nat
  | [] => none
  | v :: L => if inB v = true then badI (k + 1) L else some k
theorem badI_none {L : List Int} (h : ∀ v ∈ L, -1000000000 ≤ v ∧ v ≤ 1000000000) : ∀ k, badI k L = none := by
  induction L with
  | nil => intro k; rfl
  | cons v L ih =>
    intro k
    have hv := h v List.mem_cons_self
    rw [badI, if_pos (by unfold inB; simp [hv.1, hv.2])]
    exact ih (fun u hu => h u (List.mem_cons_of_mem _ hu)) _
theorem forR_bad (c : Str) : ∀ (L : List Int) (k : Nat), forR (fun (_ : Unit) (x4 : Int × Int) => cond (!(decide ((-1000000000) ≤ x4.2) && decide (x4.2 ≤ 1000000000))) (Res.er c (D.int x4.1)) (Res.ok (()))) ((L.zipIdx k).map fun p => ((p.2 : Int), p.1)) () = match badI k L with
    | none => .ok ()
    | some i => .er c (.int (i : Int))
  | [], k => rfl
  | v :: L, k => by
    rw [List.zipIdx_cons, List.map_cons, forR_cons, badI]
    simp only
    change Res.bnd (cond (!inB v) _ _) _ = _
    cases e : inB v with
    | true =>
      rw [Bool.not_true, cond_false, ok_bnd, forR_bad c L (k + 1), if_pos rfl]
    | false =>
      rw [Bool.not_false, cond_true, er_bnd, if_neg Bool.false_ne_true]
theorem forS_bad (w : Wd) : ∀ (L : List Int) (k : Nat), forS (ρ := D) (fun (_ : Unit) (x4 : Int × Int) => cond (!(decide ((-1000000000) ≤ x4.2) && decide (x4.2 ≤ 1000000000))) (Res.ok (Stp.rt ((eQ2 eW D.int) ((w, x4.1))))) (Res.ok (Stp.nx (())))) ((L.zipIdx k).map fun p => ((p.2 : Int), p.1)) () = .ok (match badI k L with
    | none => Stp.nx ()
    | some i => Stp.rt (eQ2 eW D.int (w, (i : Int))))
  | [], k => rfl
  | v :: L, k => by
    rw [List.zipIdx_cons, List.map_cons, forS_cons, badI]
    simp only
    change Res.bnd (cond (!inB v) _ _) _ = _
    cases e : inB v with
    | true =>
      rw [Bool.not_true, cond_false, ok_bnd, if_pos rfl]
      exact forS_bad w L (k + 1)
    | false =>
      rw [Bool.not_false, cond_true, ok_bnd, if_neg Bool.false_ne_true]
def fErr (S G : List Int) : Option (String × String × Int) :=
  if (decide (1 ≤ S.length) && decide (S.length ≤ 32)) = true then match badI 0 S with
    | some i => some ("BadStrength", "strength", (i : Int))
    | none => if G.length = S.length then match badI 0 G with
      | some i => some ("BadGuard", "guard", (i : Int))
      | none => none
      else some ("Unlike", "unlike", (G.length : Int))
  else some ("BadSize", "size", (S.length : Int))
theorem mf_eq (S G : List Int) : m_made_field S G = match fErr S G with
    | none => .ok ⟨S, G⟩
    | some e => .er e.1 (.int e.2.2) := by
  unfold m_made_field fErr
  have e1 : (decide ((1 : Int) ≤ S.length) && decide ((S.length : Int) ≤ 32)) = (decide (1 ≤ S.length) && decide (S.length ≤ 32)) := by
    congr 1 <;> (congr 1; apply propext; omega)
  rw [e1]
  cases h1 : (decide (1 ≤ S.length) && decide (S.length ≤ 32)) with
  | false => rw [Bool.not_false, cond_true, if_neg Bool.false_ne_true]
  | true =>
    rw [Bool.not_true, cond_false, if_pos rfl]
    have r1 := forR_bad "BadStrength" S 0
    have r2 := forR_bad "BadGuard" G 0
    unfold enumL
    rw [r1, r2]
    cases h2 : badI 0 S with
    | some i => rw [er_bnd]
    | none =>
      simp only [ok_bnd]
      by_cases h3 : G.length = S.length
      · rw [if_pos h3, decide_eq_true (show (G.length : Int) = S.length by omega), Bool.not_true, cond_false]
        cases h4 : badI 0 G with
        | some i => rw [er_bnd]
        | none => rw [ok_bnd]
      · rw [if_neg h3, decide_eq_false (show ¬ (G.length : Int) = S.length by omega), Bool.not_false, cond_true]
theorem pw9 : ((10 : Int) ^ (9 : Int).toNat) = 1000000000 := by decide
theorem fault_eq (S G : List Int) : m__law_fault S G = .ok (match fErr S G with
    | none => eL D.int []
    | some e => eQ2 eW D.int (wd e.2.1, e.2.2)) := by
  unfold m__law_fault fErr
  rw [pw9]
  have e1 : (decide ((1 : Int) ≤ S.length) && decide ((S.length : Int) ≤ 32)) = (decide (1 ≤ S.length) && decide (S.length ≤ 32)) := by
    congr 1 <;> (congr 1; apply propext; omega)
  rw [e1]
  cases h1 : (decide (1 ≤ S.length) && decide (S.length ≤ 32)) with
  | false => rw [Bool.not_false, cond_true, if_neg Bool.false_ne_true]
  | true =>
    rw [Bool.not_true, cond_false, if_pos rfl]
    have r1 := forS_bad (wd "strength") S 0
    have r2 := forS_bad (wd "guard") G 0
    unfold enumL
    rw [r1, r2]
    cases h2 : badI 0 S with
    | some i => rw [ok_bnd, on_rt]
    | none =>
      rw [ok_bnd, on_nx]
      by_cases h3 : G.length = S.length
      · rw [if_pos h3, decide_eq_true (show (G.length : Int) = S.length by omega), Bool.not_true, cond_false]
        cases h4 : badI 0 G with
        | some i => rw [ok_bnd, on_rt]
        | none => rw [ok_bnd, on_nx]
      · rw [if_neg h3, decide_eq_false (show ¬ (G.length : Int) = S.length by omega), Bool.not_false, cond_true]
theorem fErr_cases {S G : List Int} {e : String × String × Int} (h : fErr S G = some e) : (e.1 = "BadSize" ∧ e.2.1 = "size") ∨ (e.1 = "BadStrength" ∧ e.2.1 = "strength") ∨ (e.1 = "Unlike" ∧ e.2.1 = "unlike") ∨ (e.1 = "BadGuard" ∧ e.2.1 = "guard") := by
  unfold fErr at h
  split at h
  · split at h
    · cases h; exact .inr (.inl ⟨rfl, rfl⟩)
    · split at h
      · split at h
        · cases h; exact .inr (.inr (.inr ⟨rfl, rfl⟩))
        · cases h
      · cases h; exact .inr (.inr (.inl ⟨rfl, rfl⟩))
  · cases h; exact .inl ⟨rfl, rfl⟩
theorem refusal_eq (S G : List Int) : m__law_refusal S G = .ok (match fErr S G with
    | none => eL D.int []
    | some e => eQ2 eW D.int (wd e.2.1, e.2.2)) := by
  unfold m__law_refusal
  rw [mf_eq]
  cases h : fErr S G with
  | none =>
    simp only []
    rw [ok_bnd, ok_tr, ok_bnd, on_nx]
  | some e =>
    obtain ⟨c, w, i⟩ := e
    have hc := fErr_cases h
    simp only at hc ⊢
    rw [er_bnd, er_tr]
    rcases hc with ⟨rfl, rfl⟩ | ⟨rfl, rfl⟩ | ⟨rfl, rfl⟩ | ⟨rfl, rfl⟩
    · rw [show decide ((("BadSize" : String) : Str) ∈ LC_) = true by decide, show subE "BadSize" "BadSize" = true by decide]; rfl
    · rw [show decide ((("BadStrength" : String) : Str) ∈ LC_) = true by decide, show subE "BadStrength" "BadSize" = false by decide, show subE "BadStrength" "BadStrength" = true by decide]; rfl
    · rw [show decide ((("Unlike" : String) : Str) ∈ LC_) = true by decide, show subE "Unlike" "BadSize" = false by decide, show subE "Unlike" "BadStrength" = false by decide, show subE "Unlike" "Unlike" = true by decide]; rfl
    · rw [show decide ((("BadGuard" : String) : Str) ∈ LC_) = true by decide, show subE "BadGuard" "BadSize" = false by decide, show subE "BadGuard" "BadStrength" = false by decide, show subE "BadGuard" "Unlike" = false by decide, show subE "BadGuard" "BadGuard" = true by decide]; rfl
theorem nums_ints (L : List Int) : m_are_numbers (eT D.int L) = .ok true := by
  unfold m_are_numbers
  rw [show isTR "tuple" (id (eT D.int L)) = .ok true from rfl, andR_ok, cond_true, show seqDR (eT D.int L) = .ok (L.map D.int) from rfl, ok_bnd]
  rw [allR_ok (p := fun _ => true) fun x hx => by
    obtain ⟨i, _, rfl⟩ := List.mem_map.mp hx
    exact num_int i]
  simp
theorem nTI (L : List Int) : nT asI (eT D.int L) = .ok L := by
  show mapR asI (L.map D.int) = _
  rw [mapR_map (g := id) (fun x => asI_i x), List.map_id]
theorem isf_ints (S G : List Int) : m_is_field (eT D.int S) (eT D.int G) = .ok (fErr S G).isNone := by
  unfold m_is_field
  rw [nums_ints, nums_ints, notR_ok, orR_oo, ok_bnd, Bool.not_true, Bool.or_false, cond_false, nTI, ok_bnd, nTI, ok_bnd, mf_eq]
  cases h : fErr S G with
  | none => simp only []; rw [ok_bnd, ok_tr, ok_bnd, on_nx]; rfl
  | some e =>
    obtain ⟨c, w, i⟩ := e
    have hc := fErr_cases h
    simp only at hc ⊢
    rw [er_bnd, er_tr]
    rcases hc with ⟨rfl, rfl⟩ | ⟨rfl, rfl⟩ | ⟨rfl, rfl⟩ | ⟨rfl, rfl⟩
    · rw [show decide ((("BadSize" : String) : Str) ∈ LC_) = true by decide, show subE "BadSize" "Refused" = true by decide]; rfl
    · rw [show decide ((("BadStrength" : String) : Str) ∈ LC_) = true by decide, show subE "BadStrength" "Refused" = true by decide]; rfl
    · rw [show decide ((("Unlike" : String) : Str) ∈ LC_) = true by decide, show subE "Unlike" "Refused" = true by decide]; rfl
    · rw [show decide ((("BadGuard" : String) : Str) ∈ LC_) = true by decide, show subE "BadGuard" "Refused" = true by decide]; rfl
theorem isf_odd1 {d e : D} {b : Bool} (hd : m_are_numbers d = .ok false) (he : m_are_numbers e = .ok b) : m_is_field d e = .ok false := by
  unfold m_is_field
  rw [hd, notR_ok, orR_ok, Bool.not_false, cond_true, ok_bnd, cond_true]
theorem isf_odd2 {d : D} (S : List Int) (hd : m_are_numbers d = .ok false) : m_is_field (eT D.int S) d = .ok false := by
  unfold m_is_field
  rw [nums_ints, hd, notR_ok, notR_ok, orR_oo, ok_bnd, Bool.not_true, Bool.not_false, Bool.or_true, cond_true]
theorem said_eq (a b : Bool) : m__law_said a b = .ok (decide (a = b)) := by
  unfold m__law_said
  rw [show isTR "bool" (D.bl a) = .ok true from rfl, andR_oo, Bool.true_and]
theorem lnum_eq (i : Int) : m__law_number i = .ok true := by
  unfold m__law_number
  rw [isI_int, isB_int, notR_ok, andR_oo]; rfl
theorem row_self (L : List Int) : m__law_row L L = .ok true := by
  unfold m__law_row
  rw [show isTR "tuple" (eT D.int L) = .ok true from rfl, notR_ok, orR_oo, ok_bnd, decide_eq_true rfl, Bool.not_true, Bool.or_false, cond_false]
  obtain ⟨st, e, _, rfl, _⟩ := gd_forN (fun _ : Unit => True) (f := fun (b5 : Unit) (x6 : Int × Int) => (orR (notR (m__law_number x6.1)) (Res.ok (!decide (x6.1 = x6.2)))).bnd fun (v8 : Bool) => cond v8 (Res.ok (Stp.rt (ρ := Bool) false)) (Res.ok (Stp.nx (())))) (xs := zipL L L) (b := ()) trivial fun b x _ hx => by
    have : x.1 = x.2 := by
      rw [zipL_eq] at hx
      have := List.of_mem_zip hx
      obtain ⟨n, hn, e⟩ := List.mem_iff_getElem.mp hx
      rw [← e]; simp
    rw [lnum_eq, notR_ok, orR_oo, ok_bnd, decide_eq_true this, Bool.not_true, Bool.or_false, cond_false]
    exact gd_ok ⟨(), rfl, trivial⟩
  rw [e, ok_bnd, on_nx]
theorem fis_eq (S G : List Int) (h : G.length = S.length) : m__law_field_is ⟨S, G⟩ S G = .ok true := by
  unfold m__law_field_is
  rw [Bool.not_true, cond_false, lnum_eq, notR_ok, orR_oo, ok_bnd, decide_eq_true rfl, Bool.not_true, Bool.or_false, cond_false, row_self, row_self, andR_oo]
  rfl
theorem entry_gd {s : List Int} {t : Int} (hs : Gs s) (h1 : 1 ≤ t) (h2 : t < 2 ^ 200) : Gd (fun q : Int × List Int => (-t < q.1 ∧ q.1 < t) ∧ Gs q.2) (m__law_entry s t) := by
  unfold m__law_entry
  refine gd_bnd (take_gd hs h1 h2) ?_
  rintro ⟨v, s1⟩ ⟨⟨v0, v1⟩, g1⟩
  simp only at v0 v1 g1 ⊢
  refine gd_bnd (P := fun q : Int × List Int => (-t < q.1 ∧ q.1 < t) ∧ Gs q.2) (gd_bnd (take_gd g1 (by decide) (by decide)) ?_) fun q hq => gd_ok hq
  rintro ⟨u, s2⟩ ⟨_, g2⟩
  simp only at g2 ⊢
  exact gd_cond (fun _ => gd_ok ⟨⟨by simp only; omega, by simp only; omega⟩, g2⟩) fun _ => gd_ok ⟨⟨by simp only; omega, v1⟩, g2⟩
theorem numbers_gd {s : List Int} {n : Int} (hs : Gs s) (h0 : 1 ≤ n) (h1 : n ≤ 32) : Gd (fun q : List Int × List Int => ((q.1.length : Int) = n ∧ ∀ v ∈ q.1, -1000000000 ≤ v ∧ v ≤ 1000000000) ∧ Gs q.2) (m__law_numbers s n) := by
  unfold m__law_numbers
  rw [pw9]
  refine gd_bnd (one_gd hs (by simp) (by simp)) ?_
  rintro ⟨t, s1⟩ ⟨ht, g1⟩
  simp only at ht g1 ⊢
  have tb : 1 ≤ t ∧ t ≤ 1000000001 := by
    simp only [List.mem_cons, List.not_mem_nil, or_false] at ht
    omega
  refine gd_rng (by decide) (by decide) (by omega) (by omega) ?_
  refine gd_bnd (gd_lcB Gs (fun _ z => (-1000000000 : Int) ≤ z ∧ z ≤ 1000000000) 1000 (by decide) g1 (by rw [rng_len]; omega) fun s x g _ => ?_) ?_
  · refine gd_bnd (entry_gd g tb.1 (by omega)) ?_
    rintro ⟨v, s2⟩ ⟨hv, g2⟩
    simp only at hv g2
    exact gd_ok ⟨g2, _, rfl, by omega, by omega⟩
  · rintro ⟨l, s2⟩ ⟨g2, hl, hj⟩
    simp only at g2 hl hj
    refine gd_ok ⟨⟨by simp only; rw [hl, rng_len]; omega, fun v hv => ?_⟩, g2⟩
    obtain ⟨_, _, h⟩ := hj v hv
    exact h
theorem beyond_gd {s : List Int} (hs : Gs s) : Gd (fun q : Int × List Int => Gs q.2) (m__law_beyond s) := by
  unfold m__law_beyond
  refine gd_bnd (take_gd hs (by rw [pw9]; decide) (by rw [pw9]; decide)) ?_
  rintro ⟨v, s1⟩ ⟨_, g1⟩
  simp only at g1 ⊢
  refine gd_bnd (one_gd g1 (by simp) (by simp)) ?_
  rintro ⟨u, s2⟩ ⟨_, g2⟩
  simp only at g2 ⊢
  refine gd_bnd (P := fun q : Int × List Int => Gs q.2) (gd_bnd (take_gd g2 (by decide) (by decide)) ?_) fun q hq => gd_ok hq
  rintro ⟨w, s3⟩ ⟨_, g3⟩
  simp only at g3 ⊢
  exact gd_cond (fun _ => gd_ok g3) fun _ => gd_ok g3
theorem bent_gd {s S G : List Int} (hs : Gs s) (h0 : 1 ≤ S.length) (h1 : S.length ≤ 32) (hg : G.length = S.length) : Gd (fun q : (List Int × List Int) × List Int => Gs q.2) (m__law_bent s S G) := by
  have cS : cutL S none none = S := by unfold cutL HT.sIx; simp
  have cG : cutL G none none = G := by unfold cutL HT.sIx; simp
  unfold m__law_bent
  rw [cS, cG]
  have step : ∀ (L s : List Int) , Gs s → 1 ≤ L.length → L.length ≤ 32 → Gd (fun j : List Int × List Int => Gs j.1 ∧ j.2.length = L.length) ((m__law_take s 3).bnd fun (q6 : Int × (List Int)) =>
   cond (decide (q6.1 = 0)) ((m__law_beyond q6.2).bnd fun (q7 : Int × (List Int)) =>
   (m__law_take q7.2 (((L).length : Int))).bnd fun (q8 : Int × (List Int)) =>
   (setR L q8.1 q7.1).bnd fun low9 =>
   Res.ok ((q8.2, low9)))
   (Res.ok ((q6.2, L)))) := fun L s hs l0 l1 => by
    refine gd_bnd (take_gd hs (by decide) (by decide)) ?_
    rintro ⟨v, s1⟩ ⟨_, g1⟩
    simp only at g1 ⊢
    refine gd_cond (fun _ => gd_bnd (beyond_gd g1) ?_) fun _ => gd_ok ⟨g1, rfl⟩
    rintro ⟨u, s2⟩ g2
    simp only at g2 ⊢
    refine gd_bnd (take_gd g2 (by omega) (by omega)) ?_
    rintro ⟨w, s3⟩ ⟨⟨w0, w1⟩, g3⟩
    simp only at w0 w1 g3 ⊢
    rw [setR_ok w0 w1, ok_bnd]
    exact gd_ok ⟨g3, by simp⟩
  refine gd_bnd (step S s hs h0 h1) ?_
  rintro ⟨s1, low⟩ ⟨g1, l1⟩
  simp only at g1 l1 ⊢
  refine gd_bnd (step G s1 g1 (by omega) (by omega)) ?_
  rintro ⟨s2, high⟩ ⟨g2, l2⟩
  simp only at g2 l2 ⊢
  refine gd_bnd (P := fun j : List Int × List Int => Gs j.1) ?_ ?_
  · refine gd_bnd (take_gd g2 (by decide) (by decide)) ?_
    rintro ⟨v, s3⟩ ⟨_, g3⟩
    simp only at g3 ⊢
    refine gd_cond (fun _ => ?_) fun _ => gd_ok g3
    rw [catR_ok (by simp; omega), ok_bnd, catR_ok (by omega), ok_bnd, repR_ok (by decide) (by decide) (by decide), ok_bnd, szR_ok' (by simp), ok_bnd]
    refine gd_bnd (one_gd g3 (by simp) (by simp)) ?_
    rintro ⟨w, s4⟩ ⟨_, g4⟩
    exact gd_ok g4
  · rintro ⟨s3, high2⟩ g3
    simp only at g3 ⊢
    refine gd_bnd (P := fun j : List Int × List Int => Gs j.1) ?_ fun q hq => gd_ok hq
    refine gd_bnd (take_gd g3 (by decide) (by decide)) ?_
    rintro ⟨v, s4⟩ ⟨_, g4⟩
    simp only at g4 ⊢
    refine gd_cond (fun _ => ?_) fun _ => gd_ok g4
    rw [repR_ok (by decide) (by decide) (by decide), ok_bnd, repR_ok (by decide) (by decide) (by decide), ok_bnd, repR_ok (by decide) (by decide) (by omega), ok_bnd, szR_ok' (by simp), ok_bnd]
    refine gd_bnd (one_gd g4 (by simp) (by simp)) ?_
    rintro ⟨w, s5⟩ ⟨_, g5⟩
    exact gd_ok g5
theorem nums_no {d : D} (h : isTR "tuple" d = .ok false) : m_are_numbers d = .ok false := by
  unfold m_are_numbers
  rw [show isTR "tuple" (id d) = .ok false from h, andR_ok, cond_false]
theorem nums_first {d : D} {ds : List D} (h : m_is_number d = .ok false) : m_are_numbers (.tup (d :: ds)) = .ok false := by
  unfold m_are_numbers
  rw [show isTR "tuple" (id (D.tup (d :: ds))) = .ok true from rfl, andR_ok, cond_true, show seqDR (.tup (d :: ds)) = .ok (d :: ds) from rfl, ok_bnd, allR_cons, h, ok_ne, ok_bnd, cond_false]
theorem num_non : m_is_number .non = .ok false := by
  unfold m_is_number
  rw [show isTR "int" (id D.non) = .ok false from rfl, andR_ok, cond_false]
theorem num_tup (ds : List D) : m_is_number (.tup ds) = .ok false := by
  unfold m_is_number
  rw [show isTR "int" (id (D.tup ds)) = .ok false from rfl, andR_ok, cond_false]
theorem rep1 {α : Type} (x : α) (n : Int) : (List.replicate n.toNat [x]).flatten = List.replicate n.toNat x := by
  rw [List.flatten_replicate_singleton]
theorem nums_rep {α : Type} {e : α → D} {x : α} {n : Int} (h : 1 ≤ n) (hx : m_is_number (e x) = .ok false) : m_are_numbers (eT e (List.replicate n.toNat x)) = .ok false := by
  obtain ⟨m, hm⟩ : ∃ m, n.toNat = m + 1 := ⟨n.toNat - 1, by omega⟩
  rw [hm, List.replicate_succ]
  exact nums_first hx
theorem eqd_refl {d : D} (h : okD d = true) : eqR d d = .ok true := by rw [eqR_ok h h, eqD_refl d h]
theorem okQ (w : String) (i : Int) (h : PyData.strOk (Str.ofString w) = true) : okD (eQ2 eW D.int (wd w, i)) = true := by
  refine (OkN.lst (k := 0) fun d hd => ?_).ok
  simp only [List.mem_cons, List.not_mem_nil, or_false] at hd
  rcases hd with rfl | rfl
  · exact OkN.str 0 h
  · exact OkN.int 0 i
theorem okE {S G : List Int} {e : String × String × Int} (h : fErr S G = some e) : okD (eQ2 eW D.int (wd e.2.1, e.2.2)) = true := by
  rcases fErr_cases h with ⟨_, q⟩ | ⟨_, q⟩ | ⟨_, q⟩ | ⟨_, q⟩ <;> rw [q] <;> exact okQ _ _ (by decide +kernel)
theorem right_gd {s : List Int} (hs : Gs s) : Gd (fun q : Bool × List Int => q.1 = true) (m__law_right s) := by
  unfold m__law_right
  refine gd_bnd (one_gd hs (by simp) (by simp)) ?_
  rintro ⟨n0, s0⟩ ⟨hn0, g0⟩
  simp only at hn0 g0 ⊢
  refine gd_bnd (P := fun j : List Int × Int => Gs j.1 ∧ 1 ≤ j.2 ∧ j.2 ≤ 32) ?_ ?_
  · refine gd_bnd (take_gd g0 (by decide) (by decide)) ?_
    rintro ⟨v, s1⟩ ⟨_, g1⟩
    simp only at g1 ⊢
    refine gd_cond (fun _ => gd_ok ⟨g1, by simp, by simp⟩) fun _ => gd_ok ⟨g1, ?_⟩
    simp only [List.mem_cons, List.not_mem_nil, or_false] at hn0
    simp only
    omega
  rintro ⟨s1, n⟩ ⟨g1, n1, n2⟩
  simp only at g1 n1 n2 ⊢
  refine gd_bnd (numbers_gd g1 n1 n2) ?_
  rintro ⟨S, s2⟩ ⟨⟨lS, bS⟩, g2⟩
  simp only at lS bS g2 ⊢
  refine gd_bnd (numbers_gd g2 n1 n2) ?_
  rintro ⟨G, s3⟩ ⟨⟨lG, bG⟩, g3⟩
  simp only at lG bG g3 ⊢
  have hg : G.length = S.length := by omega
  have fe : fErr S G = none := by
    unfold fErr
    rw [if_pos (by simp; omega), badI_none bS]
    simp only
    rw [if_pos hg, badI_none bG]
  refine gd_eq (field_ok (by omega) (by omega) hg bS bG) ?_
  rw [fis_eq S G hg, isf_ints, fe, ok_bnd, notR_ok, said_eq, notR_ok, orR_oo, ok_bnd]
  rw [show (!true || !decide ((none : Option (String × String × Int)).isNone = true)) = false from rfl, cond_false]
  refine gd_rng (by decide) (by decide) (by decide) (by decide) ?_
  refine gd_bnd (gd_forN (fun s => Gs s) g3 fun s x g _ => ?_) ?_
  · refine gd_bnd (bent_gd g (by omega) (by omega) hg) ?_
    rintro ⟨⟨low, high⟩, s4⟩ g4
    simp only at g4 ⊢
    refine gd_eq (fault_eq low high) ?_
    rw [refusal_eq, ok_bnd, isf_ints]
    cases h : fErr low high with
    | none =>
      simp only
      have e0 : eqR (eL D.int []) (eL D.int []) = .ok true := eqd_refl (okD_intsL [])
      rw [e0, notR_ok, ok_bnd, Bool.not_true, cond_false, ok_bnd, ok_bnd, said_eq, notR_ok, ok_bnd]
      exact gd_ok ⟨_, rfl, g4⟩
    | some e =>
      simp only
      have ok1 := okE h
      have e1 : eqR (eQ2 eW D.int (wd e.2.1, e.2.2)) (eL D.int []) = .ok false := by
        rw [eqR_ok ok1 (show okD (eL D.int []) = true from okD_intsL [])]
        simp [eqD, eQ2, eL, toPy, toPys, PyData.eqv, PyData.eqvAll]
      rw [eqd_refl ok1, notR_ok, ok_bnd, Bool.not_true, cond_false, e1, ok_bnd, ok_bnd, said_eq, notR_ok, ok_bnd]
      exact gd_ok ⟨_, rfl, g4⟩
  · rintro _ ⟨s4, rfl, g4⟩
    rw [on_nx, repTR'_ok rfl (by omega) (by omega) (by simp), ok_bnd, repTR'_ok rfl (by omega) (by omega) (by simp), ok_bnd, repTR'_ok rfl (by omega) (by omega) (by simp), ok_bnd, ok_bnd, ok_bnd, ok_bnd, szR_ok' (by simp), ok_bnd]
    refine gd_bnd (one_gd g4 (by simp) (by simp)) ?_
    rintro ⟨d, s5⟩ ⟨hd, g5⟩
    simp only at hd g5 ⊢
    have nd : m_are_numbers d = .ok false := by
      simp only [List.mem_cons, List.not_mem_nil, or_false, rep1] at hd
      rcases hd with rfl | rfl | rfl | rfl | rfl | rfl | rfl | rfl | rfl
      · exact nums_no rfl
      · exact nums_no rfl
      · exact nums_no rfl
      · exact nums_no rfl
      · exact nums_rep n1 num_non
      · exact nums_rep n1 (num_tup _)
      · exact nums_rep n1 (num_str _)
      · show m_are_numbers (.tup [.int 0, eW (wd "0")]) = _
        unfold m_are_numbers
        rw [show isTR "tuple" (id (D.tup [.int 0, eW (wd "0")])) = .ok true from rfl, andR_ok, cond_true, show seqDR (.tup [.int 0, eW (wd "0")]) = .ok [.int 0, eW (wd "0")] from rfl, ok_bnd, allR_cons, num_int, ok_ne, ok_bnd, cond_true, allR_cons, num_str, ok_ne, ok_bnd, cond_false]
      · exact nums_first (num_tup _)
    rw [isf_odd1 nd (nums_ints G), ok_bnd, said_eq, notR_ok, isf_odd2 S nd, ok_bnd, said_eq, notR_ok, orR_oo, ok_bnd, show (!decide (false = false) || !decide (false = false)) = false from rfl, cond_false, isf_odd1 nd nd, ok_bnd, said_eq, andR_oo, ok_bnd]
    exact gd_ok rfl
theorem law_ok {ns : List Int} (hns : ns.length ≤ 63) : m_law ns = .ok true := by
  have main : Gd (fun v => v = true) (m_law ns) := by
    unfold m_law
    generalize hb : (if (if 3 < (ns.length : Int) then (3 : Int) else ns.length) > 1 then (if 3 < (ns.length : Int) then (3 : Int) else ns.length) else 1) = b
    have b1 : 1 ≤ b ∧ b ≤ 3 := by rw [← hb]; split <;> split <;> omega
    refine gd_rng (by decide) (by decide) (by omega) (by omega) ?_
    refine gd_bnd (gd_forN (fun _ => True) trivial fun _ k _ hk => ?_) ?_
    · have := rng_mem.mp hk
      obtain ⟨l, e, gl⟩ := pool_eq ns k (by omega) (by omega)
      obtain ⟨⟨r, s'⟩, er, hr⟩ := right_gd gl
      simp only at hr
      subst hr
      rw [e, ok_bnd, er, ok_bnd, notR_ok, ok_bnd, Bool.not_true, cond_false]
      exact gd_ok ⟨(), rfl, trivial⟩
    · rintro _ ⟨_, rfl, _⟩
      exact gd_ok rfl
  obtain ⟨v, e, rfl⟩ := main
  exact e
theorem start_law {ns : List Int} {P : D → Mem → Prop} (hl : ns.length ≤ 63) (hP : P (.bl true) []) : sp_law [.dat (.fl (ns.map .int))] [] P (fun _ _ _ => False) := ⟨ns, rfl, rfl, by rw [law_ok hl]; exact hP⟩
def td_is_number : TSd :=
  dRet (dAndV (dIsT "int" (dVar 0)) (dNotV (dIsT "bool" (dVar 0))))
abbrev N_is_number : List Str := ["value"]
theorem math_is_number : ∀ xs M P PX, sp_is_number xs M P PX → td_is_number (startS N_is_number xs M) (endE M.length P) (endX M.length PX) := by
  rintro xs M P PX ⟨value1, rfl, rfl, h⟩
  refine start0 (ds := [id value1]) [.dat (id value1)] rfl ?_
  unfold td_is_number
  unfold m_is_number at h
  refine js_ret ?_
  refine J.useT h (rv_andV (rv_isT (T := "int") (Pv.rv (e := id) (v := value1) (show Pv _ _ (id value1) from pv_var 0 rfl))) (rv_notV (rv_isT (T := "bool") (Pv.rv (e := id) (v := value1) (show Pv _ _ (id value1) from pv_var 0 rfl))))) (by first | (simp only [bnd_bnd, ok_bnd]; done) | rfl) (fun _ h => h) (fun _ _ h => h)
def td_are_numbers : TSd :=
  dRet (dAndV (dIsT "tuple" (dVar 0)) (dAllG (dIter (dVar 0)) (dgName 1) (dCall sp_is_number (dCons (dVar 1) (dNil))) [1]))
abbrev N_are_numbers : List Str := ["value", "part"]
theorem math_are_numbers : ∀ xs M P PX, sp_are_numbers xs M P PX → td_are_numbers (startS N_are_numbers xs M) (endE M.length P) (endX M.length PX) := by
  rintro xs M P PX ⟨value1, rfl, rfl, h⟩
  refine start0 (ds := [id value1]) [.dat (id value1), .no] rfl ?_
  unfold td_are_numbers
  unfold m_are_numbers at h
  refine js_ret ?_
  refine J.useT h (rv_andV (rv_isT (T := "tuple") (Pv.rv (e := id) (v := value1) (show Pv _ _ (id value1) from pv_var 0 rfl))) (rv_allG (f := fun (x2 : D) => m_is_number x2) id (Tc.name (by decide)) rfl (Rv.eq (ri_iterD (Pv.rv (e := id) (v := value1) (show Pv _ _ (id value1) from pv_var 0 rfl))) (by first | (simp only [bnd_bnd, ok_bnd]; done) | rfl)) (fun nl_ x2 => by refine jg_name rfl ?_; exact ⟨(by repeat (first | exact Keep.nil | refine Keep.own ?_ | refine Keep.dat ?_ | refine Keep.no ?_)), (Rv.eq (rv_call1 (Pv.rv (e := id) (v := x2) (show Pv _ _ (id x2) from pv_var 1 rfl)) fun a0 => call_is_number a0) (by first | (simp only [bnd_bnd, ok_bnd]; done) | rfl))⟩))) (by first | (simp only [bnd_bnd, ok_bnd]; done) | rfl) (fun _ h => h) (fun _ _ h => h)
def td_made_field : TSd :=
  dSeq (dIfS (dNot (dT (dChain rLeD rLeD (dC (.int 1)) (dCB rLenD (dCons (dVar 0) (dNil))) (dC (.int 32))))) (dRaise "BadSize" (dCB rLenD (dCons (dVar 0) (dNil)))) (dNext))
  (dSeq (dFor (dEnum (dCons (dVar 0) (dNil))) (dgTup 2 (dgsCons (dgName 2) (dgsCons (dgName 3) (dgsNil)))) (dIfS (dNot (dT (dChain rLeD rLeD (dUn rNegD (dC (.int 1000000000))) (dVar 3) (dC (.int 1000000000))))) (dRaise "BadStrength" (dVar 2)) (dNext)))
  (dSeq (dIfS (dT (dOp rNeD' (dCB rLenD (dCons (dVar 1) (dNil))) (dCB rLenD (dCons (dVar 0) (dNil))))) (dRaise "Unlike" (dCB rLenD (dCons (dVar 1) (dNil)))) (dNext))
  (dSeq (dFor (dEnum (dCons (dVar 1) (dNil))) (dgTup 2 (dgsCons (dgName 2) (dgsCons (dgName 4) (dgsNil)))) (dIfS (dNot (dT (dChain rLeD rLeD (dUn rNegD (dC (.int 1000000000))) (dVar 4) (dC (.int 1000000000))))) (dRaise "BadGuard" (dVar 2)) (dNext)))
  (dRet (dMkF "Field" (dCons (dVar 0) (dCons (dVar 1) (dNil))))))))
abbrev N_made_field : List Str := ["strengths", "guards", "index", "strength", "guard"]
theorem math_made_field : ∀ xs M P PX, sp_made_field xs M P PX → td_made_field (startS N_made_field xs M) (endE M.length P) (endX M.length PX) := by
  rintro xs M P PX ⟨strengths1, guards2, rfl, rfl, h⟩
  refine start0 (ds := [(eT D.int) strengths1, (eT D.int) guards2]) [.dat ((eT D.int) strengths1), .dat ((eT D.int) guards2), .no, .no, .no] rfl ?_
  unfold td_made_field
  unfold m_made_field at h
  refine js_seq ?_
  refine js_if ?_
  refine J.pv (pb_not (pb_t (pv_chain (show Pv _ _ (D.int (1)) from pv_c _) (Rv.pv (e := D.int) (v := (strengths1.length : Int)) (Rv.eq (rv_cb1 (e := D.int) (Pv.rv (e := (eT D.int)) (v := strengths1) (show Pv _ _ ((eT D.int) strengths1) from pv_var 0 rfl)) fun v => cb_lenT D.int v) ok_bnd)) (show Pv _ _ (D.int (32)) from pv_c _) (ev_le 1 ((strengths1.length : Int))) (ev_le ((strengths1.length : Int)) 32)))) ?_
  refine ite_c h (fun h => ?_) (fun h => ?_)
  · refine js_raise ?_
    refine J.pv (Rv.pv (e := D.int) (v := (strengths1.length : Int)) (Rv.eq (rv_cb1 (e := D.int) (Pv.rv (e := (eT D.int)) (v := strengths1) (show Pv _ _ ((eT D.int) strengths1) from pv_var 0 rfl)) fun v => cb_lenT D.int v) ok_bnd)) ?_
    replace h := wp_e h
    exact h
  · as_aux_lemma =>
      refine js_next ?_
      refine js_seq ?_
      refine js_for ?_
      refine J.pv (Rv.pv (e := List.map (eP2 D.int D.int)) (v := enumL strengths1) (Rv.eq (ri_enum (e := D.int) (f := fun v => v) (sq_T _) (Pv.rv (e := (eT D.int)) (v := strengths1) (show Pv _ _ ((eT D.int) strengths1) from pv_var 0 rfl))) ok_bnd)) ?_
      rw [wp_bnd] at h
      refine a_forR (eP2 D.int D.int) (fun (b3 : Unit) => [.dat ((eT D.int) strengths1), .dat ((eT D.int) guards2), .no, .no, .no]) ?_ ?_ _ _ _ (by repeat (first | exact Le.nil | refine Le.keep ?_ | refine Le.drop ?_)) h
      · as_aux_lemma =>
          intro b3 x4 Q h
          refine jg_tup rfl ?_
          refine jgs_cons ?_
          refine jg_name rfl ?_
          refine jgs_cons ?_
          refine jg_name rfl ?_
          refine jgs_nil ?_
          refine js_if ?_
          refine J.pv (pb_not (pb_t (pv_chain (show Pv _ _ (D.int (-1000000000)) from pv_un (show Pv _ _ (D.int (1000000000)) from pv_c _) (ev_neg 1000000000)) (show Pv _ _ (D.int x4.2) from pv_var 3 rfl) (show Pv _ _ (D.int (1000000000)) from pv_c _) (ev_le (-1000000000) x4.2) (ev_le x4.2 1000000000)))) ?_
          refine ite_c h (fun h => ?_) (fun h => ?_)
          · refine js_raise ?_
            refine J.pv (show Pv _ _ (D.int x4.1) from pv_var 2 rfl) ?_
            replace h := wp_e h
            exact h
          · refine js_next ?_
            replace h := wp_o h
            exact ⟨(), (by repeat (first | exact Le.nil | refine Le.keep ?_ | refine Le.drop ?_)), h⟩
      · as_aux_lemma =>
          intro b5 h
          refine js_norm [.dat ((eT D.int) strengths1), .dat ((eT D.int) guards2), .no, .no, .no] rfl ?_
          refine js_seq ?_
          refine js_if ?_
          refine J.pv (pb_t (show Pv _ _ (D.bl (!decide ((guards2.length : Int) = (strengths1.length : Int)))) from pv_op (Rv.pv (e := D.int) (v := (guards2.length : Int)) (Rv.eq (rv_cb1 (e := D.int) (Pv.rv (e := (eT D.int)) (v := guards2) (show Pv _ _ ((eT D.int) guards2) from pv_var 1 rfl)) fun v => cb_lenT D.int v) ok_bnd)) (Rv.pv (e := D.int) (v := (strengths1.length : Int)) (Rv.eq (rv_cb1 (e := D.int) (Pv.rv (e := (eT D.int)) (v := strengths1) (show Pv _ _ ((eT D.int) strengths1) from pv_var 0 rfl)) fun v => cb_lenT D.int v) ok_bnd)) (ev_ne (eq_I 0) (by decide) ((guards2.length : Int)) ((strengths1.length : Int))))) ?_
          refine ite_c h (fun h => ?_) (fun h => ?_)
          · refine js_raise ?_
            refine J.pv (Rv.pv (e := D.int) (v := (guards2.length : Int)) (Rv.eq (rv_cb1 (e := D.int) (Pv.rv (e := (eT D.int)) (v := guards2) (show Pv _ _ ((eT D.int) guards2) from pv_var 1 rfl)) fun v => cb_lenT D.int v) ok_bnd)) ?_
            replace h := wp_e h
            exact h
          · as_aux_lemma =>
              refine js_next ?_
              refine js_seq ?_
              refine js_for ?_
              refine J.pv (Rv.pv (e := List.map (eP2 D.int D.int)) (v := enumL guards2) (Rv.eq (ri_enum (e := D.int) (f := fun v => v) (sq_T _) (Pv.rv (e := (eT D.int)) (v := guards2) (show Pv _ _ ((eT D.int) guards2) from pv_var 1 rfl))) ok_bnd)) ?_
              rw [wp_bnd] at h
              refine a_forR (eP2 D.int D.int) (fun (b6 : Unit) => [.dat ((eT D.int) strengths1), .dat ((eT D.int) guards2), .no, .no, .no]) ?_ ?_ _ _ _ (by repeat (first | exact Le.nil | refine Le.keep ?_ | refine Le.drop ?_)) h
              · as_aux_lemma =>
                  intro b6 x7 Q h
                  refine jg_tup rfl ?_
                  refine jgs_cons ?_
                  refine jg_name rfl ?_
                  refine jgs_cons ?_
                  refine jg_name rfl ?_
                  refine jgs_nil ?_
                  refine js_if ?_
                  refine J.pv (pb_not (pb_t (pv_chain (show Pv _ _ (D.int (-1000000000)) from pv_un (show Pv _ _ (D.int (1000000000)) from pv_c _) (ev_neg 1000000000)) (show Pv _ _ (D.int x7.2) from pv_var 4 rfl) (show Pv _ _ (D.int (1000000000)) from pv_c _) (ev_le (-1000000000) x7.2) (ev_le x7.2 1000000000)))) ?_
                  refine ite_c h (fun h => ?_) (fun h => ?_)
                  · refine js_raise ?_
                    refine J.pv (show Pv _ _ (D.int x7.1) from pv_var 2 rfl) ?_
                    replace h := wp_e h
                    exact h
                  · refine js_next ?_
                    replace h := wp_o h
                    exact ⟨(), (by repeat (first | exact Le.nil | refine Le.keep ?_ | refine Le.drop ?_)), h⟩
              · intro b8 h
                refine js_norm [.dat ((eT D.int) strengths1), .dat ((eT D.int) guards2), .no, .no, .no] rfl ?_
                refine js_ret ?_
                refine J.pv (Rv.pv (e := eF) (v := (Fld.mk strengths1 guards2)) (Rv.eq (rv_mkF (Pv.rv (e := (eT D.int)) (v := strengths1) (show Pv _ _ ((eT D.int) strengths1) from pv_var 0 rfl)) (Pv.rv (e := (eT D.int)) (v := guards2) (show Pv _ _ ((eT D.int) guards2) from pv_var 1 rfl))) (ok_bnd.trans ok_bnd))) ?_
                replace h := wp_o h
                exact h
def td_is_field : TSd :=
  dSeq (dIfS (dOr (dNot (dTru (dCall sp_are_numbers (dCons (dVar 0) (dNil))))) (dNot (dTru (dCall sp_are_numbers (dCons (dVar 1) (dNil)))))) (dRet (dC (.bl false))) (dNext))
  (dSeq (dTry LC_ (dDrop (dCall sp_made_field (dCons (dVar 0) (dCons (dVar 1) (dNil))))) [(none, "Refused", fun a dd => dRet (dC (.bl false)))])
  (dRet (dC (.bl true))))
abbrev N_is_field : List Str := ["strengths", "guards"]
theorem math_is_field : ∀ xs M P PX, sp_is_field xs M P PX → td_is_field (startS N_is_field xs M) (endE M.length P) (endX M.length PX) := by
  rintro xs M P PX ⟨strengths1, guards2, rfl, rfl, h⟩
  refine start0 (ds := [id strengths1, id guards2]) [.dat (id strengths1), .dat (id guards2)] rfl ?_
  unfold td_is_field
  unfold m_is_field at h
  refine js_seq ?_
  refine js_if ?_
  refine J.use h (rb_or (rb_not (Rv.eq (rb_tru (f := fun v => v) (rv_call1 (Pv.rv (e := id) (v := strengths1) (show Pv _ _ (id strengths1) from pv_var 0 rfl)) fun a0 => call_are_numbers a0) fun _ => rfl) bnd_ok)) (rb_not (Rv.eq (rb_tru (f := fun v => v) (rv_call1 (Pv.rv (e := id) (v := guards2) (show Pv _ _ (id guards2) from pv_var 1 rfl)) fun a0 => call_are_numbers a0) fun _ => rfl) bnd_ok))) (by first | (simp only [bnd_bnd, ok_bnd]; done) | rfl) (fun v5 h => ?_) (fun _ _ h => h)
  refine ite_c h (fun h => ?_) (fun h => ?_)
  · refine js_ret ?_
    refine J.pv (show Pv _ _ (D.bl false) from pv_c _) ?_
    replace h := wp_o h
    exact h
  · as_aux_lemma =>
      refine js_next ?_
      refine js_midS h (fun (j11 : Unit) => [.dat (id strengths1), .dat (id guards2)]) (fun h => ?_) (fun j11 h => ?_)
      · as_aux_lemma =>
          refine js_tryW h rfl (fun c9 x10 h => hdl_in h (fun h => ?_)) (fun h => ?_)
          · as_aux_lemma =>
              refine hdl_c h (fun h => ⟨rfl, fun a dd => ?_⟩) (fun h => ?_)
              · dsimp only
                refine js_ret ?_
                refine J.pv (show Pv _ _ (D.bl false) from pv_c _) ?_
                replace h := wp_o h
                replace h := h
                rw [on_rt] at h
                replace h := wp_o h
                exact h
              · replace h := wp_e h
                exact h
          · refine js_drop ?_
            refine J.use h (rv_call2 (Rv.eq (rv_nar (na_T na_I) (Pv.rv (e := id) (v := strengths1) (show Pv _ _ (id strengths1) from pv_var 0 rfl))) ok_bnd) (Rv.eq (rv_nar (na_T na_I) (Pv.rv (e := id) (v := guards2) (show Pv _ _ (id guards2) from pv_var 1 rfl))) ok_bnd) fun a0 a1 => call_made_field a0 a1) (by first | (simp only [bnd_bnd, ok_bnd]; done) | rfl) (fun v8 h => ?_) (fun _ _ h => ⟨h, (by repeat (first | exact Le.nil | refine Le.keep ?_ | refine Le.drop ?_))⟩)
            replace h := wp_o h
            replace h := h
            rw [on_nx] at h
            exact ⟨(), (by repeat (first | exact Le.nil | refine Le.keep ?_ | refine Le.drop ?_)), h⟩
      · refine js_ret ?_
        refine J.pv (show Pv _ _ (D.bl true) from pv_c _) ?_
        replace h := wp_o h
        exact h
def td__law_pool : S → (List D → S → Prop) → KX → Prop :=
  dSeqF (dSet 2 (dC (.int 0)))
  (dSeqF (dIfS (dT (dOp rLtD (dVar 1) (dCB rLenD (dCons (dVar 0) (dNil))))) (dSet 2 (dOp rIxD (dVar 0) (dVar 1))) (dIfS (dTru (dVar 0)) (dSet 2 (dOp rIxD (dVar 0) (dC (.int 0)))) (dNext)))
  (dSeqF (dSet 3 (dCB (r2I fun i j => if j > i then j else i) (dCons (dCB rIntD (dCons (dVar 2) (dNil))) (dCons (dCB rIntD (dCons (dOp rSubD (dUn rNegD (dC (.int 1))) (dVar 2)) (dNil))) (dNil)))))
  (dSeqF (dSet 4 (dOp rModD (dCB rIntD (dCons (dOp rMultD (dOp rAddD (dOp rAddD (dOp rAddD (dOp rModD (dCB rIntD (dCons (dVar 3) (dNil))) (dC (.int 2147483629))) (dOp rMultD (dOp rMultD (dC (.int 7919)) (dVar 1)) (dVar 1))) (dOp rMultD (dC (.int 31)) (dVar 1))) (dC (.int 17))) (dC (.int 48271))) (dNil))) (dC (.int 2147483647))))
  (dLst (dCons (dOp rMultD (dVar 3) (dCB rIntD (dCons (dOp rGeD (dVar 3) (dOp rPowD (dC (.int 10)) (dC (.int 18)))) (dNil)))) (dCons (dVar 4) (dNil)))))))
abbrev N__law_pool : List Str := ["_law_script", "_law_k", "_law_cell", "_law_big", "_law_stirred"]
theorem math__law_pool : ∀ xs P, sp__law_pool xs [] P → td__law_pool (startS N__law_pool xs []) (fun ds _ => P ds) noX := by
  rintro xs P ⟨script1, k2, rfl, h⟩
  refine startF (ds := [(eFL D.int) script1, D.int k2]) [.dat ((eFL D.int) script1), .dat (D.int k2), .no, .no, .no] rfl ?_
  unfold td__law_pool
  unfold m__law_pool at h
  refine jn_seq ?_
  refine js_set rfl ?_
  refine J.pv (show Pv _ _ (D.int (0)) from pv_c _) ?_
  refine jn_midW h (fun (j5 : Int) => [.dat ((eFL D.int) script1), .dat (D.int k2), .dat (D.int j5), .no, .no]) (fun h => ?_) (fun j5 h => ?_)
  · as_aux_lemma =>
      refine js_if ?_
      refine J.pv (pb_t (show Pv _ _ (D.bl (decide (k2 < ((script1.length : Int))))) from pv_op (show Pv _ _ (D.int k2) from pv_var 1 rfl) (Rv.pv (e := D.int) (v := (script1.length : Int)) (Rv.eq (rv_cb1 (e := D.int) (Pv.rv (e := (eFL D.int)) (v := script1) (show Pv _ _ ((eFL D.int) script1) from pv_var 0 rfl)) fun v => cb_lenFL D.int v) ok_bnd)) (ev_lt k2 ((script1.length : Int))))) ?_
      refine ite_c h (fun h => ?_) (fun h => ?_)
      · refine js_set rfl ?_
        refine J.use h (rv_pp (e := D.int) (show Pv _ _ ((eFL D.int) script1) from pv_var 0 rfl) (show Pv _ _ (D.int k2) from pv_var 1 rfl) (op_ixFL D.int script1 k2)) (by first | (simp only [bnd_bnd, ok_bnd]; done) | rfl) (fun v3 h => ?_) (fun _ _ h => h.elim)
        replace h := wp_o h
        exact ⟨v3, (by repeat (first | exact Le.nil | refine Le.keep ?_ | refine Le.drop ?_)), h⟩
      · as_aux_lemma =>
          refine js_if ?_
          refine J.pv (pb_tru (show Pv _ _ ((eFL D.int) script1) from pv_var 0 rfl) (tr_FL _ _)) ?_
          refine ite_c h (fun h => ?_) (fun h => ?_)
          · refine js_set rfl ?_
            refine J.use h (rv_pp (e := D.int) (show Pv _ _ ((eFL D.int) script1) from pv_var 0 rfl) (show Pv _ _ (D.int (0)) from pv_c _) (op_ixFL D.int script1 0)) (by first | (simp only [bnd_bnd, ok_bnd]; done) | rfl) (fun v4 h => ?_) (fun _ _ h => h.elim)
            replace h := wp_o h
            exact ⟨v4, (by repeat (first | exact Le.nil | refine Le.keep ?_ | refine Le.drop ?_)), h⟩
          · refine js_next ?_
            replace h := wp_o h
            exact ⟨0, (by repeat (first | exact Le.nil | refine Le.keep ?_ | refine Le.drop ?_)), h⟩
  · as_aux_lemma =>
      refine jn_seq ?_
      refine js_set rfl ?_
      refine J.pv (Rv.pv (e := D.int) (v := (if ((-1) - j5) > j5 then ((-1) - j5) else j5)) (Rv.eq (rv_2I (f := fun i j => if j > i then j else i) (Pv.rv (e := D.int) (v := j5) (Rv.pv (e := D.int) (v := j5) (Rv.eq (rv_cb1 (e := D.int) (Pv.rv (e := D.int) (v := j5) (show Pv _ _ (D.int j5) from pv_var 2 rfl)) fun v => cb_intI v) ok_bnd))) (Pv.rv (e := D.int) (v := (-1) - j5) (Rv.pv (e := D.int) (v := (-1) - j5) (Rv.eq (rv_cb1 (e := D.int) (Pv.rv (e := D.int) (v := (-1) - j5) (show Pv _ _ (D.int ((-1) - j5)) from pv_op (show Pv _ _ (D.int (-1)) from pv_un (show Pv _ _ (D.int (1)) from pv_c _) (ev_neg 1)) (show Pv _ _ (D.int j5) from pv_var 2 rfl) (ev_sub (-1) j5))) fun v => cb_intI v) ok_bnd)))) (ok_bnd.trans ok_bnd))) ?_
      refine jn_seq ?_
      refine js_set rfl ?_
      refine J.use h (rv_rp (e := D.int) (rv_cb1 (e := D.int) (rv_rp (e := D.int) (rv_rp (e := D.int) (rv_rp (e := D.int) (rv_pr (e := D.int) (show Pv _ _ (D.int (((if ((-1) - j5) > j5 then ((-1) - j5) else j5)) % 2147483629)) from pv_op (Rv.pv (e := D.int) (v := (if ((-1) - j5) > j5 then ((-1) - j5) else j5)) (Rv.eq (rv_cb1 (e := D.int) (Pv.rv (e := D.int) (v := (if ((-1) - j5) > j5 then ((-1) - j5) else j5)) (show Pv _ _ (D.int ((if ((-1) - j5) > j5 then ((-1) - j5) else j5))) from pv_var 3 rfl)) fun v => cb_intI v) ok_bnd)) (show Pv _ _ (D.int (2147483629)) from pv_c _) (ev_modc ((if ((-1) - j5) > j5 then ((-1) - j5) else j5)) 2147483629 (by decide))) (rv_pp (e := D.int) (show Pv _ _ (D.int (7919 * k2)) from pv_op (show Pv _ _ (D.int (7919)) from pv_c _) (show Pv _ _ (D.int k2) from pv_var 1 rfl) (ev_mulc' 7919 k2 (by decide))) (show Pv _ _ (D.int k2) from pv_var 1 rfl) (op_mul (7919 * k2) k2)) fun v6 => (opr_ok (e := D.int) (ev_add (((if ((-1) - j5) > j5 then ((-1) - j5) else j5)) % 2147483629) v6))) (show Pv _ _ (D.int (31 * k2)) from pv_op (show Pv _ _ (D.int (31)) from pv_c _) (show Pv _ _ (D.int k2) from pv_var 1 rfl) (ev_mulc' 31 k2 (by decide))) fun v7 => (opr_ok (e := D.int) (ev_add v7 (31 * k2)))) (show Pv _ _ (D.int (17)) from pv_c _) fun v8 => (opr_ok (e := D.int) (ev_add v8 17))) (show Pv _ _ (D.int (48271)) from pv_c _) fun v9 => (opr_ok (e := D.int) (ev_mulc v9 48271 (by decide)))) fun v => cb_intI v) (show Pv _ _ (D.int (2147483647)) from pv_c _) fun v11 => (opr_ok (e := D.int) (ev_modc v11 2147483647 (by decide)))) (by first | (simp only [bnd_bnd, ok_bnd]; done) | rfl) (fun v12 h => ?_) (fun _ _ h => h.elim)
      refine jn_last ?_
      refine J.use h (rv_lst (rl_cons (e := D.int) (rv_pp (e := D.int) (show Pv _ _ (D.int ((if ((-1) - j5) > j5 then ((-1) - j5) else j5))) from pv_var 3 rfl) (Rv.pv (e := D.int) (v := (cond (decide ((10 ^ (18 : Int).toNat) ≤ ((if ((-1) - j5) > j5 then ((-1) - j5) else j5)))) 1 0 : Int)) (Rv.eq (rv_cb1 (e := D.int) (Pv.rv (e := D.bl) (v := decide ((10 ^ (18 : Int).toNat) ≤ ((if ((-1) - j5) > j5 then ((-1) - j5) else j5)))) (show Pv _ _ (D.bl (decide ((10 ^ (18 : Int).toNat) ≤ ((if ((-1) - j5) > j5 then ((-1) - j5) else j5))))) from pv_op (show Pv _ _ (D.int ((if ((-1) - j5) > j5 then ((-1) - j5) else j5))) from pv_var 3 rfl) (show Pv _ _ (D.int (10 ^ (18 : Int).toNat)) from pv_op (show Pv _ _ (D.int (10)) from pv_c _) (show Pv _ _ (D.int (18)) from pv_c _) (ev_powc 10 18 (by decide))) (ev_ge ((if ((-1) - j5) > j5 then ((-1) - j5) else j5)) (10 ^ (18 : Int).toNat)))) fun v => cb_intB v) ok_bnd)) (op_mul ((if ((-1) - j5) > j5 then ((-1) - j5) else j5)) ((cond (decide ((10 ^ (18 : Int).toNat) ≤ ((if ((-1) - j5) > j5 then ((-1) - j5) else j5)))) 1 0 : Int)))) (rl_cons (e := D.int) (Pv.rv (e := D.int) (v := v12) (show Pv _ _ (D.int v12) from pv_var 4 rfl)) rl_nil))) (by first | (simp only [bnd_bnd, ok_bnd]; done) | rfl) (fun l14 h => ?_) (fun _ _ h => h.elim)
      replace h := wp_o h
      exact h
def td__law_take : TSd :=
  dSeq (dIfS (dT (dOp rGtD (dIxC 0 (dC (.int 0))) (dC (.int 0)))) (dSeq (dSet 2 (dOp rModD (dCB rIntD (dCons (dIxC 0 (dC (.int 0))) (dNil))) (dVar 1)))
  (dSeq (dSetIx 0 (dC (.int 0)) (dOp rDivD (dIxC 0 (dC (.int 0))) (dVar 1)))
  (dRet (dVar 2)))) (dNext))
  (dSeq (dSetIx 0 (dC (.int 1)) (dOp rModD (dCB rIntD (dCons (dOp rAddD (dOp rMultD (dIxC 0 (dC (.int 1))) (dC (.int 39373))) (dC (.int 7))) (dNil))) (dC (.int 2147483647))))
  (dRet (dOp rModD (dCB rIntD (dCons (dOp rDivD (dOp rModD (dCB rIntD (dCons (dOp rMultD (dIxC 0 (dC (.int 1))) (dIxC 0 (dC (.int 1)))) (dNil))) (dC (.int 2147483629))) (dC (.int 32))) (dNil))) (dVar 1))))
abbrev N__law_take : List Str := ["_law_source", "_law_top", "_law_digit"]
theorem math__law_take : ∀ xs M P PX, sp__law_take xs M P PX → td__law_take (startS N__law_take xs M) (endE M.length P) (endX M.length PX) := by
  rintro xs M P PX ⟨source1, top2, rfl, rfl, h⟩
  refine start1 false 0 [.own (cL D.int source1), .dat (D.int top2), .no] [some 0, none] rfl (by decide) rfl (fun q => Bool.noConfusion q) ?_
  unfold td__law_take
  unfold m__law_take at h
  refine js_seq ?_
  refine js_if ?_
  refine J.use h (rb_t (rv_rp (e := D.bl) (rv_ixC 0 (ea := D.int) (l := source1) rfl (Pv.rv (e := D.int) (v := 0) (show Pv _ _ (D.int (0)) from pv_c _))) (show Pv _ _ (D.int (0)) from pv_c _) fun v3 => (opr_ok (e := D.bl) (ev_gt v3 0)))) (by first | (simp only [bnd_bnd, ok_bnd]; done) | rfl) (fun v4 h => ?_) (fun _ _ h => ⟨_, rfl, h _⟩)
  refine ite_c h (fun h => ?_) (fun h => ?_)
  · as_aux_lemma =>
      refine js_seq ?_
      refine js_set rfl ?_
      refine J.use h (rv_rp (e := D.int) (rv_cb1 (e := D.int) (rv_ixC 0 (ea := D.int) (l := source1) rfl (Pv.rv (e := D.int) (v := 0) (show Pv _ _ (D.int (0)) from pv_c _))) fun v => cb_intI v) (show Pv _ _ (D.int top2) from pv_var 1 rfl) fun v6 => (op_mod v6 top2)) (by first | (simp only [bnd_bnd, ok_bnd]; done) | rfl) (fun v7 h => ?_) (fun _ _ h => ⟨_, rfl, h _⟩)
      refine js_seq ?_
      refine js_setIx ?_
      refine J.use h (rv_rp (e := D.int) (rv_ixC 0 (ea := D.int) (l := source1) rfl (Pv.rv (e := D.int) (v := 0) (show Pv _ _ (D.int (0)) from pv_c _))) (show Pv _ _ (D.int top2) from pv_var 1 rfl) fun v8 => (op_div v8 top2)) (by first | (simp only [bnd_bnd, ok_bnd]; done) | rfl) (fun v9 h => ?_) (fun _ _ h => ⟨_, rfl, h _⟩)
      refine ⟨_, rfl, ?_⟩
      refine J.pv (show Pv _ _ (D.int (0)) from pv_c _) ?_
      obtain ⟨source10, i_, hi_, hs_, h⟩ := setR_use (ea := D.int) h
      refine ⟨_, _, i_, rfl, rfl, hi_, (nlf rfl), ?_⟩
      rw [hs_]
      refine js_ret ?_
      refine J.pv (show Pv _ _ (D.int v7) from pv_var 2 rfl) ?_
      replace h := wp_o h
      exact ⟨_, rfl, h⟩
  · as_aux_lemma =>
      refine js_next ?_
      refine js_seq ?_
      refine js_setIx ?_
      refine J.use h (rv_rp (e := D.int) (rv_cb1 (e := D.int) (rv_rp (e := D.int) (rv_rp (e := D.int) (rv_ixC 0 (ea := D.int) (l := source1) rfl (Pv.rv (e := D.int) (v := 1) (show Pv _ _ (D.int (1)) from pv_c _))) (show Pv _ _ (D.int (39373)) from pv_c _) fun v11 => (opr_ok (e := D.int) (ev_mulc v11 39373 (by decide)))) (show Pv _ _ (D.int (7)) from pv_c _) fun v12 => (opr_ok (e := D.int) (ev_add v12 7))) fun v => cb_intI v) (show Pv _ _ (D.int (2147483647)) from pv_c _) fun v14 => (opr_ok (e := D.int) (ev_modc v14 2147483647 (by decide)))) (by first | (simp only [bnd_bnd, ok_bnd]; done) | rfl) (fun v15 h => ?_) (fun _ _ h => ⟨_, rfl, h _⟩)
      refine ⟨_, rfl, ?_⟩
      refine J.pv (show Pv _ _ (D.int (1)) from pv_c _) ?_
      obtain ⟨source16, i_, hi_, hs_, h⟩ := setR_use (ea := D.int) h
      refine ⟨_, _, i_, rfl, rfl, hi_, (nlf rfl), ?_⟩
      rw [hs_]
      refine js_ret ?_
      refine J.use h (rv_rp (e := D.int) (rv_cb1 (e := D.int) (rv_rp (e := D.int) (rv_rp (e := D.int) (rv_cb1 (e := D.int) (rv_op (e := D.int) (rv_ixC 0 (ea := D.int) (l := source16) rfl (Pv.rv (e := D.int) (v := 1) (show Pv _ _ (D.int (1)) from pv_c _))) (rv_ixC 0 (ea := D.int) (l := source16) rfl (Pv.rv (e := D.int) (v := 1) (show Pv _ _ (D.int (1)) from pv_c _))) fun v17 v18 => (op_mul v17 v18)) fun v => cb_intI v) (show Pv _ _ (D.int (2147483629)) from pv_c _) fun v20 => (opr_ok (e := D.int) (ev_modc v20 2147483629 (by decide)))) (show Pv _ _ (D.int (32)) from pv_c _) fun v21 => (opr_ok (e := D.int) (ev_divc v21 32 (by decide)))) fun v => cb_intI v) (show Pv _ _ (D.int top2) from pv_var 1 rfl) fun v23 => (op_mod v23 top2)) (by first | (simp only [bnd_bnd, ok_bnd]; done) | rfl) (fun v24 h => ?_) (fun _ _ h => ⟨_, rfl, h _⟩)
      replace h := wp_o h
      exact ⟨_, rfl, h⟩
def td__law_one : TSd :=
  dRet (dOp rIxD (dVar 1) (dCall sp__law_take (dConsC 0 (dCons (dCB rLenD (dCons (dVar 1) (dNil))) (dNil)))))
abbrev N__law_one : List Str := ["_law_source", "_law_things"]
theorem math__law_one : ∀ xs M P PX, sp__law_one xs M P PX → td__law_one (startS N__law_one xs M) (endE M.length P) (endX M.length PX) := by
  rintro xs M P PX ⟨s, d, ds, rfl, hd, rfl, h⟩
  refine start1 false 0 [.own (cL D.int s), .dat d] [some 0, none] rfl (by decide) rfl (fun q => Bool.noConfusion q) ?_
  unfold td__law_one
  unfold m__law_one at h
  refine js_ret (j_op (J.pv (pv_var 1 rfl) (j_call1 (ja_consC 0 rfl (ja_cons ?_)))))
  refine j_cb (ja_cons (J.pv (pv_var 1 rfl) (ja_nil ⟨[d], .int (ds.length : Int), rfl, fun M Q q => ?_, ?_⟩)))
  · cases d <;> first | (cases hd; done) | (cases hd; exact q)
  refine ja_nil ⟨_, _, rfl, rfl, rfl, _, _, _, _, call__law_take s (ds.length : Int), wp_use h (fun q h => ⟨(fun q => Bool.noConfusion q), ?_⟩) (fun _ _ h => fun y => ⟨_, rfl, h _⟩)⟩
  rw [wp_bnd] at h
  obtain ⟨v, hv, h⟩ := wp_ixR h
  refine ⟨v, fun P p => ?_, _, rfl, h⟩
  cases d <;> first | (cases hd; done) | (cases hd; exact ⟨v, hv, p⟩)
def td__law_number : TSd :=
  dRet (dAndV (dIsT "int" (dVar 0)) (dNotV (dIsT "bool" (dVar 0))))
abbrev N__law_number : List Str := ["_law_thing"]
theorem math__law_number : ∀ xs M P PX, sp__law_number xs M P PX → td__law_number (startS N__law_number xs M) (endE M.length P) (endX M.length PX) := by
  rintro xs M P PX ⟨thing1, rfl, rfl, h⟩
  refine start0 (ds := [D.int thing1]) [.dat (D.int thing1)] rfl ?_
  unfold td__law_number
  unfold m__law_number at h
  refine js_ret ?_
  refine J.useT h (rv_andV (rv_isT (T := "int") (Pv.rv (e := D.int) (v := thing1) (show Pv _ _ (D.int thing1) from pv_var 0 rfl))) (rv_notV (rv_isT (T := "bool") (Pv.rv (e := D.int) (v := thing1) (show Pv _ _ (D.int thing1) from pv_var 0 rfl))))) (by first | (simp only [bnd_bnd, ok_bnd]; done) | rfl) (fun _ h => h) (fun _ _ h => h)
def td__law_row : TSd :=
  dSeq (dIfS (dOr (dNot (dTru (dIsT "tuple" (dVar 0)))) (dT (dOp rNeD' (dCB rLenD (dCons (dVar 0) (dNil))) (dCB rLenD (dCons (dVar 1) (dNil)))))) (dRet (dC (.bl false))) (dNext))
  (dSeq (dFor (dZip (dCons (dVar 0) (dCons (dVar 1) (dNil)))) (dgTup 2 (dgsCons (dgName 2) (dgsCons (dgName 3) (dgsNil)))) (dIfS (dOr (dNot (dTru (dCall sp__law_number (dCons (dVar 2) (dNil))))) (dT (dOp rNeD' (dVar 2) (dVar 3)))) (dRet (dC (.bl false))) (dNext)))
  (dRet (dC (.bl true))))
abbrev N__law_row : List Str := ["_law_told", "_law_due", "_law_a", "_law_b"]
theorem math__law_row : ∀ xs M P PX, sp__law_row xs M P PX → td__law_row (startS N__law_row xs M) (endE M.length P) (endX M.length PX) := by
  rintro xs M P PX ⟨told1, due2, rfl, rfl, h⟩
  refine start0 (ds := [(eT D.int) told1, (eL D.int) due2]) [.dat ((eT D.int) told1), .dat ((eL D.int) due2), .no, .no] rfl ?_
  unfold td__law_row
  unfold m__law_row at h
  refine js_seq ?_
  refine js_if ?_
  refine J.use h (rb_or (rb_not (Rv.eq (rb_tru (f := fun v => v) (rv_isT (T := "tuple") (Pv.rv (e := (eT D.int)) (v := told1) (show Pv _ _ ((eT D.int) told1) from pv_var 0 rfl))) fun _ => rfl) bnd_ok)) (Pv.rv (e := id) (v := !decide ((told1.length : Int) = (due2.length : Int))) (pb_t (show Pv _ _ (D.bl (!decide ((told1.length : Int) = (due2.length : Int)))) from pv_op (Rv.pv (e := D.int) (v := (told1.length : Int)) (Rv.eq (rv_cb1 (e := D.int) (Pv.rv (e := (eT D.int)) (v := told1) (show Pv _ _ ((eT D.int) told1) from pv_var 0 rfl)) fun v => cb_lenT D.int v) ok_bnd)) (Rv.pv (e := D.int) (v := (due2.length : Int)) (Rv.eq (rv_cb1 (e := D.int) (Pv.rv (e := (eL D.int)) (v := due2) (show Pv _ _ ((eL D.int) due2) from pv_var 1 rfl)) fun v => cb_lenL D.int v) ok_bnd)) (ev_ne (eq_I 0) (by decide) ((told1.length : Int)) ((due2.length : Int))))))) (by first | (simp only [bnd_bnd, ok_bnd]; done) | rfl) (fun v4 h => ?_) (fun _ _ h => h)
  refine ite_c h (fun h => ?_) (fun h => ?_)
  · refine js_ret ?_
    refine J.pv (show Pv _ _ (D.bl false) from pv_c _) ?_
    replace h := wp_o h
    exact h
  · as_aux_lemma =>
      refine js_next ?_
      refine js_seq ?_
      refine js_for ?_
      refine J.pv (Rv.pv (e := List.map (eP2 D.int D.int)) (v := zipL told1 due2) (Rv.eq (ri_zip (e := D.int) (e' := D.int) (f := fun v => v) (f' := fun v => v) (sq_T _) (sq_L _) (Pv.rv (e := (eT D.int)) (v := told1) (show Pv _ _ ((eT D.int) told1) from pv_var 0 rfl)) (Pv.rv (e := (eL D.int)) (v := due2) (show Pv _ _ ((eL D.int) due2) from pv_var 1 rfl))) (ok_bnd.trans ok_bnd))) ?_
      rw [wp_bnd] at h
      refine a_forS (eP2 D.int D.int) (fun (b5 : Unit) => [.dat ((eT D.int) told1), .dat ((eL D.int) due2), .no, .no]) (fun (v : Bool) d A' => d = D.bl v) ?_ ?_ ?_ _ _ _ (by repeat (first | exact Le.nil | refine Le.keep ?_ | refine Le.drop ?_)) h
      · as_aux_lemma =>
          intro b5 x6 Q h
          refine jg_tup rfl ?_
          refine jgs_cons ?_
          refine jg_name rfl ?_
          refine jgs_cons ?_
          refine jg_name rfl ?_
          refine jgs_nil ?_
          refine js_if ?_
          refine J.use h (rb_or (rb_not (Rv.eq (rb_tru (f := fun v => v) (rv_call1 (Pv.rv (e := D.int) (v := x6.1) (show Pv _ _ (D.int x6.1) from pv_var 2 rfl)) fun a0 => call__law_number a0) fun _ => rfl) bnd_ok)) (Pv.rv (e := id) (v := !decide (x6.1 = x6.2)) (pb_t (show Pv _ _ (D.bl (!decide (x6.1 = x6.2))) from pv_op (show Pv _ _ (D.int x6.1) from pv_var 2 rfl) (show Pv _ _ (D.int x6.2) from pv_var 3 rfl) (ev_ne (eq_I 0) (by decide) x6.1 x6.2))))) (by first | (simp only [bnd_bnd, ok_bnd]; done) | rfl) (fun v8 h => ?_) (fun _ _ h => h)
          refine ite_c h (fun h => ?_) (fun h => ?_)
          · refine js_ret ?_
            refine J.pv (show Pv _ _ (D.bl false) from pv_c _) ?_
            replace h := wp_o h
            exact ⟨false, rfl, h⟩
          · refine js_next ?_
            replace h := wp_o h
            exact ⟨(), (by repeat (first | exact Le.nil | refine Le.keep ?_ | refine Le.drop ?_)), h⟩
      · intro b9 h
        rw [on_nx] at h
        refine js_ret ?_
        refine J.pv (show Pv _ _ (D.bl true) from pv_c _) ?_
        replace h := wp_o h
        exact h
      · intro v10 d A' hr h
        rw [on_rt] at h
        subst hr
        replace h := wp_o h
        exact h
def td__law_said : TSd :=
  dRet (dAndV (dIsT "bool" (dVar 0)) (dOp rEqD' (dVar 0) (dVar 1)))
abbrev N__law_said : List Str := ["_law_told", "_law_due"]
theorem math__law_said : ∀ xs M P PX, sp__law_said xs M P PX → td__law_said (startS N__law_said xs M) (endE M.length P) (endX M.length PX) := by
  rintro xs M P PX ⟨told1, due2, rfl, rfl, h⟩
  refine start0 (ds := [D.bl told1, D.bl due2]) [.dat (D.bl told1), .dat (D.bl due2)] rfl ?_
  unfold td__law_said
  unfold m__law_said at h
  refine js_ret ?_
  refine J.useT h (rv_andV (rv_isT (T := "bool") (Pv.rv (e := D.bl) (v := told1) (show Pv _ _ (D.bl told1) from pv_var 0 rfl))) (Pv.rv (e := D.bl) (v := decide (told1 = due2)) (show Pv _ _ (D.bl (decide (told1 = due2))) from pv_op (show Pv _ _ (D.bl told1) from pv_var 0 rfl) (show Pv _ _ (D.bl due2) from pv_var 1 rfl) (ev_eq (eq_B 0) (by decide) told1 due2)))) (by first | (simp only [bnd_bnd, ok_bnd]; done) | rfl) (fun _ h => h) (fun _ _ h => h)
def td__law_entry : TSd :=
  dSeq (dSet 2 (dCall sp__law_take (dConsC 0 (dCons (dVar 1) (dNil)))))
  (dRet (dIf (dT (dOp rEqD' (dCall sp__law_take (dConsC 0 (dCons (dC (.int 2)) (dNil)))) (dC (.int 0)))) (dUn rNegD (dVar 2)) (dVar 2)))
abbrev N__law_entry : List Str := ["_law_source", "_law_top", "_law_size"]
theorem math__law_entry : ∀ xs M P PX, sp__law_entry xs M P PX → td__law_entry (startS N__law_entry xs M) (endE M.length P) (endX M.length PX) := by
  rintro xs M P PX ⟨source1, top2, rfl, rfl, h⟩
  refine start1 false 0 [.own (cL D.int source1), .dat (D.int top2), .no] [some 0, none] rfl (by decide) rfl (fun q => Bool.noConfusion q) ?_
  unfold td__law_entry
  unfold m__law_entry at h
  refine js_seq ?_
  refine js_set rfl ?_
  refine j_call1 ?_
  refine ja_consC 0 rfl ?_
  refine ja_cons ?_
  refine J.pv (show Pv _ _ (D.int top2) from pv_var 1 rfl) ?_
  refine ja_nil ⟨_, _, rfl, rfl, rfl, _, _, _, _, call__law_take source1 top2, wp_use h (fun q3 h => ⟨(nlf rfl), ?_⟩) (fun _ _ h => fun _ => ⟨_, rfl, h _⟩)⟩
  refine js_ret ?_
  refine cutW h (fun (q5 : Int × (List Int)) => [.own (cL D.int q5.2), .dat (D.int top2), .dat (D.int q3.1)]) (fun q5 => D.int q5.1) (fun h => ?_) (fun q5 h => ?_)
  · refine j_if ?_
    refine jb_t ?_
    refine j_op ?_
    refine j_call1 ?_
    refine ja_consC 0 rfl ?_
    refine ja_cons ?_
    refine J.pv (show Pv _ _ (D.int (2)) from pv_c _) ?_
    refine ja_nil ⟨_, _, rfl, rfl, rfl, _, _, _, _, call__law_take q3.2 2, wp_use h (fun q4 h => ⟨(nlf rfl), ?_⟩) (fun _ _ h => fun _ => ⟨_, rfl, h _⟩)⟩
    refine J.pv (show Pv _ _ (D.int (0)) from pv_c _) ?_
    refine ⟨D.bl (decide (q4.1 = 0)), (ev_eq (eq_I 0) (by decide) q4.1 0), ?_⟩
    refine ⟨decide (q4.1 = 0), rfl, ?_⟩
    refine ite_c h (fun h => ?_) (fun h => ?_)
    · refine J.pv (show Pv _ _ (D.int (-q3.1)) from pv_un (show Pv _ _ (D.int q3.1) from pv_var 2 rfl) (ev_neg q3.1)) ?_
      replace h := wp_o h
      exact ⟨(-q3.1, q4.2), rfl, rfl, h⟩
    · refine J.pv (show Pv _ _ (D.int q3.1) from pv_var 2 rfl) ?_
      replace h := wp_o h
      exact ⟨(q3.1, q4.2), rfl, rfl, h⟩
  · replace h := wp_o h
    exact ⟨_, rfl, h⟩
def td__law_numbers : TSd :=
  dSeq (dSet 2 (dCall sp__law_one (dConsC 0 (dCons (dF (dLst (dCons (dC (.int 1)) (dCons (dC (.int 2)) (dCons (dC (.int 4)) (dCons (dOp rAddD (dOp rPowD (dC (.int 10)) (dC (.int 9))) (dC (.int 1))) (dNil))))))) (dNil)))))
  (dRet (dF (dLc (dRange1 (dCons (dVar 1) (dNil))) (dgName 3) (dYes) (dCall sp__law_entry (dConsC 0 (dCons (dVar 2) (dNil)))) [3])))
abbrev N__law_numbers : List Str := ["_law_source", "_law_n", "_law_top", "_law_x"]
theorem math__law_numbers : ∀ xs M P PX, sp__law_numbers xs M P PX → td__law_numbers (startS N__law_numbers xs M) (endE M.length P) (endX M.length PX) := by
  rintro xs M P PX ⟨source1, n2, rfl, rfl, h⟩
  refine start1 false 0 [.own (cL D.int source1), .dat (D.int n2), .no, .no] [some 0, none] rfl (by decide) rfl (fun q => Bool.noConfusion q) ?_
  unfold td__law_numbers
  unfold m__law_numbers at h
  refine js_seq ?_
  refine js_set rfl ?_
  refine j_call1 ?_
  refine ja_consC 0 rfl ?_
  refine ja_cons ?_
  refine J.pv (Rv.pv (e := (eL D.int)) (v := [1, 2, 4, (10 ^ (9 : Int).toNat) + 1]) (rv_f (Rv.eq (rv_lstO (e := D.int) (l := [1, 2, 4, (10 ^ (9 : Int).toNat) + 1]) (rl_cons (e := D.int) (Pv.rv (e := D.int) (v := 1) (show Pv _ _ (D.int (1)) from pv_c _)) (rl_cons (e := D.int) (Pv.rv (e := D.int) (v := 2) (show Pv _ _ (D.int (2)) from pv_c _)) (rl_cons (e := D.int) (Pv.rv (e := D.int) (v := 4) (show Pv _ _ (D.int (4)) from pv_c _)) (rl_cons (e := D.int) (Pv.rv (e := D.int) (v := (10 ^ (9 : Int).toNat) + 1) (show Pv _ _ (D.int ((10 ^ (9 : Int).toNat) + 1)) from pv_op (show Pv _ _ (D.int (10 ^ (9 : Int).toNat)) from pv_op (show Pv _ _ (D.int (10)) from pv_c _) (show Pv _ _ (D.int (9)) from pv_c _) (ev_powc 10 9 (by decide))) (show Pv _ _ (D.int (1)) from pv_c _) (ev_add (10 ^ (9 : Int).toNat) 1))) rl_nil)))) rfl zle) rfl))) ?_
  refine ja_nil ⟨_, _, rfl, rfl, rfl, _, _, _, _, call__law_one_L D.int source1 ([1, 2, 4, (10 ^ (9 : Int).toNat) + 1]), wp_use h (fun q3 h => ⟨(nlf rfl), ?_⟩) (fun _ _ h => fun _ => ⟨_, rfl, h _⟩)⟩
  refine js_ret ?_
  refine j_f ?_
  refine j_lc ?_
  refine J.use h (ri_range1 (Pv.rv (e := D.int) (v := n2) (show Pv _ _ (D.int n2) from pv_var 1 rfl))) (by first | (simp only [bnd_bnd, ok_bnd]; done) | rfl) (fun xs4 h => ?_) (fun _ _ h => ⟨_, rfl, h _⟩)
  refine al_B (st := q3.2) D.int D.int (fun (st6 : (List Int)) => [.own (cL D.int st6), .dat (D.int n2), .dat (D.int q3.1), .no]) rfl rfl (Tc.name (by decide)) (fun _ _ => by repeat (first | exact SameD.nil | refine SameD.own ?_ | refine SameD.same ?_)) (fun _ => rfl) (wp_use h (fun q9 h => ?_) (fun _ _ h => h)) ?_
  · replace h := wp_o h
    exact ⟨_, rfl, h⟩
  · as_aux_lemma =>
      intro st6 x7 Q h
      refine jg_name rfl ?_
      refine J.pv pv_yes ?_
      refine (if_pos rfl).mpr ?_
      refine j_call1 ?_
      refine ja_consC 0 rfl ?_
      refine ja_cons ?_
      refine J.pv (show Pv _ _ (D.int q3.1) from pv_var 2 rfl) ?_
      refine ja_nil ⟨_, _, rfl, rfl, rfl, _, _, _, _, call__law_entry st6 q3.1, wp_use h (fun q8 h => ⟨(nlf rfl), ?_⟩) (fun _ _ h => fun _ => h.elim)⟩
      replace h := wp_o h
      exact ⟨q8.1, q8.2, rfl, (by repeat (first | exact Keep.nil | refine Keep.own ?_ | refine Keep.dat ?_ | refine Keep.no ?_)), h⟩
def td__law_field_is : TSd :=
  dSeq (dIfS (dOr (dNot (dTru (dIsO "Field" (dVar 0)))) (dOr (dNot (dTru (dCall sp__law_number (dCons (dFld (dVar 0) "Field" "n") (dNil))))) (dT (dOp rNeD' (dFld (dVar 0) "Field" "n") (dCB rLenD (dCons (dVar 1) (dNil))))))) (dRet (dC (.bl false))) (dNext))
  (dRet (dAndV (dCall sp__law_row (dCons (dFld (dVar 0) "Field" "strengths") (dCons (dVar 1) (dNil)))) (dCall sp__law_row (dCons (dFld (dVar 0) "Field" "guards") (dCons (dVar 2) (dNil))))))
abbrev N__law_field_is : List Str := ["_law_told", "_law_strengths", "_law_guards"]
theorem math__law_field_is : ∀ xs M P PX, sp__law_field_is xs M P PX → td__law_field_is (startS N__law_field_is xs M) (endE M.length P) (endX M.length PX) := by
  rintro xs M P PX ⟨told1, strengths2, guards3, rfl, rfl, h⟩
  refine start0 (ds := [eF told1, (eL D.int) strengths2, (eL D.int) guards3]) [.dat (eF told1), .dat ((eL D.int) strengths2), .dat ((eL D.int) guards3)] rfl ?_
  unfold td__law_field_is
  unfold m__law_field_is at h
  refine js_seq ?_
  refine js_if ?_
  refine J.use h (rb_or (Pv.rv (e := id) (v := !true) (pb_not (pb_tru (Rv.pv (e := D.bl) (v := true) (Rv.eq (rv_isO (fun _ => ⟨_, rfl⟩) (Pv.rv (e := eF) (v := told1) (show Pv _ _ (eF told1) from pv_var 0 rfl))) ok_bnd)) rfl))) (rb_or (rb_not (Rv.eq (rb_tru (f := fun v => v) (rv_call1 (Pv.rv (e := D.int) (v := (told1.s.length : Int)) (Rv.pv (e := D.int) (v := (told1.s.length : Int)) (Rv.eq (rv_fld (e := D.int) (f := fun v => (v.s.length : Int)) mfl_n (Pv.rv (e := eF) (v := told1) (show Pv _ _ (eF told1) from pv_var 0 rfl))) ok_bnd))) fun a0 => call__law_number a0) fun _ => rfl) bnd_ok)) (Pv.rv (e := id) (v := !decide ((told1.s.length : Int) = (strengths2.length : Int))) (pb_t (show Pv _ _ (D.bl (!decide ((told1.s.length : Int) = (strengths2.length : Int)))) from pv_op (Rv.pv (e := D.int) (v := (told1.s.length : Int)) (Rv.eq (rv_fld (e := D.int) (f := fun v => (v.s.length : Int)) mfl_n (Pv.rv (e := eF) (v := told1) (show Pv _ _ (eF told1) from pv_var 0 rfl))) ok_bnd)) (Rv.pv (e := D.int) (v := (strengths2.length : Int)) (Rv.eq (rv_cb1 (e := D.int) (Pv.rv (e := (eL D.int)) (v := strengths2) (show Pv _ _ ((eL D.int) strengths2) from pv_var 1 rfl)) fun v => cb_lenL D.int v) ok_bnd)) (ev_ne (eq_I 0) (by decide) ((told1.s.length : Int)) ((strengths2.length : Int)))))))) (by first | (simp only [bnd_bnd, ok_bnd]; done) | rfl) (fun v5 h => ?_) (fun _ _ h => h)
  refine ite_c h (fun h => ?_) (fun h => ?_)
  · refine js_ret ?_
    refine J.pv (show Pv _ _ (D.bl false) from pv_c _) ?_
    replace h := wp_o h
    exact h
  · refine js_next ?_
    refine js_ret ?_
    refine J.useT h (rv_andV (rv_call2 (Pv.rv (e := (eT D.int)) (v := told1.s) (Rv.pv (e := (eT D.int)) (v := told1.s) (Rv.eq (rv_fld (e := (eT D.int)) (f := fun v => v.s) mfl_s (Pv.rv (e := eF) (v := told1) (show Pv _ _ (eF told1) from pv_var 0 rfl))) ok_bnd))) (Pv.rv (e := (eL D.int)) (v := strengths2) (show Pv _ _ ((eL D.int) strengths2) from pv_var 1 rfl)) fun a0 a1 => call__law_row a0 a1) (rv_call2 (Pv.rv (e := (eT D.int)) (v := told1.g) (Rv.pv (e := (eT D.int)) (v := told1.g) (Rv.eq (rv_fld (e := (eT D.int)) (f := fun v => v.g) mfl_g (Pv.rv (e := eF) (v := told1) (show Pv _ _ (eF told1) from pv_var 0 rfl))) ok_bnd))) (Pv.rv (e := (eL D.int)) (v := guards3) (show Pv _ _ ((eL D.int) guards3) from pv_var 2 rfl)) fun a0 a1 => call__law_row a0 a1)) (by first | (simp only [bnd_bnd, ok_bnd]; done) | rfl) (fun _ h => h) (fun _ _ h => h)
def td__law_fault : TSd :=
  dSeq (dIfS (dNot (dT (dChain rLeD rLeD (dC (.int 1)) (dCB rLenD (dCons (dVar 0) (dNil))) (dC (.int 32))))) (dRet (dF (dLst (dCons (dC (.str "size")) (dCons (dCB rLenD (dCons (dVar 0) (dNil))) (dNil)))))) (dNext))
  (dSeq (dFor (dEnum (dCons (dVar 0) (dNil))) (dgTup 2 (dgsCons (dgName 2) (dgsCons (dgName 3) (dgsNil)))) (dIfS (dNot (dT (dChain rLeD rLeD (dUn rNegD (dOp rPowD (dC (.int 10)) (dC (.int 9)))) (dVar 3) (dOp rPowD (dC (.int 10)) (dC (.int 9)))))) (dRet (dF (dLst (dCons (dC (.str "strength")) (dCons (dVar 2) (dNil)))))) (dNext)))
  (dSeq (dIfS (dT (dOp rNeD' (dCB rLenD (dCons (dVar 1) (dNil))) (dCB rLenD (dCons (dVar 0) (dNil))))) (dRet (dF (dLst (dCons (dC (.str "unlike")) (dCons (dCB rLenD (dCons (dVar 1) (dNil))) (dNil)))))) (dNext))
  (dSeq (dFor (dEnum (dCons (dVar 1) (dNil))) (dgTup 2 (dgsCons (dgName 2) (dgsCons (dgName 3) (dgsNil)))) (dIfS (dNot (dT (dChain rLeD rLeD (dUn rNegD (dOp rPowD (dC (.int 10)) (dC (.int 9)))) (dVar 3) (dOp rPowD (dC (.int 10)) (dC (.int 9)))))) (dRet (dF (dLst (dCons (dC (.str "guard")) (dCons (dVar 2) (dNil)))))) (dNext)))
  (dRet (dF (dLst (dNil)))))))
abbrev N__law_fault : List Str := ["_law_strengths", "_law_guards", "_law_at", "_law_number_here"]
theorem math__law_fault : ∀ xs M P PX, sp__law_fault xs M P PX → td__law_fault (startS N__law_fault xs M) (endE M.length P) (endX M.length PX) := by
  rintro xs M P PX ⟨strengths1, guards2, rfl, rfl, h⟩
  refine start0 (ds := [(eL D.int) strengths1, (eL D.int) guards2]) [.dat ((eL D.int) strengths1), .dat ((eL D.int) guards2), .no, .no] rfl ?_
  unfold td__law_fault
  unfold m__law_fault at h
  refine js_seq ?_
  refine js_if ?_
  refine J.pv (pb_not (pb_t (pv_chain (show Pv _ _ (D.int (1)) from pv_c _) (Rv.pv (e := D.int) (v := (strengths1.length : Int)) (Rv.eq (rv_cb1 (e := D.int) (Pv.rv (e := (eL D.int)) (v := strengths1) (show Pv _ _ ((eL D.int) strengths1) from pv_var 0 rfl)) fun v => cb_lenL D.int v) ok_bnd)) (show Pv _ _ (D.int (32)) from pv_c _) (ev_le 1 ((strengths1.length : Int))) (ev_le ((strengths1.length : Int)) 32)))) ?_
  refine ite_c h (fun h => ?_) (fun h => ?_)
  · refine js_ret ?_
    refine J.pv (show Pv _ _ (id ((eQ2 eW D.int) (((wd "size"), (strengths1.length : Int))))) from (Rv.pv (e := (eQ2 eW D.int)) (v := ((wd "size"), (strengths1.length : Int))) (Rv.eq (rv_q2 (Pv.rv (e := eW) (v := (wd "size")) (show Pv _ _ (eW (wd "size")) from pv_c _)) (Pv.rv (e := D.int) (v := (strengths1.length : Int)) (Rv.pv (e := D.int) (v := (strengths1.length : Int)) (Rv.eq (rv_cb1 (e := D.int) (Pv.rv (e := (eL D.int)) (v := strengths1) (show Pv _ _ ((eL D.int) strengths1) from pv_var 0 rfl)) fun v => cb_lenL D.int v) ok_bnd)))) (ok_bnd.trans ok_bnd)))) ?_
    replace h := wp_o h
    exact h
  · as_aux_lemma =>
      refine js_next ?_
      refine js_seq ?_
      refine js_for ?_
      refine J.pv (Rv.pv (e := List.map (eP2 D.int D.int)) (v := enumL strengths1) (Rv.eq (ri_enum (e := D.int) (f := fun v => v) (sq_L _) (Pv.rv (e := (eL D.int)) (v := strengths1) (show Pv _ _ ((eL D.int) strengths1) from pv_var 0 rfl))) ok_bnd)) ?_
      rw [wp_bnd] at h
      refine a_forS (eP2 D.int D.int) (fun (b3 : Unit) => [.dat ((eL D.int) strengths1), .dat ((eL D.int) guards2), .no, .no]) (fun (v : D) d A' => d = id v) ?_ ?_ ?_ _ _ _ (by repeat (first | exact Le.nil | refine Le.keep ?_ | refine Le.drop ?_)) h
      · as_aux_lemma =>
          intro b3 x4 Q h
          refine jg_tup rfl ?_
          refine jgs_cons ?_
          refine jg_name rfl ?_
          refine jgs_cons ?_
          refine jg_name rfl ?_
          refine jgs_nil ?_
          refine js_if ?_
          refine J.pv (pb_not (pb_t (pv_chain (show Pv _ _ (D.int (-(10 ^ (9 : Int).toNat))) from pv_un (show Pv _ _ (D.int (10 ^ (9 : Int).toNat)) from pv_op (show Pv _ _ (D.int (10)) from pv_c _) (show Pv _ _ (D.int (9)) from pv_c _) (ev_powc 10 9 (by decide))) (ev_neg (10 ^ (9 : Int).toNat))) (show Pv _ _ (D.int x4.2) from pv_var 3 rfl) (show Pv _ _ (D.int (10 ^ (9 : Int).toNat)) from pv_op (show Pv _ _ (D.int (10)) from pv_c _) (show Pv _ _ (D.int (9)) from pv_c _) (ev_powc 10 9 (by decide))) (ev_le (-(10 ^ (9 : Int).toNat)) x4.2) (ev_le x4.2 (10 ^ (9 : Int).toNat))))) ?_
          refine ite_c h (fun h => ?_) (fun h => ?_)
          · refine js_ret ?_
            refine J.pv (show Pv _ _ (id ((eQ2 eW D.int) (((wd "strength"), x4.1)))) from (Rv.pv (e := (eQ2 eW D.int)) (v := ((wd "strength"), x4.1)) (Rv.eq (rv_q2 (Pv.rv (e := eW) (v := (wd "strength")) (show Pv _ _ (eW (wd "strength")) from pv_c _)) (Pv.rv (e := D.int) (v := x4.1) (show Pv _ _ (D.int x4.1) from pv_var 2 rfl))) (ok_bnd.trans ok_bnd)))) ?_
            replace h := wp_o h
            exact ⟨(eQ2 eW D.int) (((wd "strength"), x4.1)), rfl, h⟩
          · refine js_next ?_
            replace h := wp_o h
            exact ⟨(), (by repeat (first | exact Le.nil | refine Le.keep ?_ | refine Le.drop ?_)), h⟩
      · as_aux_lemma =>
          intro b5 h
          rw [on_nx] at h
          refine js_seq ?_
          refine js_if ?_
          refine J.pv (pb_t (show Pv _ _ (D.bl (!decide ((guards2.length : Int) = (strengths1.length : Int)))) from pv_op (Rv.pv (e := D.int) (v := (guards2.length : Int)) (Rv.eq (rv_cb1 (e := D.int) (Pv.rv (e := (eL D.int)) (v := guards2) (show Pv _ _ ((eL D.int) guards2) from pv_var 1 rfl)) fun v => cb_lenL D.int v) ok_bnd)) (Rv.pv (e := D.int) (v := (strengths1.length : Int)) (Rv.eq (rv_cb1 (e := D.int) (Pv.rv (e := (eL D.int)) (v := strengths1) (show Pv _ _ ((eL D.int) strengths1) from pv_var 0 rfl)) fun v => cb_lenL D.int v) ok_bnd)) (ev_ne (eq_I 0) (by decide) ((guards2.length : Int)) ((strengths1.length : Int))))) ?_
          refine ite_c h (fun h => ?_) (fun h => ?_)
          · refine js_ret ?_
            refine J.pv (show Pv _ _ (id ((eQ2 eW D.int) (((wd "unlike"), (guards2.length : Int))))) from (Rv.pv (e := (eQ2 eW D.int)) (v := ((wd "unlike"), (guards2.length : Int))) (Rv.eq (rv_q2 (Pv.rv (e := eW) (v := (wd "unlike")) (show Pv _ _ (eW (wd "unlike")) from pv_c _)) (Pv.rv (e := D.int) (v := (guards2.length : Int)) (Rv.pv (e := D.int) (v := (guards2.length : Int)) (Rv.eq (rv_cb1 (e := D.int) (Pv.rv (e := (eL D.int)) (v := guards2) (show Pv _ _ ((eL D.int) guards2) from pv_var 1 rfl)) fun v => cb_lenL D.int v) ok_bnd)))) (ok_bnd.trans ok_bnd)))) ?_
            replace h := wp_o h
            exact h
          · as_aux_lemma =>
              refine js_next ?_
              refine js_seq ?_
              refine js_for ?_
              refine J.pv (Rv.pv (e := List.map (eP2 D.int D.int)) (v := enumL guards2) (Rv.eq (ri_enum (e := D.int) (f := fun v => v) (sq_L _) (Pv.rv (e := (eL D.int)) (v := guards2) (show Pv _ _ ((eL D.int) guards2) from pv_var 1 rfl))) ok_bnd)) ?_
              rw [wp_bnd] at h
              refine a_forS (eP2 D.int D.int) (fun (b6 : Unit) => [.dat ((eL D.int) strengths1), .dat ((eL D.int) guards2), .no, .no]) (fun (v : D) d A' => d = id v) ?_ ?_ ?_ _ _ _ (by repeat (first | exact Le.nil | refine Le.keep ?_ | refine Le.drop ?_)) h
              · as_aux_lemma =>
                  intro b6 x7 Q h
                  refine jg_tup rfl ?_
                  refine jgs_cons ?_
                  refine jg_name rfl ?_
                  refine jgs_cons ?_
                  refine jg_name rfl ?_
                  refine jgs_nil ?_
                  refine js_if ?_
                  refine J.pv (pb_not (pb_t (pv_chain (show Pv _ _ (D.int (-(10 ^ (9 : Int).toNat))) from pv_un (show Pv _ _ (D.int (10 ^ (9 : Int).toNat)) from pv_op (show Pv _ _ (D.int (10)) from pv_c _) (show Pv _ _ (D.int (9)) from pv_c _) (ev_powc 10 9 (by decide))) (ev_neg (10 ^ (9 : Int).toNat))) (show Pv _ _ (D.int x7.2) from pv_var 3 rfl) (show Pv _ _ (D.int (10 ^ (9 : Int).toNat)) from pv_op (show Pv _ _ (D.int (10)) from pv_c _) (show Pv _ _ (D.int (9)) from pv_c _) (ev_powc 10 9 (by decide))) (ev_le (-(10 ^ (9 : Int).toNat)) x7.2) (ev_le x7.2 (10 ^ (9 : Int).toNat))))) ?_
                  refine ite_c h (fun h => ?_) (fun h => ?_)
                  · refine js_ret ?_
                    refine J.pv (show Pv _ _ (id ((eQ2 eW D.int) (((wd "guard"), x7.1)))) from (Rv.pv (e := (eQ2 eW D.int)) (v := ((wd "guard"), x7.1)) (Rv.eq (rv_q2 (Pv.rv (e := eW) (v := (wd "guard")) (show Pv _ _ (eW (wd "guard")) from pv_c _)) (Pv.rv (e := D.int) (v := x7.1) (show Pv _ _ (D.int x7.1) from pv_var 2 rfl))) (ok_bnd.trans ok_bnd)))) ?_
                    replace h := wp_o h
                    exact ⟨(eQ2 eW D.int) (((wd "guard"), x7.1)), rfl, h⟩
                  · refine js_next ?_
                    replace h := wp_o h
                    exact ⟨(), (by repeat (first | exact Le.nil | refine Le.keep ?_ | refine Le.drop ?_)), h⟩
              · intro b8 h
                rw [on_nx] at h
                refine js_ret ?_
                refine J.pv (show Pv _ _ (id ((eL D.int) ([]))) from (Rv.pv (e := (eL D.int)) (v := []) (rv_f (Rv.eq (rv_l0 (e := D.int)) rfl)))) ?_
                replace h := wp_o h
                exact h
              · intro v9 d A' hr h
                rw [on_rt] at h
                subst hr
                replace h := wp_o h
                exact h
      · intro v11 d A' hr h
        rw [on_rt] at h
        subst hr
        replace h := wp_o h
        exact h
def td__law_refusal : TSd :=
  dSeq (dTry LC_ (dDrop (dCallK sp_made_field 0 2 [1, 0] dNil (dCons (dCB rTupD (dCons (dVar 1) (dNil))) (dCons (dCB rTupD (dCons (dVar 0) (dNil))) (dNil))))) [(some 2, "BadSize", fun a dd => dRet (dF (dLst (dCons (dC (.str "size")) (dCons (dWhat 2 a dd) (dNil)))))), (some 2, "BadStrength", fun a dd => dRet (dF (dLst (dCons (dC (.str "strength")) (dCons (dWhat 2 a dd) (dNil)))))), (some 2, "Unlike", fun a dd => dRet (dF (dLst (dCons (dC (.str "unlike")) (dCons (dWhat 2 a dd) (dNil)))))), (some 2, "BadGuard", fun a dd => dRet (dF (dLst (dCons (dC (.str "guard")) (dCons (dWhat 2 a dd) (dNil)))))), (none, "Refused", fun a dd => dRet (dF (dLst (dCons (dC (.str "other")) (dCons (dC (.int 0)) (dNil))))))])
  (dRet (dF (dLst (dNil))))
abbrev N__law_refusal : List Str := ["_law_strengths", "_law_guards", "e"]
theorem math__law_refusal : ∀ xs M P PX, sp__law_refusal xs M P PX → td__law_refusal (startS N__law_refusal xs M) (endE M.length P) (endX M.length PX) := by
  rintro xs M P PX ⟨strengths1, guards2, rfl, rfl, h⟩
  refine start0 (ds := [(eL D.int) strengths1, (eL D.int) guards2]) [.dat ((eL D.int) strengths1), .dat ((eL D.int) guards2), .no] rfl ?_
  unfold td__law_refusal
  unfold m__law_refusal at h
  refine js_midS h (fun (j6 : Unit) => [.dat ((eL D.int) strengths1), .dat ((eL D.int) guards2), .no]) (fun h => ?_) (fun j6 h => ?_)
  · as_aux_lemma =>
      refine js_tryW h rfl (fun c4 x5 h => hdl_in h (fun h => ?_)) (fun h => ?_)
      · as_aux_lemma =>
          refine hdl_c h (fun h => ⟨rfl, fun a dd => ?_⟩) (fun h => ?_)
          · dsimp only
            refine js_ret ?_
            refine J.pv (show Pv _ _ (id ((eQ2 eW id) (((wd "size"), x5)))) from (Rv.pv (e := (eQ2 eW id)) (v := ((wd "size"), x5)) (Rv.eq (rv_q2 (Pv.rv (e := eW) (v := (wd "size")) (show Pv _ _ (eW (wd "size")) from pv_c _)) (Pv.rv (e := id) (v := x5) (show Pv _ _ (id x5) from j_what 2 rfl))) (ok_bnd.trans ok_bnd)))) ?_
            replace h := wp_o h
            replace h := h
            rw [on_rt] at h
            replace h := wp_o h
            exact h
          · as_aux_lemma =>
              refine hdl_c h (fun h => ⟨rfl, fun a dd => ?_⟩) (fun h => ?_)
              · dsimp only
                refine js_ret ?_
                refine J.pv (show Pv _ _ (id ((eQ2 eW id) (((wd "strength"), x5)))) from (Rv.pv (e := (eQ2 eW id)) (v := ((wd "strength"), x5)) (Rv.eq (rv_q2 (Pv.rv (e := eW) (v := (wd "strength")) (show Pv _ _ (eW (wd "strength")) from pv_c _)) (Pv.rv (e := id) (v := x5) (show Pv _ _ (id x5) from j_what 2 rfl))) (ok_bnd.trans ok_bnd)))) ?_
                replace h := wp_o h
                replace h := h
                rw [on_rt] at h
                replace h := wp_o h
                exact h
              · as_aux_lemma =>
                  refine hdl_c h (fun h => ⟨rfl, fun a dd => ?_⟩) (fun h => ?_)
                  · dsimp only
                    refine js_ret ?_
                    refine J.pv (show Pv _ _ (id ((eQ2 eW id) (((wd "unlike"), x5)))) from (Rv.pv (e := (eQ2 eW id)) (v := ((wd "unlike"), x5)) (Rv.eq (rv_q2 (Pv.rv (e := eW) (v := (wd "unlike")) (show Pv _ _ (eW (wd "unlike")) from pv_c _)) (Pv.rv (e := id) (v := x5) (show Pv _ _ (id x5) from j_what 2 rfl))) (ok_bnd.trans ok_bnd)))) ?_
                    replace h := wp_o h
                    replace h := h
                    rw [on_rt] at h
                    replace h := wp_o h
                    exact h
                  · as_aux_lemma =>
                      refine hdl_c h (fun h => ⟨rfl, fun a dd => ?_⟩) (fun h => ?_)
                      · dsimp only
                        refine js_ret ?_
                        refine J.pv (show Pv _ _ (id ((eQ2 eW id) (((wd "guard"), x5)))) from (Rv.pv (e := (eQ2 eW id)) (v := ((wd "guard"), x5)) (Rv.eq (rv_q2 (Pv.rv (e := eW) (v := (wd "guard")) (show Pv _ _ (eW (wd "guard")) from pv_c _)) (Pv.rv (e := id) (v := x5) (show Pv _ _ (id x5) from j_what 2 rfl))) (ok_bnd.trans ok_bnd)))) ?_
                        replace h := wp_o h
                        replace h := h
                        rw [on_rt] at h
                        replace h := wp_o h
                        exact h
                      · as_aux_lemma =>
                          refine hdl_c h (fun h => ⟨rfl, fun a dd => ?_⟩) (fun h => ?_)
                          · dsimp only
                            refine js_ret ?_
                            refine J.pv (show Pv _ _ (id ((eQ2 eW D.int) (((wd "other"), 0)))) from (Rv.pv (e := (eQ2 eW D.int)) (v := ((wd "other"), 0)) (Rv.eq (rv_q2 (Pv.rv (e := eW) (v := (wd "other")) (show Pv _ _ (eW (wd "other")) from pv_c _)) (Pv.rv (e := D.int) (v := 0) (show Pv _ _ (D.int (0)) from pv_c _))) (ok_bnd.trans ok_bnd)))) ?_
                            replace h := wp_o h
                            replace h := h
                            rw [on_rt] at h
                            replace h := wp_o h
                            exact h
                          · replace h := wp_e h
                            exact h
      · refine js_drop ?_
        refine J.use h (rv_callK0_2_1_0 (m := fun a0 a1 => m_made_field a1 a0) (Pv.rv (e := (eT D.int)) (v := guards2) (Rv.pv (e := (eT D.int)) (v := guards2) (Rv.eq (rv_cb1 (e := (eT D.int)) (Pv.rv (e := (eL D.int)) (v := guards2) (show Pv _ _ ((eL D.int) guards2) from pv_var 1 rfl)) fun v => cb_tupL D.int v) ok_bnd))) (Pv.rv (e := (eT D.int)) (v := strengths1) (Rv.pv (e := (eT D.int)) (v := strengths1) (Rv.eq (rv_cb1 (e := (eT D.int)) (Pv.rv (e := (eL D.int)) (v := strengths1) (show Pv _ _ ((eL D.int) strengths1) from pv_var 0 rfl)) fun v => cb_tupL D.int v) ok_bnd))) fun a0 a1 => call_made_field a1 a0) (by first | (simp only [bnd_bnd, ok_bnd]; done) | rfl) (fun v3 h => ?_) (fun _ _ h => ⟨h, (by repeat (first | exact Le.nil | refine Le.keep ?_ | refine Le.drop ?_))⟩)
        replace h := wp_o h
        replace h := h
        rw [on_nx] at h
        exact ⟨(), (by repeat (first | exact Le.nil | refine Le.keep ?_ | refine Le.drop ?_)), h⟩
  · refine js_ret ?_
    refine J.pv (show Pv _ _ (id ((eL D.int) ([]))) from (Rv.pv (e := (eL D.int)) (v := []) (rv_f (Rv.eq (rv_l0 (e := D.int)) rfl)))) ?_
    replace h := wp_o h
    exact h
def td__law_beyond : TSd :=
  dSeq (dSet 1 (dOp rAddD (dOp rPowD (dC (.int 10)) (dC (.int 9))) (dCall sp__law_one (dConsC 0 (dCons (dF (dLst (dCons (dC (.int 1)) (dCons (dC (.int 1)) (dCons (dOp rAddD (dC (.int 1)) (dCall sp__law_take (dConsC 0 (dCons (dOp rPowD (dC (.int 10)) (dC (.int 9))) (dNil))))) (dCons (dOp rPowD (dC (.int 10)) (dC (.int 30))) (dNil))))))) (dNil))))))
  (dRet (dIf (dT (dOp rEqD' (dCall sp__law_take (dConsC 0 (dCons (dC (.int 2)) (dNil)))) (dC (.int 0)))) (dUn rNegD (dVar 1)) (dVar 1)))
abbrev N__law_beyond : List Str := ["_law_source", "_law_size"]
theorem math__law_beyond : ∀ xs M P PX, sp__law_beyond xs M P PX → td__law_beyond (startS N__law_beyond xs M) (endE M.length P) (endX M.length PX) := by
  rintro xs M P PX ⟨source1, rfl, rfl, h⟩
  refine start1 false 0 [.own (cL D.int source1), .no] [some 0] rfl (by decide) rfl (fun q => Bool.noConfusion q) ?_
  unfold td__law_beyond
  unfold m__law_beyond at h
  refine js_seq ?_
  refine js_set rfl ?_
  refine j_op ?_
  refine J.pv (show Pv _ _ (D.int (10 ^ (9 : Int).toNat)) from pv_op (show Pv _ _ (D.int (10)) from pv_c _) (show Pv _ _ (D.int (9)) from pv_c _) (ev_powc 10 9 (by decide))) ?_
  refine j_call1 ?_
  refine ja_consC 0 rfl ?_
  refine ja_cons ?_
  refine j_f (j_lst ?_)
  refine ja_cons ?_
  refine J.pv (show Pv _ _ (D.int (1)) from pv_c _) ?_
  refine ja_cons ?_
  refine J.pv (show Pv _ _ (D.int (1)) from pv_c _) ?_
  refine ja_cons ?_
  refine j_op ?_
  refine J.pv (show Pv _ _ (D.int (1)) from pv_c _) ?_
  refine j_call1 ?_
  refine ja_consC 0 rfl ?_
  refine ja_cons ?_
  refine J.pv (show Pv _ _ (D.int (10 ^ (9 : Int).toNat)) from pv_op (show Pv _ _ (D.int (10)) from pv_c _) (show Pv _ _ (D.int (9)) from pv_c _) (ev_powc 10 9 (by decide))) ?_
  refine ja_nil ⟨_, _, rfl, rfl, rfl, _, _, _, _, call__law_take source1 (10 ^ (9 : Int).toNat), wp_use h (fun q2 h => ⟨(nlf rfl), ?_⟩) (fun _ _ h => fun _ => ⟨_, rfl, h _⟩)⟩
  refine ⟨D.int (1 + q2.1), (ev_add 1 q2.1), ?_⟩
  refine ja_cons ?_
  refine J.pv (show Pv _ _ (D.int (10 ^ (30 : Int).toNat)) from pv_op (show Pv _ _ (D.int (10)) from pv_c _) (show Pv _ _ (D.int (30)) from pv_c _) (ev_powc 10 30 (by decide))) ?_
  refine ja_nil ⟨_, rfl, zle, ?_⟩
  refine ja_nil ⟨_, _, rfl, rfl, rfl, _, _, _, _, call__law_one_L D.int q2.2 ([1, 1, 1 + q2.1, 10 ^ (30 : Int).toNat]), wp_use h (fun q3 h => ⟨(nlf rfl), ?_⟩) (fun _ _ h => fun _ => ⟨_, rfl, h _⟩)⟩
  refine ⟨D.int ((10 ^ (9 : Int).toNat) + q3.1), (ev_add (10 ^ (9 : Int).toNat) q3.1), ?_⟩
  refine js_ret ?_
  refine cutW h (fun (q5 : Int × (List Int)) => [.own (cL D.int q5.2), .dat (D.int ((10 ^ (9 : Int).toNat) + q3.1))]) (fun q5 => D.int q5.1) (fun h => ?_) (fun q5 h => ?_)
  · refine j_if ?_
    refine jb_t ?_
    refine j_op ?_
    refine j_call1 ?_
    refine ja_consC 0 rfl ?_
    refine ja_cons ?_
    refine J.pv (show Pv _ _ (D.int (2)) from pv_c _) ?_
    refine ja_nil ⟨_, _, rfl, rfl, rfl, _, _, _, _, call__law_take q3.2 2, wp_use h (fun q4 h => ⟨(nlf rfl), ?_⟩) (fun _ _ h => fun _ => ⟨_, rfl, h _⟩)⟩
    refine J.pv (show Pv _ _ (D.int (0)) from pv_c _) ?_
    refine ⟨D.bl (decide (q4.1 = 0)), (ev_eq (eq_I 0) (by decide) q4.1 0), ?_⟩
    refine ⟨decide (q4.1 = 0), rfl, ?_⟩
    refine ite_c h (fun h => ?_) (fun h => ?_)
    · refine J.pv (show Pv _ _ (D.int (-((10 ^ (9 : Int).toNat) + q3.1))) from pv_un (show Pv _ _ (D.int ((10 ^ (9 : Int).toNat) + q3.1)) from pv_var 1 rfl) (ev_neg ((10 ^ (9 : Int).toNat) + q3.1))) ?_
      replace h := wp_o h
      exact ⟨(-((10 ^ (9 : Int).toNat) + q3.1), q4.2), rfl, rfl, h⟩
    · refine J.pv (show Pv _ _ (D.int ((10 ^ (9 : Int).toNat) + q3.1)) from pv_var 1 rfl) ?_
      replace h := wp_o h
      exact ⟨((10 ^ (9 : Int).toNat) + q3.1, q4.2), rfl, rfl, h⟩
  · replace h := wp_o h
    exact ⟨_, rfl, h⟩
def td__law_bent : TSd :=
  dSeq (dPar 3 4 (dConsF (dSlL (dVar 1) (dNoPart) (dNoPart)) (dConsF (dSlL (dVar 2) (dNoPart) (dNoPart)) (dNil))))
  (dSeq (dIfS (dT (dOp rEqD' (dCall sp__law_take (dConsC 0 (dCons (dC (.int 3)) (dNil)))) (dC (.int 0)))) (dSetIx 3 (dCall sp__law_take (dConsC 0 (dCons (dCB rLenD (dConsC 3 (dNil))) (dNil)))) (dCall sp__law_beyond (dConsC 0 (dNil)))) (dNext))
  (dFreeze 3 (dSeq (dIfS (dT (dOp rEqD' (dCall sp__law_take (dConsC 0 (dCons (dC (.int 3)) (dNil)))) (dC (.int 0)))) (dSetIx 4 (dCall sp__law_take (dConsC 0 (dCons (dCB rLenD (dConsC 4 (dNil))) (dNil)))) (dCall sp__law_beyond (dConsC 0 (dNil)))) (dNext))
  (dFreeze 4 (dSeq (dIfS (dT (dOp rEqD' (dCall sp__law_take (dConsC 0 (dCons (dC (.int 3)) (dNil)))) (dC (.int 0)))) (dSet 4 (dCall sp__law_one (dConsC 0 (dCons (dF (dLst (dCons (dSl (dVar 4) (dPart (dC (.int 1))) (dNoPart)) (dCons (dOp rAddD (dVar 4) (dF (dLst (dCons (dC (.int 0)) (dNil))))) (dCons (dF (dLst (dNil))) (dCons (dOp rAddD (dVar 4) (dVar 4)) (dCons (dOp rMultD (dF (dLst (dCons (dC (.int 0)) (dNil)))) (dC (.int 33))) (dNil)))))))) (dNil))))) (dNext))
  (dSeq (dIfS (dT (dOp rEqD' (dCall sp__law_take (dConsC 0 (dCons (dC (.int 8)) (dNil)))) (dC (.int 0)))) (dSet 3 (dCall sp__law_one (dConsC 0 (dCons (dF (dLst (dCons (dF (dLst (dNil))) (dCons (dOp rMultD (dF (dLst (dCons (dC (.int 1)) (dNil)))) (dC (.int 33))) (dCons (dOp rMultD (dF (dLst (dCons (dOp rPowD (dC (.int 10)) (dC (.int 10))) (dNil)))) (dC (.int 40))) (dCons (dOp rMultD (dVar 3) (dC (.int 33))) (dNil))))))) (dNil))))) (dNext))
  (dRet (dTup (dCons (dVar 3) (dCons (dVar 4) (dNil)))))))))))
abbrev N__law_bent : List Str := ["_law_source", "_law_strengths", "_law_guards", "_law_low", "_law_high"]
theorem math__law_bent : ∀ xs M P PX, sp__law_bent xs M P PX → td__law_bent (startS N__law_bent xs M) (endE M.length P) (endX M.length PX) := by
  rintro xs M P PX ⟨source1, strengths2, guards3, rfl, rfl, h⟩
  refine start1 false 0 [.own (cL D.int source1), .dat ((eL D.int) strengths2), .dat ((eL D.int) guards3), .no, .no] [some 0, none, none] rfl (by decide) rfl (fun q => Bool.noConfusion q) ?_
  unfold td__law_bent
  unfold m__law_bent at h
  refine js_seq ?_
  refine js_par rfl rfl ?_
  refine ja_consF ?_
  refine J.pv (Rv.pv (e := List.map D.int) (v := cutL strengths2 none none) (Rv.eq (rv_slL (Pv.rv (e := (eL D.int)) (v := strengths2) (show Pv _ _ ((eL D.int) strengths2) from pv_var 1 rfl)) ro_none ro_none) (by simp only [bnd_bnd, ok_bnd] : _ = Res.ok (cutL strengths2 none none)))) ?_
  refine ⟨(nlf rfl), ?_⟩
  refine ja_consF ?_
  refine J.pv (Rv.pv (e := List.map D.int) (v := cutL guards3 none none) (Rv.eq (rv_slL (Pv.rv (e := (eL D.int)) (v := guards3) (show Pv _ _ ((eL D.int) guards3) from pv_var 2 rfl)) ro_none ro_none) (by simp only [bnd_bnd, ok_bnd] : _ = Res.ok (cutL guards3 none none)))) ?_
  refine ⟨(nlf rfl), ?_⟩
  refine ja_nil ⟨_, _, _, _, rfl, rfl, rfl, ?_⟩
  refine js_midW h (fun (j10 : (List Int) × (List Int)) => [.own (cL D.int j10.1), .dat ((eL D.int) strengths2), .dat ((eL D.int) guards3), .own (cL D.int j10.2), .own (cL D.int (cutL guards3 none none))]) (fun h => ?_) (fun j10 h => ?_)
  · as_aux_lemma =>
      refine js_if ?_
      refine jb_t ?_
      refine j_op ?_
      refine j_call1 ?_
      refine ja_consC 0 rfl ?_
      refine ja_cons ?_
      refine J.pv (show Pv _ _ (D.int (3)) from pv_c _) ?_
      refine ja_nil ⟨_, _, rfl, rfl, rfl, _, _, _, _, call__law_take source1 3, wp_use h (fun q6 h => ⟨(nlf rfl), ?_⟩) (fun _ _ h => fun _ => ⟨_, rfl, h _⟩)⟩
      refine J.pv (show Pv _ _ (D.int (0)) from pv_c _) ?_
      refine ⟨D.bl (decide (q6.1 = 0)), (ev_eq (eq_I 0) (by decide) q6.1 0), ?_⟩
      refine ⟨decide (q6.1 = 0), rfl, ?_⟩
      refine ite_c h (fun h => ?_) (fun h => ?_)
      · as_aux_lemma =>
          refine js_setIx ?_
          refine j_call1 ?_
          refine ja_consC 0 rfl ?_
          refine ja_nil ⟨_, _, rfl, rfl, rfl, _, _, _, _, call__law_beyond q6.2, wp_use h (fun q7 h => ⟨(nlf rfl), ?_⟩) (fun _ _ h => fun _ => ⟨_, rfl, h _⟩)⟩
          refine ⟨_, rfl, ?_⟩
          refine j_call1 ?_
          refine ja_consC 0 rfl ?_
          refine ja_cons ?_
          refine J.pv (show Pv _ _ (D.int ((cutL strengths2 none none).length : Int)) from pv_lenC 3 (e := D.int) (l := cutL strengths2 none none) rfl) ?_
          refine ja_nil ⟨_, _, rfl, rfl, rfl, _, _, _, _, call__law_take q7.2 (((cutL strengths2 none none).length : Int)), wp_use h (fun q8 h => ⟨(nlf rfl), ?_⟩) (fun _ _ h => fun _ => ⟨_, rfl, h _⟩)⟩
          obtain ⟨low9, i_, hi_, hs_, h⟩ := setR_use (ea := D.int) h
          refine ⟨_, _, i_, rfl, rfl, hi_, (nlf rfl), ?_⟩
          rw [hs_]
          replace h := wp_o h
          exact ⟨(q8.2, low9), (by repeat (first | exact Le.nil | refine Le.keep ?_ | refine Le.drop ?_)), h⟩
      · refine js_next ?_
        replace h := wp_o h
        exact ⟨(q6.2, cutL strengths2 none none), (by repeat (first | exact Le.nil | refine Le.keep ?_ | refine Le.drop ?_)), h⟩
  · as_aux_lemma =>
      refine js_freeze rfl rfl ?_
      refine js_midW h (fun (j15 : (List Int) × (List Int)) => [.own (cL D.int j15.1), .dat ((eL D.int) strengths2), .dat ((eL D.int) guards3), .dat ((eL D.int) j10.2), .own (cL D.int j15.2)]) (fun h => ?_) (fun j15 h => ?_)
      · as_aux_lemma =>
          refine js_if ?_
          refine jb_t ?_
          refine j_op ?_
          refine j_call1 ?_
          refine ja_consC 0 rfl ?_
          refine ja_cons ?_
          refine J.pv (show Pv _ _ (D.int (3)) from pv_c _) ?_
          refine ja_nil ⟨_, _, rfl, rfl, rfl, _, _, _, _, call__law_take j10.1 3, wp_use h (fun q11 h => ⟨(nlf rfl), ?_⟩) (fun _ _ h => fun _ => ⟨_, rfl, h _⟩)⟩
          refine J.pv (show Pv _ _ (D.int (0)) from pv_c _) ?_
          refine ⟨D.bl (decide (q11.1 = 0)), (ev_eq (eq_I 0) (by decide) q11.1 0), ?_⟩
          refine ⟨decide (q11.1 = 0), rfl, ?_⟩
          refine ite_c h (fun h => ?_) (fun h => ?_)
          · as_aux_lemma =>
              refine js_setIx ?_
              refine j_call1 ?_
              refine ja_consC 0 rfl ?_
              refine ja_nil ⟨_, _, rfl, rfl, rfl, _, _, _, _, call__law_beyond q11.2, wp_use h (fun q12 h => ⟨(nlf rfl), ?_⟩) (fun _ _ h => fun _ => ⟨_, rfl, h _⟩)⟩
              refine ⟨_, rfl, ?_⟩
              refine j_call1 ?_
              refine ja_consC 0 rfl ?_
              refine ja_cons ?_
              refine J.pv (show Pv _ _ (D.int ((cutL guards3 none none).length : Int)) from pv_lenC 4 (e := D.int) (l := cutL guards3 none none) rfl) ?_
              refine ja_nil ⟨_, _, rfl, rfl, rfl, _, _, _, _, call__law_take q12.2 (((cutL guards3 none none).length : Int)), wp_use h (fun q13 h => ⟨(nlf rfl), ?_⟩) (fun _ _ h => fun _ => ⟨_, rfl, h _⟩)⟩
              obtain ⟨high14, i_, hi_, hs_, h⟩ := setR_use (ea := D.int) h
              refine ⟨_, _, i_, rfl, rfl, hi_, (nlf rfl), ?_⟩
              rw [hs_]
              replace h := wp_o h
              exact ⟨(q13.2, high14), (by repeat (first | exact Le.nil | refine Le.keep ?_ | refine Le.drop ?_)), h⟩
          · refine js_next ?_
            replace h := wp_o h
            exact ⟨(q11.2, cutL guards3 none none), (by repeat (first | exact Le.nil | refine Le.keep ?_ | refine Le.drop ?_)), h⟩
      · as_aux_lemma =>
          refine js_freeze rfl rfl ?_
          refine js_midW h (fun (j22 : (List Int) × (List Int)) => [.own (cL D.int j22.1), .dat ((eL D.int) strengths2), .dat ((eL D.int) guards3), .dat ((eL D.int) j10.2), .dat ((eL D.int) j22.2)]) (fun h => ?_) (fun j22 h => ?_)
          · as_aux_lemma =>
              refine js_if ?_
              refine jb_t ?_
              refine j_op ?_
              refine j_call1 ?_
              refine ja_consC 0 rfl ?_
              refine ja_cons ?_
              refine J.pv (show Pv _ _ (D.int (3)) from pv_c _) ?_
              refine ja_nil ⟨_, _, rfl, rfl, rfl, _, _, _, _, call__law_take j15.1 3, wp_use h (fun q16 h => ⟨(nlf rfl), ?_⟩) (fun _ _ h => fun _ => ⟨_, rfl, h _⟩)⟩
              refine J.pv (show Pv _ _ (D.int (0)) from pv_c _) ?_
              refine ⟨D.bl (decide (q16.1 = 0)), (ev_eq (eq_I 0) (by decide) q16.1 0), ?_⟩
              refine ⟨decide (q16.1 = 0), rfl, ?_⟩
              refine ite_c h (fun h => ?_) (fun h => ?_)
              · refine js_set rfl ?_
                refine j_call1 ?_
                refine ja_consC 0 rfl ?_
                refine ja_cons ?_
                refine J.use h (rv_f (rv_lst (rl_cons (e := (eL D.int)) (Pv.rv (e := (eL D.int)) (v := cutL j15.2 (some 1) none) (Rv.pv (e := (eL D.int)) (v := cutL j15.2 (some 1) none) (Rv.eq (rv_sl (ct_L D.int) (Pv.rv (e := (eL D.int)) (v := j15.2) (show Pv _ _ ((eL D.int) j15.2) from pv_var 4 rfl)) (ro_some (Pv.rv (e := D.int) (v := 1) (show Pv _ _ (D.int (1)) from pv_c _))) ro_none) (by simp only [bnd_bnd, ok_bnd])))) (rl_cons (e := (eL D.int)) (rv_pp (e := (eL D.int)) (show Pv _ _ ((eL D.int) j15.2) from pv_var 4 rfl) (Rv.pv (e := (eL D.int)) (v := [0]) (rv_f (Rv.eq (rv_lstO (e := D.int) (l := [0]) (rl_cons (e := D.int) (Pv.rv (e := D.int) (v := 0) (show Pv _ _ (D.int (0)) from pv_c _)) rl_nil) rfl zle) rfl))) (op_catL D.int j15.2 ([0]))) (rl_cons (e := (eL D.int)) (Pv.rv (e := (eL D.int)) (v := []) (Rv.pv (e := (eL D.int)) (v := []) (rv_f (Rv.eq (rv_l0 (e := D.int)) rfl)))) (rl_cons (e := (eL D.int)) (rv_pp (e := (eL D.int)) (show Pv _ _ ((eL D.int) j15.2) from pv_var 4 rfl) (show Pv _ _ ((eL D.int) j15.2) from pv_var 4 rfl) (op_catL D.int j15.2 j15.2)) (rl_cons (e := (eL D.int)) (rv_pp (e := (eL D.int)) (Rv.pv (e := (eL D.int)) (v := [0]) (rv_f (Rv.eq (rv_lstO (e := D.int) (l := [0]) (rl_cons (e := D.int) (Pv.rv (e := D.int) (v := 0) (show Pv _ _ (D.int (0)) from pv_c _)) rl_nil) rfl zle) rfl))) (show Pv _ _ (D.int (33)) from pv_c _) (op_repL D.int ([0]) 33)) rl_nil))))))) (by first | (simp only [bnd_bnd, ok_bnd]; done) | rfl) (fun v20 h => ?_) (fun _ _ h => ⟨_, rfl, h _⟩)
                refine ja_nil ⟨_, _, rfl, rfl, rfl, _, _, _, _, call__law_one_L (eL D.int) q16.2 v20, wp_use h (fun q21 h => ⟨(nlf rfl), ?_⟩) (fun _ _ h => fun _ => ⟨_, rfl, h _⟩)⟩
                replace h := wp_o h
                exact ⟨(q21.2, q21.1), (by repeat (first | exact Le.nil | refine Le.keep ?_ | refine Le.drop ?_)), h⟩
              · refine js_next ?_
                replace h := wp_o h
                exact ⟨(q16.2, j15.2), (by repeat (first | exact Le.nil | refine Le.keep ?_ | refine Le.drop ?_)), h⟩
          · as_aux_lemma =>
              refine js_midW h (fun (j29 : (List Int) × (List Int)) => [.own (cL D.int j29.1), .dat ((eL D.int) strengths2), .dat ((eL D.int) guards3), .dat ((eL D.int) j29.2), .dat ((eL D.int) j22.2)]) (fun h => ?_) (fun j29 h => ?_)
              · as_aux_lemma =>
                  refine js_if ?_
                  refine jb_t ?_
                  refine j_op ?_
                  refine j_call1 ?_
                  refine ja_consC 0 rfl ?_
                  refine ja_cons ?_
                  refine J.pv (show Pv _ _ (D.int (8)) from pv_c _) ?_
                  refine ja_nil ⟨_, _, rfl, rfl, rfl, _, _, _, _, call__law_take j22.1 8, wp_use h (fun q23 h => ⟨(nlf rfl), ?_⟩) (fun _ _ h => fun _ => ⟨_, rfl, h _⟩)⟩
                  refine J.pv (show Pv _ _ (D.int (0)) from pv_c _) ?_
                  refine ⟨D.bl (decide (q23.1 = 0)), (ev_eq (eq_I 0) (by decide) q23.1 0), ?_⟩
                  refine ⟨decide (q23.1 = 0), rfl, ?_⟩
                  refine ite_c h (fun h => ?_) (fun h => ?_)
                  · refine js_set rfl ?_
                    refine j_call1 ?_
                    refine ja_consC 0 rfl ?_
                    refine ja_cons ?_
                    refine J.use h (rv_f (rv_lst (rl_cons (e := (eL D.int)) (Pv.rv (e := (eL D.int)) (v := []) (Rv.pv (e := (eL D.int)) (v := []) (rv_f (Rv.eq (rv_l0 (e := D.int)) rfl)))) (rl_cons (e := (eL D.int)) (rv_pp (e := (eL D.int)) (Rv.pv (e := (eL D.int)) (v := [1]) (rv_f (Rv.eq (rv_lstO (e := D.int) (l := [1]) (rl_cons (e := D.int) (Pv.rv (e := D.int) (v := 1) (show Pv _ _ (D.int (1)) from pv_c _)) rl_nil) rfl zle) rfl))) (show Pv _ _ (D.int (33)) from pv_c _) (op_repL D.int ([1]) 33)) (rl_cons (e := (eL D.int)) (rv_pp (e := (eL D.int)) (Rv.pv (e := (eL D.int)) (v := [10 ^ (10 : Int).toNat]) (rv_f (Rv.eq (rv_lstO (e := D.int) (l := [10 ^ (10 : Int).toNat]) (rl_cons (e := D.int) (Pv.rv (e := D.int) (v := 10 ^ (10 : Int).toNat) (show Pv _ _ (D.int (10 ^ (10 : Int).toNat)) from pv_op (show Pv _ _ (D.int (10)) from pv_c _) (show Pv _ _ (D.int (10)) from pv_c _) (ev_powc 10 10 (by decide)))) rl_nil) rfl zle) rfl))) (show Pv _ _ (D.int (40)) from pv_c _) (op_repL D.int ([10 ^ (10 : Int).toNat]) 40)) (rl_cons (e := (eL D.int)) (rv_pp (e := (eL D.int)) (show Pv _ _ ((eL D.int) j10.2) from pv_var 3 rfl) (show Pv _ _ (D.int (33)) from pv_c _) (op_repL D.int j10.2 33)) rl_nil)))))) (by first | (simp only [bnd_bnd, ok_bnd]; done) | rfl) (fun v27 h => ?_) (fun _ _ h => ⟨_, rfl, h _⟩)
                    refine ja_nil ⟨_, _, rfl, rfl, rfl, _, _, _, _, call__law_one_L (eL D.int) q23.2 v27, wp_use h (fun q28 h => ⟨(nlf rfl), ?_⟩) (fun _ _ h => fun _ => ⟨_, rfl, h _⟩)⟩
                    replace h := wp_o h
                    exact ⟨(q28.2, q28.1), (by repeat (first | exact Le.nil | refine Le.keep ?_ | refine Le.drop ?_)), h⟩
                  · refine js_next ?_
                    replace h := wp_o h
                    exact ⟨(q23.2, j10.2), (by repeat (first | exact Le.nil | refine Le.keep ?_ | refine Le.drop ?_)), h⟩
              · refine js_ret ?_
                refine J.pv (Rv.pv (e := (eP2 (eL D.int) (eL D.int))) (v := (j29.2, j22.2)) (Rv.eq (rv_t2 (Pv.rv (e := (eL D.int)) (v := j29.2) (show Pv _ _ ((eL D.int) j29.2) from pv_var 3 rfl)) (Pv.rv (e := (eL D.int)) (v := j22.2) (show Pv _ _ ((eL D.int) j22.2) from pv_var 4 rfl))) (ok_bnd.trans ok_bnd))) ?_
                replace h := wp_o h
                exact ⟨_, rfl, h⟩
def td__law_right : TSd :=
  dSeq (dSet 1 (dCall sp__law_one (dConsC 0 (dCons (dF (dLst (dCons (dC (.int 1)) (dCons (dC (.int 2)) (dCons (dC (.int 3)) (dCons (dC (.int 4)) (dCons (dC (.int 5)) (dCons (dC (.int 6)) (dCons (dC (.int 8)) (dCons (dC (.int 8)) (dNil))))))))))) (dNil)))))
  (dSeq (dIfS (dT (dOp rEqD' (dCall sp__law_take (dConsC 0 (dCons (dC (.int 20)) (dNil)))) (dC (.int 0)))) (dSet 1 (dC (.int 32))) (dNext))
  (dSeq (dPar 2 3 (dCons (dCall sp__law_numbers (dConsC 0 (dCons (dVar 1) (dNil)))) (dCons (dCall sp__law_numbers (dConsC 0 (dCons (dVar 1) (dNil)))) (dNil))))
  (dSeq (dSet 4 (dCall sp_made_field (dCons (dCB rTupD (dCons (dVar 2) (dNil))) (dCons (dCB rTupD (dCons (dVar 3) (dNil))) (dNil)))))
  (dSeq (dIfS (dOr (dNot (dTru (dCall sp__law_field_is (dCons (dVar 4) (dCons (dVar 2) (dCons (dVar 3) (dNil))))))) (dNot (dTru (dCall sp__law_said (dCons (dCall sp_is_field (dCons (dCB rTupD (dCons (dVar 2) (dNil))) (dCons (dCB rTupD (dCons (dVar 3) (dNil))) (dNil)))) (dCons (dC (.bl true)) (dNil))))))) (dRet (dC (.bl false))) (dNext))
  (dSeq (dFor (dRange1 (dCons (dC (.int 3)) (dNil))) (dgName 5) (dSeq (dAsg (dCall sp__law_bent (dConsC 0 (dCons (dVar 2) (dCons (dVar 3) (dNil))))) (dgTup 2 (dgsCons (dgName 6) (dgsCons (dgName 7) (dgsNil)))))
  (dSeq (dSet 8 (dCall sp__law_fault (dCons (dVar 6) (dCons (dVar 7) (dNil)))))
  (dSeq (dIfS (dT (dOp rNeD' (dCall sp__law_refusal (dCons (dVar 6) (dCons (dVar 7) (dNil)))) (dVar 8))) (dRet (dC (.bl false))) (dNext))
  (dIfS (dNot (dTru (dCall sp__law_said (dCons (dCallK sp_is_field 0 2 [1, 0] dNil (dCons (dCB rTupD (dCons (dVar 7) (dNil))) (dCons (dCB rTupD (dCons (dVar 6) (dNil))) (dNil)))) (dCons (dOp rEqD' (dVar 8) (dF (dLst (dNil)))) (dNil)))))) (dRet (dC (.bl false))) (dNext))))))
  (dSeq (dSet 9 (dCall sp__law_one (dConsC 0 (dCons (dF (dLst (dCons (dC (.int 7)) (dCons (dC (.str "")) (dCons (dC (.str "01")) (dCons (dC .non) (dCons (dOp rRepTD (dTup (dCons (dC .non) (dNil))) (dVar 1)) (dCons (dOp rRepTD (dTup (dCons (dTup (dCons (dC (.int 1)) (dNil))) (dNil))) (dVar 1)) (dCons (dOp rRepTD (dTup (dCons (dC (.str "1")) (dNil))) (dVar 1)) (dCons (dTup (dCons (dC (.int 0)) (dCons (dC (.str "0")) (dNil)))) (dCons (dTup (dCons (dTup (dNil)) (dCons (dC (.int 0)) (dNil)))) (dNil)))))))))))) (dNil)))))
  (dSeq (dIfS (dOr (dNot (dTru (dCall sp__law_said (dCons (dCall sp_is_field (dCons (dVar 9) (dCons (dCB rTupD (dCons (dVar 3) (dNil))) (dNil)))) (dCons (dC (.bl false)) (dNil)))))) (dNot (dTru (dCall sp__law_said (dCons (dCall sp_is_field (dCons (dCB rTupD (dCons (dVar 2) (dNil))) (dCons (dVar 9) (dNil)))) (dCons (dC (.bl false)) (dNil))))))) (dRet (dC (.bl false))) (dNext))
  (dRet (dAndV (dCall sp__law_said (dCons (dCall sp_is_field (dCons (dVar 9) (dCons (dVar 9) (dNil)))) (dCons (dC (.bl false)) (dNil)))) (dCall sp__law_field_is (dCons (dVar 4) (dCons (dVar 2) (dCons (dVar 3) (dNil))))))))))))))
abbrev N__law_right : List Str := ["_law_source", "_law_n", "_law_strengths", "_law_guards", "_law_told", "_law_turn", "_law_low", "_law_high", "_law_due", "_law_odd"]
theorem math__law_right : ∀ xs M P PX, sp__law_right xs M P PX → td__law_right (startS N__law_right xs M) (endE M.length P) (endX M.length PX) := by
  rintro xs M P PX ⟨source1, rfl, rfl, h⟩
  refine start1 false 0 [.own (cL D.int source1), .no, .no, .no, .no, .no, .no, .no, .no, .no] [some 0] rfl (by decide) rfl (fun q => Bool.noConfusion q) ?_
  unfold td__law_right
  unfold m__law_right at h
  refine js_seq ?_
  refine js_set rfl ?_
  refine j_call1 ?_
  refine ja_consC 0 rfl ?_
  refine ja_cons ?_
  refine J.pv (Rv.pv (e := (eL D.int)) (v := [1, 2, 3, 4, 5, 6, 8, 8]) (rv_f (Rv.eq (rv_lstO (e := D.int) (l := [1, 2, 3, 4, 5, 6, 8, 8]) (rl_cons (e := D.int) (Pv.rv (e := D.int) (v := 1) (show Pv _ _ (D.int (1)) from pv_c _)) (rl_cons (e := D.int) (Pv.rv (e := D.int) (v := 2) (show Pv _ _ (D.int (2)) from pv_c _)) (rl_cons (e := D.int) (Pv.rv (e := D.int) (v := 3) (show Pv _ _ (D.int (3)) from pv_c _)) (rl_cons (e := D.int) (Pv.rv (e := D.int) (v := 4) (show Pv _ _ (D.int (4)) from pv_c _)) (rl_cons (e := D.int) (Pv.rv (e := D.int) (v := 5) (show Pv _ _ (D.int (5)) from pv_c _)) (rl_cons (e := D.int) (Pv.rv (e := D.int) (v := 6) (show Pv _ _ (D.int (6)) from pv_c _)) (rl_cons (e := D.int) (Pv.rv (e := D.int) (v := 8) (show Pv _ _ (D.int (8)) from pv_c _)) (rl_cons (e := D.int) (Pv.rv (e := D.int) (v := 8) (show Pv _ _ (D.int (8)) from pv_c _)) rl_nil)))))))) rfl zle) rfl))) ?_
  refine ja_nil ⟨_, _, rfl, rfl, rfl, _, _, _, _, call__law_one_L D.int source1 ([1, 2, 3, 4, 5, 6, 8, 8]), wp_use h (fun q2 h => ⟨(nlf rfl), ?_⟩) (fun _ _ h => fun _ => ⟨_, rfl, h _⟩)⟩
  refine js_midW h (fun (j4 : (List Int) × Int) => [.own (cL D.int j4.1), .dat (D.int j4.2), .no, .no, .no, .no, .no, .no, .no, .no]) (fun h => ?_) (fun j4 h => ?_)
  · as_aux_lemma =>
      refine js_if ?_
      refine jb_t ?_
      refine j_op ?_
      refine j_call1 ?_
      refine ja_consC 0 rfl ?_
      refine ja_cons ?_
      refine J.pv (show Pv _ _ (D.int (20)) from pv_c _) ?_
      refine ja_nil ⟨_, _, rfl, rfl, rfl, _, _, _, _, call__law_take q2.2 20, wp_use h (fun q3 h => ⟨(nlf rfl), ?_⟩) (fun _ _ h => fun _ => ⟨_, rfl, h _⟩)⟩
      refine J.pv (show Pv _ _ (D.int (0)) from pv_c _) ?_
      refine ⟨D.bl (decide (q3.1 = 0)), (ev_eq (eq_I 0) (by decide) q3.1 0), ?_⟩
      refine ⟨decide (q3.1 = 0), rfl, ?_⟩
      refine ite_c h (fun h => ?_) (fun h => ?_)
      · refine js_set rfl ?_
        refine J.pv (show Pv _ _ (D.int (32)) from pv_c _) ?_
        replace h := wp_o h
        exact ⟨(q3.2, 32), (by repeat (first | exact Le.nil | refine Le.keep ?_ | refine Le.drop ?_)), h⟩
      · refine js_next ?_
        replace h := wp_o h
        exact ⟨(q3.2, q2.1), (by repeat (first | exact Le.nil | refine Le.keep ?_ | refine Le.drop ?_)), h⟩
  · as_aux_lemma =>
      refine js_seq ?_
      refine js_par rfl rfl ?_
      refine ja_cons ?_
      refine j_call1 ?_
      refine ja_consC 0 rfl ?_
      refine ja_cons ?_
      refine J.pv (show Pv _ _ (D.int j4.2) from pv_var 1 rfl) ?_
      refine ja_nil ⟨_, _, rfl, rfl, rfl, _, _, _, _, call__law_numbers j4.1 j4.2, wp_use h (fun q5 h => ⟨(nlf rfl), ?_⟩) (fun _ _ h => fun _ => ⟨_, rfl, h _⟩)⟩
      refine ja_cons ?_
      refine j_call1 ?_
      refine ja_consC 0 rfl ?_
      refine ja_cons ?_
      refine J.pv (show Pv _ _ (D.int j4.2) from pv_var 1 rfl) ?_
      refine ja_nil ⟨_, _, rfl, rfl, rfl, _, _, _, _, call__law_numbers q5.2 j4.2, wp_use h (fun q6 h => ⟨(nlf rfl), ?_⟩) (fun _ _ h => fun _ => ⟨_, rfl, h _⟩)⟩
      refine ja_nil ⟨_, _, _, _, rfl, rfl, rfl, ?_⟩
      refine js_seq ?_
      refine js_set rfl ?_
      refine J.use h (rv_call2 (Pv.rv (e := (eT D.int)) (v := q5.1) (Rv.pv (e := (eT D.int)) (v := q5.1) (Rv.eq (rv_cb1 (e := (eT D.int)) (Pv.rv (e := (eL D.int)) (v := q5.1) (show Pv _ _ ((eL D.int) q5.1) from pv_var 2 rfl)) fun v => cb_tupL D.int v) ok_bnd))) (Pv.rv (e := (eT D.int)) (v := q6.1) (Rv.pv (e := (eT D.int)) (v := q6.1) (Rv.eq (rv_cb1 (e := (eT D.int)) (Pv.rv (e := (eL D.int)) (v := q6.1) (show Pv _ _ ((eL D.int) q6.1) from pv_var 3 rfl)) fun v => cb_tupL D.int v) ok_bnd))) fun a0 a1 => call_made_field a0 a1) (by first | (simp only [bnd_bnd, ok_bnd]; done) | rfl) (fun v7 h => ?_) (fun _ _ h => ⟨_, rfl, h _⟩)
      refine js_norm [.own (cL D.int q6.2), .dat (D.int j4.2), .dat ((eL D.int) q5.1), .dat ((eL D.int) q6.1), .dat (eF v7), .no, .no, .no, .no, .no] rfl ?_
      refine js_seq ?_
      refine js_if ?_
      refine J.use h (rb_or (rb_not (Rv.eq (rb_tru (f := fun v => v) (rv_call3 (Pv.rv (e := eF) (v := v7) (show Pv _ _ (eF v7) from pv_var 4 rfl)) (Pv.rv (e := (eL D.int)) (v := q5.1) (show Pv _ _ ((eL D.int) q5.1) from pv_var 2 rfl)) (Pv.rv (e := (eL D.int)) (v := q6.1) (show Pv _ _ ((eL D.int) q6.1) from pv_var 3 rfl)) fun a0 a1 a2 => call__law_field_is a0 a1 a2) fun _ => rfl) bnd_ok)) (rb_not (Rv.eq (rb_tru (f := fun v => v) (rv_call2 (rv_call2 (Pv.rv (e := id) (v := (eT D.int) q5.1) (show Pv _ _ (id ((eT D.int) q5.1)) from (Rv.pv (e := (eT D.int)) (v := q5.1) (Rv.eq (rv_cb1 (e := (eT D.int)) (Pv.rv (e := (eL D.int)) (v := q5.1) (show Pv _ _ ((eL D.int) q5.1) from pv_var 2 rfl)) fun v => cb_tupL D.int v) ok_bnd)))) (Pv.rv (e := id) (v := (eT D.int) q6.1) (show Pv _ _ (id ((eT D.int) q6.1)) from (Rv.pv (e := (eT D.int)) (v := q6.1) (Rv.eq (rv_cb1 (e := (eT D.int)) (Pv.rv (e := (eL D.int)) (v := q6.1) (show Pv _ _ ((eL D.int) q6.1) from pv_var 3 rfl)) fun v => cb_tupL D.int v) ok_bnd)))) fun a0 a1 => call_is_field a0 a1) (Pv.rv (e := D.bl) (v := true) (show Pv _ _ (D.bl true) from pv_c _)) fun a0 a1 => call__law_said a0 a1) fun _ => rfl) bnd_ok))) (by first | (simp only [bnd_bnd, ok_bnd]; done) | rfl) (fun v11 h => ?_) (fun _ _ h => ⟨_, rfl, h _⟩)
      refine ite_c h (fun h => ?_) (fun h => ?_)
      · refine js_ret ?_
        refine J.pv (show Pv _ _ (D.bl false) from pv_c _) ?_
        replace h := wp_o h
        exact ⟨_, rfl, h⟩
      · as_aux_lemma =>
          refine js_next ?_
          refine js_seq ?_
          refine js_for ?_
          refine J.use h (ri_range1 (Pv.rv (e := D.int) (v := 3) (show Pv _ _ (D.int (3)) from pv_c _))) (by first | (simp only [bnd_bnd, ok_bnd]; done) | rfl) (fun xs12 h => ?_) (fun _ _ h => ⟨_, rfl, h _⟩)
          rw [wp_bnd] at h
          refine a_forS D.int (fun (b13 : (List Int)) => [.own (cL D.int b13), .dat (D.int j4.2), .dat ((eL D.int) q5.1), .dat ((eL D.int) q6.1), .dat (eF v7), .no, .no, .no, .no, .no]) (fun (v : Bool × (List Int)) d A' => d = D.bl v.1 ∧ A'[0]? = some (.own (cL D.int v.2))) ?_ ?_ ?_ _ _ _ (by repeat (first | exact Le.nil | refine Le.keep ?_ | refine Le.drop ?_)) h
          · as_aux_lemma =>
              intro b13 x14 Q h
              refine jg_name rfl ?_
              refine js_seq ?_
              refine js_asg ?_
              refine j_call1 ?_
              refine ja_consC 0 rfl ?_
              refine ja_cons ?_
              refine J.pv (show Pv _ _ ((eL D.int) q5.1) from pv_var 2 rfl) ?_
              refine ja_cons ?_
              refine J.pv (show Pv _ _ ((eL D.int) q6.1) from pv_var 3 rfl) ?_
              refine ja_nil ⟨_, _, rfl, rfl, rfl, _, _, _, _, call__law_bent b13 q5.1 q6.1, wp_use h (fun q15 h => ⟨(nlf rfl), ?_⟩) (fun _ _ h => fun _ => ⟨_, rfl, h _⟩)⟩
              refine jg_tup rfl ?_
              refine jgs_cons ?_
              refine jg_name rfl ?_
              refine jgs_cons ?_
              refine jg_name rfl ?_
              refine jgs_nil ?_
              refine js_norm [.own (cL D.int q15.2), .dat (D.int j4.2), .dat ((eL D.int) q5.1), .dat ((eL D.int) q6.1), .dat (eF v7), .dat (D.int x14), .dat ((eL D.int) q15.1.1), .dat ((eL D.int) q15.1.2), .no, .no] rfl ?_
              refine js_seq ?_
              refine js_set rfl ?_
              refine J.use h (rv_call2 (Pv.rv (e := (eL D.int)) (v := q15.1.1) (show Pv _ _ ((eL D.int) q15.1.1) from pv_var 6 rfl)) (Pv.rv (e := (eL D.int)) (v := q15.1.2) (show Pv _ _ ((eL D.int) q15.1.2) from pv_var 7 rfl)) fun a0 a1 => call__law_fault a0 a1) (by first | (simp only [bnd_bnd, ok_bnd]; done) | rfl) (fun v16 h => ?_) (fun _ _ h => ⟨_, rfl, h _⟩)
              refine js_seq ?_
              refine js_if ?_
              refine J.use h (rb_t (rv_rp (e := D.bl) (rv_call2 (Pv.rv (e := (eL D.int)) (v := q15.1.1) (show Pv _ _ ((eL D.int) q15.1.1) from pv_var 6 rfl)) (Pv.rv (e := (eL D.int)) (v := q15.1.2) (show Pv _ _ ((eL D.int) q15.1.2) from pv_var 7 rfl)) fun a0 a1 => call__law_refusal a0 a1) (show Pv _ _ (id v16) from pv_var 8 rfl) fun v17 => (op_neR v17 v16))) (by first | (simp only [bnd_bnd, ok_bnd]; done) | rfl) (fun v18 h => ?_) (fun _ _ h => ⟨_, rfl, h _⟩)
              refine ite_c h (fun h => ?_) (fun h => ?_)
              · refine js_ret ?_
                refine J.pv (show Pv _ _ (D.bl false) from pv_c _) ?_
                replace h := wp_o h
                exact ⟨(false, q15.2), ⟨rfl, rfl⟩, h⟩
              · as_aux_lemma =>
                  refine js_next ?_
                  refine js_norm [.own (cL D.int q15.2), .dat (D.int j4.2), .dat ((eL D.int) q5.1), .dat ((eL D.int) q6.1), .dat (eF v7), .dat (D.int x14), .dat ((eL D.int) q15.1.1), .dat ((eL D.int) q15.1.2), .dat (id v16), .no] rfl ?_
                  refine js_if ?_
                  refine J.use h (rb_not (Rv.eq (rb_tru (f := fun v => v) (rv_call2 (rv_callK0_2_1_0 (m := fun a0 a1 => m_is_field a1 a0) (Pv.rv (e := id) (v := (eT D.int) q15.1.2) (show Pv _ _ (id ((eT D.int) q15.1.2)) from (Rv.pv (e := (eT D.int)) (v := q15.1.2) (Rv.eq (rv_cb1 (e := (eT D.int)) (Pv.rv (e := (eL D.int)) (v := q15.1.2) (show Pv _ _ ((eL D.int) q15.1.2) from pv_var 7 rfl)) fun v => cb_tupL D.int v) ok_bnd)))) (Pv.rv (e := id) (v := (eT D.int) q15.1.1) (show Pv _ _ (id ((eT D.int) q15.1.1)) from (Rv.pv (e := (eT D.int)) (v := q15.1.1) (Rv.eq (rv_cb1 (e := (eT D.int)) (Pv.rv (e := (eL D.int)) (v := q15.1.1) (show Pv _ _ ((eL D.int) q15.1.1) from pv_var 6 rfl)) fun v => cb_tupL D.int v) ok_bnd)))) fun a0 a1 => call_is_field a1 a0) (rv_pp (e := D.bl) (show Pv _ _ (id v16) from pv_var 8 rfl) (show Pv _ _ (id ((eL D.int) ([]))) from (Rv.pv (e := (eL D.int)) (v := []) (rv_f (Rv.eq (rv_l0 (e := D.int)) rfl)))) (op_eqR v16 ((eL D.int) ([])))) fun a0 a1 => call__law_said a0 a1) fun _ => rfl) bnd_ok)) (by first | (simp only [bnd_bnd, ok_bnd]; done) | rfl) (fun v22 h => ?_) (fun _ _ h => ⟨_, rfl, h _⟩)
                  refine ite_c h (fun h => ?_) (fun h => ?_)
                  · refine js_ret ?_
                    refine J.pv (show Pv _ _ (D.bl false) from pv_c _) ?_
                    replace h := wp_o h
                    exact ⟨(false, q15.2), ⟨rfl, rfl⟩, h⟩
                  · refine js_next ?_
                    replace h := wp_o h
                    exact ⟨q15.2, (by repeat (first | exact Le.nil | refine Le.keep ?_ | refine Le.drop ?_)), h⟩
          · as_aux_lemma =>
              intro b23 h
              rw [on_nx] at h
              refine js_norm [.own (cL D.int b23), .dat (D.int j4.2), .dat ((eL D.int) q5.1), .dat ((eL D.int) q6.1), .dat (eF v7), .no, .no, .no, .no, .no] rfl ?_
              refine js_seq ?_
              refine js_set rfl ?_
              refine j_call1 ?_
              refine ja_consC 0 rfl ?_
              refine ja_cons ?_
              refine J.use h (rv_f (rv_lst (rl_cons (e := id) (Pv.rv (e := id) (v := D.int 7) (show Pv _ _ (id (D.int 7)) from (show Pv _ _ (D.int (7)) from pv_c _))) (rl_cons (e := id) (Pv.rv (e := id) (v := eW ((wd ""))) (show Pv _ _ (id (eW ((wd "")))) from (show Pv _ _ (eW (wd "")) from pv_c _))) (rl_cons (e := id) (Pv.rv (e := id) (v := eW ((wd "01"))) (show Pv _ _ (id (eW ((wd "01")))) from (show Pv _ _ (eW (wd "01")) from pv_c _))) (rl_cons (e := id) (Pv.rv (e := id) (v := eN (())) (show Pv _ _ (id (eN (()))) from (show Pv _ _ (eN ()) from pv_c _))) (rl_cons (e := id) (Rv.map (f := fun v24 => (eT eN) v24) (e' := id) (rv_pp (e := (eT eN)) (show Pv _ _ ((eT eN) ([()])) from (Rv.pv (e := (eP1 eN)) (v := ()) (Rv.eq (rv_t1 (Pv.rv (e := eN) (v := ()) (show Pv _ _ (eN ()) from pv_c _))) ok_bnd))) (show Pv _ _ (D.int j4.2) from pv_var 1 rfl) (op_repT' eN ([()]) j4.2)) fun _ => rfl) (rl_cons (e := id) (Rv.map (f := fun v25 => (eT (eP1 D.int)) v25) (e' := id) (rv_pp (e := (eT (eP1 D.int))) (show Pv _ _ ((eT (eP1 D.int)) ([1])) from (Rv.pv (e := (eP1 (eP1 D.int))) (v := 1) (Rv.eq (rv_t1 (Pv.rv (e := (eP1 D.int)) (v := 1) (Rv.pv (e := (eP1 D.int)) (v := 1) (Rv.eq (rv_t1 (Pv.rv (e := D.int) (v := 1) (show Pv _ _ (D.int (1)) from pv_c _))) ok_bnd)))) ok_bnd))) (show Pv _ _ (D.int j4.2) from pv_var 1 rfl) (op_repT' (eP1 D.int) ([1]) j4.2)) fun _ => rfl) (rl_cons (e := id) (Rv.map (f := fun v26 => (eT eW) v26) (e' := id) (rv_pp (e := (eT eW)) (show Pv _ _ ((eT eW) ([(wd "1")])) from (Rv.pv (e := (eP1 eW)) (v := (wd "1")) (Rv.eq (rv_t1 (Pv.rv (e := eW) (v := (wd "1")) (show Pv _ _ (eW (wd "1")) from pv_c _))) ok_bnd))) (show Pv _ _ (D.int j4.2) from pv_var 1 rfl) (op_repT' eW ([(wd "1")]) j4.2)) fun _ => rfl) (rl_cons (e := id) (Pv.rv (e := id) (v := (eP2 D.int eW) ((0, (wd "0")))) (show Pv _ _ (id ((eP2 D.int eW) ((0, (wd "0"))))) from (Rv.pv (e := (eP2 D.int eW)) (v := (0, (wd "0"))) (Rv.eq (rv_t2 (Pv.rv (e := D.int) (v := 0) (show Pv _ _ (D.int (0)) from pv_c _)) (Pv.rv (e := eW) (v := (wd "0")) (show Pv _ _ (eW (wd "0")) from pv_c _))) (ok_bnd.trans ok_bnd))))) (rl_cons (e := id) (Pv.rv (e := id) (v := (eP2 (eT D.int) D.int) ((([] : List Int), 0))) (show Pv _ _ (id ((eP2 (eT D.int) D.int) ((([] : List Int), 0)))) from (Rv.pv (e := (eP2 (eT D.int) D.int)) (v := (([] : List Int), 0)) (Rv.eq (rv_t2 (Pv.rv (e := (eT D.int)) (v := ([] : List Int)) (Rv.pv (e := (eT D.int)) (v := []) rv_t0)) (Pv.rv (e := D.int) (v := 0) (show Pv _ _ (D.int (0)) from pv_c _))) (ok_bnd.trans ok_bnd))))) rl_nil))))))))))) (by first | (simp only [bnd_bnd, ok_bnd]; done) | rfl) (fun v30 h => ?_) (fun _ _ h => ⟨_, rfl, h _⟩)
              refine ja_nil ⟨_, _, rfl, rfl, rfl, _, _, _, _, call__law_one_L id b23 v30, wp_use h (fun q31 h => ⟨(nlf rfl), ?_⟩) (fun _ _ h => fun _ => ⟨_, rfl, h _⟩)⟩
              refine js_seq ?_
              refine js_if ?_
              refine J.use h (rb_or (rb_not (Rv.eq (rb_tru (f := fun v => v) (rv_call2 (rv_call2 (Pv.rv (e := id) (v := q31.1) (show Pv _ _ (id q31.1) from pv_var 9 rfl)) (Pv.rv (e := id) (v := (eT D.int) q6.1) (show Pv _ _ (id ((eT D.int) q6.1)) from (Rv.pv (e := (eT D.int)) (v := q6.1) (Rv.eq (rv_cb1 (e := (eT D.int)) (Pv.rv (e := (eL D.int)) (v := q6.1) (show Pv _ _ ((eL D.int) q6.1) from pv_var 3 rfl)) fun v => cb_tupL D.int v) ok_bnd)))) fun a0 a1 => call_is_field a0 a1) (Pv.rv (e := D.bl) (v := false) (show Pv _ _ (D.bl false) from pv_c _)) fun a0 a1 => call__law_said a0 a1) fun _ => rfl) bnd_ok)) (rb_not (Rv.eq (rb_tru (f := fun v => v) (rv_call2 (rv_call2 (Pv.rv (e := id) (v := (eT D.int) q5.1) (show Pv _ _ (id ((eT D.int) q5.1)) from (Rv.pv (e := (eT D.int)) (v := q5.1) (Rv.eq (rv_cb1 (e := (eT D.int)) (Pv.rv (e := (eL D.int)) (v := q5.1) (show Pv _ _ ((eL D.int) q5.1) from pv_var 2 rfl)) fun v => cb_tupL D.int v) ok_bnd)))) (Pv.rv (e := id) (v := q31.1) (show Pv _ _ (id q31.1) from pv_var 9 rfl)) fun a0 a1 => call_is_field a0 a1) (Pv.rv (e := D.bl) (v := false) (show Pv _ _ (D.bl false) from pv_c _)) fun a0 a1 => call__law_said a0 a1) fun _ => rfl) bnd_ok))) (by first | (simp only [bnd_bnd, ok_bnd]; done) | rfl) (fun v36 h => ?_) (fun _ _ h => ⟨_, rfl, h _⟩)
              refine ite_c h (fun h => ?_) (fun h => ?_)
              · refine js_ret ?_
                refine J.pv (show Pv _ _ (D.bl false) from pv_c _) ?_
                replace h := wp_o h
                exact ⟨_, rfl, h⟩
              · refine js_next ?_
                refine js_norm [.own (cL D.int q31.2), .dat (D.int j4.2), .dat ((eL D.int) q5.1), .dat ((eL D.int) q6.1), .dat (eF v7), .no, .no, .no, .no, .dat (id q31.1)] rfl ?_
                refine js_ret ?_
                refine J.use h (rv_andV (rv_call2 (rv_call2 (Pv.rv (e := id) (v := q31.1) (show Pv _ _ (id q31.1) from pv_var 9 rfl)) (Pv.rv (e := id) (v := q31.1) (show Pv _ _ (id q31.1) from pv_var 9 rfl)) fun a0 a1 => call_is_field a0 a1) (Pv.rv (e := D.bl) (v := false) (show Pv _ _ (D.bl false) from pv_c _)) fun a0 a1 => call__law_said a0 a1) (rv_call3 (Pv.rv (e := eF) (v := v7) (show Pv _ _ (eF v7) from pv_var 4 rfl)) (Pv.rv (e := (eL D.int)) (v := q5.1) (show Pv _ _ ((eL D.int) q5.1) from pv_var 2 rfl)) (Pv.rv (e := (eL D.int)) (v := q6.1) (show Pv _ _ ((eL D.int) q6.1) from pv_var 3 rfl)) fun a0 a1 a2 => call__law_field_is a0 a1 a2)) (by first | (simp only [bnd_bnd, ok_bnd]; done) | rfl) (fun v38 h => ?_) (fun _ _ h => ⟨_, rfl, h _⟩)
                replace h := wp_o h
                exact ⟨_, rfl, h⟩
          · intro v39 d A' hr h
            rw [on_rt] at h
            obtain ⟨hr, hc0⟩ := hr
            subst hr
            replace h := wp_o h
            exact ⟨_, hc0, h⟩
def td_law : TSd :=
  dSeq (dFor (dRange1 (dCons (dCB (r2I fun i j => if j > i then j else i) (dCons (dC (.int 1)) (dCons (dCB (r2I fun i j => if j < i then j else i) (dCons (dCB rLenD (dCons (dVar 0) (dNil))) (dCons (dC (.int 3)) (dNil)))) (dNil)))) (dNil))) (dgName 1) (dIfS (dNot (dTru (dCallNew sp__law_right (dCallF sp__law_pool (dCons (dVar 0) (dCons (dVar 1) (dNil))))))) (dRet (dC (.bl false))) (dNext)))
  (dRet (dC (.bl true)))
abbrev N_law : List Str := ["_law_script", "_law_k"]
theorem math_law : ∀ xs M P PX, sp_law xs M P PX → td_law (startS N_law xs M) (endE M.length P) (endX M.length PX) := by
  rintro xs M P PX ⟨script1, rfl, rfl, h⟩
  refine start0 (ds := [(eFL D.int) script1]) [.dat ((eFL D.int) script1), .no] rfl ?_
  unfold td_law
  unfold m_law at h
  refine js_seq ?_
  refine js_for ?_
  refine J.use h (ri_range1 (Pv.rv (e := D.int) (v := (if ((if 3 < ((script1.length : Int)) then 3 else ((script1.length : Int)))) > 1 then ((if 3 < ((script1.length : Int)) then 3 else ((script1.length : Int)))) else 1)) (Rv.pv (e := D.int) (v := (if ((if 3 < ((script1.length : Int)) then 3 else ((script1.length : Int)))) > 1 then ((if 3 < ((script1.length : Int)) then 3 else ((script1.length : Int)))) else 1)) (Rv.eq (rv_2I (f := fun i j => if j > i then j else i) (Pv.rv (e := D.int) (v := 1) (show Pv _ _ (D.int (1)) from pv_c _)) (Pv.rv (e := D.int) (v := (if 3 < ((script1.length : Int)) then 3 else ((script1.length : Int)))) (Rv.pv (e := D.int) (v := (if 3 < ((script1.length : Int)) then 3 else ((script1.length : Int)))) (Rv.eq (rv_2I (f := fun i j => if j < i then j else i) (Pv.rv (e := D.int) (v := (script1.length : Int)) (Rv.pv (e := D.int) (v := (script1.length : Int)) (Rv.eq (rv_cb1 (e := D.int) (Pv.rv (e := (eFL D.int)) (v := script1) (show Pv _ _ ((eFL D.int) script1) from pv_var 0 rfl)) fun v => cb_lenFL D.int v) ok_bnd))) (Pv.rv (e := D.int) (v := 3) (show Pv _ _ (D.int (3)) from pv_c _))) (ok_bnd.trans ok_bnd))))) (ok_bnd.trans ok_bnd))))) (by first | (simp only [bnd_bnd, ok_bnd]; done) | rfl) (fun xs2 h => ?_) (fun _ _ h => h)
  rw [wp_bnd] at h
  refine a_forS D.int (fun (b3 : Unit) => [.dat ((eFL D.int) script1), .no]) (fun (v : Bool) d A' => d = D.bl v) ?_ ?_ ?_ _ _ _ (by repeat (first | exact Le.nil | refine Le.keep ?_ | refine Le.drop ?_)) h
  · as_aux_lemma =>
      intro b3 x4 Q h
      refine jg_name rfl ?_
      refine js_if ?_
      refine J.use h (rb_not (Rv.eq (rb_tru (f := fun v => v) (rv_callNew (e := D.bl) (ea := D.int) (rv_callF2 (Pv.rv (e := (eFL D.int)) (v := script1) (show Pv _ _ ((eFL D.int) script1) from pv_var 0 rfl)) (Pv.rv (e := D.int) (v := x4) (show Pv _ _ (D.int x4) from pv_var 1 rfl)) (fun a0 a1 => call__law_pool a0 a1) ne__law_pool) fun v5 => call__law_right v5) fun _ => rfl) bnd_ok)) (by first | (simp only [bnd_bnd, ok_bnd]; done) | rfl) (fun v8 h => ?_) (fun _ _ h => h)
      refine ite_c h (fun h => ?_) (fun h => ?_)
      · refine js_ret ?_
        refine J.pv (show Pv _ _ (D.bl false) from pv_c _) ?_
        replace h := wp_o h
        exact ⟨false, rfl, h⟩
      · refine js_next ?_
        replace h := wp_o h
        exact ⟨(), (by repeat (first | exact Le.nil | refine Le.keep ?_ | refine Le.drop ?_)), h⟩
  · intro b9 h
    rw [on_nx] at h
    refine js_ret ?_
    refine J.pv (show Pv _ _ (D.bl true) from pv_c _) ?_
    replace h := wp_o h
    exact h
  · intro v10 d A' hr h
    rw [on_rt] at h
    subst hr
    replace h := wp_o h
    exact h
theorem ok_is_number {P : Program} {w : World} {K : PySem.W.Frag} {mg : Str → Option Value} {base : Heap} {CA : Str → Addr} (T : Txt K mg CA) : FnOk P w K mg base (L2.CX P w) 1 T.f_is_number T.fd_is_number ["value"] (lSp ⟨K, CA, T.TA⟩ sp_is_number) :=
  fn_ok (td := td_is_number) T.F_is_number sc_is_number ⟨K, CA, T.TA⟩ len_is_number (by decide) (fun cdv A outer s H E hr => (dss_one (ds_ret (de_and (de_isT kit_int (by simp) (by rfl) T.z_isinstance (de_var 0 (pv 0)) (pe_bltn (by rfl) T.z_int (by decide +kernel) rfl)) (de_one (de_not (de_isT kit_bool (by simp) (by rfl) T.z_isinstance (de_var 0 (pv 0)) (pe_bltn (by rfl) T.z_bool (by decide +kernel) rfl)))))))) math_is_number
theorem ok_are_numbers {P : Program} {w : World} {K : PySem.W.Frag} {mg : Str → Option Value} {base : Heap} {CA : Str → Addr} (T : Txt K mg CA) (TB_are_numbers : GxR.TabB base mg T.cc_are_numbers T.tt_are_numbers) (G_is_number : FnOk P w K mg base (L2.CX P w) 1 T.f_is_number T.fd_is_number ["value"] (lSp ⟨K, CA, T.TA⟩ sp_is_number)) : FnOk P w K mg base (L2.CX P w) 5 T.f_are_numbers T.fd_are_numbers ["value"] (lSp ⟨K, CA, T.TA⟩ sp_are_numbers) :=
  fn_okC (td := td_are_numbers) T.FC_are_numbers sc_are_numbers ⟨K, CA, T.TA⟩ len_are_numbers (by decide) (fun A outer s H E hr => (dss_one (ds_ret (de_and (de_isT kit_tuple (by simp) (by rfl) T.z_isinstance (de_var 0 (pv 0)) (pe_bltn (by rfl) T.z_tuple (by decide +kernel) rfl)) (de_one (de_allG (k := 0) (own := [("part", 1)]) (ix := [1]) T.mem_are_numbers (hr.mono (by decide)) (by rfl) sc_are_numbers.nd (by rfl) T.z_all TB_are_numbers rfl rfl (by decide +kernel) (by decide +kernel) (blkOk_by (N := ["value", "part"]) (sc := defScope st_are_numbers) (by decide +kernel)) (di_seq (de_var 0 (pv 0))) (fun _ _ _ _ _ _ _ => (dg_name (pg_name (i := 1) sc_are_numbers.nd rfl (by first | exact Or.inl rfl | exact Or.inr rfl)))) (fun _ _ _ _ _ _ _ => (de_call takes0 G_is_number (((hr.mono (by decide : 4 ≤ 4)).in1.in1.deeper _).mono (by decide)) (by rfl) T.g_is_number T.F_is_number.kp T.b_is_number (da_cons (de_var 1 (pv 1)) da_nil))))))))) math_are_numbers
theorem ok_made_field {P : Program} {w : World} {K : PySem.W.Frag} {mg : Str → Option Value} {base : Heap} {CA : Str → Addr} (T : Txt K mg CA) (G_INI : FnOk P w K mg base (L2.CX P w) 1 T.f_ini T.fd_ini ["self", "what"] (spIni K)) (G_FINI : FnOk P w K mg base (L2.CX P w) 1 T.f_fini T.fd_fini ["self", "strengths", "guards"] (spFI K)) : FnOk P w K mg base (L2.CX P w) 3 T.f_made_field T.fd_made_field ["strengths", "guards"] (lSp ⟨K, CA, T.TA⟩ sp_made_field) :=
  fn_ok (td := td_made_field) T.F_made_field sc_made_field ⟨K, CA, T.TA⟩ len_made_field (by decide) (fun cdv A outer s H E hr => (dss_cons (ds_if (dt_not (dt_chain (pt_chain op_le op_le de_int (de_len rfl (by rfl) T.z_len (da_cons (de_var 0 (pv 0)) da_nil)) (de_c (v := .int (32)) (pe_glob (by rfl) T.c_MOST_SIDES ⟨_, rfl⟩) (fun _ _ => by simp only [Rep]))) (fun _ _ _ _ h => lI2b h) (fun _ _ _ _ h => lI2b h))) (dss_one (ds_raise rfl (T.e_er "BadSize" (by decide)) T.ti_ini G_INI (hr.mono (by decide)) T.b_ini rfl (takes_of rfl rfl rfl rfl) (by rfl) T.gC_BadSize (de_len rfl (by rfl) T.z_len (da_cons (de_var 0 (pv 0)) da_nil)) passL)) dss_nil)
  (dss_cons (ds_for (ps_for (passes_of rfl) rfl (di_enum (by rfl) T.z_enumerate (da_cons (de_var 0 (pv 0)) da_nil)) (dg_tup (by rfl) (dgs_cons (dg_name (pg_name (i := 2) sc_made_field.nd rfl (by first | exact Or.inl rfl | exact Or.inr rfl))) (dgs_cons (dg_name (pg_name (i := 3) sc_made_field.nd rfl (by first | exact Or.inl rfl | exact Or.inr rfl))) (dgs_nil (ix := []))))) (dss_one (ds_if (dt_not (dt_chain (pt_chain op_le op_le (de_neg (de_c (v := .int (1000000000)) (pe_glob (by rfl) T.c_MOST ⟨_, rfl⟩) (fun _ _ => by simp only [Rep]))) (de_var 3 (pv 3)) (de_c (v := .int (1000000000)) (pe_glob (by rfl) T.c_MOST ⟨_, rfl⟩) (fun _ _ => by simp only [Rep]))) (fun _ _ _ _ h => lI2b h) (fun _ _ _ _ h => lI2b h))) (dss_one (ds_raise rfl (T.e_er "BadStrength" (by decide)) T.ti_ini G_INI (hr.mono (by decide)) T.b_ini rfl (takes_of rfl rfl rfl rfl) (by rfl) T.gC_BadStrength (de_var 2 (pv 2)) passL)) dss_nil))))
  (dss_cons (ds_if (dt_cmp (op_neD hr.units) (l_ne rfl) (de_len rfl (by rfl) T.z_len (da_cons (de_var 1 (pv 1)) da_nil)) (de_len rfl (by rfl) T.z_len (da_cons (de_var 0 (pv 0)) da_nil)) (nomark _)) (dss_one (ds_raise rfl (T.e_er "Unlike" (by decide)) T.ti_ini G_INI (hr.mono (by decide)) T.b_ini rfl (takes_of rfl rfl rfl rfl) (by rfl) T.gC_Unlike (de_len rfl (by rfl) T.z_len (da_cons (de_var 1 (pv 1)) da_nil)) passL)) dss_nil)
  (dss_cons (ds_for (ps_for (passes_of rfl) rfl (di_enum (by rfl) T.z_enumerate (da_cons (de_var 1 (pv 1)) da_nil)) (dg_tup (by rfl) (dgs_cons (dg_name (pg_name (i := 2) sc_made_field.nd rfl (by first | exact Or.inl rfl | exact Or.inr rfl))) (dgs_cons (dg_name (pg_name (i := 4) sc_made_field.nd rfl (by first | exact Or.inl rfl | exact Or.inr rfl))) (dgs_nil (ix := []))))) (dss_one (ds_if (dt_not (dt_chain (pt_chain op_le op_le (de_neg (de_c (v := .int (1000000000)) (pe_glob (by rfl) T.c_MOST ⟨_, rfl⟩) (fun _ _ => by simp only [Rep]))) (de_var 4 (pv 4)) (de_c (v := .int (1000000000)) (pe_glob (by rfl) T.c_MOST ⟨_, rfl⟩) (fun _ _ => by simp only [Rep]))) (fun _ _ _ _ h => lI2b h) (fun _ _ _ _ h => lI2b h))) (dss_one (ds_raise rfl (T.e_er "BadGuard" (by decide)) T.ti_ini G_INI (hr.mono (by decide)) T.b_ini rfl (takes_of rfl rfl rfl rfl) (by rfl) T.gC_BadGuard (de_var 2 (pv 2)) passL)) dss_nil))))
  (dss_one (ds_ret (de_mkF T.fc_Field G_FINI (hr.mono (by decide)) (by rfl) T.gC_Field T.b_fini passL (da_cons (de_var 0 (pv 0)) (da_cons (de_var 1 (pv 1)) da_nil)))))))))) math_made_field
theorem ok_is_field {P : Program} {w : World} {K : PySem.W.Frag} {mg : Str → Option Value} {base : Heap} {CA : Str → Addr} (T : Txt K mg CA) (G_are_numbers : FnOk P w K mg base (L2.CX P w) 5 T.f_are_numbers T.fd_are_numbers ["value"] (lSp ⟨K, CA, T.TA⟩ sp_are_numbers)) (G_made_field : FnOk P w K mg base (L2.CX P w) 3 T.f_made_field T.fd_made_field ["strengths", "guards"] (lSp ⟨K, CA, T.TA⟩ sp_made_field)) : FnOk P w K mg base (L2.CX P w) 6 T.f_is_field T.fd_is_field ["strengths", "guards"] (lSp ⟨K, CA, T.TA⟩ sp_is_field) :=
  fn_ok (td := td_is_field) T.F_is_field sc_is_field ⟨K, CA, T.TA⟩ len_is_field (by decide) (fun cdv A outer s H E hr => (dss_cons (ds_if (PW.pt (dw_or (dt_not (dt_tru rfl (de_call (takes_of rfl rfl rfl rfl) G_are_numbers (hr.mono (by decide)) (by rfl) T.g_are_numbers T.F_are_numbers.kp T.b_are_numbers (da_cons (de_var 0 (pv 0)) da_nil)))) (dw_or1 (dt_not (dt_tru rfl (de_call (takes_of rfl rfl rfl rfl) G_are_numbers (hr.mono (by decide)) (by rfl) T.g_are_numbers T.F_are_numbers.kp T.b_are_numbers (da_cons (de_var 1 (pv 1)) da_nil))))))) (dss_one (ds_ret de_bl)) dss_nil)
  (dss_cons (ds_try rfl rfl (takes_of rfl rfl rfl rfl) (fun W pn xe tk _ => (dss_one (ds_expr (de_call tk G_made_field (hr.mono (by decide)) (by rfl) T.g_made_field T.F_made_field.kp T.b_made_field (da_cons (de_var 0 (pv 0)) (da_cons (de_var 1 (pv 1)) da_nil)))))) (fun c hc q hq => T.em_er c hc q.2.1 (by simp only [List.mem_cons, List.not_mem_nil, or_false] at hq; subst hq; simp [HC_])) (.un ⟨by rfl, by decide, .inl T.gC_Refused⟩ (fun a oe cls d pn hz hf => suite_ok fun dd c hc ec ed => (dss_one (ds_ret de_bl))) .nil))
  (dss_one (ds_ret de_bl))))) math_is_field
theorem ok__law_pool {P : Program} {w : World} {K : PySem.W.Frag} {mg : Str → Option Value} {base : Heap} {CA : Str → Addr} (T : Txt K mg CA) : FnOk P w K mg base (L2.CX P w) 1 T.f__law_pool T.fd__law_pool ["_law_script", "_law_k"] (lSpF ⟨K, CA, T.TA⟩ sp__law_pool) :=
  fn_okF (td := td__law_pool) T.F__law_pool sc__law_pool ⟨K, CA, T.TA⟩ len__law_pool (by decide) (fun cdv A outer s H E hr => ⟨_, (pss_cons (ds_set (ps_set (i := 2) sc__law_pool.nd rfl (by first | exact Or.inl rfl | exact Or.inr rfl) de_int))
  (pss_cons (ds_if (dt_cmp op_lt (fun _ _ _ _ h => lI2b h) (de_var 1 (pv 1)) (de_len rfl (by rfl) T.z_len (da_cons (de_var 0 (pv 0)) da_nil)) (nomark _)) (dss_one (ds_set (ps_set (i := 2) sc__law_pool.nd rfl (by first | exact Or.inl rfl | exact Or.inr rfl) (de_ix rfl (de_var 0 (pv 0)) (de_var 1 (pv 1)) (fun _ _ => rfl))))) (dss_one (ds_if (dt_tru rfl (de_var 0 (pv 0))) (dss_one (ds_set (ps_set (i := 2) sc__law_pool.nd rfl (by first | exact Or.inl rfl | exact Or.inr rfl) (de_ix rfl (de_var 0 (pv 0)) de_int (fun _ _ => rfl))))) dss_nil)))
  (pss_cons (ds_set (ps_set (i := 3) sc__law_pool.nd rfl (by first | exact Or.inl rfl | exact Or.inr rfl) (de_max2 rfl (by rfl) T.z_max (da_cons (de_intc (by rfl) T.z_int (da_cons (de_var 2 (pv 2)) da_nil)) (da_cons (de_intc (by rfl) T.z_int (da_cons (de_sub (de_neg de_int) (de_var 2 (pv 2))) da_nil)) da_nil)))))
  (pss_cons (ds_set (ps_set (i := 4) sc__law_pool.nd rfl (by first | exact Or.inl rfl | exact Or.inr rfl) (de_mod (de_intc (by rfl) T.z_int (da_cons (de_mul (de_add (de_add (de_add (de_mod (de_intc (by rfl) T.z_int (da_cons (de_var 3 (pv 3)) da_nil)) de_int) (de_mul (de_mul de_int (de_var 1 (pv 1))) (de_var 1 (pv 1)))) (de_mul de_int (de_var 1 (pv 1)))) de_int) de_int) da_nil)) de_int)))
  (pss_one (ps_ret (df_lst (da_cons (de_mul (de_var 3 (pv 3)) (de_intc (by rfl) T.z_int (da_cons (de_cmp op_ge (fun _ _ _ _ h => lI2b h) (de_var 3 (pv 3)) (de_pow de_int de_int) (nomark _)) da_nil))) (da_cons (de_var 4 (pv 4)) da_nil))))))))), (rf_cons (rf_cons (rf_cons (rf_cons rf_ret))))⟩) math__law_pool
theorem ok__law_take {P : Program} {w : World} {K : PySem.W.Frag} {mg : Str → Option Value} {base : Heap} {CA : Str → Addr} (T : Txt K mg CA) : FnOk P w K mg base (L2.CX P w) 1 T.f__law_take T.fd__law_take ["_law_source", "_law_top"] (lSp ⟨K, CA, T.TA⟩ sp__law_take) :=
  fn_ok (td := td__law_take) T.F__law_take sc__law_take ⟨K, CA, T.TA⟩ len__law_take (by decide) (fun cdv A outer s H E hr => (dss_cons (ds_if (dt_cmp op_gt (fun _ _ _ _ h => lI2b h) (de_ixC 0 (pv 0) de_int (fun _ _ => rfl)) de_int (nomark _)) (dss_cons (ds_set (ps_set (i := 2) sc__law_take.nd rfl (by first | exact Or.inl rfl | exact Or.inr rfl) (de_mod (de_intc (by rfl) T.z_int (da_cons (de_ixC 0 (pv 0) de_int (fun _ _ => rfl)) da_nil)) (de_var 1 (pv 1)))))
  (dss_cons (ds_setIx 0 (ps_asg (de_div (de_ixC 0 (pv 0) de_int (fun _ _ => rfl)) (de_var 1 (pv 1))) (pg_sub (pv 0) de_int set_list)))
  (dss_one (ds_ret (de_var 2 (pv 2)))))) dss_nil)
  (dss_cons (ds_setIx 0 (ps_asg (de_mod (de_intc (by rfl) T.z_int (da_cons (de_add (de_mul (de_ixC 0 (pv 0) de_int (fun _ _ => rfl)) de_int) de_int) da_nil)) de_int) (pg_sub (pv 0) de_int set_list)))
  (dss_one (ds_ret (de_mod (de_intc (by rfl) T.z_int (da_cons (de_div (de_mod (de_intc (by rfl) T.z_int (da_cons (de_mul (de_ixC 0 (pv 0) de_int (fun _ _ => rfl)) (de_ixC 0 (pv 0) de_int (fun _ _ => rfl))) da_nil)) de_int) de_int) da_nil)) (de_var 1 (pv 1)))))))) math__law_take
theorem ok__law_one {P : Program} {w : World} {K : PySem.W.Frag} {mg : Str → Option Value} {base : Heap} {CA : Str → Addr} (T : Txt K mg CA) (G__law_take : FnOk P w K mg base (L2.CX P w) 1 T.f__law_take T.fd__law_take ["_law_source", "_law_top"] (lSp ⟨K, CA, T.TA⟩ sp__law_take)) : FnOk P w K mg base (L2.CX P w) 2 T.f__law_one T.fd__law_one ["_law_source", "_law_things"] (lSp ⟨K, CA, T.TA⟩ sp__law_one) :=
  fn_ok (td := td__law_one) T.F__law_one sc__law_one ⟨K, CA, T.TA⟩ len__law_one (by decide) (fun cdv A outer s H E hr => (dss_one (ds_ret (de_ix rfl (de_var 1 (pv 1)) (de_call (takes_of rfl rfl rfl rfl) G__law_take (hr.mono (by decide)) (by rfl) T.g__law_take T.F__law_take.kp T.b__law_take (da_consC 0 (pv 0) (da_cons (de_len rfl (by rfl) T.z_len (da_cons (de_var 1 (pv 1)) da_nil)) da_nil))) (fun _ _ => rfl))))) math__law_one
theorem ok__law_number {P : Program} {w : World} {K : PySem.W.Frag} {mg : Str → Option Value} {base : Heap} {CA : Str → Addr} (T : Txt K mg CA) : FnOk P w K mg base (L2.CX P w) 1 T.f__law_number T.fd__law_number ["_law_thing"] (lSp ⟨K, CA, T.TA⟩ sp__law_number) :=
  fn_ok (td := td__law_number) T.F__law_number sc__law_number ⟨K, CA, T.TA⟩ len__law_number (by decide) (fun cdv A outer s H E hr => (dss_one (ds_ret (de_and (de_isT kit_int (by simp) (by rfl) T.z_isinstance (de_var 0 (pv 0)) (pe_bltn (by rfl) T.z_int (by decide +kernel) rfl)) (de_one (de_not (de_isT kit_bool (by simp) (by rfl) T.z_isinstance (de_var 0 (pv 0)) (pe_bltn (by rfl) T.z_bool (by decide +kernel) rfl)))))))) math__law_number
theorem ok__law_row {P : Program} {w : World} {K : PySem.W.Frag} {mg : Str → Option Value} {base : Heap} {CA : Str → Addr} (T : Txt K mg CA) (G__law_number : FnOk P w K mg base (L2.CX P w) 1 T.f__law_number T.fd__law_number ["_law_thing"] (lSp ⟨K, CA, T.TA⟩ sp__law_number)) : FnOk P w K mg base (L2.CX P w) 2 T.f__law_row T.fd__law_row ["_law_told", "_law_due"] (lSp ⟨K, CA, T.TA⟩ sp__law_row) :=
  fn_ok (td := td__law_row) T.F__law_row sc__law_row ⟨K, CA, T.TA⟩ len__law_row (by decide) (fun cdv A outer s H E hr => (dss_cons (ds_if (PW.pt (dw_or (dt_not (dt_tru rfl (de_isT kit_tuple (by simp) (by rfl) T.z_isinstance (de_var 0 (pv 0)) (pe_bltn (by rfl) T.z_tuple (by decide +kernel) rfl)))) (dw_or1 (dt_cmp (op_neD hr.units) (l_ne rfl) (de_len rfl (by rfl) T.z_len (da_cons (de_var 0 (pv 0)) da_nil)) (de_len rfl (by rfl) T.z_len (da_cons (de_var 1 (pv 1)) da_nil)) (nomark _))))) (dss_one (ds_ret de_bl)) dss_nil)
  (dss_cons (ds_for (ps_for (passes_of rfl) rfl (di_zip (by rfl) T.z_zip (da_cons (de_var 0 (pv 0)) (da_cons (de_var 1 (pv 1)) da_nil))) (dg_tup (by rfl) (dgs_cons (dg_name (pg_name (i := 2) sc__law_row.nd rfl (by first | exact Or.inl rfl | exact Or.inr rfl))) (dgs_cons (dg_name (pg_name (i := 3) sc__law_row.nd rfl (by first | exact Or.inl rfl | exact Or.inr rfl))) (dgs_nil (ix := []))))) (dss_one (ds_if (PW.pt (dw_or (dt_not (dt_tru rfl (de_call (takes_of rfl rfl rfl rfl) G__law_number (hr.mono (by decide)) (by rfl) T.g__law_number T.F__law_number.kp T.b__law_number (da_cons (de_var 2 (pv 2)) da_nil)))) (dw_or1 (dt_cmp (op_neD hr.units) (l_ne rfl) (de_var 2 (pv 2)) (de_var 3 (pv 3)) (nomark _))))) (dss_one (ds_ret de_bl)) dss_nil))))
  (dss_one (ds_ret de_bl))))) math__law_row
theorem ok__law_said {P : Program} {w : World} {K : PySem.W.Frag} {mg : Str → Option Value} {base : Heap} {CA : Str → Addr} (T : Txt K mg CA) : FnOk P w K mg base (L2.CX P w) 1 T.f__law_said T.fd__law_said ["_law_told", "_law_due"] (lSp ⟨K, CA, T.TA⟩ sp__law_said) :=
  fn_ok (td := td__law_said) T.F__law_said sc__law_said ⟨K, CA, T.TA⟩ len__law_said (by decide) (fun cdv A outer s H E hr => (dss_one (ds_ret (de_and (de_isT kit_bool (by simp) (by rfl) T.z_isinstance (de_var 0 (pv 0)) (pe_bltn (by rfl) T.z_bool (by decide +kernel) rfl)) (de_one (de_cmp (op_eqD hr.units) (l_eq rfl) (de_var 0 (pv 0)) (de_var 1 (pv 1)) (nomark _))))))) math__law_said
theorem ok__law_entry {P : Program} {w : World} {K : PySem.W.Frag} {mg : Str → Option Value} {base : Heap} {CA : Str → Addr} (T : Txt K mg CA) (G__law_take : FnOk P w K mg base (L2.CX P w) 1 T.f__law_take T.fd__law_take ["_law_source", "_law_top"] (lSp ⟨K, CA, T.TA⟩ sp__law_take)) : FnOk P w K mg base (L2.CX P w) 2 T.f__law_entry T.fd__law_entry ["_law_source", "_law_top"] (lSp ⟨K, CA, T.TA⟩ sp__law_entry) :=
  fn_ok (td := td__law_entry) T.F__law_entry sc__law_entry ⟨K, CA, T.TA⟩ len__law_entry (by decide) (fun cdv A outer s H E hr => (dss_cons (ds_set (ps_set (i := 2) sc__law_entry.nd rfl (by first | exact Or.inl rfl | exact Or.inr rfl) (de_call (takes_of rfl rfl rfl rfl) G__law_take (hr.mono (by decide)) (by rfl) T.g__law_take T.F__law_take.kp T.b__law_take (da_consC 0 (pv 0) (da_cons (de_var 1 (pv 1)) da_nil)))))
  (dss_one (ds_ret (de_if (dt_cmp (op_eqD hr.units) (l_eq rfl) (de_call (takes_of rfl rfl rfl rfl) G__law_take (hr.mono (by decide)) (by rfl) T.g__law_take T.F__law_take.kp T.b__law_take (da_consC 0 (pv 0) (da_cons de_int da_nil))) de_int (nomark _)) (de_neg (de_var 2 (pv 2))) (de_var 2 (pv 2))))))) math__law_entry
theorem ok__law_numbers {P : Program} {w : World} {K : PySem.W.Frag} {mg : Str → Option Value} {base : Heap} {CA : Str → Addr} (T : Txt K mg CA) (G__law_one : FnOk P w K mg base (L2.CX P w) 2 T.f__law_one T.fd__law_one ["_law_source", "_law_things"] (lSp ⟨K, CA, T.TA⟩ sp__law_one)) (G__law_entry : FnOk P w K mg base (L2.CX P w) 2 T.f__law_entry T.fd__law_entry ["_law_source", "_law_top"] (lSp ⟨K, CA, T.TA⟩ sp__law_entry)) : FnOk P w K mg base (L2.CX P w) 3 T.f__law_numbers T.fd__law_numbers ["_law_source", "_law_n"] (lSp ⟨K, CA, T.TA⟩ sp__law_numbers) :=
  fn_ok (td := td__law_numbers) T.F__law_numbers sc__law_numbers ⟨K, CA, T.TA⟩ len__law_numbers (by decide) (fun cdv A outer s H E hr => (dss_cons (ds_set (ps_set (i := 2) sc__law_numbers.nd rfl (by first | exact Or.inl rfl | exact Or.inr rfl) (de_call (takes_of rfl rfl rfl rfl) G__law_one (hr.mono (by decide)) (by rfl) T.g__law_one T.F__law_one.kp T.b__law_one (da_consC 0 (pv 0) (da_cons (de_f (df_lst (da_cons de_int (da_cons de_int (da_cons de_int (da_cons (de_add (de_pow de_int de_int) de_int) da_nil)))))) da_nil)))))
  (dss_one (ds_ret (de_f (df_lc (pe_lc (own := [("_law_x", 3)]) (by rfl) sc__law_numbers.nd (di_range1 (by rfl) T.z_range (da_cons (de_var 1 (pv 1)) da_nil)) (blkOk_by (N := ["_law_source", "_law_n", "_law_top", "_law_x"]) (sc := defScope st__law_numbers) (by decide +kernel)) (fun _ _ _ _ _ => (dg_name (pg_name (i := 3) sc__law_numbers.nd rfl (by first | exact Or.inl rfl | exact Or.inr rfl)))) (fun _ _ _ _ _ => dts_nil) (fun _ _ _ _ _ => (de_call takes0 G__law_entry (hr.mono (by decide)) (by rfl) T.g__law_entry T.F__law_entry.kp T.b__law_entry (da_consC 0 (pv 0) (da_cons (de_var 2 (pv 2)) da_nil))))))))))) math__law_numbers
theorem ok__law_field_is {P : Program} {w : World} {K : PySem.W.Frag} {mg : Str → Option Value} {base : Heap} {CA : Str → Addr} (T : Txt K mg CA) (G__law_number : FnOk P w K mg base (L2.CX P w) 1 T.f__law_number T.fd__law_number ["_law_thing"] (lSp ⟨K, CA, T.TA⟩ sp__law_number)) (G__law_row : FnOk P w K mg base (L2.CX P w) 2 T.f__law_row T.fd__law_row ["_law_told", "_law_due"] (lSp ⟨K, CA, T.TA⟩ sp__law_row)) : FnOk P w K mg base (L2.CX P w) 3 T.f__law_field_is T.fd__law_field_is ["_law_told", "_law_strengths", "_law_guards"] (lSp ⟨K, CA, T.TA⟩ sp__law_field_is) :=
  fn_ok (td := td__law_field_is) T.F__law_field_is sc__law_field_is ⟨K, CA, T.TA⟩ len__law_field_is (by decide) (fun cdv A outer s H E hr => (dss_cons (ds_if (PW.pt (dw_or (dt_not (dt_tru rfl (de_isO T.iF_Field (by rfl) T.z_isinstance (de_var 0 (pv 0)) (pe_glob (by rfl) T.gC_Field rfl)))) (dw_or (dt_not (dt_tru rfl (de_call (takes_of rfl rfl rfl rfl) G__law_number (hr.mono (by decide)) (by rfl) T.g__law_number T.F__law_number.kp T.b__law_number (da_cons (de_fld T.fc_Field.cl (T.fc_Field.na _ (by simp)) (de_var 0 (pv 0))) da_nil)))) (dw_or1 (dt_cmp (op_neD hr.units) (l_ne rfl) (de_fld T.fc_Field.cl (T.fc_Field.na _ (by simp)) (de_var 0 (pv 0))) (de_len rfl (by rfl) T.z_len (da_cons (de_var 1 (pv 1)) da_nil)) (nomark _)))))) (dss_one (ds_ret de_bl)) dss_nil)
  (dss_one (ds_ret (de_and (de_call (takes_of rfl rfl rfl rfl) G__law_row (hr.mono (by decide)) (by rfl) T.g__law_row T.F__law_row.kp T.b__law_row (da_cons (de_fld T.fc_Field.cl (T.fc_Field.na _ (by simp)) (de_var 0 (pv 0))) (da_cons (de_var 1 (pv 1)) da_nil))) (de_one (de_call (takes_of rfl rfl rfl rfl) G__law_row (hr.mono (by decide)) (by rfl) T.g__law_row T.F__law_row.kp T.b__law_row (da_cons (de_fld T.fc_Field.cl (T.fc_Field.na _ (by simp)) (de_var 0 (pv 0))) (da_cons (de_var 2 (pv 2)) da_nil))))))))) math__law_field_is
theorem ok__law_fault {P : Program} {w : World} {K : PySem.W.Frag} {mg : Str → Option Value} {base : Heap} {CA : Str → Addr} (T : Txt K mg CA) : FnOk P w K mg base (L2.CX P w) 1 T.f__law_fault T.fd__law_fault ["_law_strengths", "_law_guards"] (lSp ⟨K, CA, T.TA⟩ sp__law_fault) :=
  fn_ok (td := td__law_fault) T.F__law_fault sc__law_fault ⟨K, CA, T.TA⟩ len__law_fault (by decide) (fun cdv A outer s H E hr => (dss_cons (ds_if (dt_not (dt_chain (pt_chain op_le op_le de_int (de_len rfl (by rfl) T.z_len (da_cons (de_var 0 (pv 0)) da_nil)) de_int) (fun _ _ _ _ h => lI2b h) (fun _ _ _ _ h => lI2b h))) (dss_one (ds_ret (de_f (df_lst (da_cons de_str (da_cons (de_len rfl (by rfl) T.z_len (da_cons (de_var 0 (pv 0)) da_nil)) da_nil)))))) dss_nil)
  (dss_cons (ds_for (ps_for (passes_of rfl) rfl (di_enum (by rfl) T.z_enumerate (da_cons (de_var 0 (pv 0)) da_nil)) (dg_tup (by rfl) (dgs_cons (dg_name (pg_name (i := 2) sc__law_fault.nd rfl (by first | exact Or.inl rfl | exact Or.inr rfl))) (dgs_cons (dg_name (pg_name (i := 3) sc__law_fault.nd rfl (by first | exact Or.inl rfl | exact Or.inr rfl))) (dgs_nil (ix := []))))) (dss_one (ds_if (dt_not (dt_chain (pt_chain op_le op_le (de_neg (de_pow de_int de_int)) (de_var 3 (pv 3)) (de_pow de_int de_int)) (fun _ _ _ _ h => lI2b h) (fun _ _ _ _ h => lI2b h))) (dss_one (ds_ret (de_f (df_lst (da_cons de_str (da_cons (de_var 2 (pv 2)) da_nil)))))) dss_nil))))
  (dss_cons (ds_if (dt_cmp (op_neD hr.units) (l_ne rfl) (de_len rfl (by rfl) T.z_len (da_cons (de_var 1 (pv 1)) da_nil)) (de_len rfl (by rfl) T.z_len (da_cons (de_var 0 (pv 0)) da_nil)) (nomark _)) (dss_one (ds_ret (de_f (df_lst (da_cons de_str (da_cons (de_len rfl (by rfl) T.z_len (da_cons (de_var 1 (pv 1)) da_nil)) da_nil)))))) dss_nil)
  (dss_cons (ds_for (ps_for (passes_of rfl) rfl (di_enum (by rfl) T.z_enumerate (da_cons (de_var 1 (pv 1)) da_nil)) (dg_tup (by rfl) (dgs_cons (dg_name (pg_name (i := 2) sc__law_fault.nd rfl (by first | exact Or.inl rfl | exact Or.inr rfl))) (dgs_cons (dg_name (pg_name (i := 3) sc__law_fault.nd rfl (by first | exact Or.inl rfl | exact Or.inr rfl))) (dgs_nil (ix := []))))) (dss_one (ds_if (dt_not (dt_chain (pt_chain op_le op_le (de_neg (de_pow de_int de_int)) (de_var 3 (pv 3)) (de_pow de_int de_int)) (fun _ _ _ _ h => lI2b h) (fun _ _ _ _ h => lI2b h))) (dss_one (ds_ret (de_f (df_lst (da_cons de_str (da_cons (de_var 2 (pv 2)) da_nil)))))) dss_nil))))
  (dss_one (ds_ret (de_f (df_lst da_nil))))))))) math__law_fault
theorem ok__law_refusal {P : Program} {w : World} {K : PySem.W.Frag} {mg : Str → Option Value} {base : Heap} {CA : Str → Addr} (T : Txt K mg CA) (G_made_field : FnOk P w K mg base (L2.CX P w) 3 T.f_made_field T.fd_made_field ["strengths", "guards"] (lSp ⟨K, CA, T.TA⟩ sp_made_field)) : FnOk P w K mg base (L2.CX P w) 4 T.f__law_refusal T.fd__law_refusal ["_law_strengths", "_law_guards"] (lSp ⟨K, CA, T.TA⟩ sp__law_refusal) :=
  fn_ok (td := td__law_refusal) T.F__law_refusal sc__law_refusal ⟨K, CA, T.TA⟩ len__law_refusal (by decide) (fun cdv A outer s H E hr => (dss_cons (ds_try rfl rfl (takes_of rfl rfl rfl rfl) (fun W pn xe tk _ => (dss_one (ds_expr (de_callK0 [1, 0] tk G_made_field (hr.mono (by decide)) (by rfl) T.g_made_field T.F_made_field.kp (fun_kb T.F_made_field (pm := [1, 0]) (ks := ["guards", "strengths"]) (ps := ["strengths", "guards"]) (fun _ _ _ _ _ _ us ws hl hl2 => match us, hl, ws, hl2 with | [], _, [_, _], _ => rfl)) (dk_cons (de_tuple (by rfl) T.z_tuple (da_cons (de_var 1 (pv 1)) da_nil)) (dk_cons (de_tuple (by rfl) T.z_tuple (da_cons (de_var 0 (pv 0)) da_nil)) dk_nil)))))) (fun c hc q hq => T.em_er c hc q.2.1 (by simp only [List.mem_cons, List.not_mem_nil, or_false] at hq; rcases hq with rfl | rfl | rfl | rfl | rfl <;> simp [HC_])) (.nm ⟨by rfl, by decide, .inl T.gC_BadSize⟩ sc__law_refusal.nd (by rfl) (by rfl) (fun a oe cls d pn hz hf => suite_ok fun dd c hc ec ed => (dss_one (ds_ret (de_f (df_lst (da_cons de_str (da_cons (de_what 2 (T.e_er c hc) hz hf ec ed (pv 2)) da_nil))))))) (.nm ⟨by rfl, by decide, .inl T.gC_BadStrength⟩ sc__law_refusal.nd (by rfl) (by rfl) (fun a oe cls d pn hz hf => suite_ok fun dd c hc ec ed => (dss_one (ds_ret (de_f (df_lst (da_cons de_str (da_cons (de_what 2 (T.e_er c hc) hz hf ec ed (pv 2)) da_nil))))))) (.nm ⟨by rfl, by decide, .inl T.gC_Unlike⟩ sc__law_refusal.nd (by rfl) (by rfl) (fun a oe cls d pn hz hf => suite_ok fun dd c hc ec ed => (dss_one (ds_ret (de_f (df_lst (da_cons de_str (da_cons (de_what 2 (T.e_er c hc) hz hf ec ed (pv 2)) da_nil))))))) (.nm ⟨by rfl, by decide, .inl T.gC_BadGuard⟩ sc__law_refusal.nd (by rfl) (by rfl) (fun a oe cls d pn hz hf => suite_ok fun dd c hc ec ed => (dss_one (ds_ret (de_f (df_lst (da_cons de_str (da_cons (de_what 2 (T.e_er c hc) hz hf ec ed (pv 2)) da_nil))))))) (.un ⟨by rfl, by decide, .inl T.gC_Refused⟩ (fun a oe cls d pn hz hf => suite_ok fun dd c hc ec ed => (dss_one (ds_ret (de_f (df_lst (da_cons de_str (da_cons de_int da_nil))))))) .nil))))))
  (dss_one (ds_ret (de_f (df_lst da_nil)))))) math__law_refusal
theorem ok__law_beyond {P : Program} {w : World} {K : PySem.W.Frag} {mg : Str → Option Value} {base : Heap} {CA : Str → Addr} (T : Txt K mg CA) (G__law_one : FnOk P w K mg base (L2.CX P w) 2 T.f__law_one T.fd__law_one ["_law_source", "_law_things"] (lSp ⟨K, CA, T.TA⟩ sp__law_one)) (G__law_take : FnOk P w K mg base (L2.CX P w) 1 T.f__law_take T.fd__law_take ["_law_source", "_law_top"] (lSp ⟨K, CA, T.TA⟩ sp__law_take)) : FnOk P w K mg base (L2.CX P w) 3 T.f__law_beyond T.fd__law_beyond ["_law_source"] (lSp ⟨K, CA, T.TA⟩ sp__law_beyond) :=
  fn_ok (td := td__law_beyond) T.F__law_beyond sc__law_beyond ⟨K, CA, T.TA⟩ len__law_beyond (by decide) (fun cdv A outer s H E hr => (dss_cons (ds_set (ps_set (i := 1) sc__law_beyond.nd rfl (by first | exact Or.inl rfl | exact Or.inr rfl) (de_add (de_pow de_int de_int) (de_call (takes_of rfl rfl rfl rfl) G__law_one (hr.mono (by decide)) (by rfl) T.g__law_one T.F__law_one.kp T.b__law_one (da_consC 0 (pv 0) (da_cons (de_f (df_lst (da_cons de_int (da_cons de_int (da_cons (de_add de_int (de_call (takes_of rfl rfl rfl rfl) G__law_take (hr.mono (by decide)) (by rfl) T.g__law_take T.F__law_take.kp T.b__law_take (da_consC 0 (pv 0) (da_cons (de_pow de_int de_int) da_nil)))) (da_cons (de_pow de_int de_int) da_nil)))))) da_nil))))))
  (dss_one (ds_ret (de_if (dt_cmp (op_eqD hr.units) (l_eq rfl) (de_call (takes_of rfl rfl rfl rfl) G__law_take (hr.mono (by decide)) (by rfl) T.g__law_take T.F__law_take.kp T.b__law_take (da_consC 0 (pv 0) (da_cons de_int da_nil))) de_int (nomark _)) (de_neg (de_var 1 (pv 1))) (de_var 1 (pv 1))))))) math__law_beyond
theorem ok__law_bent {P : Program} {w : World} {K : PySem.W.Frag} {mg : Str → Option Value} {base : Heap} {CA : Str → Addr} (T : Txt K mg CA) (G__law_take : FnOk P w K mg base (L2.CX P w) 1 T.f__law_take T.fd__law_take ["_law_source", "_law_top"] (lSp ⟨K, CA, T.TA⟩ sp__law_take)) (G__law_beyond : FnOk P w K mg base (L2.CX P w) 3 T.f__law_beyond T.fd__law_beyond ["_law_source"] (lSp ⟨K, CA, T.TA⟩ sp__law_beyond)) (G__law_one : FnOk P w K mg base (L2.CX P w) 2 T.f__law_one T.fd__law_one ["_law_source", "_law_things"] (lSp ⟨K, CA, T.TA⟩ sp__law_one)) : FnOk P w K mg base (L2.CX P w) 4 T.f__law_bent T.fd__law_bent ["_law_source", "_law_strengths", "_law_guards"] (lSp ⟨K, CA, T.TA⟩ sp__law_bent) :=
  fn_ok (td := td__law_bent) T.F__law_bent sc__law_bent ⟨K, CA, T.TA⟩ len__law_bent (by decide) (fun cdv A outer s H E hr => (dss_cons (ds_parG (ps_par (i := 3) (j := 4) (by rfl) sc__law_bent.nd rfl rfl (by decide) rfl rfl (dag_consF (df_slice (de_var 1 (pv 1)) do_none do_none) (dag_consF (df_slice (de_var 2 (pv 2)) do_none do_none) dag_nil)) (by rfl)))
  (dss_cons (ds_if (dt_cmp (op_eqD hr.units) (l_eq rfl) (de_call (takes_of rfl rfl rfl rfl) G__law_take (hr.mono (by decide)) (by rfl) T.g__law_take T.F__law_take.kp T.b__law_take (da_consC 0 (pv 0) (da_cons de_int da_nil))) de_int (nomark _)) (dss_one (ds_setIx 3 (ps_asg (de_call (takes_of rfl rfl rfl rfl) G__law_beyond (hr.mono (by decide)) (by rfl) T.g__law_beyond T.F__law_beyond.kp T.b__law_beyond (da_consC 0 (pv 0) da_nil)) (pg_sub (pv 3) (de_call (takes_of rfl rfl rfl rfl) G__law_take (hr.mono (by decide)) (by rfl) T.g__law_take T.F__law_take.kp T.b__law_take (da_consC 0 (pv 0) (da_cons (de_len rfl (by rfl) T.z_len (da_consC 3 (pv 3) da_nil)) da_nil))) set_list)))) dss_nil)
  (dss_freeze 3 (dss_cons (ds_if (dt_cmp (op_eqD hr.units) (l_eq rfl) (de_call (takes_of rfl rfl rfl rfl) G__law_take (hr.mono (by decide)) (by rfl) T.g__law_take T.F__law_take.kp T.b__law_take (da_consC 0 (pv 0) (da_cons de_int da_nil))) de_int (nomark _)) (dss_one (ds_setIx 4 (ps_asg (de_call (takes_of rfl rfl rfl rfl) G__law_beyond (hr.mono (by decide)) (by rfl) T.g__law_beyond T.F__law_beyond.kp T.b__law_beyond (da_consC 0 (pv 0) da_nil)) (pg_sub (pv 4) (de_call (takes_of rfl rfl rfl rfl) G__law_take (hr.mono (by decide)) (by rfl) T.g__law_take T.F__law_take.kp T.b__law_take (da_consC 0 (pv 0) (da_cons (de_len rfl (by rfl) T.z_len (da_consC 4 (pv 4) da_nil)) da_nil))) set_list)))) dss_nil)
  (dss_freeze 4 (dss_cons (ds_if (dt_cmp (op_eqD hr.units) (l_eq rfl) (de_call (takes_of rfl rfl rfl rfl) G__law_take (hr.mono (by decide)) (by rfl) T.g__law_take T.F__law_take.kp T.b__law_take (da_consC 0 (pv 0) (da_cons de_int da_nil))) de_int (nomark _)) (dss_one (ds_set (ps_set (i := 4) sc__law_bent.nd rfl (by first | exact Or.inl rfl | exact Or.inr rfl) (de_call (takes_of rfl rfl rfl rfl) G__law_one (hr.mono (by decide)) (by rfl) T.g__law_one T.F__law_one.kp T.b__law_one (da_consC 0 (pv 0) (da_cons (de_f (df_lst (da_cons (de_slice (de_var 4 (pv 4)) (do_some de_int) do_none) (da_cons (de_add (de_var 4 (pv 4)) (de_f (df_lst (da_cons de_int da_nil)))) (da_cons (de_f (df_lst da_nil)) (da_cons (de_add (de_var 4 (pv 4)) (de_var 4 (pv 4))) (da_cons (de_mul (de_f (df_lst (da_cons de_int da_nil))) de_int) da_nil))))))) da_nil)))))) dss_nil)
  (dss_cons (ds_if (dt_cmp (op_eqD hr.units) (l_eq rfl) (de_call (takes_of rfl rfl rfl rfl) G__law_take (hr.mono (by decide)) (by rfl) T.g__law_take T.F__law_take.kp T.b__law_take (da_consC 0 (pv 0) (da_cons de_int da_nil))) de_int (nomark _)) (dss_one (ds_set (ps_set (i := 3) sc__law_bent.nd rfl (by first | exact Or.inl rfl | exact Or.inr rfl) (de_call (takes_of rfl rfl rfl rfl) G__law_one (hr.mono (by decide)) (by rfl) T.g__law_one T.F__law_one.kp T.b__law_one (da_consC 0 (pv 0) (da_cons (de_f (df_lst (da_cons (de_f (df_lst da_nil)) (da_cons (de_mul (de_f (df_lst (da_cons de_int da_nil))) de_int) (da_cons (de_mul (de_f (df_lst (da_cons (de_pow de_int de_int) da_nil))) de_int) (da_cons (de_mul (de_var 3 (pv 3)) de_int) da_nil)))))) da_nil)))))) dss_nil)
  (dss_one (ds_ret (de_tup (da_cons (de_var 3 (pv 3)) (da_cons (de_var 4 (pv 4)) da_nil))))))))))))) math__law_bent
theorem ok__law_right {P : Program} {w : World} {K : PySem.W.Frag} {mg : Str → Option Value} {base : Heap} {CA : Str → Addr} (T : Txt K mg CA) (G__law_one : FnOk P w K mg base (L2.CX P w) 2 T.f__law_one T.fd__law_one ["_law_source", "_law_things"] (lSp ⟨K, CA, T.TA⟩ sp__law_one)) (G__law_take : FnOk P w K mg base (L2.CX P w) 1 T.f__law_take T.fd__law_take ["_law_source", "_law_top"] (lSp ⟨K, CA, T.TA⟩ sp__law_take)) (G__law_numbers : FnOk P w K mg base (L2.CX P w) 3 T.f__law_numbers T.fd__law_numbers ["_law_source", "_law_n"] (lSp ⟨K, CA, T.TA⟩ sp__law_numbers)) (G_made_field : FnOk P w K mg base (L2.CX P w) 3 T.f_made_field T.fd_made_field ["strengths", "guards"] (lSp ⟨K, CA, T.TA⟩ sp_made_field)) (G__law_field_is : FnOk P w K mg base (L2.CX P w) 3 T.f__law_field_is T.fd__law_field_is ["_law_told", "_law_strengths", "_law_guards"] (lSp ⟨K, CA, T.TA⟩ sp__law_field_is)) (G__law_said : FnOk P w K mg base (L2.CX P w) 1 T.f__law_said T.fd__law_said ["_law_told", "_law_due"] (lSp ⟨K, CA, T.TA⟩ sp__law_said)) (G_is_field : FnOk P w K mg base (L2.CX P w) 6 T.f_is_field T.fd_is_field ["strengths", "guards"] (lSp ⟨K, CA, T.TA⟩ sp_is_field)) (G__law_bent : FnOk P w K mg base (L2.CX P w) 4 T.f__law_bent T.fd__law_bent ["_law_source", "_law_strengths", "_law_guards"] (lSp ⟨K, CA, T.TA⟩ sp__law_bent)) (G__law_fault : FnOk P w K mg base (L2.CX P w) 1 T.f__law_fault T.fd__law_fault ["_law_strengths", "_law_guards"] (lSp ⟨K, CA, T.TA⟩ sp__law_fault)) (G__law_refusal : FnOk P w K mg base (L2.CX P w) 4 T.f__law_refusal T.fd__law_refusal ["_law_strengths", "_law_guards"] (lSp ⟨K, CA, T.TA⟩ sp__law_refusal)) : FnOk P w K mg base (L2.CX P w) 7 T.f__law_right T.fd__law_right ["_law_source"] (lSp ⟨K, CA, T.TA⟩ sp__law_right) :=
  fn_ok (td := td__law_right) T.F__law_right sc__law_right ⟨K, CA, T.TA⟩ len__law_right (by decide) (fun cdv A outer s H E hr => (dss_cons (ds_set (ps_set (i := 1) sc__law_right.nd rfl (by first | exact Or.inl rfl | exact Or.inr rfl) (de_call (takes_of rfl rfl rfl rfl) G__law_one (hr.mono (by decide)) (by rfl) T.g__law_one T.F__law_one.kp T.b__law_one (da_consC 0 (pv 0) (da_cons (de_f (df_lst (da_cons de_int (da_cons de_int (da_cons de_int (da_cons de_int (da_cons de_int (da_cons de_int (da_cons de_int (da_cons de_int da_nil)))))))))) da_nil)))))
  (dss_cons (ds_if (dt_cmp (op_eqD hr.units) (l_eq rfl) (de_call (takes_of rfl rfl rfl rfl) G__law_take (hr.mono (by decide)) (by rfl) T.g__law_take T.F__law_take.kp T.b__law_take (da_consC 0 (pv 0) (da_cons de_int da_nil))) de_int (nomark _)) (dss_one (ds_set (ps_set (i := 1) sc__law_right.nd rfl (by first | exact Or.inl rfl | exact Or.inr rfl) de_int))) dss_nil)
  (dss_cons (ds_parG (ps_par (i := 2) (j := 3) (by rfl) sc__law_right.nd rfl rfl (by decide) rfl rfl (dag_cons (de_call (takes_of rfl rfl rfl rfl) G__law_numbers (hr.mono (by decide)) (by rfl) T.g__law_numbers T.F__law_numbers.kp T.b__law_numbers (da_consC 0 (pv 0) (da_cons (de_var 1 (pv 1)) da_nil))) (dag_cons (de_call (takes_of rfl rfl rfl rfl) G__law_numbers (hr.mono (by decide)) (by rfl) T.g__law_numbers T.F__law_numbers.kp T.b__law_numbers (da_consC 0 (pv 0) (da_cons (de_var 1 (pv 1)) da_nil))) dag_nil)) (by rfl)))
  (dss_cons (ds_set (ps_set (i := 4) sc__law_right.nd rfl (by first | exact Or.inl rfl | exact Or.inr rfl) (de_call (takes_of rfl rfl rfl rfl) G_made_field (hr.mono (by decide)) (by rfl) T.g_made_field T.F_made_field.kp T.b_made_field (da_cons (de_tuple (by rfl) T.z_tuple (da_cons (de_var 2 (pv 2)) da_nil)) (da_cons (de_tuple (by rfl) T.z_tuple (da_cons (de_var 3 (pv 3)) da_nil)) da_nil)))))
  (dss_cons (ds_if (PW.pt (dw_or (dt_not (dt_tru rfl (de_call (takes_of rfl rfl rfl rfl) G__law_field_is (hr.mono (by decide)) (by rfl) T.g__law_field_is T.F__law_field_is.kp T.b__law_field_is (da_cons (de_var 4 (pv 4)) (da_cons (de_var 2 (pv 2)) (da_cons (de_var 3 (pv 3)) da_nil)))))) (dw_or1 (dt_not (dt_tru rfl (de_call (takes_of rfl rfl rfl rfl) G__law_said (hr.mono (by decide)) (by rfl) T.g__law_said T.F__law_said.kp T.b__law_said (da_cons (de_call (takes_of rfl rfl rfl rfl) G_is_field (hr.mono (by decide)) (by rfl) T.g_is_field T.F_is_field.kp T.b_is_field (da_cons (de_tuple (by rfl) T.z_tuple (da_cons (de_var 2 (pv 2)) da_nil)) (da_cons (de_tuple (by rfl) T.z_tuple (da_cons (de_var 3 (pv 3)) da_nil)) da_nil))) (da_cons de_bl da_nil)))))))) (dss_one (ds_ret de_bl)) dss_nil)
  (dss_cons (ds_for (ps_for (passes_of rfl) rfl (di_range1 (by rfl) T.z_range (da_cons de_int da_nil)) (dg_name (pg_name (i := 5) sc__law_right.nd rfl (by first | exact Or.inl rfl | exact Or.inr rfl))) (dss_cons (ds_asg (ps_asg (de_call (takes_of rfl rfl rfl rfl) G__law_bent (hr.mono (by decide)) (by rfl) T.g__law_bent T.F__law_bent.kp T.b__law_bent (da_consC 0 (pv 0) (da_cons (de_var 2 (pv 2)) (da_cons (de_var 3 (pv 3)) da_nil)))) (dg_tup (by rfl) (dgs_cons (dg_name (pg_name (i := 6) sc__law_right.nd rfl (by first | exact Or.inl rfl | exact Or.inr rfl))) (dgs_cons (dg_name (pg_name (i := 7) sc__law_right.nd rfl (by first | exact Or.inl rfl | exact Or.inr rfl))) (dgs_nil (ix := [])))))))
  (dss_cons (ds_set (ps_set (i := 8) sc__law_right.nd rfl (by first | exact Or.inl rfl | exact Or.inr rfl) (de_call (takes_of rfl rfl rfl rfl) G__law_fault (hr.mono (by decide)) (by rfl) T.g__law_fault T.F__law_fault.kp T.b__law_fault (da_cons (de_var 6 (pv 6)) (da_cons (de_var 7 (pv 7)) da_nil)))))
  (dss_cons (ds_if (dt_cmp (op_neD hr.units) (l_ne rfl) (de_call (takes_of rfl rfl rfl rfl) G__law_refusal (hr.mono (by decide)) (by rfl) T.g__law_refusal T.F__law_refusal.kp T.b__law_refusal (da_cons (de_var 6 (pv 6)) (da_cons (de_var 7 (pv 7)) da_nil))) (de_var 8 (pv 8)) (nomark _)) (dss_one (ds_ret de_bl)) dss_nil)
  (dss_one (ds_if (dt_not (dt_tru rfl (de_call (takes_of rfl rfl rfl rfl) G__law_said (hr.mono (by decide)) (by rfl) T.g__law_said T.F__law_said.kp T.b__law_said (da_cons (de_callK0 [1, 0] (takes_of rfl rfl rfl rfl) G_is_field (hr.mono (by decide)) (by rfl) T.g_is_field T.F_is_field.kp (fun_kb T.F_is_field (pm := [1, 0]) (ks := ["guards", "strengths"]) (ps := ["strengths", "guards"]) (fun _ _ _ _ _ _ us ws hl hl2 => match us, hl, ws, hl2 with | [], _, [_, _], _ => rfl)) (dk_cons (de_tuple (by rfl) T.z_tuple (da_cons (de_var 7 (pv 7)) da_nil)) (dk_cons (de_tuple (by rfl) T.z_tuple (da_cons (de_var 6 (pv 6)) da_nil)) dk_nil))) (da_cons (de_cmp (op_eqD hr.units) (l_eq rfl) (de_var 8 (pv 8)) (de_f (df_lst da_nil)) (nomark _)) da_nil))))) (dss_one (ds_ret de_bl)) dss_nil)))))))
  (dss_cons (ds_set (ps_set (i := 9) sc__law_right.nd rfl (by first | exact Or.inl rfl | exact Or.inr rfl) (de_call (takes_of rfl rfl rfl rfl) G__law_one (hr.mono (by decide)) (by rfl) T.g__law_one T.F__law_one.kp T.b__law_one (da_consC 0 (pv 0) (da_cons (de_f (df_lst (da_cons de_int (da_cons de_str (da_cons de_str (da_cons de_non (da_cons (de_mulT (de_tup (da_cons de_non da_nil)) (de_var 1 (pv 1))) (da_cons (de_mulT (de_tup (da_cons (de_tup (da_cons de_int da_nil)) da_nil)) (de_var 1 (pv 1))) (da_cons (de_mulT (de_tup (da_cons de_str da_nil)) (de_var 1 (pv 1))) (da_cons (de_tup (da_cons de_int (da_cons de_str da_nil))) (da_cons (de_tup (da_cons (de_tup da_nil) (da_cons de_int da_nil))) da_nil))))))))))) da_nil)))))
  (dss_cons (ds_if (PW.pt (dw_or (dt_not (dt_tru rfl (de_call (takes_of rfl rfl rfl rfl) G__law_said (hr.mono (by decide)) (by rfl) T.g__law_said T.F__law_said.kp T.b__law_said (da_cons (de_call (takes_of rfl rfl rfl rfl) G_is_field (hr.mono (by decide)) (by rfl) T.g_is_field T.F_is_field.kp T.b_is_field (da_cons (de_var 9 (pv 9)) (da_cons (de_tuple (by rfl) T.z_tuple (da_cons (de_var 3 (pv 3)) da_nil)) da_nil))) (da_cons de_bl da_nil))))) (dw_or1 (dt_not (dt_tru rfl (de_call (takes_of rfl rfl rfl rfl) G__law_said (hr.mono (by decide)) (by rfl) T.g__law_said T.F__law_said.kp T.b__law_said (da_cons (de_call (takes_of rfl rfl rfl rfl) G_is_field (hr.mono (by decide)) (by rfl) T.g_is_field T.F_is_field.kp T.b_is_field (da_cons (de_tuple (by rfl) T.z_tuple (da_cons (de_var 2 (pv 2)) da_nil)) (da_cons (de_var 9 (pv 9)) da_nil))) (da_cons de_bl da_nil)))))))) (dss_one (ds_ret de_bl)) dss_nil)
  (dss_one (ds_ret (de_and (de_call (takes_of rfl rfl rfl rfl) G__law_said (hr.mono (by decide)) (by rfl) T.g__law_said T.F__law_said.kp T.b__law_said (da_cons (de_call (takes_of rfl rfl rfl rfl) G_is_field (hr.mono (by decide)) (by rfl) T.g_is_field T.F_is_field.kp T.b_is_field (da_cons (de_var 9 (pv 9)) (da_cons (de_var 9 (pv 9)) da_nil))) (da_cons de_bl da_nil))) (de_one (de_call (takes_of rfl rfl rfl rfl) G__law_field_is (hr.mono (by decide)) (by rfl) T.g__law_field_is T.F__law_field_is.kp T.b__law_field_is (da_cons (de_var 4 (pv 4)) (da_cons (de_var 2 (pv 2)) (da_cons (de_var 3 (pv 3)) da_nil))))))))))))))))) math__law_right
theorem ok_law {P : Program} {w : World} {K : PySem.W.Frag} {mg : Str → Option Value} {base : Heap} {CA : Str → Addr} (T : Txt K mg CA) (G__law_right : FnOk P w K mg base (L2.CX P w) 7 T.f__law_right T.fd__law_right ["_law_source"] (lSp ⟨K, CA, T.TA⟩ sp__law_right)) (G__law_pool : FnOk P w K mg base (L2.CX P w) 1 T.f__law_pool T.fd__law_pool ["_law_script", "_law_k"] (lSpF ⟨K, CA, T.TA⟩ sp__law_pool)) : FnOk P w K mg base (L2.CX P w) 8 T.f_law T.fd_law ["_law_script"] (lSp ⟨K, CA, T.TA⟩ sp_law) :=
  fn_ok (td := td_law) T.F_law sc_law ⟨K, CA, T.TA⟩ len_law (by decide) (fun cdv A outer s H E hr => (dss_cons (ds_for (ps_for (passes_of rfl) rfl (di_range1 (by rfl) T.z_range (da_cons (de_max2 rfl (by rfl) T.z_max (da_cons de_int (da_cons (de_min2 rfl (by rfl) T.z_min (da_cons (de_len rfl (by rfl) T.z_len (da_cons (de_var 0 (pv 0)) da_nil)) (da_cons de_int da_nil))) da_nil))) da_nil)) (dg_name (pg_name (i := 1) sc_law.nd rfl (by first | exact Or.inl rfl | exact Or.inr rfl))) (dss_one (ds_if (dt_not (dt_tru rfl (de_callNew (takes_of rfl rfl rfl rfl) G__law_right (hr.mono (by decide)) (by rfl) T.g__law_right T.F__law_right.kp T.b__law_right (df_call (takes_of rfl rfl rfl rfl) G__law_pool (hr.mono (by decide)) (by rfl) T.g__law_pool T.F__law_pool.kp T.b__law_pool (da_cons (de_var 0 (pv 0)) (da_cons (de_var 1 (pv 1)) da_nil)))))) (dss_one (ds_ret de_bl)) dss_nil))))
  (dss_one (ds_ret de_bl)))) math_law
theorem all_mk {l : PySem.W.OpenLaw} {w : World} {K : PySem.W.Frag} {h : Heap} {mg : Str → Option Value} {fa : Addr} {f_is_number f_are_numbers f_made_field f_is_field f__law_pool f__law_take f__law_one f__law_number f__law_row f__law_said f__law_entry f__law_numbers f__law_field_is f__law_fault f__law_refusal f__law_beyond f__law_bent f__law_right f_law cc_are_numbers : Addr} {q : Program} {lo : List Str} {mean : ExcName → Option Value} {mb : Str → Option Value} (TOP : PyProof.Rows.Top q lo mean mg mb h) (X : K.In h) (G : h.Ns mainGlobals mg) (hfa : mg "law" = some (.ref fa))
    {od_is_number an_is_number od_are_numbers an_are_numbers od_made_field an_made_field od_is_field an_is_field od__law_pool an__law_pool od__law_take an__law_take od__law_one an__law_one od__law_number an__law_number od__law_row an__law_row od__law_said an__law_said od__law_entry an__law_entry od__law_numbers an__law_numbers od__law_field_is an__law_field_is od__law_fault an__law_fault od__law_refusal an__law_refusal od__law_beyond an__law_beyond od__law_bent an__law_bent od__law_right an__law_right od_law an_law : Option Addr} {sl_is_number sl_are_numbers sl_made_field sl_is_field sl__law_pool sl__law_take sl__law_one sl__law_number sl__law_row sl__law_said sl__law_entry sl__law_numbers sl__law_field_is sl__law_fault sl__law_refusal sl__law_beyond sl__law_bent sl__law_right sl_law : Array (Option Value)} {oc_is_number kV_is_number dc_is_number pm_is_number cd_is_number ct_is_number oc_are_numbers kV_are_numbers dc_are_numbers pm_are_numbers ct_are_numbers oc_made_field kV_made_field dc_made_field pm_made_field cd_made_field ct_made_field oc_is_field kV_is_field dc_is_field pm_is_field cd_is_field ct_is_field oc__law_pool kV__law_pool dc__law_pool pm__law_pool cd__law_pool ct__law_pool oc__law_take kV__law_take dc__law_take pm__law_take cd__law_take ct__law_take oc__law_one kV__law_one dc__law_one pm__law_one cd__law_one ct__law_one oc__law_number kV__law_number dc__law_number pm__law_number cd__law_number ct__law_number oc__law_row kV__law_row dc__law_row pm__law_row cd__law_row ct__law_row oc__law_said kV__law_said dc__law_said pm__law_said cd__law_said ct__law_said oc__law_entry kV__law_entry dc__law_entry pm__law_entry cd__law_entry ct__law_entry oc__law_numbers kV__law_numbers dc__law_numbers pm__law_numbers cd__law_numbers ct__law_numbers oc__law_field_is kV__law_field_is dc__law_field_is pm__law_field_is cd__law_field_is ct__law_field_is oc__law_fault kV__law_fault dc__law_fault pm__law_fault cd__law_fault ct__law_fault oc__law_refusal kV__law_refusal dc__law_refusal pm__law_refusal cd__law_refusal ct__law_refusal oc__law_beyond kV__law_beyond dc__law_beyond pm__law_beyond cd__law_beyond ct__law_beyond oc__law_bent kV__law_bent dc__law_bent pm__law_bent cd__law_bent ct__law_bent oc__law_right kV__law_right dc__law_right pm__law_right cd__law_right ct__law_right oc_law kV_law dc_law pm_law cd_law ct_law : Value}
    {t_MOST t_MOST_SIDES : Tok}
    {f_ini C_Refused C_BadSize C_BadStrength C_BadGuard C_Unlike : Addr} {od_ini an_ini : Option Addr} {sl_ini : Array (Option Value)} {oc_ini kV_ini dc_ini pm_ini cd_ini ct_ini : Value}
    {nm_BadSize qn_BadSize : Str} {N_BadSize : Addr} {bs_BadSize bm_BadSize : List Value} {sn_BadSize : List Str} {sub_BadSize : List Value} {ab_BadSize : Bool} {col_BadSize : Option Bool} {dd_BadSize : Option Addr} {m0_BadSize m1_BadSize m2_BadSize m3_BadSize m5_BadSize : Option Value}
    {nm_Unlike qn_Unlike : Str} {N_Unlike : Addr} {bs_Unlike bm_Unlike : List Value} {sn_Unlike : List Str} {sub_Unlike : List Value} {ab_Unlike : Bool} {col_Unlike : Option Bool} {dd_Unlike : Option Addr} {m0_Unlike m1_Unlike m2_Unlike m3_Unlike m5_Unlike : Option Value}
    {nm_BadStrength qn_BadStrength : Str} {N_BadStrength : Addr} {bs_BadStrength bm_BadStrength : List Value} {sn_BadStrength : List Str} {sub_BadStrength : List Value} {ab_BadStrength : Bool} {col_BadStrength : Option Bool} {dd_BadStrength : Option Addr} {m0_BadStrength m1_BadStrength m2_BadStrength m3_BadStrength m5_BadStrength : Option Value}
    {nm_BadGuard qn_BadGuard : Str} {N_BadGuard : Addr} {bs_BadGuard bm_BadGuard : List Value} {sn_BadGuard : List Str} {sub_BadGuard : List Value} {ab_BadGuard : Bool} {col_BadGuard : Option Bool} {dd_BadGuard : Option Addr} {m0_BadGuard m1_BadGuard m2_BadGuard m3_BadGuard m5_BadGuard : Option Value}
    (l_ini : K.lookup f_ini = some ⟨oc_ini, od_ini, .func (PySem.W.fnOf "__init__" "Refused.__init__" (defArgs st_ini) (defBody st_ini) (defScope st_ini) .none kV_ini dc_ini pm_ini an_ini cd_ini ct_ini), sl_ini⟩) (c_ini : PySem.W.codeIn K cd_ini "Refused.__init__" = true) (k_ini : PySem.W.keepIn K (.ref f_ini) = true) (t_ini : PySem.W.typeIn K (.ref f_ini) = some (.type "function"))
    (aC_Refused : PySem.W.nsIn K mainGlobals "Refused" = some (some (.ref C_Refused)))
    (aC_BadSize : PySem.W.nsIn K mainGlobals "BadSize" = some (some (.ref C_BadSize)))
    (aC_BadStrength : PySem.W.nsIn K mainGlobals "BadStrength" = some (some (.ref C_BadStrength)))
    (aC_BadGuard : PySem.W.nsIn K mainGlobals "BadGuard" = some (some (.ref C_BadGuard)))
    (aC_Unlike : PySem.W.nsIn K mainGlobals "Unlike" = some (some (.ref C_Unlike)))
    (xL_BadSize : K.lookup C_BadSize = some (excClassObj nm_BadSize qn_BadSize C_BadSize N_BadSize bs_BadSize bm_BadSize true sn_BadSize sub_BadSize ab_BadSize col_BadSize dd_BadSize m0_BadSize m1_BadSize m2_BadSize m3_BadSize m5_BadSize "ValueError.__new__")) (rv_BadSize : PySem.HandSPX.refsVE bm_BadSize = true)
    (sa_BadSize : PySem.W.findIn K (.ref C_BadSize) "__setattr__" = some (some (.builtin "object.__setattr__"))) (kC_BadSize : PySem.W.keepIn K (.ref C_BadSize) = true)
    (nw_BadSize : PySem.W.findIn K (.ref C_BadSize) "what" = some none) (iC_BadSize : PySem.W.findIn K (.ref C_BadSize) "__init__" = some (some (.ref f_ini))) (ga_BadSize : PySem.W.findIn K (.ref C_BadSize) "__getattribute__" = some (some (.builtin "BaseException.__getattribute__"))) (gg_BadSize : PySem.W.findIn K (.ref C_BadSize) "__getattr__" = some none) (hC_BadSize : PySem.W.hasDictIn K C_BadSize = true)
    (su_BadSize_Refused : PySem.W.subIn K (.ref C_BadSize) (.ref C_Refused) = some true)
    (su_BadSize_BadSize : PySem.W.subIn K (.ref C_BadSize) (.ref C_BadSize) = some true)
    (su_BadSize_BadStrength : PySem.W.subIn K (.ref C_BadSize) (.ref C_BadStrength) = some false)
    (su_BadSize_Unlike : PySem.W.subIn K (.ref C_BadSize) (.ref C_Unlike) = some false)
    (su_BadSize_BadGuard : PySem.W.subIn K (.ref C_BadSize) (.ref C_BadGuard) = some false)
    (xL_Unlike : K.lookup C_Unlike = some (excClassObj nm_Unlike qn_Unlike C_Unlike N_Unlike bs_Unlike bm_Unlike true sn_Unlike sub_Unlike ab_Unlike col_Unlike dd_Unlike m0_Unlike m1_Unlike m2_Unlike m3_Unlike m5_Unlike "ValueError.__new__")) (rv_Unlike : PySem.HandSPX.refsVE bm_Unlike = true)
    (sa_Unlike : PySem.W.findIn K (.ref C_Unlike) "__setattr__" = some (some (.builtin "object.__setattr__"))) (kC_Unlike : PySem.W.keepIn K (.ref C_Unlike) = true)
    (nw_Unlike : PySem.W.findIn K (.ref C_Unlike) "what" = some none) (iC_Unlike : PySem.W.findIn K (.ref C_Unlike) "__init__" = some (some (.ref f_ini))) (ga_Unlike : PySem.W.findIn K (.ref C_Unlike) "__getattribute__" = some (some (.builtin "BaseException.__getattribute__"))) (gg_Unlike : PySem.W.findIn K (.ref C_Unlike) "__getattr__" = some none) (hC_Unlike : PySem.W.hasDictIn K C_Unlike = true)
    (su_Unlike_Refused : PySem.W.subIn K (.ref C_Unlike) (.ref C_Refused) = some true)
    (su_Unlike_BadSize : PySem.W.subIn K (.ref C_Unlike) (.ref C_BadSize) = some false)
    (su_Unlike_BadStrength : PySem.W.subIn K (.ref C_Unlike) (.ref C_BadStrength) = some false)
    (su_Unlike_Unlike : PySem.W.subIn K (.ref C_Unlike) (.ref C_Unlike) = some true)
    (su_Unlike_BadGuard : PySem.W.subIn K (.ref C_Unlike) (.ref C_BadGuard) = some false)
    (xL_BadStrength : K.lookup C_BadStrength = some (excClassObj nm_BadStrength qn_BadStrength C_BadStrength N_BadStrength bs_BadStrength bm_BadStrength true sn_BadStrength sub_BadStrength ab_BadStrength col_BadStrength dd_BadStrength m0_BadStrength m1_BadStrength m2_BadStrength m3_BadStrength m5_BadStrength "ValueError.__new__")) (rv_BadStrength : PySem.HandSPX.refsVE bm_BadStrength = true)
    (sa_BadStrength : PySem.W.findIn K (.ref C_BadStrength) "__setattr__" = some (some (.builtin "object.__setattr__"))) (kC_BadStrength : PySem.W.keepIn K (.ref C_BadStrength) = true)
    (nw_BadStrength : PySem.W.findIn K (.ref C_BadStrength) "what" = some none) (iC_BadStrength : PySem.W.findIn K (.ref C_BadStrength) "__init__" = some (some (.ref f_ini))) (ga_BadStrength : PySem.W.findIn K (.ref C_BadStrength) "__getattribute__" = some (some (.builtin "BaseException.__getattribute__"))) (gg_BadStrength : PySem.W.findIn K (.ref C_BadStrength) "__getattr__" = some none) (hC_BadStrength : PySem.W.hasDictIn K C_BadStrength = true)
    (su_BadStrength_Refused : PySem.W.subIn K (.ref C_BadStrength) (.ref C_Refused) = some true)
    (su_BadStrength_BadSize : PySem.W.subIn K (.ref C_BadStrength) (.ref C_BadSize) = some false)
    (su_BadStrength_BadStrength : PySem.W.subIn K (.ref C_BadStrength) (.ref C_BadStrength) = some true)
    (su_BadStrength_Unlike : PySem.W.subIn K (.ref C_BadStrength) (.ref C_Unlike) = some false)
    (su_BadStrength_BadGuard : PySem.W.subIn K (.ref C_BadStrength) (.ref C_BadGuard) = some false)
    (xL_BadGuard : K.lookup C_BadGuard = some (excClassObj nm_BadGuard qn_BadGuard C_BadGuard N_BadGuard bs_BadGuard bm_BadGuard true sn_BadGuard sub_BadGuard ab_BadGuard col_BadGuard dd_BadGuard m0_BadGuard m1_BadGuard m2_BadGuard m3_BadGuard m5_BadGuard "ValueError.__new__")) (rv_BadGuard : PySem.HandSPX.refsVE bm_BadGuard = true)
    (sa_BadGuard : PySem.W.findIn K (.ref C_BadGuard) "__setattr__" = some (some (.builtin "object.__setattr__"))) (kC_BadGuard : PySem.W.keepIn K (.ref C_BadGuard) = true)
    (nw_BadGuard : PySem.W.findIn K (.ref C_BadGuard) "what" = some none) (iC_BadGuard : PySem.W.findIn K (.ref C_BadGuard) "__init__" = some (some (.ref f_ini))) (ga_BadGuard : PySem.W.findIn K (.ref C_BadGuard) "__getattribute__" = some (some (.builtin "BaseException.__getattribute__"))) (gg_BadGuard : PySem.W.findIn K (.ref C_BadGuard) "__getattr__" = some none) (hC_BadGuard : PySem.W.hasDictIn K C_BadGuard = true)
    (su_BadGuard_Refused : PySem.W.subIn K (.ref C_BadGuard) (.ref C_Refused) = some true)
    (su_BadGuard_BadSize : PySem.W.subIn K (.ref C_BadGuard) (.ref C_BadSize) = some false)
    (su_BadGuard_BadStrength : PySem.W.subIn K (.ref C_BadGuard) (.ref C_BadStrength) = some false)
    (su_BadGuard_Unlike : PySem.W.subIn K (.ref C_BadGuard) (.ref C_Unlike) = some false)
    (su_BadGuard_BadGuard : PySem.W.subIn K (.ref C_BadGuard) (.ref C_BadGuard) = some true)
    (eC_Refused : PySem.W.subIn K (.ref C_Refused) (.type "BaseException") = some true) (tC_Refused : PySem.W.typeIn K (.ref C_Refused) = some (.type "type")) (oC_Refused : PySem.W.isClsIn K C_Refused = true)
    (eC_BadSize : PySem.W.subIn K (.ref C_BadSize) (.type "BaseException") = some true) (tC_BadSize : PySem.W.typeIn K (.ref C_BadSize) = some (.type "type")) (oC_BadSize : PySem.W.isClsIn K C_BadSize = true)
    (eC_BadStrength : PySem.W.subIn K (.ref C_BadStrength) (.type "BaseException") = some true) (tC_BadStrength : PySem.W.typeIn K (.ref C_BadStrength) = some (.type "type")) (oC_BadStrength : PySem.W.isClsIn K C_BadStrength = true)
    (eC_BadGuard : PySem.W.subIn K (.ref C_BadGuard) (.type "BaseException") = some true) (tC_BadGuard : PySem.W.typeIn K (.ref C_BadGuard) = some (.type "type")) (oC_BadGuard : PySem.W.isClsIn K C_BadGuard = true)
    (eC_Unlike : PySem.W.subIn K (.ref C_Unlike) (.type "BaseException") = some true) (tC_Unlike : PySem.W.typeIn K (.ref C_Unlike) = some (.type "type")) (oC_Unlike : PySem.W.isClsIn K C_Unlike = true)
    {f_fini C_Field : Addr} {od_fini an_fini : Option Addr} {sl_fini : Array (Option Value)} {oc_fini kV_fini dc_fini pm_fini cd_fini ct_fini : Value}
    (l_fini : K.lookup f_fini = some ⟨oc_fini, od_fini, .func (PySem.W.fnOf "__init__" "Field.__init__" (defArgs st_fini) (defBody st_fini) (defScope st_fini) .none kV_fini dc_fini pm_fini an_fini cd_fini ct_fini), sl_fini⟩) (c_fini : PySem.W.codeIn K cd_fini "Field.__init__" = true) (k_fini : PySem.W.keepIn K (.ref f_fini) = true)
    (aC_Field : PySem.W.nsIn K mainGlobals "Field" = some (some (.ref C_Field))) (pg_Field : PySem.W.plainGet K C_Field Str.empty = true) (hd_Field : PySem.W.hasDictIn K C_Field = true) (po_Field : PySem.W.plainOver K C_Field = true) (sa_Field : PySem.W.findIn K (.ref C_Field) "__setattr__" = some (some (.builtin "object.__setattr__")))
    (n0_Field : PySem.W.findIn K (.ref C_Field) "n" = some none) (n1_Field : PySem.W.findIn K (.ref C_Field) "strengths" = some none) (n2_Field : PySem.W.findIn K (.ref C_Field) "guards" = some none) (mk_Field : PySem.W.makesIn K C_Field = true) (iC_Field : PySem.W.findIn K (.ref C_Field) "__init__" = some (some (.ref f_fini))) (fn_fini : PySem.W.isFn K (.ref f_fini) = true) (kC_Field : PySem.W.keepIn K (.ref C_Field) = true)
    (ka_Field : PySem.W.findIn K (.ref C_Field) "__class__" = some (some (.builtin "object.__class__"))) (kb_Field : PySem.W.specialIn K (.builtin "object.__class__") "__get__" = some (some (.builtin "getset_descriptor.__get__"))) (kc_Field : PySem.W.takesIn K (.builtin "object.__class__") = some true) (kd_Field : PySem.W.mroIn K C_Field (.type "object") = some true)
    (a_is_number : PySem.W.nsIn K mainGlobals "is_number" = some (some (.ref f_is_number))) (l_is_number : K.lookup f_is_number = some ⟨oc_is_number, od_is_number, .func (PySem.W.fnOf "is_number" "is_number" (defArgs st_is_number) (defBody st_is_number) (defScope st_is_number) .none kV_is_number dc_is_number pm_is_number an_is_number cd_is_number ct_is_number), sl_is_number⟩) (c_is_number : PySem.W.codeIn K cd_is_number "is_number" = true) (k_is_number : PySem.W.keepIn K (.ref f_is_number) = true)
    (a_are_numbers : PySem.W.nsIn K mainGlobals "are_numbers" = some (some (.ref f_are_numbers))) (l_are_numbers : K.lookup f_are_numbers = some ⟨oc_are_numbers, od_are_numbers, .func (PySem.W.fnOf "are_numbers" "are_numbers" (defArgs st_are_numbers) (defBody st_are_numbers) (defScope st_are_numbers) .none kV_are_numbers dc_are_numbers pm_are_numbers an_are_numbers (.ref cc_are_numbers) ct_are_numbers), sl_are_numbers⟩) (c_are_numbers : PySem.W.codeIn K (.ref cc_are_numbers) "are_numbers" = true) (k_are_numbers : PySem.W.keepIn K (.ref f_are_numbers) = true)
    (rq_are_numbers : ((PyProof.Rows.recsOf q).find? (fun e => e.name == ("are_numbers" : Str))).isSome = true) (ti_are_numbers : (PySem.W.tabIn K "are_numbers").isSome = true)
    (a_made_field : PySem.W.nsIn K mainGlobals "made_field" = some (some (.ref f_made_field))) (l_made_field : K.lookup f_made_field = some ⟨oc_made_field, od_made_field, .func (PySem.W.fnOf "made_field" "made_field" (defArgs st_made_field) (defBody st_made_field) (defScope st_made_field) .none kV_made_field dc_made_field pm_made_field an_made_field cd_made_field ct_made_field), sl_made_field⟩) (c_made_field : PySem.W.codeIn K cd_made_field "made_field" = true) (k_made_field : PySem.W.keepIn K (.ref f_made_field) = true)
    (a_is_field : PySem.W.nsIn K mainGlobals "is_field" = some (some (.ref f_is_field))) (l_is_field : K.lookup f_is_field = some ⟨oc_is_field, od_is_field, .func (PySem.W.fnOf "is_field" "is_field" (defArgs st_is_field) (defBody st_is_field) (defScope st_is_field) .none kV_is_field dc_is_field pm_is_field an_is_field cd_is_field ct_is_field), sl_is_field⟩) (c_is_field : PySem.W.codeIn K cd_is_field "is_field" = true) (k_is_field : PySem.W.keepIn K (.ref f_is_field) = true)
    (a__law_pool : PySem.W.nsIn K mainGlobals "_law_pool" = some (some (.ref f__law_pool))) (l__law_pool : K.lookup f__law_pool = some ⟨oc__law_pool, od__law_pool, .func (PySem.W.fnOf "_law_pool" "_law_pool" (defArgs st__law_pool) (defBody st__law_pool) (defScope st__law_pool) .none kV__law_pool dc__law_pool pm__law_pool an__law_pool cd__law_pool ct__law_pool), sl__law_pool⟩) (c__law_pool : PySem.W.codeIn K cd__law_pool "_law_pool" = true) (k__law_pool : PySem.W.keepIn K (.ref f__law_pool) = true)
    (a__law_take : PySem.W.nsIn K mainGlobals "_law_take" = some (some (.ref f__law_take))) (l__law_take : K.lookup f__law_take = some ⟨oc__law_take, od__law_take, .func (PySem.W.fnOf "_law_take" "_law_take" (defArgs st__law_take) (defBody st__law_take) (defScope st__law_take) .none kV__law_take dc__law_take pm__law_take an__law_take cd__law_take ct__law_take), sl__law_take⟩) (c__law_take : PySem.W.codeIn K cd__law_take "_law_take" = true) (k__law_take : PySem.W.keepIn K (.ref f__law_take) = true)
    (a__law_one : PySem.W.nsIn K mainGlobals "_law_one" = some (some (.ref f__law_one))) (l__law_one : K.lookup f__law_one = some ⟨oc__law_one, od__law_one, .func (PySem.W.fnOf "_law_one" "_law_one" (defArgs st__law_one) (defBody st__law_one) (defScope st__law_one) .none kV__law_one dc__law_one pm__law_one an__law_one cd__law_one ct__law_one), sl__law_one⟩) (c__law_one : PySem.W.codeIn K cd__law_one "_law_one" = true) (k__law_one : PySem.W.keepIn K (.ref f__law_one) = true)
    (a__law_number : PySem.W.nsIn K mainGlobals "_law_number" = some (some (.ref f__law_number))) (l__law_number : K.lookup f__law_number = some ⟨oc__law_number, od__law_number, .func (PySem.W.fnOf "_law_number" "_law_number" (defArgs st__law_number) (defBody st__law_number) (defScope st__law_number) .none kV__law_number dc__law_number pm__law_number an__law_number cd__law_number ct__law_number), sl__law_number⟩) (c__law_number : PySem.W.codeIn K cd__law_number "_law_number" = true) (k__law_number : PySem.W.keepIn K (.ref f__law_number) = true)
    (a__law_row : PySem.W.nsIn K mainGlobals "_law_row" = some (some (.ref f__law_row))) (l__law_row : K.lookup f__law_row = some ⟨oc__law_row, od__law_row, .func (PySem.W.fnOf "_law_row" "_law_row" (defArgs st__law_row) (defBody st__law_row) (defScope st__law_row) .none kV__law_row dc__law_row pm__law_row an__law_row cd__law_row ct__law_row), sl__law_row⟩) (c__law_row : PySem.W.codeIn K cd__law_row "_law_row" = true) (k__law_row : PySem.W.keepIn K (.ref f__law_row) = true)
    (a__law_said : PySem.W.nsIn K mainGlobals "_law_said" = some (some (.ref f__law_said))) (l__law_said : K.lookup f__law_said = some ⟨oc__law_said, od__law_said, .func (PySem.W.fnOf "_law_said" "_law_said" (defArgs st__law_said) (defBody st__law_said) (defScope st__law_said) .none kV__law_said dc__law_said pm__law_said an__law_said cd__law_said ct__law_said), sl__law_said⟩) (c__law_said : PySem.W.codeIn K cd__law_said "_law_said" = true) (k__law_said : PySem.W.keepIn K (.ref f__law_said) = true)
    (a__law_entry : PySem.W.nsIn K mainGlobals "_law_entry" = some (some (.ref f__law_entry))) (l__law_entry : K.lookup f__law_entry = some ⟨oc__law_entry, od__law_entry, .func (PySem.W.fnOf "_law_entry" "_law_entry" (defArgs st__law_entry) (defBody st__law_entry) (defScope st__law_entry) .none kV__law_entry dc__law_entry pm__law_entry an__law_entry cd__law_entry ct__law_entry), sl__law_entry⟩) (c__law_entry : PySem.W.codeIn K cd__law_entry "_law_entry" = true) (k__law_entry : PySem.W.keepIn K (.ref f__law_entry) = true)
    (a__law_numbers : PySem.W.nsIn K mainGlobals "_law_numbers" = some (some (.ref f__law_numbers))) (l__law_numbers : K.lookup f__law_numbers = some ⟨oc__law_numbers, od__law_numbers, .func (PySem.W.fnOf "_law_numbers" "_law_numbers" (defArgs st__law_numbers) (defBody st__law_numbers) (defScope st__law_numbers) .none kV__law_numbers dc__law_numbers pm__law_numbers an__law_numbers cd__law_numbers ct__law_numbers), sl__law_numbers⟩) (c__law_numbers : PySem.W.codeIn K cd__law_numbers "_law_numbers" = true) (k__law_numbers : PySem.W.keepIn K (.ref f__law_numbers) = true)
    (a__law_field_is : PySem.W.nsIn K mainGlobals "_law_field_is" = some (some (.ref f__law_field_is))) (l__law_field_is : K.lookup f__law_field_is = some ⟨oc__law_field_is, od__law_field_is, .func (PySem.W.fnOf "_law_field_is" "_law_field_is" (defArgs st__law_field_is) (defBody st__law_field_is) (defScope st__law_field_is) .none kV__law_field_is dc__law_field_is pm__law_field_is an__law_field_is cd__law_field_is ct__law_field_is), sl__law_field_is⟩) (c__law_field_is : PySem.W.codeIn K cd__law_field_is "_law_field_is" = true) (k__law_field_is : PySem.W.keepIn K (.ref f__law_field_is) = true)
    (a__law_fault : PySem.W.nsIn K mainGlobals "_law_fault" = some (some (.ref f__law_fault))) (l__law_fault : K.lookup f__law_fault = some ⟨oc__law_fault, od__law_fault, .func (PySem.W.fnOf "_law_fault" "_law_fault" (defArgs st__law_fault) (defBody st__law_fault) (defScope st__law_fault) .none kV__law_fault dc__law_fault pm__law_fault an__law_fault cd__law_fault ct__law_fault), sl__law_fault⟩) (c__law_fault : PySem.W.codeIn K cd__law_fault "_law_fault" = true) (k__law_fault : PySem.W.keepIn K (.ref f__law_fault) = true)
    (a__law_refusal : PySem.W.nsIn K mainGlobals "_law_refusal" = some (some (.ref f__law_refusal))) (l__law_refusal : K.lookup f__law_refusal = some ⟨oc__law_refusal, od__law_refusal, .func (PySem.W.fnOf "_law_refusal" "_law_refusal" (defArgs st__law_refusal) (defBody st__law_refusal) (defScope st__law_refusal) .none kV__law_refusal dc__law_refusal pm__law_refusal an__law_refusal cd__law_refusal ct__law_refusal), sl__law_refusal⟩) (c__law_refusal : PySem.W.codeIn K cd__law_refusal "_law_refusal" = true) (k__law_refusal : PySem.W.keepIn K (.ref f__law_refusal) = true)
    (a__law_beyond : PySem.W.nsIn K mainGlobals "_law_beyond" = some (some (.ref f__law_beyond))) (l__law_beyond : K.lookup f__law_beyond = some ⟨oc__law_beyond, od__law_beyond, .func (PySem.W.fnOf "_law_beyond" "_law_beyond" (defArgs st__law_beyond) (defBody st__law_beyond) (defScope st__law_beyond) .none kV__law_beyond dc__law_beyond pm__law_beyond an__law_beyond cd__law_beyond ct__law_beyond), sl__law_beyond⟩) (c__law_beyond : PySem.W.codeIn K cd__law_beyond "_law_beyond" = true) (k__law_beyond : PySem.W.keepIn K (.ref f__law_beyond) = true)
    (a__law_bent : PySem.W.nsIn K mainGlobals "_law_bent" = some (some (.ref f__law_bent))) (l__law_bent : K.lookup f__law_bent = some ⟨oc__law_bent, od__law_bent, .func (PySem.W.fnOf "_law_bent" "_law_bent" (defArgs st__law_bent) (defBody st__law_bent) (defScope st__law_bent) .none kV__law_bent dc__law_bent pm__law_bent an__law_bent cd__law_bent ct__law_bent), sl__law_bent⟩) (c__law_bent : PySem.W.codeIn K cd__law_bent "_law_bent" = true) (k__law_bent : PySem.W.keepIn K (.ref f__law_bent) = true)
    (a__law_right : PySem.W.nsIn K mainGlobals "_law_right" = some (some (.ref f__law_right))) (l__law_right : K.lookup f__law_right = some ⟨oc__law_right, od__law_right, .func (PySem.W.fnOf "_law_right" "_law_right" (defArgs st__law_right) (defBody st__law_right) (defScope st__law_right) .none kV__law_right dc__law_right pm__law_right an__law_right cd__law_right ct__law_right), sl__law_right⟩) (c__law_right : PySem.W.codeIn K cd__law_right "_law_right" = true) (k__law_right : PySem.W.keepIn K (.ref f__law_right) = true)
    (a_law : PySem.W.nsIn K mainGlobals "law" = some (some (.ref f_law))) (l_law : K.lookup f_law = some ⟨oc_law, od_law, .func (PySem.W.fnOf "law" "law" (defArgs st_law) (defBody st_law) (defScope st_law) .none kV_law dc_law pm_law an_law cd_law ct_law), sl_law⟩) (c_law : PySem.W.codeIn K cd_law "law" = true) (k_law : PySem.W.keepIn K (.ref f_law) = true)
    (nt_ : PySem.W.noTabs K = true)
    (z_all : PySem.W.nsIn K mainGlobals "all" = some none)
    (z_bool : PySem.W.nsIn K mainGlobals "bool" = some none)
    (z_enumerate : PySem.W.nsIn K mainGlobals "enumerate" = some none)
    (z_int : PySem.W.nsIn K mainGlobals "int" = some none)
    (z_isinstance : PySem.W.nsIn K mainGlobals "isinstance" = some none)
    (z_len : PySem.W.nsIn K mainGlobals "len" = some none)
    (z_max : PySem.W.nsIn K mainGlobals "max" = some none)
    (z_min : PySem.W.nsIn K mainGlobals "min" = some none)
    (z_range : PySem.W.nsIn K mainGlobals "range" = some none)
    (z_tuple : PySem.W.nsIn K mainGlobals "tuple" = some none)
    (z_zip : PySem.W.nsIn K mainGlobals "zip" = some none)
    (v_MOST : PySem.W.nsIn K mainGlobals "MOST" = some (some (.int 1000000000 t_MOST)))
    (v_MOST_SIDES : PySem.W.nsIn K mainGlobals "MOST_SIDES" = some (some (.int 32 t_MOST_SIDES)))
    : LamX.LawAtS l w K (L2.CX l.prog w) 8 63 "_law_script" mg fa h := by
  have e := hfa.symm.trans (PySem.W.mg_of X G a_law)
  cases e
  obtain ⟨⟨cq_are_numbers, tt_are_numbers⟩, eq_are_numbers⟩ := Option.isSome_iff_exists.mp ti_are_numbers
  obtain ⟨dq_are_numbers, rq2_are_numbers⟩ := Option.isSome_iff_exists.mp rq_are_numbers
  have TQ_are_numbers := PySem.W.tab_of TOP X rq2_are_numbers eq_are_numbers
  have CQ_are_numbers : (PySem.Value.ref cc_are_numbers) = .ref cq_are_numbers := PySem.W.law_code X G eq_are_numbers (PySem.W.mg_of X G a_are_numbers) (X _ _ l_are_numbers) rfl
  cases CQ_are_numbers
  have ca_Refused : caOf K "Refused" = C_Refused := by simp only [caOf, aC_Refused]
  have ca_BadSize : caOf K "BadSize" = C_BadSize := by simp only [caOf, aC_BadSize]
  have ca_BadStrength : caOf K "BadStrength" = C_BadStrength := by simp only [caOf, aC_BadStrength]
  have ca_BadGuard : caOf K "BadGuard" = C_BadGuard := by simp only [caOf, aC_BadGuard]
  have ca_Unlike : caOf K "Unlike" = C_Unlike := by simp only [caOf, aC_Unlike]
  have eer : ∀ c ∈ LC_, ErrC K (caOf K c) f_ini := by
    intro c hc
    simp only [LC_, List.mem_cons, List.not_mem_nil, or_false] at hc
    rcases hc with rfl | rfl | rfl | rfl
    · rw [ca_BadSize]; exact ⟨⟨⟨nm_BadSize, qn_BadSize, N_BadSize, bs_BadSize, bm_BadSize, sn_BadSize, sub_BadSize, ab_BadSize, col_BadSize, dd_BadSize, m0_BadSize, m1_BadSize, m2_BadSize, m3_BadSize, m5_BadSize, xL_BadSize, rv_BadSize⟩, sa_BadSize, eC_BadSize, tC_BadSize, kC_BadSize⟩, nw_BadSize, iC_BadSize, ⟨ga_BadSize, gg_BadSize, eC_BadSize, hC_BadSize⟩⟩
    · rw [ca_Unlike]; exact ⟨⟨⟨nm_Unlike, qn_Unlike, N_Unlike, bs_Unlike, bm_Unlike, sn_Unlike, sub_Unlike, ab_Unlike, col_Unlike, dd_Unlike, m0_Unlike, m1_Unlike, m2_Unlike, m3_Unlike, m5_Unlike, xL_Unlike, rv_Unlike⟩, sa_Unlike, eC_Unlike, tC_Unlike, kC_Unlike⟩, nw_Unlike, iC_Unlike, ⟨ga_Unlike, gg_Unlike, eC_Unlike, hC_Unlike⟩⟩
    · rw [ca_BadStrength]; exact ⟨⟨⟨nm_BadStrength, qn_BadStrength, N_BadStrength, bs_BadStrength, bm_BadStrength, sn_BadStrength, sub_BadStrength, ab_BadStrength, col_BadStrength, dd_BadStrength, m0_BadStrength, m1_BadStrength, m2_BadStrength, m3_BadStrength, m5_BadStrength, xL_BadStrength, rv_BadStrength⟩, sa_BadStrength, eC_BadStrength, tC_BadStrength, kC_BadStrength⟩, nw_BadStrength, iC_BadStrength, ⟨ga_BadStrength, gg_BadStrength, eC_BadStrength, hC_BadStrength⟩⟩
    · rw [ca_BadGuard]; exact ⟨⟨⟨nm_BadGuard, qn_BadGuard, N_BadGuard, bs_BadGuard, bm_BadGuard, sn_BadGuard, sub_BadGuard, ab_BadGuard, col_BadGuard, dd_BadGuard, m0_BadGuard, m1_BadGuard, m2_BadGuard, m3_BadGuard, m5_BadGuard, xL_BadGuard, rv_BadGuard⟩, sa_BadGuard, eC_BadGuard, tC_BadGuard, kC_BadGuard⟩, nw_BadGuard, iC_BadGuard, ⟨ga_BadGuard, gg_BadGuard, eC_BadGuard, hC_BadGuard⟩⟩
  have emer : ∀ c ∈ LC_, ∀ C ∈ HC_, PySem.W.exmOne K (.ref (caOf K c)) (.ref (caOf K C)) = some (subE c C) := by
    intro c hc C hC
    simp only [LC_, HC_, List.mem_cons, List.not_mem_nil, or_false] at hc hC
    rcases hc with rfl | rfl | rfl | rfl <;> rcases hC with rfl | rfl | rfl | rfl | rfl
    · rw [ca_BadSize, ca_Refused]; exact (exm_mk eC_Refused oC_Refused tC_Refused su_BadSize_Refused).trans (by decide)
    · rw [ca_BadSize]; exact (exm_mk eC_BadSize oC_BadSize tC_BadSize su_BadSize_BadSize).trans (by decide)
    · rw [ca_BadSize, ca_BadStrength]; exact (exm_mk eC_BadStrength oC_BadStrength tC_BadStrength su_BadSize_BadStrength).trans (by decide)
    · rw [ca_BadSize, ca_Unlike]; exact (exm_mk eC_Unlike oC_Unlike tC_Unlike su_BadSize_Unlike).trans (by decide)
    · rw [ca_BadSize, ca_BadGuard]; exact (exm_mk eC_BadGuard oC_BadGuard tC_BadGuard su_BadSize_BadGuard).trans (by decide)
    · rw [ca_Unlike, ca_Refused]; exact (exm_mk eC_Refused oC_Refused tC_Refused su_Unlike_Refused).trans (by decide)
    · rw [ca_Unlike, ca_BadSize]; exact (exm_mk eC_BadSize oC_BadSize tC_BadSize su_Unlike_BadSize).trans (by decide)
    · rw [ca_Unlike, ca_BadStrength]; exact (exm_mk eC_BadStrength oC_BadStrength tC_BadStrength su_Unlike_BadStrength).trans (by decide)
    · rw [ca_Unlike]; exact (exm_mk eC_Unlike oC_Unlike tC_Unlike su_Unlike_Unlike).trans (by decide)
    · rw [ca_Unlike, ca_BadGuard]; exact (exm_mk eC_BadGuard oC_BadGuard tC_BadGuard su_Unlike_BadGuard).trans (by decide)
    · rw [ca_BadStrength, ca_Refused]; exact (exm_mk eC_Refused oC_Refused tC_Refused su_BadStrength_Refused).trans (by decide)
    · rw [ca_BadStrength, ca_BadSize]; exact (exm_mk eC_BadSize oC_BadSize tC_BadSize su_BadStrength_BadSize).trans (by decide)
    · rw [ca_BadStrength]; exact (exm_mk eC_BadStrength oC_BadStrength tC_BadStrength su_BadStrength_BadStrength).trans (by decide)
    · rw [ca_BadStrength, ca_Unlike]; exact (exm_mk eC_Unlike oC_Unlike tC_Unlike su_BadStrength_Unlike).trans (by decide)
    · rw [ca_BadStrength, ca_BadGuard]; exact (exm_mk eC_BadGuard oC_BadGuard tC_BadGuard su_BadStrength_BadGuard).trans (by decide)
    · rw [ca_BadGuard, ca_Refused]; exact (exm_mk eC_Refused oC_Refused tC_Refused su_BadGuard_Refused).trans (by decide)
    · rw [ca_BadGuard, ca_BadSize]; exact (exm_mk eC_BadSize oC_BadSize tC_BadSize su_BadGuard_BadSize).trans (by decide)
    · rw [ca_BadGuard, ca_BadStrength]; exact (exm_mk eC_BadStrength oC_BadStrength tC_BadStrength su_BadGuard_BadStrength).trans (by decide)
    · rw [ca_BadGuard, ca_Unlike]; exact (exm_mk eC_Unlike oC_Unlike tC_Unlike su_BadGuard_Unlike).trans (by decide)
    · rw [ca_BadGuard]; exact (exm_mk eC_BadGuard oC_BadGuard tC_BadGuard su_BadGuard_BadGuard).trans (by decide)
  have ca_Field : caOf K "Field" = C_Field := by simp only [caOf, aC_Field]
  have efc : FldC K (caOf K "Field") f_fini := by
    rw [ca_Field]
    refine ⟨⟨pg_Field, hd_Field, po_Field, sa_Field⟩, fun f hf => ?_, ⟨mk_Field, iC_Field, fn_fini, kC_Field⟩⟩
    simp only [List.mem_cons, List.not_mem_nil, or_false] at hf
    rcases hf with rfl | rfl | rfl
    · exact n0_Field
    · exact n1_Field
    · exact n2_Field
  let T : Txt K mg (caOf K) := { f_ini := f_ini, fd_ini := _, F_ini := fun_mk (st := st_ini) l_ini c_ini k_ini, b_ini := (fun_mk (st := st_ini) l_ini c_ini k_ini).binds (ps := ["self", "what"]) (fun _ _ _ _ _ _ us hl => match us, hl with | [_, _], _ => rfl), ti_ini := t_ini, e_er := eer, em_er := emer, gC_Refused := by rw [ca_Refused]; exact PySem.W.mg_of X G aC_Refused, gC_BadSize := by rw [ca_BadSize]; exact PySem.W.mg_of X G aC_BadSize, gC_BadStrength := by rw [ca_BadStrength]; exact PySem.W.mg_of X G aC_BadStrength, gC_BadGuard := by rw [ca_BadGuard]; exact PySem.W.mg_of X G aC_BadGuard, gC_Unlike := by rw [ca_Unlike]; exact PySem.W.mg_of X G aC_Unlike, f_fini := f_fini, fd_fini := _, F_fini := fun_mk (st := st_fini) l_fini c_fini k_fini, b_fini := (fun_mk (st := st_fini) l_fini c_fini k_fini).binds (ps := ["self", "strengths", "guards"]) (fun _ _ _ _ _ _ us hl => match us, hl with | [_, _, _], _ => rfl), fc_Field := efc, gC_Field := by rw [ca_Field]; exact PySem.W.mg_of X G aC_Field, iF_Field := by rw [ca_Field]; exact ⟨⟨pg_Field, hd_Field, po_Field, sa_Field⟩, ka_Field, kb_Field, kc_Field, kd_Field⟩, f_is_number := f_is_number, fd_is_number := _, F_is_number := fun_mk (st := st_is_number) l_is_number c_is_number k_is_number, b_is_number := (fun_mk (st := st_is_number) l_is_number c_is_number k_is_number).binds (ps := ["value"]) (fun _ _ _ _ _ _ us hl => match us, hl with | [_], _ => rfl), g_is_number := PySem.W.mg_of X G a_is_number, f_are_numbers := f_are_numbers, fd_are_numbers := _, F_are_numbers := fun_mk (st := st_are_numbers) l_are_numbers c_are_numbers k_are_numbers, b_are_numbers := (fun_mk (st := st_are_numbers) l_are_numbers c_are_numbers k_are_numbers).binds (ps := ["value"]) (fun _ _ _ _ _ _ us hl => match us, hl with | [_], _ => rfl), g_are_numbers := PySem.W.mg_of X G a_are_numbers, cc_are_numbers := cc_are_numbers, tt_are_numbers := tt_are_numbers, FC_are_numbers := funC_mk (st := st_are_numbers) l_are_numbers c_are_numbers, f_made_field := f_made_field, fd_made_field := _, F_made_field := fun_mk (st := st_made_field) l_made_field c_made_field k_made_field, b_made_field := (fun_mk (st := st_made_field) l_made_field c_made_field k_made_field).binds (ps := ["strengths", "guards"]) (fun _ _ _ _ _ _ us hl => match us, hl with | [_, _], _ => rfl), g_made_field := PySem.W.mg_of X G a_made_field, f_is_field := f_is_field, fd_is_field := _, F_is_field := fun_mk (st := st_is_field) l_is_field c_is_field k_is_field, b_is_field := (fun_mk (st := st_is_field) l_is_field c_is_field k_is_field).binds (ps := ["strengths", "guards"]) (fun _ _ _ _ _ _ us hl => match us, hl with | [_, _], _ => rfl), g_is_field := PySem.W.mg_of X G a_is_field, f__law_pool := f__law_pool, fd__law_pool := _, F__law_pool := fun_mk (st := st__law_pool) l__law_pool c__law_pool k__law_pool, b__law_pool := (fun_mk (st := st__law_pool) l__law_pool c__law_pool k__law_pool).binds (ps := ["_law_script", "_law_k"]) (fun _ _ _ _ _ _ us hl => match us, hl with | [_, _], _ => rfl), g__law_pool := PySem.W.mg_of X G a__law_pool, f__law_take := f__law_take, fd__law_take := _, F__law_take := fun_mk (st := st__law_take) l__law_take c__law_take k__law_take, b__law_take := (fun_mk (st := st__law_take) l__law_take c__law_take k__law_take).binds (ps := ["_law_source", "_law_top"]) (fun _ _ _ _ _ _ us hl => match us, hl with | [_, _], _ => rfl), g__law_take := PySem.W.mg_of X G a__law_take, f__law_one := f__law_one, fd__law_one := _, F__law_one := fun_mk (st := st__law_one) l__law_one c__law_one k__law_one, b__law_one := (fun_mk (st := st__law_one) l__law_one c__law_one k__law_one).binds (ps := ["_law_source", "_law_things"]) (fun _ _ _ _ _ _ us hl => match us, hl with | [_, _], _ => rfl), g__law_one := PySem.W.mg_of X G a__law_one, f__law_number := f__law_number, fd__law_number := _, F__law_number := fun_mk (st := st__law_number) l__law_number c__law_number k__law_number, b__law_number := (fun_mk (st := st__law_number) l__law_number c__law_number k__law_number).binds (ps := ["_law_thing"]) (fun _ _ _ _ _ _ us hl => match us, hl with | [_], _ => rfl), g__law_number := PySem.W.mg_of X G a__law_number, f__law_row := f__law_row, fd__law_row := _, F__law_row := fun_mk (st := st__law_row) l__law_row c__law_row k__law_row, b__law_row := (fun_mk (st := st__law_row) l__law_row c__law_row k__law_row).binds (ps := ["_law_told", "_law_due"]) (fun _ _ _ _ _ _ us hl => match us, hl with | [_, _], _ => rfl), g__law_row := PySem.W.mg_of X G a__law_row, f__law_said := f__law_said, fd__law_said := _, F__law_said := fun_mk (st := st__law_said) l__law_said c__law_said k__law_said, b__law_said := (fun_mk (st := st__law_said) l__law_said c__law_said k__law_said).binds (ps := ["_law_told", "_law_due"]) (fun _ _ _ _ _ _ us hl => match us, hl with | [_, _], _ => rfl), g__law_said := PySem.W.mg_of X G a__law_said, f__law_entry := f__law_entry, fd__law_entry := _, F__law_entry := fun_mk (st := st__law_entry) l__law_entry c__law_entry k__law_entry, b__law_entry := (fun_mk (st := st__law_entry) l__law_entry c__law_entry k__law_entry).binds (ps := ["_law_source", "_law_top"]) (fun _ _ _ _ _ _ us hl => match us, hl with | [_, _], _ => rfl), g__law_entry := PySem.W.mg_of X G a__law_entry, f__law_numbers := f__law_numbers, fd__law_numbers := _, F__law_numbers := fun_mk (st := st__law_numbers) l__law_numbers c__law_numbers k__law_numbers, b__law_numbers := (fun_mk (st := st__law_numbers) l__law_numbers c__law_numbers k__law_numbers).binds (ps := ["_law_source", "_law_n"]) (fun _ _ _ _ _ _ us hl => match us, hl with | [_, _], _ => rfl), g__law_numbers := PySem.W.mg_of X G a__law_numbers, f__law_field_is := f__law_field_is, fd__law_field_is := _, F__law_field_is := fun_mk (st := st__law_field_is) l__law_field_is c__law_field_is k__law_field_is, b__law_field_is := (fun_mk (st := st__law_field_is) l__law_field_is c__law_field_is k__law_field_is).binds (ps := ["_law_told", "_law_strengths", "_law_guards"]) (fun _ _ _ _ _ _ us hl => match us, hl with | [_, _, _], _ => rfl), g__law_field_is := PySem.W.mg_of X G a__law_field_is, f__law_fault := f__law_fault, fd__law_fault := _, F__law_fault := fun_mk (st := st__law_fault) l__law_fault c__law_fault k__law_fault, b__law_fault := (fun_mk (st := st__law_fault) l__law_fault c__law_fault k__law_fault).binds (ps := ["_law_strengths", "_law_guards"]) (fun _ _ _ _ _ _ us hl => match us, hl with | [_, _], _ => rfl), g__law_fault := PySem.W.mg_of X G a__law_fault, f__law_refusal := f__law_refusal, fd__law_refusal := _, F__law_refusal := fun_mk (st := st__law_refusal) l__law_refusal c__law_refusal k__law_refusal, b__law_refusal := (fun_mk (st := st__law_refusal) l__law_refusal c__law_refusal k__law_refusal).binds (ps := ["_law_strengths", "_law_guards"]) (fun _ _ _ _ _ _ us hl => match us, hl with | [_, _], _ => rfl), g__law_refusal := PySem.W.mg_of X G a__law_refusal, f__law_beyond := f__law_beyond, fd__law_beyond := _, F__law_beyond := fun_mk (st := st__law_beyond) l__law_beyond c__law_beyond k__law_beyond, b__law_beyond := (fun_mk (st := st__law_beyond) l__law_beyond c__law_beyond k__law_beyond).binds (ps := ["_law_source"]) (fun _ _ _ _ _ _ us hl => match us, hl with | [_], _ => rfl), g__law_beyond := PySem.W.mg_of X G a__law_beyond, f__law_bent := f__law_bent, fd__law_bent := _, F__law_bent := fun_mk (st := st__law_bent) l__law_bent c__law_bent k__law_bent, b__law_bent := (fun_mk (st := st__law_bent) l__law_bent c__law_bent k__law_bent).binds (ps := ["_law_source", "_law_strengths", "_law_guards"]) (fun _ _ _ _ _ _ us hl => match us, hl with | [_, _, _], _ => rfl), g__law_bent := PySem.W.mg_of X G a__law_bent, f__law_right := f__law_right, fd__law_right := _, F__law_right := fun_mk (st := st__law_right) l__law_right c__law_right k__law_right, b__law_right := (fun_mk (st := st__law_right) l__law_right c__law_right k__law_right).binds (ps := ["_law_source"]) (fun _ _ _ _ _ _ us hl => match us, hl with | [_], _ => rfl), g__law_right := PySem.W.mg_of X G a__law_right, f_law := fa, fd_law := _, F_law := fun_mk (st := st_law) l_law c_law k_law, b_law := (fun_mk (st := st_law) l_law c_law k_law).binds (ps := ["_law_script"]) (fun _ _ _ _ _ _ us hl => match us, hl with | [_], _ => rfl), g_law := PySem.W.mg_of X G a_law, z_all := PySem.W.mg_none_of X G z_all, z_bool := PySem.W.mg_none_of X G z_bool, z_enumerate := PySem.W.mg_none_of X G z_enumerate, z_int := PySem.W.mg_none_of X G z_int, z_isinstance := PySem.W.mg_none_of X G z_isinstance, z_len := PySem.W.mg_none_of X G z_len, z_max := PySem.W.mg_none_of X G z_max, z_min := PySem.W.mg_none_of X G z_min, z_range := PySem.W.mg_none_of X G z_range, z_tuple := PySem.W.mg_none_of X G z_tuple, z_zip := PySem.W.mg_none_of X G z_zip, t_MOST := t_MOST, c_MOST := PySem.W.mg_of X G v_MOST, t_MOST_SIDES := t_MOST_SIDES, c_MOST_SIDES := PySem.W.mg_of X G v_MOST_SIDES }
  refine ⟨PySem.W.fnOf "law" "law" (defArgs st_law) (defBody st_law) (defScope st_law) .none kV_law dc_law pm_law an_law cd_law ct_law, [(cc_are_numbers, tt_are_numbers)], lSp ⟨K, caOf K, [tt_are_numbers]⟩ sp_law, List.forall_mem_cons.mpr ⟨TQ_are_numbers.2, fun _ hp => absurd hp List.not_mem_nil⟩, List.forall_mem_cons.mpr ⟨DL.notab X nt_ TQ_are_numbers.2, fun _ hp => absurd hp List.not_mem_nil⟩, List.forall_mem_cons.mpr ⟨TQ_are_numbers.1, fun _ hp => absurd hp List.not_mem_nil⟩, fun s v => .of_eq rfl, fun H a ns hl _ hT hS => DL.sp_start hS (fun P hP => LawP.start_law hl hP) (DL.tabs_empty (cs := [(cc_are_numbers, tt_are_numbers)]) hT), fun base _ _ hTB => ?_⟩
  have TB_are_numbers : GxR.TabB base mg cc_are_numbers tt_are_numbers := DL.tabB_of (hTB (cc_are_numbers, tt_are_numbers) (by simp))
  have G_INI := ok_INI (P := l.prog) (w := w) (base := base) (CA := caOf K) T
  have G_FINI := ok_FINI (P := l.prog) (w := w) (base := base) (CA := caOf K) T
  have G_is_number := ok_is_number (P := l.prog) (w := w) (base := base) (CA := caOf K) T
  have G__law_pool := ok__law_pool (P := l.prog) (w := w) (base := base) (CA := caOf K) T
  have G__law_take := ok__law_take (P := l.prog) (w := w) (base := base) (CA := caOf K) T
  have G__law_number := ok__law_number (P := l.prog) (w := w) (base := base) (CA := caOf K) T
  have G__law_said := ok__law_said (P := l.prog) (w := w) (base := base) (CA := caOf K) T
  have G__law_fault := ok__law_fault (P := l.prog) (w := w) (base := base) (CA := caOf K) T
  have G__law_one := ok__law_one (P := l.prog) (w := w) (base := base) (CA := caOf K) T G__law_take
  have G__law_row := ok__law_row (P := l.prog) (w := w) (base := base) (CA := caOf K) T G__law_number
  have G__law_entry := ok__law_entry (P := l.prog) (w := w) (base := base) (CA := caOf K) T G__law_take
  have G_made_field := ok_made_field (P := l.prog) (w := w) (base := base) (CA := caOf K) T G_INI G_FINI
  have G__law_numbers := ok__law_numbers (P := l.prog) (w := w) (base := base) (CA := caOf K) T G__law_one G__law_entry
  have G__law_field_is := ok__law_field_is (P := l.prog) (w := w) (base := base) (CA := caOf K) T G__law_number G__law_row
  have G__law_beyond := ok__law_beyond (P := l.prog) (w := w) (base := base) (CA := caOf K) T G__law_one G__law_take
  have G__law_refusal := ok__law_refusal (P := l.prog) (w := w) (base := base) (CA := caOf K) T G_made_field
  have G__law_bent := ok__law_bent (P := l.prog) (w := w) (base := base) (CA := caOf K) T G__law_take G__law_beyond G__law_one
  have G_are_numbers := ok_are_numbers (P := l.prog) (w := w) (base := base) (CA := caOf K) T TB_are_numbers G_is_number
  have G_is_field := ok_is_field (P := l.prog) (w := w) (base := base) (CA := caOf K) T G_are_numbers G_made_field
  have G__law_right := ok__law_right (P := l.prog) (w := w) (base := base) (CA := caOf K) T G__law_one G__law_take G__law_numbers G_made_field G__law_field_is G__law_said G_is_field G__law_bent G__law_fault G__law_refusal
  exact ok_law (P := l.prog) (w := w) (base := base) (CA := caOf K) T G__law_right G__law_pool
end LawP
open PySem PySem.W PyProof.Rows
set_option maxHeartbeats 0 in
theorem PySem.Challenge.cw_boutstairs_k01_fields_and_their_errors_holds : PySem.Challenge.rw_boutstairs_k01_fields_and_their_errors.Holds := by
  w_on; o_law; k_head; (case hw => w_witness2)
  k_fill
  refine DL.walk_gen (l := PySem.Challenge.rw_boutstairs_k01_fields_and_their_errors) (n := 63) (k := 8) (x := "_law_script") (CX := fun w => L2.CX PySem.Challenge.rw_boutstairs_k01_fields_and_their_errors.prog w) rfl (by decide) rfl ⟨rfl, by decide, by decide⟩ (fun w h Y => PySem.W.kIn_of Y) ?F (fun _ _ _ _ _ h => ?C)
  case C =>
    obtain ⟨_, _, _, _, _, _, _, _, _, _, _, _, z⟩ := h
    exact z.elim
  case F =>
    rintro w mg mb fa h ⟨lo, mean, TOP⟩ Y KX G hmg
    refine' LawP.all_mk TOP KX G hmg ?l_ini ?c_ini ?k_ini ?t_ini ?aC_Refused ?aC_BadSize ?aC_BadStrength ?aC_BadGuard ?aC_Unlike ?xL_BadSize ?rv_BadSize ?sa_BadSize ?kC_BadSize ?nw_BadSize ?iC_BadSize ?ga_BadSize ?gg_BadSize ?hC_BadSize ?su_BadSize_Refused ?su_BadSize_BadSize ?su_BadSize_BadStrength ?su_BadSize_Unlike ?su_BadSize_BadGuard ?xL_Unlike ?rv_Unlike ?sa_Unlike ?kC_Unlike ?nw_Unlike ?iC_Unlike ?ga_Unlike ?gg_Unlike ?hC_Unlike ?su_Unlike_Refused ?su_Unlike_BadSize ?su_Unlike_BadStrength ?su_Unlike_Unlike ?su_Unlike_BadGuard ?xL_BadStrength ?rv_BadStrength ?sa_BadStrength ?kC_BadStrength ?nw_BadStrength ?iC_BadStrength ?ga_BadStrength ?gg_BadStrength ?hC_BadStrength ?su_BadStrength_Refused ?su_BadStrength_BadSize ?su_BadStrength_BadStrength ?su_BadStrength_Unlike ?su_BadStrength_BadGuard ?xL_BadGuard ?rv_BadGuard ?sa_BadGuard ?kC_BadGuard ?nw_BadGuard ?iC_BadGuard ?ga_BadGuard ?gg_BadGuard ?hC_BadGuard ?su_BadGuard_Refused ?su_BadGuard_BadSize ?su_BadGuard_BadStrength ?su_BadGuard_Unlike ?su_BadGuard_BadGuard ?eC_Refused ?tC_Refused ?oC_Refused ?eC_BadSize ?tC_BadSize ?oC_BadSize ?eC_BadStrength ?tC_BadStrength ?oC_BadStrength ?eC_BadGuard ?tC_BadGuard ?oC_BadGuard ?eC_Unlike ?tC_Unlike ?oC_Unlike ?l_fini ?c_fini ?k_fini ?aC_Field ?pg_Field ?hd_Field ?po_Field ?sa_Field ?n0_Field ?n1_Field ?n2_Field ?mk_Field ?iC_Field ?fn_fini ?kC_Field ?ka_Field ?kb_Field ?kc_Field ?kd_Field ?a_is_number ?l_is_number ?c_is_number ?k_is_number ?a_are_numbers ?l_are_numbers ?c_are_numbers ?k_are_numbers ?rq_are_numbers ?ti_are_numbers ?a_made_field ?l_made_field ?c_made_field ?k_made_field ?a_is_field ?l_is_field ?c_is_field ?k_is_field ?a__law_pool ?l__law_pool ?c__law_pool ?k__law_pool ?a__law_take ?l__law_take ?c__law_take ?k__law_take ?a__law_one ?l__law_one ?c__law_one ?k__law_one ?a__law_number ?l__law_number ?c__law_number ?k__law_number ?a__law_row ?l__law_row ?c__law_row ?k__law_row ?a__law_said ?l__law_said ?c__law_said ?k__law_said ?a__law_entry ?l__law_entry ?c__law_entry ?k__law_entry ?a__law_numbers ?l__law_numbers ?c__law_numbers ?k__law_numbers ?a__law_field_is ?l__law_field_is ?c__law_field_is ?k__law_field_is ?a__law_fault ?l__law_fault ?c__law_fault ?k__law_fault ?a__law_refusal ?l__law_refusal ?c__law_refusal ?k__law_refusal ?a__law_beyond ?l__law_beyond ?c__law_beyond ?k__law_beyond ?a__law_bent ?l__law_bent ?c__law_bent ?k__law_bent ?a__law_right ?l__law_right ?c__law_right ?k__law_right ?a_law ?l_law ?c_law ?k_law ?nt_ ?z_all ?z_bool ?z_enumerate ?z_int ?z_isinstance ?z_len ?z_max ?z_min ?z_range ?z_tuple ?z_zip ?v_MOST ?v_MOST_SIDES
    (case aC_Refused => k_is); (case aC_BadSize => k_is); (case aC_BadStrength => k_is); (case aC_BadGuard => k_is); (case aC_Unlike => k_is); (case iC_BadSize => k_is); (case iC_Unlike => k_is); (case iC_BadStrength => k_is); (case iC_BadGuard => k_is); (case l_ini => k_is); (case c_ini => k_is); (case k_ini => k_is); (case t_ini => k_is); (case xL_BadSize => k_is); (case rv_BadSize => decide +kernel); (case sa_BadSize => k_is); (case kC_BadSize => k_is); (case nw_BadSize => k_is); (case ga_BadSize => k_is); (case gg_BadSize => k_is); (case hC_BadSize => k_is); (case su_BadSize_Refused => k_is); (case su_BadSize_BadSize => k_is); (case su_BadSize_BadStrength => k_is); (case su_BadSize_Unlike => k_is); (case su_BadSize_BadGuard => k_is); (case xL_Unlike => k_is); (case rv_Unlike => decide +kernel); (case sa_Unlike => k_is); (case kC_Unlike => k_is); (case nw_Unlike => k_is); (case ga_Unlike => k_is); (case gg_Unlike => k_is); (case hC_Unlike => k_is); (case su_Unlike_Refused => k_is); (case su_Unlike_BadSize => k_is); (case su_Unlike_BadStrength => k_is); (case su_Unlike_Unlike => k_is); (case su_Unlike_BadGuard => k_is); (case xL_BadStrength => k_is); (case rv_BadStrength => decide +kernel); (case sa_BadStrength => k_is); (case kC_BadStrength => k_is); (case nw_BadStrength => k_is); (case ga_BadStrength => k_is); (case gg_BadStrength => k_is); (case hC_BadStrength => k_is); (case su_BadStrength_Refused => k_is); (case su_BadStrength_BadSize => k_is); (case su_BadStrength_BadStrength => k_is); (case su_BadStrength_Unlike => k_is); (case su_BadStrength_BadGuard => k_is); (case xL_BadGuard => k_is); (case rv_BadGuard => decide +kernel); (case sa_BadGuard => k_is); (case kC_BadGuard => k_is); (case nw_BadGuard => k_is); (case ga_BadGuard => k_is); (case gg_BadGuard => k_is); (case hC_BadGuard => k_is); (case su_BadGuard_Refused => k_is); (case su_BadGuard_BadSize => k_is); (case su_BadGuard_BadStrength => k_is); (case su_BadGuard_Unlike => k_is); (case su_BadGuard_BadGuard => k_is); (case eC_Refused => k_is); (case tC_Refused => k_is); (case oC_Refused => k_is); (case eC_BadSize => k_is); (case tC_BadSize => k_is); (case oC_BadSize => k_is); (case eC_BadStrength => k_is); (case tC_BadStrength => k_is); (case oC_BadStrength => k_is); (case eC_BadGuard => k_is); (case tC_BadGuard => k_is); (case oC_BadGuard => k_is); (case eC_Unlike => k_is); (case tC_Unlike => k_is); (case oC_Unlike => k_is); (case aC_Field => k_is); (case iC_Field => k_is); (case l_fini => k_is); (case c_fini => k_is); (case k_fini => k_is); (case pg_Field => k_is); (case hd_Field => k_is); (case po_Field => k_is); (case sa_Field => k_is); (case n0_Field => k_is); (case n1_Field => k_is); (case n2_Field => k_is); (case mk_Field => k_is); (case fn_fini => k_is); (case kC_Field => k_is); (case ka_Field => k_is); (case kb_Field => k_is); (case kc_Field => k_is); (case kd_Field => k_is); (case a_is_number => k_is); (case l_is_number => k_is); (case c_is_number => k_is); (case k_is_number => k_is); (case a_are_numbers => k_is); (case l_are_numbers => k_is); (case c_are_numbers => k_is); (case k_are_numbers => k_is); (case rq_are_numbers => kernel_rfl); (case ti_are_numbers => kernel_rfl); (case a_made_field => k_is); (case l_made_field => k_is); (case c_made_field => k_is); (case k_made_field => k_is); (case a_is_field => k_is); (case l_is_field => k_is); (case c_is_field => k_is); (case k_is_field => k_is); (case a__law_pool => k_is); (case l__law_pool => k_is); (case c__law_pool => k_is); (case k__law_pool => k_is); (case a__law_take => k_is); (case l__law_take => k_is); (case c__law_take => k_is); (case k__law_take => k_is); (case a__law_one => k_is); (case l__law_one => k_is); (case c__law_one => k_is); (case k__law_one => k_is); (case a__law_number => k_is); (case l__law_number => k_is); (case c__law_number => k_is); (case k__law_number => k_is); (case a__law_row => k_is); (case l__law_row => k_is); (case c__law_row => k_is); (case k__law_row => k_is); (case a__law_said => k_is); (case l__law_said => k_is); (case c__law_said => k_is); (case k__law_said => k_is); (case a__law_entry => k_is); (case l__law_entry => k_is); (case c__law_entry => k_is); (case k__law_entry => k_is); (case a__law_numbers => k_is); (case l__law_numbers => k_is); (case c__law_numbers => k_is); (case k__law_numbers => k_is); (case a__law_field_is => k_is); (case l__law_field_is => k_is); (case c__law_field_is => k_is); (case k__law_field_is => k_is); (case a__law_fault => k_is); (case l__law_fault => k_is); (case c__law_fault => k_is); (case k__law_fault => k_is); (case a__law_refusal => k_is); (case l__law_refusal => k_is); (case c__law_refusal => k_is); (case k__law_refusal => k_is); (case a__law_beyond => k_is); (case l__law_beyond => k_is); (case c__law_beyond => k_is); (case k__law_beyond => k_is); (case a__law_bent => k_is); (case l__law_bent => k_is); (case c__law_bent => k_is); (case k__law_bent => k_is); (case a__law_right => k_is); (case l__law_right => k_is); (case c__law_right => k_is); (case k__law_right => k_is); (case a_law => k_is); (case l_law => k_is); (case c_law => k_is); (case k_law => k_is); (case nt_ => kernel_rfl); (case z_all => k_is); (case z_bool => k_is); (case z_enumerate => k_is); (case z_int => k_is); (case z_isinstance => k_is); (case z_len => k_is); (case z_max => k_is); (case z_min => k_is); (case z_range => k_is); (case z_tuple => k_is); (case z_zip => k_is); (case v_MOST => k_is); (case v_MOST_SIDES => k_is)
