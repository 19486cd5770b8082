import PyProof.Rows.All
import Wide.All
import OpenK.AllK
import Wide.FinOn
import HandS.AnyAll
import HandS.GenOver
import HandS.GenList
import HandS.ForMost
import HandS.ForExc
import HandS.Walk
import HandS.SortRule
import HandS.SortInts
import HandS.Wide
import HandS.TupAny
import HandS.TupMul
import HandS.Deep
import HandS.Zip
import HandS.Rev
import KE.GoesEnum
import HandS.Style
import HandS.ExcInit
import HandS.ExcField
import HandS.TryMany
import HandS.WordsExc
import HandS.More
import HandS.IsInst
import HandS.Defaults
import HandS.SetFor
import KE.GoesMore
import HandS.Conv
import HandS.Gcd
import HandS.Dict
import KE.KDictWalk
import PyProof.Rows.SetFrom
import PyProof.P3In
import HandS.CallSlots
import KE.DataMinMax
import HandS.NamedTupSort
import HandS.DictComp
import HandS.ListItems
import KE.KDictList
import PyProof.DictValues
import KE.SortData
import PyProof.AutoSeq1
import KE.KMathGC
import PyProof.Rows.SortShell
import HandS.EndTab
import KE.KNest
import PyProof.IsRules
import PySem.Challenge.RW_boutstairs_k19_tables_of_records
set_option Elab.async false
set_option linter.all false
set_option maxRecDepth 100000
set_option maxHeartbeats 4000000
namespace L2
open PySem PySem.Spec PyProof.Rows GenW
abbrev Cx.gen (X : Cx) (s : Shared) (H : Hp) (scope : Scope) (genv : Env) (fp : List Addr) (pn : List (Addr × Obj)) : Cx :=
  { X with A := X.A.in1.in1.deeper genv, s_0 := s, H_0 := H, env := genv, outer := X.stack, stack := genv :: X.stack, ex := fp, fn := fun x => scope.names.lookup x == some .cell, pn := pn, xe := fun _ _ => False }
section
variable {X : Cx} {pins : List (Addr × Obj)} {σ : St} {H : Hp} {s : Shared}
theorem gen_start {scope : Scope} {own : List (Str × Nat)} {fp : List Addr} {code : Value} {s5 : Shared} {it : Value} {a : Addr} {ob : Obj} (I : Inv X pins σ H s) (ok : BlkOk X.N X.env.scope scope own) (hcell : ∀ y ∈ scope.names, y.2 ≠ .cell) (hN : X.N.Nodup)
    (hfp : ∀ b ∈ fp, FpOk X pins H b ∧ b < s.heap.objs.size) (hns : s5.heap.Ns s.heap.objs.size (fun y => if y = ".0" then some it else none)) (kp : ∀ b o, s.heap.get? b = some o → s5.heap.get? b = some o) (hos : s5.os = s.os) (hb : AllBare s5.gens)
    (ha : s.heap.objs.size < a) (hao : s5.heap.get? a = some ob) (hoc : ∀ v, ob.data ≠ .cell v) :
    Inv (X.gen s H scope (genEnv scope (cloFrom X.env.cells scope.names []) s.heap.objs.size code builtinsNs X.env) fp [(a, ob)]) [] (wipe σ (own.map (·.2))) H s5 := by
  have hfree : ∀ y ∈ scope.names, y.2 = .free → ∃ c, X.env.cells.lookup y.1 = some c := fun y hy e => by
    rcases ok.free y hy e with k | k
    · exact I.ok.has _ (.inl k)
    · exact I.ok.has _ (.inr k)
  generalize hcenv : genEnv scope (cloFrom X.env.cells scope.names []) s.heap.objs.size code builtinsNs X.env = cenv
  have hL : cenv.locals = s.heap.objs.size := by rw [← hcenv]; rfl
  have hcl : cenv.cells = cloFrom X.env.cells scope.names [] := by rw [← hcenv]; rfl
  have hsc : cenv.scope = scope := by rw [← hcenv]; rfl
  have cm : ∀ {y c}, cenv.cells.lookup y = some c → X.env.cells.lookup y = some c ∧ c < s.heap.objs.size := fun {y c} hm => by
    rw [hcl] at hm
    rcases cloFrom_mem (PySem.mem_of_lookup hm) with hm | ⟨h1, rfl⟩
    · cases hm
    · obtain ⟨c, hc⟩ := hfree _ h1 rfl
      rw [hc]
      obtain ⟨w, z⟩ := I.cell _ _ hc
      exact ⟨rfl, z.lt⟩
  have look : ∀ {y}, scope.names.lookup y = some .free → ∃ c, cenv.cells.lookup y = some c ∧ X.env.cells.lookup y = some c := fun {y} hl => by
    have hy : (y, NameKind.free) ∈ scope.names := PySem.mem_of_lookup hl
    obtain ⟨c', e'⟩ := mem_lookup (cloFrom_has (cells := X.env.cells) (acc := []) hy)
    rw [← hcl] at e'
    exact ⟨c', e', (cm e').1⟩
  have okB : (X.gen s H scope cenv fp [(a, ob)]).Ok := by
    refine ⟨I.ok.mod, by show cenv.scope.kind = _; rw [hsc]; exact ok.kind, by show cenv.globals = _; rw [← hcenv]; exact I.ok.glob, by show cenv.builtins = _; rw [← hcenv]; rfl, by show s.heap.objs.size ≤ cenv.locals; rw [hL]; exact Nat.le_refl _,
      fun y z c e1 e2 => ?_, fun y hy => ?_, fun y c z e => ?_, fun q => I.ok.hd q, Around.frames_deeper (A := X.A.in1.in1) I.ok.frames, .inr ⟨rfl, ?_⟩, fun b hb => ⟨?_, fun y c e z => ?_⟩, I.bs, Nat.le_trans I.ok.bsz I.sz, fun b o e hb => ?_, fun b hb z => ?_, I.stack, I.stkFree⟩
    · exact I.ok.inj y z c (cm (show cenv.cells.lookup y = some c from e1)).1 (cm (show cenv.cells.lookup z = some c from e2)).1
    · have hy : cenv.scope.names.lookup y = some .cell ∨ cenv.scope.names.lookup y = some .free := hy
      rw [hsc] at hy
      rcases hy with hy | hy
      · exact absurd rfl (hcell _ (PySem.mem_of_lookup hy))
      · obtain ⟨c, h1, _⟩ := look hy
        exact ⟨c, h1⟩
    · have z : (scope.names.lookup y == some NameKind.cell) = true := z
      have z : scope.names.lookup y = some .cell := by simpa using z
      exact absurd rfl (hcell _ (PySem.mem_of_lookup z))
    · show cenv.frame = some cenv.locals
      rw [← hcenv]; rfl
    · show b ≠ cenv.locals
      rw [hL]; exact Nat.ne_of_lt (hfp b hb).2
    · exact (hfp b hb).1.2.2.2.2.1 y c (cm (show cenv.cells.lookup y = some c from e)).1 z
    · rcases (hfp b hb).1.2.2.2.1 with z | z
      · exact I.ok.noex b o e z
      · exact absurd (Nat.lt_of_lt_of_le (Heap.lt_size e) (Nat.le_trans I.ok.bsz z)) (Nat.lt_irrefl _)
    · rcases List.mem_cons.mp (I.stkSub b z) with z | z
      · exact (hfp b hb).1.2.1 z
      · exact (hfp b hb).1.2.2.1 z
  refine ⟨okB, hos, hb, Un.kept kp, ⟨_, by show Heap.Ns _ cenv.locals _; rw [hL]; exact hns, fun i y av e1 e2 e3 => ?_⟩, fun y c e => ?_, ?_, fun y c e => ?_, fun p hp => ?_, I.hok.kept kp, by rw [wipe_length]; exact I.len⟩
  · obtain ⟨e2, hne⟩ := wipe_some e2
    have e3 : Vis cenv.scope y := e3
    rw [hsc] at e3
    have no : ∀ k, scope.names.lookup y = some k → ¬ (k = .local ∨ k = .cell) := fun k e hh => by
      rcases ok.own _ (PySem.mem_of_lookup e) hh with e' | e'
      · obtain ⟨p, hp, hpy⟩ := List.mem_map.mp e'
        have e3 := ok.ix p hp
        have : p.1 = y := hpy
        rw [this] at e3
        exact hne (List.mem_map.mpr ⟨p, hp, nodup_ix hN e3 e1⟩)
      · exact e' (List.mem_of_getElem? e1)
    have hfr : scope.names.lookup y = some .free := by
      rcases e3 with e3 | e3 | e3
      · exact absurd (.inl rfl) (no _ e3)
      · exact absurd (.inr rfl) (no _ e3)
      · exact e3
    obtain ⟨m, hn, hl⟩ := I.loc
    have hvis : Vis X.env.scope y := (ok.free _ (PySem.mem_of_lookup hfr) rfl).elim (fun k => .inr (.inl k)) (fun k => .inr (.inr k))
    obtain ⟨w, r, q⟩ := hl i y av e1 e2 hvis
    refine ⟨w, r, .inr ⟨.inr (by show cenv.scope.names.lookup y = _; rw [hsc]; exact hfr), ?_⟩⟩
    obtain ⟨c, h1, h2⟩ := look hfr
    rcases q with ⟨k, _⟩ | ⟨_, c', e', z⟩
    · have k : X.env.scope.names.lookup y = some .local := k
      rcases ok.free _ (PySem.mem_of_lookup hfr) rfl with k' | k' <;> rw [show X.env.scope.names.lookup y = _ from k'] at k <;> cases k
    · rw [h2] at e'; cases e'
      exact ⟨c, h1, z.keeps kp⟩
  · obtain ⟨w, z⟩ := I.cell y c (cm (show cenv.cells.lookup y = some c from e)).1
    exact ⟨w, z.keeps kp⟩
  · show H cenv.locals = none
    rw [hL]; exact I.hok.fresh (Nat.le_refl _)
  · exact I.freeC y c (cm (show cenv.cells.lookup y = some c from e)).1
  · have hp : p ∈ [(a, ob)] ++ ([] : List (Addr × Obj)) := hp
    have hp : p = (a, ob) := by simpa using hp
    subst hp
    refine ⟨hao, I.hok.fresh (Nat.le_of_lt ha), ?_, fun hm => ?_, hoc⟩
    · show a ≠ cenv.locals
      rw [hL]; exact Nat.ne_of_gt ha
    · rcases List.mem_cons.mp (I.stkSub a hm) with z | z
      · have := I.lt
        rw [← z] at this
        exact absurd (Nat.lt_trans this ha) (Nat.lt_irrefl _)
      · exact I.nofs (Nat.le_of_lt ha) z
def GJ (X : Cx) (σ : St) (fp : List Addr) (tn : Nat → Heap → Prop) (g : Nat) (W : Nat → Hp → Prop) (i : Nat) (s : Shared) : Prop := ∃ H', Inv X [] σ H' s ∧ tn i s.heap ∧ (∀ b ∈ fp, H' b = none) ∧ g < s.gens.size ∧ W i H'
def GE (X : Cx) (σ : St) (g : Nat) (W : Nat → Hp → Prop) (i : Nat) (s : Shared) : Prop := ∃ H', Inv X [] σ H' s ∧ g < s.gens.size ∧ W i H'
def GV (X : Cx) (σ : St) (V : Hp → Prop) (s : Shared) : Prop := ∃ H', Inv X [] σ H' s ∧ V H'
def gY (J : Nat → Shared → Prop) (JV : Shared → Prop) (g n : Nat) : Protocol := fun m s₀ v s kap => ∃ i b, (i < n ∧ i + m = n) ∧ v = .bool b ∧ (b = true → J (i + 1) s ∧ ∀ gs' : GenState, gs'.bare = true → kap (.send .none) ((s.setGen g gs').setGen g .running)) ∧ (b = false → JV s)
theorem Inv.gens {g' : Array GenState} (I : Inv X pins σ H s) (hg : AllBare g') : Inv X pins σ H { s with gens := g' } :=
  I.call (h' := s.heap) (g' := g') (t' := s.toks) (d' := s.drawn) (ch := []) (Un.refl) I.hok hg fun b hb => absurd hb (by simp)
theorem GJ.woken {fp : List Addr} {tn : Nat → Heap → Prop} {g : Nat} {W : Nat → Hp → Prop} {i : Nat} {gs' : GenState} (j : GJ X σ fp tn g W i s) (hb : gs'.bare = true) : GJ X σ fp tn g W i ((s.setGen g gs').setGen g .running) := by
  obtain ⟨H', I, t, n, lt, w⟩ := j
  exact ⟨H', I.gens (allBare_setGen (allBare_setGen I.bare hb) rfl), t, n, by rw [setGen_size, setGen_size]; exact lt, w⟩
end
section
variable {X : Cx} {fp : List Addr} {tn : Nat → Heap → Prop} {elt tg iter : Expr} {scope : Scope} {pos : Pos} {it : Addr} {J : It} {te : TE} {gg : TG} {σ : St} {g n : Nat} {V : Hp → Prop} {W : Nat → Hp → Prop} {A : Around} {vs : List Nat}
theorem seg_genx (hA : ∀ c, c = Code.compLoop (.GeneratorExp elt [⟨tg, iter, [], 0⟩] scope pos) 0 (.ref it) .none X.env ∨ c = Code.compStart (.GeneratorExp elt [⟨tg, iter, [], 0⟩] scope pos) 0 (.ref it) .none X.env → A.over c [] = X.A)
    (hc : X.calm = true) (hxe : X.xe = fun _ _ => False) (hco : X.env.scope.isCoroutine = false) (T : Turn X.prog X.w X.K tg J fp it tn) (pg : PG X tg gg) (pe : PE X elt te) (hex : X.ex = fp) (hpn : ∀ b ∈ fp, ∀ p ∈ X.pn, p.1 ≠ b)
    (turn : ∀ i H, i ≤ n → W i H → (i = n ∧ J.stop i H) ∨ (i < n ∧ J.go i H ∧ ∀ x H', J.yld i H x H' → gg x (wipe σ vs) H' fun σ2 H2 => wipe σ2 vs = wipe σ vs ∧ te σ2 H2 fun y H4 => ∃ b, y = .bl b ∧ (b = true → W (i + 1) H4) ∧ (b = false → V H4))) :
    ∀ (k i : Nat) (s₀ s : Shared), n - i = k → i ≤ n → GJ X (wipe σ vs) fp tn g W i s →
      Seg (model X.prog X.w) A (fun m s₀ r s => r = .ok .next ∧ (m = 1 ∧ GE X (wipe σ vs) g W n s)) (gY (GJ X (wipe σ vs) fp tn g W) (GV X (wipe σ vs) V) g n) (n - i + 1) s₀
        (.compLoop (.GeneratorExp elt [⟨tg, iter, [], 0⟩] scope pos) 0 (.ref it) .none X.env)
        ((model X.prog X.w).den (.compLoop (.GeneratorExp elt [⟨tg, iter, [], 0⟩] scope pos) 0 (.ref it) .none X.env)) [] s := by
  have stat : ∀ {σ' : St} {H' : Hp} {s' : Shared}, Inv X [] σ' H' s' → (∀ b ∈ fp, H' b = none) → ∀ b ∈ fp, FpOk X [] H' b := fun {σ' H' s'} I' hn b hb =>
    ⟨hn b hb, (I'.ok.exf b (hex ▸ hb)).1, I'.ok.exfs b (hex ▸ hb), .inl (hex ▸ hb), fun x c e => (I'.ok.exf b (hex ▸ hb)).2 x c e, fun p hp => by rw [List.append_nil] at hp; exact hpn b hb p hp⟩
  intro k
  induction k with
  | zero =>
    intro i s₀ s hk hi hj
    have hin : i = n := by omega
    subst hin
    obtain ⟨H5, I5, st5, n5, lt5, w5⟩ := hj
    show Seg _ A _ _ _ s₀ _ ((compTurn (.GeneratorExp elt [⟨tg, iter, [], 0⟩] scope pos) 0 (.ref it) .none X.env).onRaise (leaving X.env)) [] s
    rw [compTurn_gen, Sem.onRaise_eq_wrap]
    refine seg_bind_wrap (wpAny_standAt ?_)
    refine seg_bind_wrap ?_
    rw [hA _ (.inl rfl)]
    rcases turn i H5 (Nat.le_refl _) w5 with ⟨_, stop⟩ | ⟨lt, _⟩
    · refine wpAny_gsz (n := g + 1) lt5 ?_
      refine thnF (T.done X rfl rfl rfl hc i [] s _ H5 (fun _ _ => False) I5 (stat I5 n5) st5 stop) fun r s6 ⟨hr, I6⟩ lt6 => ?_
      subst hr
      exact seg_end (.ok .next) ⟨rfl, by omega, H5, I6, lt6, w5⟩
    · exact absurd lt (Nat.lt_irrefl _)
  | succ k ih =>
    intro i s₀ s hk hi hj
    have hlt : i < n := by omega
    obtain ⟨H5, I5, st5, n5, lt5, w5⟩ := hj
    show Seg _ A _ _ _ s₀ _ ((compTurn (.GeneratorExp elt [⟨tg, iter, [], 0⟩] scope pos) 0 (.ref it) .none X.env).onRaise (leaving X.env)) [] s
    rw [compTurn_gen, Sem.onRaise_eq_wrap]
    refine seg_bind_wrap (wpAny_standAt ?_)
    refine seg_bind_wrap ?_
    rw [hA _ (.inl rfl)]
    rcases turn i H5 hi w5 with ⟨e, _⟩ | ⟨_, go, step⟩
    · exact absurd e (Nat.ne_of_lt hlt)
    refine wpAny_gsz (n := g + 1) lt5 ?_
    refine thnF (T.item X rfl rfl rfl hc i [] s _ H5 (fun _ _ => False) I5 (stat I5 n5) st5 go) fun r s6 ⟨u, hr, h6⟩ lt6 => ?_
    subst hr
    refine seg_bind_wrap ?_
    rw [hA _ (.inl rfl)]
    refine wpAny_gsz (n := g + 1) lt6 ?_
    refine thnF h6 fun _ s7 ⟨x, H7, I7, r7, y7, st7, n7⟩ lt7 => ?_
    have I7' := I7.pinned (stat I7 n7) (T.obj _ _ st7)
    refine seg_bind_wrap ?_
    rw [hA _ (.inl rfl)]
    refine wpAny_gsz (n := g + 1) lt7 ?_
    have hg := pg.run _ s7 _ H7 x u _ I7' r7 (step x H7 y7)
    rw [hxe] at hg
    refine thnF hg fun _ s8 ⟨σ8, H8, I8, hw8, q8⟩ lt8 => ?_
    refine seg_bind_wrap (wpAny_tests_nil ?_)
    simp only [if_true]
    have hy : ∀ v, yieldOut X.env v = yieldValue v := fun v => by simp only [yieldOut, hco, Bool.false_eq_true, if_false]
    simp only [hy]
    rw [Sem.bind_eq_wrap', Sem.bind_eq_wrap', Sem.wrap_wrap, Sem.wrap_wrap]
    refine seg_wrap ?_
    rw [hA _ (.inl rfl)]
    refine wpAny_gsz (n := g + 1) lt8 ?_
    have he := pe.run _ s8 σ8 H8 _ I8 q8
    rw [hxe] at he
    refine thnF he fun z s10 ⟨yv, H10, I10, r10, b, ey, nx, nv⟩ lt10 => ?_
    subst ey
    obtain rfl : z = Value.bool b := r10
    have pin' : ∀ b ∈ fp, ∀ o, s7.heap.get? b = some o → s10.heap.get? b = some o ∧ H10 b = none := fun b hb o e =>
      let z := I10.pin (b, o) (List.mem_append_right _ (List.mem_append_right _ (mem_pinsAt hb e)))
      ⟨z.1, z.2.1⟩
    have hl : (wipe σ vs).length = σ8.length := by rw [← hw8, wipe_length]
    have Iw : Inv X [] (wipe σ vs) H10 s10 := (I10.unpinned (pins := [])).weak hl (fun j v e => by
      rw [← hw8] at e
      exact (wipe_some e).1)
    have Jn : b = true → GJ X (wipe σ vs) fp tn g W (i + 1) s10 := fun hb => by
      refine ⟨H10, Iw, T.keep _ _ _ st7 fun b hb o e => (pin' b hb o e).1, fun b hb => ?_, lt10, nx hb⟩
      obtain ⟨o, e, _⟩ := T.obj _ _ st7 b hb
      exact (pin' b hb o e).2
    refine seg_at (seg_yield (n := n - i) rfl rfl rfl ⟨i, b, ⟨hlt, by omega⟩, rfl, fun hbt => ⟨Jn hbt, fun gs' hb => ?_⟩, fun hbf => ⟨H10, Iw, nv hbf⟩⟩)
    rw [show n - i = (n - (i + 1)) + 1 by omega]
    exact seg_again rfl (ih (i + 1) _ _ (by omega) hlt ((Jn hbt).woken hb))
end
end L2
namespace L2
open PySem PySem.Spec PyProof.Rows GenW GxR
section
variable {prog : Program} {w : World} {A : Around}
theorem codeAny_all_loopI {R : Result → Shared → Prop} {it : Value} {n : Nat} (St : Nat → Shared → Prop) (Fi No : Shared → Prop)
    (item : ∀ i s, i < n → St i s → wpAny (model prog w) A.in1 (pyNext it) (fun o s' => ∃ b, o = some (.bool b) ∧ (b = true → St (i + 1) s') ∧ (b = false → No s')) (fun _ _ => False) s)
    (done : ∀ s, St n s → wpAny (model prog w) A.in1 (pyNext it) (fun o s' => o = none ∧ Fi s') (fun _ _ => False) s)
    (hT : ∀ s', Fi s' → R (.ok (.ret (.bool true))) s') (hF : ∀ s', No s' → R (.ok (.ret (.bool false))) s') :
    ∀ (k i : Nat) (s : Shared), n - i = k → i ≤ n → St i s → codeAny (model prog w) A (.builtin "all.loop" ⟨[it], []⟩) R s := by
  intro k
  induction k with
  | zero =>
    intro i s hk hi hst
    have hin : i = n := by omega
    subst hin
    refine codeAny_builtin F.entry_all_loop ?_
    rw [Around.under_plainId F.plain_all_loop _]
    show wpAny _ A.in1 (pyNext it >>= _) _ _ s
    refine wpAny_bind (thnF (done s hst) fun o s' ⟨ho, hf⟩ => ?_)
    subst ho
    exact wpAny_bind (wpAny_rule (wpAny_pure (hT s' hf)))
  | succ k ih =>
    intro i s hk hi hst
    have hlt : i < n := by omega
    refine codeAny_builtin F.entry_all_loop ?_
    rw [Around.under_plainId F.plain_all_loop _]
    show wpAny _ A.in1 (pyNext it >>= _) _ _ s
    refine wpAny_bind (thnF (item i s hlt hst) fun o s' ⟨b, ho, hst', hno⟩ => ?_)
    subst ho
    refine wpAny_bind (wpAny_holding (wpAny_truthy_bool ?_))
    refine wpAny_bind (wpAny_letGo ?_)
    cases b with
    | true =>
      simp only [if_true]
      exact wpAny_pure ⟨plainId_quiet F.plain_all_loop _, ih (i + 1) _ (by omega) hlt (hst' rfl)⟩
    | false =>
      simp only [Bool.false_eq_true, if_false]
      exact wpAny_bind (wpAny_rule (wpAny_pure (hF s' (hno rfl))))
theorem call_all_I {x : Value} {Q : Value → Shared → Prop} {E : Value → Shared → Prop} {s : Shared}
    (h : wpAny (model prog w) A.in1 (pyIter x) (fun it s₂ => ∃ (n : Nat) (St : Nat → Shared → Prop) (Fi No : Shared → Prop), St 0 s₂ ∧
      (∀ i s, i < n → St i s → wpAny (model prog w) A.in1 (pyNext it) (fun o s' => ∃ b, o = some (.bool b) ∧ (b = true → St (i + 1) s') ∧ (b = false → No s')) (fun _ _ => False) s) ∧
      (∀ s, St n s → wpAny (model prog w) A.in1 (pyNext it) (fun o s' => o = none ∧ Fi s') (fun _ _ => False) s) ∧
      (∀ s', Fi s' → Q (.bool true) s') ∧ ∀ s', No s' → Q (.bool false) s') E s) :
    wpAny (model prog w) A (call (.builtin "all") [x]) Q E s := by
  refine call_function_tree F.kind_all F.plain_all F.entry_all (F.args_all1 _) ?_
  unfold Builtin.«all»
  refine wpAny_bind (m := oneArg "all" _) (wpAny_pure ?_)
  refine wpAny_bind (wpAny_mono h (fun it s₂ h₂ => ?_) fun _ _ e => e)
  obtain ⟨n, St, Fi, No, h0, item, done, hT, hF⟩ := h₂
  exact wpAny_pure ⟨plainId_quiet F.plain_all_loop _, codeAny_all_loopI St Fi No item done hT hF n 0 s₂ rfl (Nat.zero_le _) h0⟩
end
section
variable {X : Cx} {fp : List Addr} {tn : Nat → Heap → Prop} {elt tg iter : Expr} {scope : Scope} {pos : Pos} {it : Addr} {J : It} {te : TE} {gg : TG} {σ : St} {g n : Nat} {V : Hp → Prop} {W : Nat → Hp → Prop} {A : Around} {vs : List Nat}
theorem over_genx {A : Around} {env : Env} {gs : List Comprehension} {itv acc : Value} : A.over (.compLoop (.GeneratorExp elt gs scope pos) 0 itv acc env) [] = A.deeper env := by
  first
    | rfl
    | (obtain ⟨hd, d, fr, gs, u⟩ := A; simp [Around.over, Around.deeper, marksOver, frameCount, unitsOf, envsOf, guardsOf, pushEnvs, pushGuards, Code.envs, Code.env?, Code.isFrame, Code.guards, Code.isGuard, Code.weight, Code.frames, Code.isCreation, Code.isCaller, Code.cUnits])
theorem over_genx0 {A : Around} {env : Env} {gs : List Comprehension} {itv acc : Value} : A.over (.compStart (.GeneratorExp elt gs scope pos) 0 itv acc env) [] = A.deeper env := by
  first
    | rfl
    | (obtain ⟨hd, d, fr, gs, u⟩ := A; simp [Around.over, Around.deeper, marksOver, frameCount, unitsOf, envsOf, guardsOf, pushEnvs, pushGuards, Code.envs, Code.env?, Code.isFrame, Code.guards, Code.isGuard, Code.weight, Code.frames, Code.isCreation, Code.isCaller, Code.cUnits])
theorem seg_genxStart (hX : X.A = A.deeper X.env)
    (hc : X.calm = true) (hxe : X.xe = fun _ _ => False) (hco : X.env.scope.isCoroutine = false) (T : Turn X.prog X.w X.K tg J fp it tn) (pg : PG X tg gg) (pe : PE X elt te) (hex : X.ex = fp) (hpn : ∀ b ∈ fp, ∀ p ∈ X.pn, p.1 ≠ b)
    (turn : ∀ i H, i ≤ n → W i H → (i = n ∧ J.stop i H) ∨ (i < n ∧ J.go i H ∧ ∀ x H', J.yld i H x H' → gg x (wipe σ vs) H' fun σ2 H2 => wipe σ2 vs = wipe σ vs ∧ te σ2 H2 fun y H4 => ∃ b, y = .bl b ∧ (b = true → W (i + 1) H4) ∧ (b = false → V H4)))
    {s₀ s : Shared} (hj : GJ X (wipe σ vs) fp tn g W 0 s) :
    Seg (model X.prog X.w) A (fun m s₀ r s => r = .ok .next ∧ (m = 1 ∧ GE X (wipe σ vs) g W n s)) (gY (GJ X (wipe σ vs) fp tn g W) (GV X (wipe σ vs) V) g n) (n - 0 + 1) s₀
      (.compStart (.GeneratorExp elt [⟨tg, iter, [], 0⟩] scope pos) 0 (.ref it) .none X.env)
      ((model X.prog X.w).den (.compStart (.GeneratorExp elt [⟨tg, iter, [], 0⟩] scope pos) 0 (.ref it) .none X.env)) [] s := by
  have loop := seg_genx (elt := elt) (tg := tg) (iter := iter) (scope := scope) (pos := pos) (A := A) (X := X) (it := it) (g := g) (V := V) (fun c hcc => hcc.elim (fun e => by rw [e]; exact over_genx.trans hX.symm) (fun e => by rw [e]; exact over_genx0.trans hX.symm)) hc hxe hco T pg pe hex hpn turn n 0 s₀ s (Nat.sub_zero _) (Nat.zero_le _) hj
  show Seg _ A _ _ _ s₀ _ ((compStart (.GeneratorExp elt [⟨tg, iter, [], 0⟩] scope pos) 0 (.ref it) .none X.env).onRaise (leaving X.env)) [] s
  unfold compStart
  rw [Sem.onRaise_eq_wrap]
  show Seg _ A _ _ _ s₀ _ ((ask >>= _).wrap _ _ _ _) [] s
  refine seg_bind_wrap (wpAny_askSetting ?_)
  obtain ⟨H5, I5, st5, _⟩ := hj
  split
  · exact seg_again rfl loop
  · first
      | exact seg_bind_wrap (wpAny_rule (seg_bind_wrap (wpAny_standAt (seg_bind_wrap (T.self _ 0 s _ _ st5 (seg_again rfl loop))))))
      | (refine seg_bind_wrap (wpAny_rule ?_); show Seg _ A _ _ _ s₀ _ ((standAt iter.pos >>= _).wrap _ _ _ _) [] s; exact seg_bind_wrap (wpAny_standAt (seg_bind_wrap (T.self _ 0 s _ _ st5 (seg_again rfl loop)))))
theorem GJ.set {i : Nat} {s : Shared} {x : GenState} (j : GJ X σ fp tn g W i s) (hb : x.bare = true) : GJ X σ fp tn g W i (s.setGen g x) := by
  obtain ⟨H', I, t, n, lt, w⟩ := j
  exact ⟨H', I.gens (allBare_setGen I.bare hb), t, n, by rw [setGen_size]; exact lt, w⟩
def GSt (M : Model) (A : Around) (X : Cx) (σ : St) (fp : List Addr) (tn : Nat → Heap → Prop) (g n : Nat) (V : Hp → Prop) (W : Nat → Hp → Prop) (i : Nat) (s : Shared) : Prop :=
  GJ X σ fp tn g W i s ∧ ∃ gs, s.gens[g]? = some gs ∧ gs.Goes M A (fun m s₀ r s => r = .ok .next ∧ (m = 1 ∧ GE X σ g W n s)) (gY (GJ X σ fp tn g W) (GV X σ V) g n) (n - i + 1) (.send .none) (s.setGen g .running)
theorem gst_item {a : Addr} {ob : Obj} {i : Nat} {s : Shared} (hh : A.handled = none) (hroom : A.depth < recursionLimit) (hpn : X.pn = [(a, ob)]) (hob : ∃ nm qn, ob.cls = .type "generator" ∧ ob.data = .fields #[.int g 0, nm, qn] ∧ ob.slots = #[]) (hlt : i < n)
    (h : GSt (model X.prog X.w) A.in1 X σ fp tn g n V W i s) : wpAny (model X.prog X.w) A (pyNext (.ref a)) (fun o s' => ∃ b, o = some (.bool b) ∧ (b = true → GSt (model X.prog X.w) A.in1 X σ fp tn g n V W (i + 1) s') ∧ (b = false → GV X σ V s')) (fun _ _ => False) s := by
  obtain ⟨hj, gs, hgs, hgo⟩ := h
  obtain ⟨H5, I5, st5, n5, lt5, w5⟩ := id hj
  have hg : s.heap.IsGen a g := by
    obtain ⟨nm, qn, r⟩ := hob
    exact ⟨ob, nm, qn, (I5.pin (a, ob) (by rw [hpn]; simp)).1, r⟩
  obtain ⟨m, hm⟩ : ∃ m, n - i = m + 1 := ⟨n - i - 1, by omega⟩
  rw [hm] at hgo
  refine wpAny_pyNext_genexpQ (P := fun m s₀ s => m = 1 ∧ GE X σ g W n s) hh I5.nolimit hroom hg hgs hgo (fun v s₁ gs' hb hv => ?_) (fun s₁ hp h' hk => ?_)
  · obtain ⟨i', b, hi', rfl, yes, no⟩ := hv
    have e : i' = i := by omega
    subst e
    refine ⟨b, rfl, fun hbt => ?_, fun hbf => ?_⟩
    · obtain ⟨hj', kap⟩ := yes hbt
      obtain ⟨H6, I6, st6, n6, lt6, w6⟩ := id hj'
      refine ⟨hj'.set hb, gs', setGen_at lt6, ?_⟩
      rw [show n - (i' + 1) + 1 = m + 1 by omega]
      exact kap gs' hb
    · obtain ⟨H6, I6, v6⟩ := no hbf
      exact ⟨H6, I6.gens (allBare_setGen I6.bare hb), v6⟩
  · exact absurd hp.1 (by omega)
theorem gst_done {a : Addr} {ob : Obj} {s : Shared} (hh : A.handled = none) (hroom : A.depth < recursionLimit) (hpn : X.pn = [(a, ob)]) (hob : ∃ nm qn, ob.cls = .type "generator" ∧ ob.data = .fields #[.int g 0, nm, qn] ∧ ob.slots = #[])
    (h : GSt (model X.prog X.w) A.in1 X σ fp tn g n V W n s) : wpAny (model X.prog X.w) A (pyNext (.ref a)) (fun o s' => o = none ∧ ∃ H', Inv X [] σ H' s' ∧ W n H') (fun _ _ => False) s := by
  obtain ⟨hj, gs, hgs, hgo⟩ := h
  obtain ⟨H5, I5, st5, n5, lt5, w5⟩ := id hj
  have hg : s.heap.IsGen a g := by
    obtain ⟨nm, qn, r⟩ := hob
    exact ⟨ob, nm, qn, (I5.pin (a, ob) (by rw [hpn]; simp)).1, r⟩
  rw [Nat.sub_self] at hgo
  refine wpAny_pyNext_genexpQ (P := fun m s₀ s => m = 1 ∧ GE X σ g W n s) hh I5.nolimit hroom hg hgs hgo (fun v s₁ gs' hb hv => ?_) (fun s₁ hp h' hk => ?_)
  · obtain ⟨i', b, hi', _, yes, no⟩ := hv
    omega
  · obtain ⟨_, H6, I6, lt6, w6⟩ := hp
    have I7 : Inv X [] σ H6 (s₁.setGen g .finished) := I6.gens (allBare_setGen I6.bare rfl)
    exact ⟨rfl, H6, I7.call (h' := h') (g' := (s₁.setGen g .finished).gens) (t' := s₁.toks) (d' := s₁.drawn) (ch := []) (Un.kept hk) (I6.hok.kept hk) I7.bare (fun b hb => absurd hb (by simp)), w6⟩
end
def tAllG (P : Addr) (wi : TI) (gg : TG) (te : TE) (vs : List Nat) : TE := fun σ H Q => wi σ H fun J H1 => TabG H1 P ∧ ∀ H2, Tabbed P H1 H2 → ∃ (n : Nat) (V : Hp → Prop) (W : Nat → Hp → Prop), W 0 H2 ∧
  (∀ i H, i ≤ n → W i H → (i = n ∧ J.stop i H) ∨ (i < n ∧ J.go i H ∧ ∀ x H', J.yld i H x H' → gg x (wipe σ vs) H' fun σ2 H2 => wipe σ2 vs = wipe σ vs ∧ te σ2 H2 fun y H4 => ∃ b, y = .bl b ∧ (b = true → W (i + 1) H4) ∧ (b = false → V H4))) ∧
  (∀ H, W n H → Q (.bl true) H) ∧ ∀ H, V H → Q (.bl false) H
section
variable {X : Cx} {elt tg iter : Expr} {scope : Scope} {gpos pos p : Pos} {te : TE} {gg : TG} {wi : TI} {own : List (Str × Nat)} {c P : Addr} {k : Nat}
def ReadyG (X : Cx) (Q : Value → Shared → Prop) (a : Addr) (s5 : Shared) : Prop :=
  ∃ g, s5.heap.IsGen a g ∧ ∃ (n : Nat) (St : Nat → Shared → Prop) (Fi No : Shared → Prop), St 0 s5 ∧
      (∀ i s, i < n → St i s → wpAny (model X.prog X.w) X.A.in1 (pyNext (.ref a)) (fun o s' => ∃ b, o = some (.bool b) ∧ (b = true → St (i + 1) s') ∧ (b = false → No s')) (fun _ _ => False) s) ∧
      (∀ s, St n s → wpAny (model X.prog X.w) X.A.in1 (pyNext (.ref a)) (fun o s' => o = none ∧ Fi s') (fun _ _ => False) s) ∧
      (∀ s', Fi s' → Q (.bool true) s') ∧ ∀ s', No s' → Q (.bool false) s'
theorem gen_all {pins : List (Addr × Obj)} {s : Shared} {σ : St} {H : Hp} {Q : VK} {Q' : Value → Shared → Prop} (hr : Room (k + 4) X.A) (hc : X.calm = true) (hN : X.N.Nodup) (TB : TabB X.base X.mg c P) (hcode : X.env.code = .ref c)
    (hco : scope.isCoroutine = false) (hcell : ∀ y ∈ scope.names, y.2 ≠ .cell) (h0 : scope.names.lookup (".0" : Str) = some NameKind.local) (ok : BlkOk X.N X.env.scope scope own) (hi : PI X tg iter wi)
    (hpg : ∀ (s : Shared) (H : Hp) (cl : List (Str × Addr)) (C : Addr) (code : Value) (fp : List Addr) (pn : List (Addr × Obj)), PG (X.gen s H scope (genEnv scope cl C code builtinsNs X.env) fp pn) tg gg)
    (hpe : ∀ (s : Shared) (H : Hp) (cl : List (Str × Addr)) (C : Addr) (code : Value) (fp : List Addr) (pn : List (Addr × Obj)), PE (X.gen s H scope (genEnv scope cl C code builtinsNs X.env) fp pn) elt te)
    (hs : ∀ v, genFold iter X.env v = pure v) (I : Inv X pins σ H s) (h : tAllG P wi gg te (own.map (·.2)) σ H Q)
    (hQ : ∀ a s5, ReadyG X (EP X pins σ Q) a s5 → Q' (.ref a) s5) :
    wpAny (model X.prog X.w) X.A (eval (.GeneratorExp elt [⟨tg, iter, [], 0⟩] scope gpos) X.env) Q' X.xe s := by
  have hfree : ∀ y ∈ scope.names, y.2 = .free → ∃ c, X.env.cells.lookup y.1 = some c := fun y hy e => by
    rcases ok.free y hy e with k | k
    · exact I.ok.has _ (.inl k)
    · exact I.ok.has _ (.inr k)
  refine wpAny_GeneratorExp_make hco (closure_ok hfree) hcell h0 ok.kind (by have := hr.dp; omega) ?_ hs
  refine thn (hi.run pins s σ H _ I h) fun xv s1 hx => thn hx fun itv s2 h2 => ?_
  obtain ⟨it, fp, tn, J, H2, rfl, I2, T, st2, f2, ⟨ps, hP, ht⟩, q⟩ := h2
  refine ⟨I2.nolimit, ?_⟩
  have hPs : s2.heap.get? P = some { cls := .none, data := .fields ps } := I2.hok P _ hP
  have cd : PySem.W.CodeHd s2.heap c P := TB.code.keeps fun b u e => I2.bk b u e
  have cont : ∀ (code : Value) (h3 : Heap) (tk : Nat) (ps' : Array Value), Heap.ExtBut P s2.heap h3 → s2.heap.objs.size ≤ h3.objs.size → h3.get? P = some { cls := .none, data := .fields ps' } → (∃ more, ps' = ps ++ more) → TriplesOk ps'.toList →
      wpAny (model X.prog X.w) X.A (builtinsFor X.env.globals X.env.builtins) (fun bi s₄ => ∀ h', h'.Ns s₄.heap.objs.size (fun y => if y = ".0" then some (Value.ref it) else none) → Heap.SameBut s₄.heap.objs.size (s₄.heap.push { cls := .type "frame", data := .dict #[] }) h' →
          Q' (.ref h'.objs.size) { s₄ with
            gens := s₄.gens.push (.fresh (.compStart (.GeneratorExp elt [⟨tg, iter, [], 0⟩] scope gpos) 0 (.ref it) .none (genEnv scope (cloFrom X.env.cells scope.names []) s₄.heap.objs.size code bi X.env))),
            toks := s₄.toks + 1 + 1 + 1,
            heap := h'.push { cls := .type "generator", data := .fields #[.int s₄.gens.size 0, .str "<genexpr>" (s₄.toks + 1), .str (X.env.qual ++ "<genexpr>") (s₄.toks + 1 + 1)] } }) X.xe { s2 with heap := h3, toks := tk } := by
    intro code h3 tk ps' hx hsz hP3 hmore ht3
    obtain ⟨bm, ob0, e1, e2, e3, e4, e5, e6, e7, e8⟩ := TB.bm
    obtain ⟨more, rfl⟩ := hmore
    have keep3 : ∀ b u, b ≠ P → s2.heap.get? b = some u → h3.get? b = some u := fun b u hb e => hx b u hb e
    have I4 : Inv X pins σ (upd H2 P (.tbl (ps ++ more))) { s2 with heap := h3, toks := tk } := inv_tab (g' := s2.gens) (d' := s2.drawn) (more := more) I2 hP keep3 hP3 I2.bare
    have tab : Tabbed P H2 (upd H2 P (.tbl (ps ++ more))) := ⟨⟨_, upd_same, ht3⟩, fun b hb => upd_ne hb⟩
    obtain ⟨n, V, W, w0, turn, hT, hF⟩ := q _ tab
    refine wpAny_builtinsFor (m := X.mg) (by rw [I2.ok.glob]; exact (I2.mod.glob.keeps I2.bk).extBut hx TB.gP) e1 e2 (keep3 _ _ e4 (I2.bk _ _ e5)) e6 e7 e8 ?_
    have hPne : ∀ b ∈ fp, b ≠ P := fun b hb e => by
      have z := (f2 b hb).1
      rw [e, hP] at z; cases z
    have sz : ∀ b ∈ fp, b < s2.heap.objs.size := fun b hb => by
      obtain ⟨o, e, _⟩ := T.obj _ _ st2 b hb
      exact Heap.lt_size e
    generalize hH4 : upd H2 P (.tbl (ps ++ more)) = H4 at I4 tab w0
    have n4 : ∀ b ∈ fp, H4 b = none := fun b hb => by rw [← hH4, upd_ne (hPne b hb)]; exact (f2 b hb).1
    generalize hs4 : ({ s2 with heap := h3, toks := tk } : Shared) = s4 at I4 ⊢
    have h4 : s4.heap = h3 := by rw [← hs4]
    have f4 : ∀ b ∈ fp, FpOk X pins H4 b ∧ b < s4.heap.objs.size := fun b hb => ⟨⟨n4 b hb, (f2 b hb).2⟩, by rw [h4]; exact Nat.lt_of_lt_of_le (sz b hb) hsz⟩
    have st4 : tn 0 s4.heap := T.keep _ _ _ st2 fun b hb o e => by rw [h4]; exact keep3 b o (hPne b hb) e
    intro h' hns' hsb
    have hsz' : h'.objs.size = s4.heap.objs.size + 1 := by rw [hsb.1, Heap.size_push]
    have keep' : ∀ b o, s4.heap.get? b = some o → h'.get? b = some o := fun b o e => hsb.extBut b o (Nat.ne_of_lt (Heap.lt_size e)) (Heap.get?_push_of_some _ e)
    generalize hob : ({ cls := .type "generator", data := .fields #[.int s4.gens.size 0, .str "<genexpr>" (s4.toks + 1), .str (X.env.qual ++ "<genexpr>") (s4.toks + 1 + 1)] } : Obj) = ob
    have hobG : ∃ nm qn, ob.cls = .type "generator" ∧ ob.data = .fields #[.int s4.gens.size 0, nm, qn] ∧ ob.slots = #[] := by
      rw [← hob]; exact ⟨_, _, rfl, rfl, rfl⟩
    have keep5 : ∀ b o, s4.heap.get? b = some o → (h'.push ob).get? b = some o := fun b o e => Heap.get?_push_of_some _ (keep' b o e)
    have at5 : (h'.push ob).get? h'.objs.size = some ob := Heap.get?_push_size _ (by rw [← hob]; rfl)
    have I5 := gen_start (code := code) (it := .ref it) (a := h'.objs.size) (ob := ob) (s5 := { s4 with
            gens := s4.gens.push (.fresh (.compStart (.GeneratorExp elt [⟨tg, iter, [], 0⟩] scope gpos) 0 (.ref it) .none (genEnv scope (cloFrom X.env.cells scope.names []) s4.heap.objs.size code builtinsNs X.env))),
            toks := s4.toks + 1 + 1 + 1, heap := h'.push ob }) I4 ok hcell hN f4 (hns'.push _) keep5 rfl (I4.bare.push rfl) (by omega) at5 (fun v e => by rw [← hob] at e; cases e)
    have pg := hpg s4 H4 (cloFrom X.env.cells scope.names []) s4.heap.objs.size code fp [(h'.objs.size, ob)]
    have pe := hpe s4 H4 (cloFrom X.env.cells scope.names []) s4.heap.objs.size code fp [(h'.objs.size, ob)]
    generalize hge : genEnv scope (cloFrom X.env.cells scope.names []) s4.heap.objs.size code builtinsNs X.env = ge at I5 pg pe ⊢
    have hgsc : ge.scope = scope := by rw [← hge]; rfl
    refine hQ _ _ ⟨s4.gens.size, ?_, n, GSt (model X.prog X.w) X.A.in1.in1 (X.gen s4 H4 scope ge fp [(h'.objs.size, ob)]) (wipe σ (own.map (·.2))) fp tn s4.gens.size n V W, fun s' => ∃ H', Inv (X.gen s4 H4 scope ge fp [(h'.objs.size, ob)]) [] (wipe σ (own.map (·.2))) H' s' ∧ W n H', GV (X.gen s4 H4 scope ge fp [(h'.objs.size, ob)]) (wipe σ (own.map (·.2))) V, ?_, ?_, ?_, ?_, ?_⟩
    · obtain ⟨nm, qn, r⟩ := hobG
      exact ⟨ob, nm, qn, at5, r⟩
    · have j0 : GJ (X.gen s4 H4 scope ge fp [(h'.objs.size, ob)]) (wipe σ (own.map (·.2))) fp tn s4.gens.size W 0 _ := ⟨H4, I5, T.keep _ _ _ st4 fun b _ o e => keep5 b o e, n4, by show s4.gens.size < (s4.gens.push _).size; rw [Array.size_push]; exact Nat.lt_succ_self _, w0⟩
      refine ⟨j0, _, Array.getElem?_push_size .., rfl, ?_⟩
      exact seg_genxStart (X := X.gen s4 H4 scope ge fp [(h'.objs.size, ob)]) rfl hc rfl (by show ge.scope.isCoroutine = false; rw [hgsc]; exact hco) T pg pe rfl (fun b hb p hp => by
        have hp : p = (h'.objs.size, ob) := by simpa using hp
        rw [hp]
        exact Nat.ne_of_gt (Nat.lt_trans (f4 b hb).2 (by rw [hsz']; exact Nat.lt_succ_self _))) turn (j0.set rfl)
    · exact fun i s hi h => gst_item (X := X.gen s4 H4 scope ge fp [(h'.objs.size, ob)]) hr.hd (by have := hr.dp; show X.A.depth < _; omega) rfl hobG hi h
    · exact fun s h => gst_done (X := X.gen s4 H4 scope ge fp [(h'.objs.size, ob)]) hr.hd (by have := hr.dp; show X.A.depth < _; omega) rfl hobG h
    · rintro s' ⟨H', I', w'⟩
      exact ⟨.bl true, H', I4.call' (ch := fp) I'.os I'.base I'.hok I'.bare fun b hb => ⟨(f4 b hb).1.2.2.2.1, (f4 b hb).1.2.1, (f4 b hb).1.2.2.2.2.1, (f4 b hb).1.2.2.2.2.2⟩, rfl, hT H' w'⟩
    · rintro s' ⟨H', I', w'⟩
      exact ⟨.bl false, H', I4.call' (ch := fp) I'.os I'.base I'.hok I'.bare fun b hb => ⟨(f4 b hb).1.2.2.2.1, (f4 b hb).1.2.1, (f4 b hb).1.2.2.2.2.1, (f4 b hb).1.2.2.2.2.2⟩, rfl, hF H' w'⟩
  cases hf : codeAmong gpos ps.toList with
  | none =>
    refine wpAny_genexprCodeX hcode (cd.code hPs ht) (cd.tab hPs) hf fun c' h' tk hx hge hlt hco' _ htab' _ => ?_
    obtain ⟨o1, vs, f1, tf, fl, tg, inF, tx, tt, op, _, _, _, _, _, _, _, _, _, htr, _⟩ := hco'
    exact cont _ h' tk _ hx (Nat.le_trans hge (Nat.le_of_lt hlt)) htab'.2 ⟨_, rfl⟩ htr
  | some cv =>
    refine wpAny_genexprCode_hit hcode (cd.code hPs ht) hf ?_
    exact cont cv s2.heap s2.toks ps (Heap.ExtBut.refl _ _) (Nat.le_refl _) hPs ⟨#[], by simp⟩ ht
theorem pe_allG (hr : Room (k + 4) X.A) (hc : X.calm = true) (hN : X.N.Nodup) (hg : Gl X "all") (hm : X.mg "all" = none) (hb : bootBuiltins "all" = some (.builtin "all")) (TB : TabB X.base X.mg c P) (hcode : X.env.code = .ref c)
    (hco : scope.isCoroutine = false) (hcell : ∀ y ∈ scope.names, y.2 ≠ .cell) (h0 : scope.names.lookup (".0" : Str) = some NameKind.local) (ok : BlkOk X.N X.env.scope scope own) (hi : PI X tg iter wi)
    (hpg : ∀ (s : Shared) (H : Hp) (cl : List (Str × Addr)) (C : Addr) (code : Value) (fp : List Addr) (pn : List (Addr × Obj)), PG (X.gen s H scope (genEnv scope cl C code builtinsNs X.env) fp pn) tg gg)
    (hpe : ∀ (s : Shared) (H : Hp) (cl : List (Str × Addr)) (C : Addr) (code : Value) (fp : List Addr) (pn : List (Addr × Obj)), PE (X.gen s H scope (genEnv scope cl C code builtinsNs X.env) fp pn) elt te)
    (hs : ∀ v, genFold iter X.env v = pure v)
    (he : starEach [.GeneratorExp elt [⟨tg, iter, [], 0⟩] scope gpos] X.env = (false, eval (.GeneratorExp elt [⟨tg, iter, [], 0⟩] scope gpos) X.env) :: starEach [] X.env := by rfl) :
    PE X (.Call (.Name "all" p) [.GeneratorExp elt [⟨tg, iter, [], 0⟩] scope gpos] [] pos) (tAllG P wi gg te (own.map (·.2))) := by
  refine ⟨fun pins s σ H Q I h => ?_⟩
  refine wpAny_Call_Name_kw (ld_blt I hg hm hb ?_)
  refine PyProof.Rows.callWith_builtin1 ?_ he (by rfl)
  rw [he]
  show wpAny _ _ (spliced ((false, eval (.GeneratorExp elt [⟨tg, iter, [], 0⟩] scope gpos) X.env) :: backTo pos (starEach [] X.env))) _ _ s
  refine Calls.spliced_cons (gen_all hr hc hN TB hcode hco hcell h0 ok hi hpg hpe hs I h fun a s5 ⟨g, hgen, hR⟩ => ?_)
  refine Calls.spliced_nil ?_
  exact call_all_I (wpAny_pyIter_gen hgen hR)
end
end L2
namespace DL
open PySem L2
inductive D where
  | non | bl (b : Bool) | int (i : Int) | str (x : Str)
  | tup (xs : List D) | lst (xs : List D) | fl (xs : List D) | ins (c : Str) (fs : List (Str × D)) | xc (a dd : Addr) (x : D) | ct (xs : List D) | dk (ks : List (Int × D))
inductive CC where
  | lst (xs : List D) | dk (ks : List (Int × D)) | dt (ks : List (List Int × D))
inductive Sl where
  | no | dat (d : D) | cell (g : Nat)
abbrev Mem := List (Option CC)
structure S where
  r : List Sl
  M : Mem
structure G where
  K : PySem.W.Frag
  CA : Str → Addr
  /-- tables of code objects (they grow) -/
  TA : List Addr
structure Cs where
  cs : List (Option Addr)
  av : List Addr
def Cs.bad (w : Cs) (a : Addr) : Prop := some a ∈ w.cs ∨ a ∈ w.av
mutual
def Rep (g : G) (cs : Cs) (H : Hp) : D → V → Prop
  | .non, v => v = .non
  | .bl b, v => v = .bl b
  | .int i, v => v = .int i
  | .str x, v => v = .str x
  | .tup ds, v => ∃ a vs, v = .ref a ∧ ¬ cs.bad a ∧ H a = some (.tup vs) ∧ Reps g cs H ds vs
  | .lst ds, v => ∃ a vs, v = .ref a ∧ ¬ cs.bad a ∧ H a = some (.lst vs) ∧ Reps g cs H ds vs
  | .fl ds, v => ∃ a vs, v = .ref a ∧ ((¬ cs.bad a ∧ Rd H a (.lst vs)) ∨ ∃ (o : Obj) (its : Array Value) (n : Nat), g.K.lookup a = some o ∧ o.cls = .type "list" ∧ o.dict = none ∧ o.data = .seq its n ∧ its.size ≤ sizeLine ∧ Vals vs its.toList) ∧ Reps g cs H ds vs
  | .ins c fs, v => ∃ a dx fv, v = .ref a ∧ ¬ cs.bad a ∧ H a = some (.ins (g.CA c) dx fv) ∧ RepF g cs H fs fv
  | .ct ds, v => ∃ a vs, v = .ref a ∧ (∃ (o : Obj) (its : Array Value) (n : Nat), g.K.lookup a = some o ∧ o.cls = .type "tuple" ∧ o.data = .seq its n ∧ its.size ≤ sizeLine ∧ Vals vs its.toList) ∧ Reps g cs H ds vs
  | .dk ks, v => ∃ a o kvs, v = .ref a ∧ ¬ cs.bad a ∧ H a = some (.frz o (.dK kvs)) ∧ RepD g cs H ks kvs
  | .xc a dd x, v => ∃ u, v = .ref a ∧ ¬ cs.bad dd ∧ H dd = some (.xd [(("what" : Str), u)]) ∧ Rep g cs H x u
def Reps (g : G) (cs : Cs) (H : Hp) : List D → List V → Prop
  | [], vs => vs = []
  | d :: ds, vs => ∃ v r, vs = v :: r ∧ Rep g cs H d v ∧ Reps g cs H ds r
def RepF (g : G) (cs : Cs) (H : Hp) : List (Str × D) → List (Str × V) → Prop
  | [], vs => vs = []
  | p :: ds, vs => ∃ v r, vs = (p.1, v) :: r ∧ Rep g cs H p.2 v ∧ RepF g cs H ds r
def RepD (g : G) (cs : Cs) (H : Hp) : List (Int × D) → List (Key × V) → Prop
  | [], vs => vs = []
  | p :: ds, vs => ∃ v r, vs = (.inl p.1, v) :: r ∧ Rep g cs H p.2 v ∧ RepD g cs H ds r
end
def NT : HO → Prop
  | .tbl _ => False
  | _ => True
theorem nt_or : ∀ o : HO, NT o ∨ ∃ ps, o = .tbl ps := fun o => by cases o <;> first | exact .inr ⟨_, rfl⟩ | exact .inl trivial
structure HExtC (cs : List (Option Addr)) (H H' : Hp) : Prop where
  keep : ∀ a o, some a ∉ cs → H a = some o → NT o → H' a = some o
  grow : ∀ a ps, some a ∉ cs → H a = some (.tbl ps) → ∃ qs : Array Value, H' a = some (.tbl qs) ∧ (TriplesOk ps.toList → TriplesOk qs.toList)
abbrev HExt (w : Cs) (H H' : Hp) : Prop := HExtC w.cs H H'
theorem HExtC.app {cs : List (Option Addr)} {H H' : Hp} (h : HExtC cs H H') (a : Addr) (o : HO) (n : some a ∉ cs) (e : H a = some o) (nt : NT o := by exact True.intro) : H' a = some o := h.keep a o n e nt
instance (cs : List (Option Addr)) (H H' : Hp) : CoeFun (HExtC cs H H') (fun _ => ∀ a o, some a ∉ cs → H a = some o → (nt : NT o := by exact True.intro) → H' a = some o) := ⟨fun h => @HExtC.app cs H H' h⟩
theorem HExt.all {w : Cs} {H H' : Hp} (h : ∀ a o, some a ∉ w.cs → H a = some o → H' a = some o) : HExt w H H' := ⟨fun a o n e _ => h a o n e, fun a ps n e => ⟨ps, h a _ n e, id⟩⟩
theorem HExt.refl (w : Cs) (H : Hp) : HExt w H H := .all fun _ _ _ h => h
theorem HExt.trans {w : Cs} {H H1 H2 : Hp} (a : HExt w H H1) (b : HExt w H1 H2) : HExt w H H2 := ⟨fun x o n h nt => b.keep x o n (a.keep x o n h nt) nt, fun x ps n h => by
  obtain ⟨m1, e1, t1⟩ := a.grow x ps n h
  obtain ⟨m2, e2, t2⟩ := b.grow x _ n e1
  exact ⟨m2, e2, fun t => t2 (t1 t)⟩⟩
theorem HExt.of_same {w : Cs} {H H' : Hp} (h : Same H H') : HExt w H H' := .all fun a o _ e => h a o e
theorem HExt.ex {w : Cs} {H H' : Hp} (e : HExt w H H') {a : Addr} {o : HO} (n : some a ∉ w.cs) (h : H a = some o) : ∃ o', H' a = some o' := by
  rcases nt_or o with nt | ⟨ps, rfl⟩
  · exact ⟨o, e.keep a o n h nt⟩
  · obtain ⟨m, z, _⟩ := e.grow a ps n h
    exact ⟨_, z⟩
theorem HExt.tab {w : Cs} {H H' : Hp} (e : HExt w H H') {a : Addr} (n : some a ∉ w.cs) (h : GxR.TabG H a) : GxR.TabG H' a := by
  obtain ⟨ps, h, t⟩ := h
  obtain ⟨qs, z, t2⟩ := e.grow a ps n h
  exact ⟨qs, z, t2 t⟩
theorem HExt.non {w : Cs} {H H' : Hp} (e : HExt w H H') {a : Addr} (n : some a ∉ w.cs) (h : H' a = none) : H a = none := by
  cases z : H a with
  | none => rfl
  | some o =>
    obtain ⟨o', q⟩ := e.ex n z
    rw [h] at q; cases q
theorem HExt.updN {w : Cs} {H Hx : Hp} {p : Addr} {o : HO} (e : HExt w H Hx) (n : H p = none) : HExt w H (upd Hx p o) :=
  ⟨fun a u h eo nt => by rw [upd_ne (ne_of_none eo n)]; exact e.keep a u h eo nt, fun a ps h eo => by rw [upd_ne (ne_of_none eo n)]; exact e.grow a ps h eo⟩
theorem HExt.sub {w w' : Cs} {H H' : Hp} (e : HExt w' H H') (h : ∀ a, some a ∉ w.cs → some a ∉ w'.cs) : HExt w H H' := ⟨fun a o n => e.keep a o (h a n), fun a ps n => e.grow a ps (h a n)⟩
theorem HExt.rd {w : Cs} {H H' : Hp} {a : Addr} {u : HO} (e : HExt w H H') (n : ¬ w.bad a) (h : Rd H a u) (nt : NT u := by exact True.intro) : Rd H' a u := by
  have n : some a ∉ w.cs := fun z => n (.inl z)
  rcases h with h | ⟨o, h⟩
  · exact .inl (e _ _ n h nt)
  · exact .inr ⟨o, e _ _ n h⟩
structure Mv (w : Cs) (H : Hp) (w' : Cs) (H' : Hp) : Prop where
  ext : HExt w H H'
  fresh : ∀ a, w'.bad a → w.bad a ∨ H a = none
  pre : ∀ (c : Nat) (x : Option Addr), w.cs[c]? = some x → w'.cs[c]? = some x ∨ w'.cs[c]? = some none
  av : ∀ a, a ∈ w.av → some a ∈ w'.cs → some a ∈ w.cs
  avk : ∀ a, a ∈ w.av → a ∈ w'.av
theorem Mv.refl (w : Cs) (H : Hp) : Mv w H w H := ⟨HExt.refl _ _, fun _ h => .inl h, fun _ _ h => .inl h, fun _ _ h => h, fun _ h => h⟩
theorem Mv.of_ext {w : Cs} {H H' : Hp} (h : HExt w H H') : Mv w H w H' := ⟨h, fun _ h => .inl h, fun _ _ h => .inl h, fun _ _ h => h, fun _ h => h⟩
theorem Mv.of_same {w : Cs} {H H' : Hp} (h : Same H H') : Mv w H w H' := .of_ext (.of_same h)
theorem Mv.keep {w w' : Cs} {H H' : Hp} (m : Mv w H w' H') {a : Addr} {o : HO} (n : ¬ w.bad a) (h : H a = some o) : ¬ w'.bad a := fun z => by
  rcases m.fresh a z with q | q
  · exact n q
  · rw [h] at q; cases q
theorem Mv.at_ {w w' : Cs} {H H' : Hp} (m : Mv w H w' H') {a : Addr} {o : HO} (n : ¬ w.bad a) (h : H a = some o) (nt : NT o := by exact True.intro) : H' a = some o := m.ext.keep a o (fun z => n (.inl z)) h nt
theorem Mv.trans {w w1 w2 : Cs} {H H1 H2 : Hp} (a : Mv w H w1 H1) (b : Mv w1 H1 w2 H2) (hw : ∀ x, x ∈ w.av → some x ∉ w.cs ∧ ∃ o, H x = some o) : Mv w H w2 H2 := by
  have fr : ∀ x, w2.bad x → w.bad x ∨ H x = none := fun x z => by
    rcases b.fresh x z with q | q
    · exact a.fresh x q
    · by_cases c : w.bad x
      · exact .inl c
      · exact .inr (a.ext.non (fun z => c (.inl z)) q)
  have nc : ∀ x o, some x ∉ w.cs → H x = some o → some x ∉ w1.cs := fun x o n h c => by
    rcases a.fresh x (.inl c) with (q | q) | q
    · exact absurd q n
    · exact absurd (a.av x q c) n
    · rw [h] at q; cases q
  refine ⟨⟨fun x o n h nt => b.ext.keep x o (nc x o n h) (a.ext.keep x o n h nt) nt, fun x ps n h => ?_⟩, fr, fun c x e => ?_, fun x hx z => ?_, fun x hx => b.avk x (a.avk x hx)⟩
  · obtain ⟨m1, e1, t1⟩ := a.ext.grow x ps n h
    obtain ⟨m2, e2, t2⟩ := b.ext.grow x _ (nc x _ n h) e1
    exact ⟨m2, e2, fun t => t2 (t1 t)⟩
  · rcases a.pre c x e with q | q
    · exact b.pre c x q
    · rcases b.pre c none q with r | r
      · exact .inr r
      · exact .inr r
  · obtain ⟨n, o, h⟩ := hw x hx
    exfalso
    by_cases c : some x ∈ w1.cs
    · exact n (a.av x hx c)
    · obtain ⟨_, h1⟩ := a.ext.ex n h
      rcases b.fresh x (.inl z) with (q | q) | q
      · exact c q
      · exact c (b.av x q z)
      · rw [h1] at q; cases q
mutual
theorem Rep.genN {g : G} {cs cs' : Cs} {H H' : Hp} (m : ∀ a o, ¬ cs.bad a → H a = some o → NT o → H' a = some o ∧ ¬ cs'.bad a) : ∀ {d : D} {v : V}, Rep g cs H d v → Rep g cs' H' d v
  | .non, _, h => by simpa only [Rep] using h
  | .bl _, _, h => by simpa only [Rep] using h
  | .int _, _, h => by simpa only [Rep] using h
  | .str _, _, h => by simpa only [Rep] using h
  | .tup ds, v, h => by
    simp only [Rep] at h ⊢
    obtain ⟨a, vs, e, n, q, r⟩ := h
    exact ⟨a, vs, e, (m _ _ n q trivial).2, (m _ _ n q trivial).1, Reps.genN m r⟩
  | .lst ds, v, h => by
    simp only [Rep] at h ⊢
    obtain ⟨a, vs, e, n, q, r⟩ := h
    exact ⟨a, vs, e, (m _ _ n q trivial).2, (m _ _ n q trivial).1, Reps.genN m r⟩
  | .fl ds, v, h => by
    simp only [Rep] at h ⊢
    obtain ⟨a, vs, e, n, r⟩ := h
    refine ⟨a, vs, e, ?_, Reps.genN m r⟩
    rcases n with ⟨n, q⟩ | n
    · rcases q with q | ⟨o, q⟩
      · exact .inl ⟨(m _ _ n q trivial).2, .inl (m _ _ n q trivial).1⟩
      · exact .inl ⟨(m _ _ n q trivial).2, .inr ⟨o, (m _ _ n q trivial).1⟩⟩
    · exact .inr n
  | .ins c fs, v, h => by
    simp only [Rep] at h ⊢
    obtain ⟨a, dx, fv, e, n, q, r⟩ := h
    exact ⟨a, dx, fv, e, (m _ _ n q trivial).2, (m _ _ n q trivial).1, RepF.genN m r⟩
  | .dk ks, v, h => by
    simp only [Rep] at h ⊢
    obtain ⟨a, o, kvs, e, n, q, r⟩ := h
    exact ⟨a, o, kvs, e, (m _ _ n q trivial).2, (m _ _ n q trivial).1, RepD.genN m r⟩
  | .xc a dd x, v, h => by
    simp only [Rep] at h ⊢
    obtain ⟨u, e, n, q, r⟩ := h
    exact ⟨u, e, (m _ _ n q trivial).2, (m _ _ n q trivial).1, Rep.genN m r⟩
  | .ct ds, v, h => by
    simp only [Rep] at h ⊢
    obtain ⟨a, vs, e, n, r⟩ := h
    exact ⟨a, vs, e, n, Reps.genN m r⟩
theorem Reps.genN {g : G} {cs cs' : Cs} {H H' : Hp} (m : ∀ a o, ¬ cs.bad a → H a = some o → NT o → H' a = some o ∧ ¬ cs'.bad a) : ∀ {ds : List D} {vs : List V}, Reps g cs H ds vs → Reps g cs' H' ds vs
  | [], _, h => by simpa only [Reps] using h
  | d :: ds, _, h => by
    simp only [Reps] at h ⊢
    obtain ⟨v, r, e, q, z⟩ := h
    exact ⟨v, r, e, Rep.genN m q, Reps.genN m z⟩
theorem RepF.genN {g : G} {cs cs' : Cs} {H H' : Hp} (m : ∀ a o, ¬ cs.bad a → H a = some o → NT o → H' a = some o ∧ ¬ cs'.bad a) : ∀ {ds : List (Str × D)} {vs : List (Str × V)}, RepF g cs H ds vs → RepF g cs' H' ds vs
  | [], _, h => by simpa only [RepF] using h
  | p :: ds, _, h => by
    simp only [RepF] at h ⊢
    obtain ⟨v, r, e, q, z⟩ := h
    exact ⟨v, r, e, Rep.genN m q, RepF.genN m z⟩
theorem RepD.genN {g : G} {cs cs' : Cs} {H H' : Hp} (m : ∀ a o, ¬ cs.bad a → H a = some o → NT o → H' a = some o ∧ ¬ cs'.bad a) : ∀ {ds : List (Int × D)} {vs : List (Key × V)}, RepD g cs H ds vs → RepD g cs' H' ds vs
  | [], _, h => by simpa only [RepD] using h
  | p :: ds, _, h => by
    simp only [RepD] at h ⊢
    obtain ⟨v, r, e, q, z⟩ := h
    exact ⟨v, r, e, Rep.genN m q, RepD.genN m z⟩
end
theorem Rep.gen {g : G} {cs cs' : Cs} {H H' : Hp} (m : ∀ a o, ¬ cs.bad a → H a = some o → H' a = some o ∧ ¬ cs'.bad a) {d : D} {v : V} (h : Rep g cs H d v) : Rep g cs' H' d v := Rep.genN (fun a o n e _ => m a o n e) h
theorem Reps.gen {g : G} {cs cs' : Cs} {H H' : Hp} (m : ∀ a o, ¬ cs.bad a → H a = some o → H' a = some o ∧ ¬ cs'.bad a) {d : List D} {v : List V} (h : Reps g cs H d v) : Reps g cs' H' d v := Reps.genN (fun a o n e _ => m a o n e) h
theorem RepF.gen {g : G} {cs cs' : Cs} {H H' : Hp} (m : ∀ a o, ¬ cs.bad a → H a = some o → H' a = some o ∧ ¬ cs'.bad a) {d : List (Str × D)} {v : List (Str × V)} (h : RepF g cs H d v) : RepF g cs' H' d v := RepF.genN (fun a o n e _ => m a o n e) h
theorem RepD.gen {g : G} {cs cs' : Cs} {H H' : Hp} (m : ∀ a o, ¬ cs.bad a → H a = some o → H' a = some o ∧ ¬ cs'.bad a) {d : List (Int × D)} {v : List (Key × V)} (h : RepD g cs H d v) : RepD g cs' H' d v := RepD.genN (fun a o n e _ => m a o n e) h
theorem Mv.k {w w' : Cs} {H H' : Hp} (m : Mv w H w' H') : ∀ a o, ¬ w.bad a → H a = some o → NT o → H' a = some o ∧ ¬ w'.bad a := fun _ _ n e nt => ⟨m.at_ n e nt, m.keep n e⟩
theorem Rep.mv {g : G} {w w' : Cs} {H H' : Hp} {d : D} {v : V} (h : Rep g w H d v) (m : Mv w H w' H') : Rep g w' H' d v := Rep.genN m.k h
theorem Reps.mv {g : G} {w w' : Cs} {H H' : Hp} {d : List D} {v : List V} (h : Reps g w H d v) (m : Mv w H w' H') : Reps g w' H' d v := Reps.genN m.k h
section
variable {g : G} {cs : Cs} {H : Hp}
theorem Reps.len : ∀ {ds : List D} {vs : List V}, Reps g cs H ds vs → vs.length = ds.length
  | [], _, h => by simp only [Reps] at h; subst h; rfl
  | d :: ds, _, h => by
    simp only [Reps] at h
    obtain ⟨v, r, e, _, z⟩ := h
    subst e
    rw [List.length_cons, List.length_cons, Reps.len z]
theorem Reps.get : ∀ {ds : List D} {vs : List V}, Reps g cs H ds vs → ∀ {i : Nat} {v : V}, vs[i]? = some v → ∃ d, ds[i]? = some d ∧ Rep g cs H d v
  | [], _, h, i, v, e => by simp only [Reps] at h; subst h; simp at e
  | d :: ds, _, h, i, v, e => by
    simp only [Reps] at h
    obtain ⟨w, r, e1, q, z⟩ := h
    subst e1
    cases i with
    | zero => simp at e; subst e; exact ⟨d, rfl, q⟩
    | succ i => simp at e; exact Reps.get z e
theorem Reps.get' : ∀ {ds : List D} {vs : List V}, Reps g cs H ds vs → ∀ {i : Nat} {d : D}, ds[i]? = some d → ∃ v, vs[i]? = some v ∧ Rep g cs H d v
  | [], _, h, i, v, e => by simp at e
  | d :: ds, _, h, i, v, e => by
    simp only [Reps] at h
    obtain ⟨w, r, e1, q, z⟩ := h
    subst e1
    cases i with
    | zero => simp at e; subst e; exact ⟨w, rfl, q⟩
    | succ i => simp at e; exact Reps.get' z e
theorem Reps.nil : Reps g cs H [] [] := by simp only [Reps]
theorem Reps.cons {d : D} {v : V} {ds : List D} {vs : List V} (a : Rep g cs H d v) (b : Reps g cs H ds vs) : Reps g cs H (d :: ds) (v :: vs) := by
  simp only [Reps]
  exact ⟨v, vs, rfl, a, b⟩
theorem Reps.app : ∀ {ds es : List D} {vs ws : List V}, Reps g cs H ds vs → Reps g cs H es ws → Reps g cs H (ds ++ es) (vs ++ ws)
  | [], _, _, _, h, k => by simp only [Reps] at h; subst h; exact k
  | d :: ds, _, _, _, h, k => by
    simp only [Reps] at h
    obtain ⟨v, r, e, q, z⟩ := h
    subst e
    exact Reps.cons q (Reps.app z k)
theorem Reps.drop : ∀ (n : Nat) {ds : List D} {vs : List V}, Reps g cs H ds vs → Reps g cs H (ds.drop n) (vs.drop n)
  | 0, _, _, h => h
  | n + 1, [], _, h => by simp only [Reps] at h; subst h; exact Reps.nil
  | n + 1, d :: ds, _, h => by
    simp only [Reps] at h
    obtain ⟨v, r, e, q, z⟩ := h
    subst e
    exact Reps.drop n z
theorem Reps.take : ∀ (n : Nat) {ds : List D} {vs : List V}, Reps g cs H ds vs → Reps g cs H (ds.take n) (vs.take n)
  | 0, _, _, h => Reps.nil
  | n + 1, [], _, h => by simp only [Reps] at h; subst h; exact Reps.nil
  | n + 1, d :: ds, _, h => by
    simp only [Reps] at h
    obtain ⟨v, r, e, q, z⟩ := h
    subst e
    exact Reps.cons q (Reps.take n z)
theorem Reps.set : ∀ (n : Nat) {ds : List D} {vs : List V} {d : D} {v : V}, Reps g cs H ds vs → Rep g cs H d v → Reps g cs H (ds.set n d) (vs.set n v)
  | _, [], _, _, _, h, k => by simp only [Reps] at h; subst h; exact Reps.nil
  | 0, d :: ds, _, _, _, h, k => by
    simp only [Reps] at h
    obtain ⟨v, r, e, q, z⟩ := h
    subst e
    exact Reps.cons k z
  | n + 1, d :: ds, _, _, _, h, k => by
    simp only [Reps] at h
    obtain ⟨v, r, e, q, z⟩ := h
    subst e
    exact Reps.cons q (Reps.set n z k)
theorem Reps.erase : ∀ (n : Nat) {ds : List D} {vs : List V}, Reps g cs H ds vs → Reps g cs H (ds.eraseIdx n) (vs.eraseIdx n)
  | _, [], _, h => by simp only [Reps] at h; subst h; exact Reps.nil
  | 0, d :: ds, _, h => by
    simp only [Reps] at h
    obtain ⟨v, r, e, q, z⟩ := h
    subst e
    exact z
  | n + 1, d :: ds, _, h => by
    simp only [Reps] at h
    obtain ⟨v, r, e, q, z⟩ := h
    subst e
    exact Reps.cons q (Reps.erase n z)
theorem Reps.ints : ∀ {ns : List Int} {vs : List V}, Reps g cs H (ns.map D.int) vs → vs = ns.map V.int
  | [], _, h => by simp only [List.map, Reps] at h; exact h
  | n :: ns, _, h => by
    simp only [List.map, Reps, Rep] at h
    obtain ⟨v, r, e, q, z⟩ := h
    subst e q
    rw [Reps.ints z]
    rfl
theorem Reps.of_ints : ∀ (ns : List Int), Reps g cs H (ns.map D.int) (ns.map V.int)
  | [] => Reps.nil
  | n :: ns => Reps.cons (by simp only [Rep]) (Reps.of_ints ns)
theorem Rep.tup {ds : List D} {vs : List V} {a : Addr} (n : ¬ cs.bad a) (h : H a = some (.tup vs)) (r : Reps g cs H ds vs) : Rep g cs H (.tup ds) (.ref a) := by
  simp only [Rep]
  exact ⟨a, vs, rfl, n, h, r⟩
theorem Rep.lst {ds : List D} {vs : List V} {a : Addr} (n : ¬ cs.bad a) (h : H a = some (.lst vs)) (r : Reps g cs H ds vs) : Rep g cs H (.lst ds) (.ref a) := by
  simp only [Rep]
  exact ⟨a, vs, rfl, n, h, r⟩
end
def RepK {α β : Type} (g : G) (w : Cs) (H : Hp) (enc : α → β) : List (α × D) → List (β × V) → Prop
  | [], ws => ws = []
  | p :: ks, ws => ∃ v r, ws = (enc p.1, v) :: r ∧ Rep g w H p.2 v ∧ RepK g w H enc ks r
theorem RepK.genN {α β : Type} {enc : α → β} {g : G} {cs cs' : Cs} {H H' : Hp} (m : ∀ a o, ¬ cs.bad a → H a = some o → NT o → H' a = some o ∧ ¬ cs'.bad a) : ∀ {ks : List (α × D)} {ws : List (β × V)}, RepK g cs H enc ks ws → RepK g cs' H' enc ks ws
  | [], _, h => h
  | _ :: _, _, ⟨v, r, e, q, z⟩ => ⟨v, r, e, Rep.genN m q, RepK.genN m z⟩
theorem RepK.gen {α β : Type} {enc : α → β} {g : G} {cs cs' : Cs} {H H' : Hp} (m : ∀ a o, ¬ cs.bad a → H a = some o → H' a = some o ∧ ¬ cs'.bad a) {ks : List (α × D)} {ws : List (β × V)} (h : RepK g cs H enc ks ws) : RepK g cs' H' enc ks ws := RepK.genN (fun a o n e _ => m a o n e) h
theorem RepK.mv {α β : Type} {enc : α → β} {g : G} {w w' : Cs} {H H' : Hp} {ks : List (α × D)} {ws : List (β × V)} (h : RepK g w H enc ks ws) (m : Mv w H w' H') : RepK g w' H' enc ks ws := RepK.genN m.k h
abbrev encI : Int → L2.Key := Sum.inl
abbrev encT : List Int → List L2.Key := fun ks => ks.map Sum.inl
def CellOk (g : G) (w : Cs) (H : Hp) : CC → Addr → Prop
  | .lst ds, a => ∃ vs, H a = some (.lst vs) ∧ Reps g w H ds vs
  | .dk ks, a => ∃ ws, H a = some (.dK ws) ∧ RepK g w H encI ks ws
  | .dt ks, a => ∃ ws, H a = some (.dT ws) ∧ RepK g w H encT ks ws
def SlOk (g : G) (w : Cs) (H : Hp) (σ : L2.St) (i : Nat) : Sl → Prop
  | .no => True
  | .dat d => ∃ v, σ[i]? = some (some v) ∧ Rep g w H d v
  | .cell c => ∃ a, w.cs[c]? = some (some a) ∧ σ[i]? = some (some (.ref a))
structure MemOk (g : G) (w : Cs) (H : Hp) (M : Mem) : Prop where
  len : w.cs.length = M.length
  at_ : ∀ (c : Nat) (x : CC), M[c]? = some (some x) → ∃ a, w.cs[c]? = some (some a) ∧ CellOk g w H x a
  live : ∀ (c : Nat) (a : Addr), w.cs[c]? = some (some a) → ∃ x, M[c]? = some (some x)
  inj : ∀ (c c' : Nat) (a : Addr), w.cs[c]? = some (some a) → w.cs[c']? = some (some a) → c = c'
  av : ∀ a, a ∈ w.av → some a ∉ w.cs ∧ ∃ o, H a = some o
  tabs : ∀ a, a ∈ g.TA → ¬ w.bad a ∧ GxR.TabG H a
theorem tab_upd {H : Hp} {a p : Addr} {o : HO} (h : GxR.TabG H a) (n : a ≠ p) : GxR.TabG (upd H p o) a := by
  obtain ⟨ps, e, t⟩ := h
  exact ⟨ps, by rw [upd_ne n]; exact e, t⟩
theorem tab_new {H : Hp} {a p : Addr} (h : GxR.TabG H a) (n : H p = none) : a ≠ p := fun z => by
  obtain ⟨ps, e, t⟩ := h
  rw [z, n] at e; cases e
structure RS (g : G) (w : Cs) (H : Hp) (σ : L2.St) (s : S) : Prop where
  len : σ.length = s.r.length
  slot : ∀ (i : Nat) (x : Sl), s.r[i]? = some x → SlOk g w H σ i x
  mem : MemOk g w H s.M
section
variable {g : G} {w w' : Cs} {H H' : Hp} {σ : L2.St} {s : S} {M M' : Mem}
theorem CellOk.tracked {x : CC} {a : Addr} (h : CellOk g w H x a) : ∃ o, H a = some o := by
  cases x with
  | lst ds => obtain ⟨vs, h, _⟩ := h; exact ⟨_, h⟩
  | dk ds => obtain ⟨vs, h, _⟩ := h; exact ⟨_, h⟩
  | dt ds => obtain ⟨vs, h, _⟩ := h; exact ⟨_, h⟩
theorem CellOk.trackedN {x : CC} {a : Addr} (h : CellOk g w H x a) : ∃ o, H a = some o ∧ NT o := by
  cases x with
  | lst ds => obtain ⟨vs, h, _⟩ := h; exact ⟨_, h, trivial⟩
  | dk ds => obtain ⟨vs, h, _⟩ := h; exact ⟨_, h, trivial⟩
  | dt ds => obtain ⟨vs, h, _⟩ := h; exact ⟨_, h, trivial⟩
theorem MemOk.tracked (m : MemOk g w H M) {a : Addr} (h : w.bad a) : ∃ o, H a = some o := by
  rcases h with h | h
  · obtain ⟨c, e⟩ := List.getElem?_of_mem h
    obtain ⟨x, ex⟩ := m.live c a e
    obtain ⟨b, eb, q⟩ := m.at_ c x ex
    rw [e] at eb
    cases eb
    exact q.tracked
  · exact (m.av a h).2
theorem MemOk.fresh (m : MemOk g w H M) {a : Addr} (h : H a = none) : ¬ w.bad a := fun z => by
  obtain ⟨o, e⟩ := m.tracked z
  rw [h] at e
  cases e
theorem CellOk.mv {x : CC} {a : Addr} (h : CellOk g w H x a) (m : Mv w H w' H') (e : H' a = H a) : CellOk g w' H' x a := by
  cases x with
  | lst ds => obtain ⟨vs, q, r⟩ := h; exact ⟨vs, e.trans q, r.mv m⟩
  | dk ds => obtain ⟨vs, q, r⟩ := h; exact ⟨vs, e.trans q, r.mv m⟩
  | dt ds => obtain ⟨vs, q, r⟩ := h; exact ⟨vs, e.trans q, r.mv m⟩
theorem MemOk.same (m : MemOk g w H M) (h : Same H H') : MemOk g w H' M := by
  refine ⟨m.len, fun c x e => ?_, m.live, m.inj, fun a ha => ?_, fun a ha => ?_⟩
  · obtain ⟨a, ea, q⟩ := m.at_ c x e
    obtain ⟨o, eo⟩ := q.tracked
    exact ⟨a, ea, q.mv (.of_same h) ((h _ _ eo).trans eo.symm)⟩
  · obtain ⟨n, o, e⟩ := m.av a ha
    exact ⟨n, o, h _ _ e⟩
  · obtain ⟨n, ps, e, t⟩ := m.tabs a ha
    exact ⟨n, ps, h _ _ e, t⟩
theorem SlOk.mv {i : Nat} {x : Sl} (h : SlOk g w H σ i x) (m : HExt w H H') : SlOk g w H' σ i x := by
  cases x with
  | no => trivial
  | dat d => obtain ⟨v, e, q⟩ := h; exact ⟨v, e, q.mv (.of_ext m)⟩
  | cell c => exact h
theorem RS.same (r : RS g w H σ s) (h : Same H H') : RS g w H' σ s :=
  ⟨r.len, fun i x e => (r.slot i x e).mv (.of_same h), r.mem.same h⟩
theorem HExtC.all_ {H H' : Hp} (e : HExtC [] H H') : HExt w H H' := ⟨fun a o _ => e.keep a o (by simp), fun a ps _ => e.grow a ps (by simp)⟩
theorem MemOk.grown (m : MemOk g w H M) (h : HExtC [] H H') : MemOk g w H' M := by
  refine ⟨m.len, fun c x e => ?_, m.live, m.inj, fun a ha => ?_, fun a ha => ⟨(m.tabs a ha).1, HExt.tab (w := ⟨[], []⟩) h (by simp) (m.tabs a ha).2⟩⟩
  · obtain ⟨a, ea, q⟩ := m.at_ c x e
    obtain ⟨o, eo, nt⟩ := q.trackedN
    exact ⟨a, ea, q.mv (.of_ext h.all_) ((h.keep _ _ (by simp) eo nt).trans eo.symm)⟩
  · obtain ⟨n, o, e⟩ := m.av a ha
    exact ⟨n, HExt.ex (w := ⟨[], []⟩) h (by simp) e⟩
theorem RS.grown (r : RS g w H σ s) (h : HExtC [] H H') : RS g w H' σ s :=
  ⟨r.len, fun i x e => (r.slot i x e).mv h.all_, r.mem.grown h⟩
theorem RS.mem' (r : RS g w H σ s) (h : HExt w H H') (m : MemOk g w H' M') : RS g w H' σ { s with M := M' } :=
  ⟨r.len, fun i x e => (r.slot i x e).mv h, m⟩
theorem RS.put {x : Sl} {o : Option V} {i : Nat} (r : RS g w H σ s) (q : ∀ σ' : L2.St, σ'[i]? = some o → SlOk g w H σ' i x) : RS g w H (σ.set i o) { s with r := s.r.set i x } := by
  refine ⟨by simp [r.len], fun j y e => ?_, r.mem⟩
  have e : (s.r.set i x)[j]? = some y := e
  by_cases hj : i = j
  · subst hj
    have hi : i < s.r.length := by
      have z := (List.getElem?_eq_some_iff.mp e).1
      simpa using z
    rw [List.getElem?_set_self hi] at e
    cases e
    exact q _ (List.getElem?_set_self (by rw [r.len]; exact hi))
  · rw [List.getElem?_set_ne hj] at e
    have z := r.slot j y e
    cases y with
    | no => trivial
    | dat d => obtain ⟨w, e, q⟩ := z; exact ⟨w, by rw [List.getElem?_set_ne hj]; exact e, q⟩
    | cell c => obtain ⟨a, e1, e2⟩ := z; exact ⟨a, e1, by rw [List.getElem?_set_ne hj]; exact e2⟩
theorem RS.set {d : D} {v : V} {i : Nat} (r : RS g w H σ s) (q : Rep g w H d v) : RS g w H (σ.set i (some v)) { s with r := s.r.set i (.dat d) } := r.put fun _ e => ⟨v, e, q⟩
theorem RS.setNo {o : Option V} {i : Nat} (r : RS g w H σ s) : RS g w H (σ.set i o) { s with r := s.r.set i .no } := r.put fun _ _ => trivial
theorem same_upd {p : Addr} {o : HO} (h : H p = none) : Same H (upd H p o) := fun b u e => by
  rw [upd_ne (ne_of_none e h)]
  exact e
abbrev Cs.out (w : Cs) (p : Addr) : Cs := { w with av := p :: w.av }
theorem Cs.out_bad {p a : Addr} (h : (w.out p).bad a) : w.bad a ∨ a = p := by
  rcases h with h | h
  · exact .inl (.inl h)
  · rcases List.mem_cons.mp h with h | h
    · exact .inr h
    · exact .inl (.inr h)
theorem mv_out {p : Addr} (e : HExt w H H') (n : H p = none) : Mv w H (w.out p) H' := by
  refine ⟨e, fun a h => ?_, fun _ _ h => .inl h, fun _ _ h => h, fun _ h => List.mem_cons_of_mem _ h⟩
  rcases Cs.out_bad h with h | h
  · exact .inl h
  · exact .inr (by rw [h]; exact n)
theorem k_in {p : Addr} : ∀ a o, ¬ (w.out p).bad a → H a = some o → H a = some o ∧ ¬ w.bad a := fun a o n e => ⟨e, fun z => n (z.elim .inl fun z => .inr (List.mem_cons_of_mem _ z))⟩
theorem RS.out {p : Addr} {o : HO} (r : RS g w H σ s) (n : H p = none) : RS g (w.out p) (upd H p o) σ s := by
  have m : Mv w H (w.out p) (upd H p o) := mv_out (.of_same (same_upd n)) n
  refine ⟨r.len, fun i x e => ?_, ⟨r.mem.len, fun c x e => ?_, r.mem.live, r.mem.inj, fun a ha => ?_, fun a ha => ⟨fun z => (Cs.out_bad z).elim (r.mem.tabs a ha).1 (tab_new (r.mem.tabs a ha).2 n), tab_upd (r.mem.tabs a ha).2 (tab_new (r.mem.tabs a ha).2 n)⟩⟩⟩
  · have z := r.slot i x e
    cases x with
    | no => trivial
    | dat d => obtain ⟨v, e, q⟩ := z; exact ⟨v, e, q.mv m⟩
    | cell c => exact z
  · obtain ⟨a, ea, q⟩ := r.mem.at_ c x e
    obtain ⟨u, eu⟩ := q.tracked
    exact ⟨a, ea, q.mv m (upd_ne (ne_of_none eu n))⟩
  · rcases List.mem_cons.mp ha with e | ha
    · subst e
      exact ⟨fun z => r.mem.fresh n (.inl z), o, upd_same⟩
    · obtain ⟨z, u, e⟩ := r.mem.av a ha
      exact ⟨z, u, by rw [upd_ne (ne_of_none e n)]; exact e⟩
theorem RS.inn {p : Addr} (r : RS g (w.out p) H σ s) : RS g w H σ s := by
  refine ⟨r.len, fun i x e => ?_, ⟨r.mem.len, fun c x e => ?_, r.mem.live, r.mem.inj, fun a ha => r.mem.av a (List.mem_cons_of_mem _ ha), fun a ha => ⟨fun z => (r.mem.tabs a ha).1 (z.elim .inl fun z => .inr (List.mem_cons_of_mem _ z)), (r.mem.tabs a ha).2⟩⟩⟩
  · have z := r.slot i x e
    cases x with
    | no => trivial
    | dat d => obtain ⟨v, e, q⟩ := z; exact ⟨v, e, Rep.gen k_in q⟩
    | cell c => exact z
  · obtain ⟨a, ea, q⟩ := r.mem.at_ c x e
    cases x with
    | lst ds => obtain ⟨vs, q, r⟩ := q; exact ⟨a, ea, vs, q, Reps.gen k_in r⟩
    | dk ds => obtain ⟨vs, q, r⟩ := q; exact ⟨a, ea, vs, q, RepK.gen k_in r⟩
    | dt ds => obtain ⟨vs, q, r⟩ := q; exact ⟨a, ea, vs, q, RepK.gen k_in r⟩
theorem upd_k {p : Addr} {o : HO} (hp : w.bad p) : ∀ a u, ¬ w.bad a → H a = some u → upd H p o a = some u ∧ ¬ w.bad a := fun a u n e =>
  ⟨by rw [upd_ne (fun z => n (by rw [z]; exact hp))]; exact e, n⟩
theorem CellOk.genN {x : CC} {a : Addr} (h : CellOk g w H x a) (k : ∀ a u, ¬ w.bad a → H a = some u → NT u → H' a = some u ∧ ¬ w'.bad a) (e : H' a = H a) : CellOk g w' H' x a := by
  cases x with
  | lst ds => obtain ⟨vs, q, r⟩ := h; exact ⟨vs, e.trans q, Reps.genN k r⟩
  | dk ds => obtain ⟨vs, q, r⟩ := h; exact ⟨vs, e.trans q, RepK.genN k r⟩
  | dt ds => obtain ⟨vs, q, r⟩ := h; exact ⟨vs, e.trans q, RepK.genN k r⟩
theorem CellOk.gen {x : CC} {a : Addr} (h : CellOk g w H x a) (k : ∀ a u, ¬ w.bad a → H a = some u → H' a = some u ∧ ¬ w'.bad a) (e : H' a = H a) : CellOk g w' H' x a := h.genN (fun a u n q _ => k a u n q) e
theorem RS.updOut {p : Addr} {o : HO} (r : RS g w H σ s) (hp : p ∈ w.av) : RS g w (upd H p o) σ s := by
  have k := upd_k (H := H) (o := o) (w := w) (.inr hp)
  have nc := (r.mem.av p hp).1
  refine ⟨r.len, fun i x e => ?_, ⟨r.mem.len, fun c x e => ?_, r.mem.live, r.mem.inj, fun a ha => ?_, fun a ha => ⟨(r.mem.tabs a ha).1, tab_upd (r.mem.tabs a ha).2 fun z => (r.mem.tabs a ha).1 (.inr (by rw [z]; exact hp))⟩⟩⟩
  · have z := r.slot i x e
    cases x with
    | no => trivial
    | dat d => obtain ⟨v, e, q⟩ := z; exact ⟨v, e, Rep.gen k q⟩
    | cell c => exact z
  · obtain ⟨a, ea, q⟩ := r.mem.at_ c x e
    exact ⟨a, ea, q.gen k (upd_ne fun z => nc (by rw [← z]; exact List.mem_of_getElem? ea))⟩
  · obtain ⟨n, u, e⟩ := r.mem.av a ha
    by_cases h : a = p
    · exact ⟨n, o, by rw [h]; exact upd_same⟩
    · exact ⟨n, u, by rw [upd_ne h]; exact e⟩
theorem RS.updCellG {c : Nat} {p : Addr} {x0 : CC} {o : HO} (r : RS g w H σ s) (hc : w.cs[c]? = some (some p)) (hx : CellOk g w (upd H p o) x0 p) : RS g w (upd H p o) σ { s with M := s.M.set c (some x0) } := by
  have hp : w.bad p := .inl (List.mem_of_getElem? hc)
  have k := upd_k (H := H) (o := o) (w := w) hp
  have hcl : c < s.M.length := by rw [← r.mem.len]; exact (List.getElem?_eq_some_iff.mp hc).1
  refine ⟨r.len, fun i x e => ?_, ⟨by simp [r.mem.len], fun j x e => ?_, fun j a e => ?_, r.mem.inj, fun a ha => ?_, fun a ha => ⟨(r.mem.tabs a ha).1, tab_upd (r.mem.tabs a ha).2 fun z => (r.mem.tabs a ha).1 (by rw [z]; exact hp)⟩⟩⟩
  · have z := r.slot i x e
    cases x with
    | no => trivial
    | dat d => obtain ⟨v, e, q⟩ := z; exact ⟨v, e, Rep.gen k q⟩
    | cell c => exact z
  · have e : (s.M.set c (some x0))[j]? = some (some x) := e
    by_cases hj : c = j
    · subst hj
      rw [List.getElem?_set_self hcl] at e
      cases e
      exact ⟨p, hc, hx⟩
    · rw [List.getElem?_set_ne hj] at e
      obtain ⟨a, ea, q⟩ := r.mem.at_ j x e
      exact ⟨a, ea, q.gen k (upd_ne fun z => hj (r.mem.inj c j p hc (by rw [ea, z])))⟩
  · obtain ⟨x, ex⟩ := r.mem.live j a e
    by_cases hj : c = j
    · subst hj
      exact ⟨_, List.getElem?_set_self hcl⟩
    · exact ⟨x, by show (s.M.set c _)[j]? = _; rw [List.getElem?_set_ne hj]; exact ex⟩
  · obtain ⟨n, u, e⟩ := r.mem.av a ha
    refine ⟨n, u, ?_⟩
    rw [upd_ne fun z => n (by rw [z]; exact List.mem_of_getElem? hc)]
    exact e
theorem RS.updCell {c : Nat} {p : Addr} {ds : List D} {vs : List V} (r : RS g w H σ s) (hc : w.cs[c]? = some (some p)) (hv : Reps g w H ds vs) : RS g w (upd H p (.lst vs)) σ { s with M := s.M.set c (some (.lst ds)) } :=
  r.updCellG hc ⟨vs, upd_same, Reps.gen (upd_k (.inl (List.mem_of_getElem? hc))) hv⟩
theorem upd_cell_ext {c : Nat} {p : Addr} {o : HO} (hc : w.cs[c]? = some (some p)) : HExt w H (upd H p o) := .all fun a u n e => by
  rw [upd_ne fun z => n (by rw [z]; exact List.mem_of_getElem? hc)]
  exact e
abbrev Cs.cell (w : Cs) (p : Addr) : Cs := { w with cs := w.cs ++ [some p] }
theorem Cs.cell_bad {p a : Addr} : (w.cell p).bad a ↔ (w.out p).bad a := by
  simp only [Cs.bad, List.mem_append, List.mem_cons, List.not_mem_nil, or_false, Option.some.injEq]
  constructor
  · rintro ((h | h) | h)
    · exact .inl h
    · exact .inr (.inl h)
    · exact .inr (.inr h)
  · rintro (h | h | h)
    · exact .inl (.inl h)
    · exact .inl (.inr h)
    · exact .inr h
theorem RS.toCellG {p : Addr} {x0 : CC} (r : RS g (w.out p) H σ s) (hp : ¬ w.bad p) (hx : CellOk g (w.out p) H x0 p) :
    RS g (w.cell p) H σ { s with M := s.M ++ [some x0] } := by
  have k : ∀ a u, ¬ (w.out p).bad a → H a = some u → H a = some u ∧ ¬ (w.cell p).bad a := fun a u n e => ⟨e, fun z => n (Cs.cell_bad.mp z)⟩
  have ml : w.cs.length = s.M.length := r.mem.len
  refine ⟨r.len, fun i x e => ?_, ⟨by simp [ml], fun j x e => ?_, fun j a e => ?_, fun j j' a e e' => ?_, fun a ha => ?_, fun a ha => ⟨fun z => (r.mem.tabs a ha).1 (Cs.cell_bad.mp z), (r.mem.tabs a ha).2⟩⟩⟩
  · have z := r.slot i x e
    cases x with
    | no => trivial
    | dat d => obtain ⟨v, e, q⟩ := z; exact ⟨v, e, Rep.gen k q⟩
    | cell c =>
      obtain ⟨a, ea, q⟩ := z
      exact ⟨a, by show (w.cs ++ [some p])[c]? = _; rw [List.getElem?_append_left (List.getElem?_eq_some_iff.mp ea).1]; exact ea, q⟩
  · have e : (s.M ++ [some x0])[j]? = some (some x) := e
    by_cases hj : j < s.M.length
    · rw [List.getElem?_append_left hj] at e
      obtain ⟨a, ea, q⟩ := r.mem.at_ j x e
      exact ⟨a, by show (w.cs ++ [some p])[j]? = _; rw [List.getElem?_append_left (by rw [ml]; exact hj)]; exact ea, q.gen k rfl⟩
    · have hj' : j = s.M.length := by
        have z := (List.getElem?_eq_some_iff.mp e).1
        simp at z
        omega
      subst hj'
      rw [List.getElem?_append_right (Nat.le_refl _), Nat.sub_self] at e
      cases e
      exact ⟨p, by show (w.cs ++ [some p])[s.M.length]? = _; rw [← ml, List.getElem?_append_right (Nat.le_refl _), Nat.sub_self]; rfl, hx.gen k rfl⟩
  · have e : (w.cs ++ [some p])[j]? = some (some a) := e
    by_cases hj : j < s.M.length
    · rw [List.getElem?_append_left (by rw [ml]; exact hj)] at e
      obtain ⟨x, ex⟩ := r.mem.live j a e
      exact ⟨x, by show (s.M ++ [some x0])[j]? = _; rw [List.getElem?_append_left hj]; exact ex⟩
    · have hj' : j = s.M.length := by
        have z := (List.getElem?_eq_some_iff.mp e).1
        simp [ml] at z
        omega
      subst hj'
      exact ⟨_, by show (s.M ++ [some x0])[s.M.length]? = _; rw [List.getElem?_append_right (Nat.le_refl _), Nat.sub_self]; rfl⟩
  · have e : (w.cs ++ [some p])[j]? = some (some a) := e
    have e' : (w.cs ++ [some p])[j']? = some (some a) := e'
    have lst : ∀ i, ¬ i < w.cs.length → (w.cs ++ [some p])[i]? = some (some a) → i = w.cs.length ∧ a = p := fun i hi q => by
      have hi' : i = w.cs.length := by
        have z := (List.getElem?_eq_some_iff.mp q).1
        simp at z
        omega
      subst hi'
      rw [List.getElem?_append_right (Nat.le_refl _), Nat.sub_self] at q
      cases q
      exact ⟨rfl, rfl⟩
    by_cases h1 : j < w.cs.length <;> by_cases h2 : j' < w.cs.length
    · rw [List.getElem?_append_left h1] at e
      rw [List.getElem?_append_left h2] at e'
      exact r.mem.inj j j' a e e'
    · obtain ⟨_, z⟩ := lst j' h2 e'
      rw [List.getElem?_append_left h1, z] at e
      exact absurd (.inl (List.mem_of_getElem? e)) hp
    · obtain ⟨_, z⟩ := lst j h1 e
      rw [List.getElem?_append_left h2, z] at e'
      exact absurd (.inl (List.mem_of_getElem? e')) hp
    · rw [(lst j h1 e).1, (lst j' h2 e').1]
  · obtain ⟨n, o, q⟩ := r.mem.av a (List.mem_cons_of_mem _ ha)
    refine ⟨fun z => ?_, o, q⟩
    rcases List.mem_append.mp z with z | z
    · exact n z
    · have e : a = p := by simpa using z
      exact hp (.inr (by rw [← e]; exact ha))
theorem RS.toCell {p : Addr} {ds : List D} {vs : List V} (r : RS g (w.out p) H σ s) (hp : ¬ w.bad p) (h : H p = some (.lst vs)) (hv : Reps g (w.out p) H ds vs) :
    RS g (w.cell p) H σ { s with M := s.M ++ [some (.lst ds)] } := r.toCellG hp ⟨vs, h, hv⟩
theorem mv_cell {p : Addr} (e : HExt w H H') (n : H p = none) (hp : ¬ w.bad p) : Mv w H (w.cell p) H' := by
  refine ⟨e, fun a h => ?_, fun c x h => .inl ?_, fun a ha z => ?_, fun _ h => h⟩
  · rcases Cs.out_bad (Cs.cell_bad.mp h) with h | h
    · exact .inl h
    · exact .inr (by rw [h]; exact n)
  · show (w.cs ++ [some p])[c]? = _
    rw [List.getElem?_append_left (List.getElem?_eq_some_iff.mp h).1]
    exact h
  · rcases List.mem_append.mp z with z | z
    · exact z
    · have e : a = p := by simpa using z
      exact absurd (.inr (by rw [← e]; exact ha)) hp
end
end DL
namespace DL
open PySem L2
abbrev KX := Str → D → S → Prop
abbrev TD := S → (D → S → Prop) → KX → Prop
abbrev TDB := S → (Bool → S → Prop) → KX → Prop
abbrev TDA := S → (List Sl → S → Prop) → KX → Prop
abbrev RD := D → D → (D → Prop) → Prop
abbrev RU := D → (D → Prop) → Prop
def EOk (g : G) (w : Cs) (H : Hp) (σ : L2.St) (P : D → S → Prop) (Q : VK) : Prop := ∀ d s' H' v, P d s' → HExt w H H' → RS g w H' σ s' → Rep g w H' d v → Q v H'
def BOk (g : G) (w : Cs) (H : Hp) (σ : L2.St) (P : Bool → S → Prop) (Q : Bool → Hp → Prop) : Prop := ∀ b s' H', P b s' → HExt w H H' → RS g w H' σ s' → Q b H'
def XdAt (w : Cs) (H : Hp) (dd : Addr) (v : V) : Prop := ¬ w.bad dd ∧ H dd = some (.xd [(("what" : Str), v)])
def XOk (g : G) (w : Cs) (H : Hp) (σ : L2.St) (P : KX) (W : WX) : Prop := ∀ c x s' H' dd v, P c x s' → HExt w H H' → RS g w H' σ s' → XdAt w H' dd v → Rep g w H' x v → W (.ref (g.CA c)) (some dd) σ H'
def ArgOk (g : G) (w : Cs) (H : Hp) : List Sl → List V → Prop
  | [], vs => vs = []
  | .no :: _, _ => False
  | .dat d :: xs, vs => ∃ v r, vs = v :: r ∧ Rep g w H d v ∧ ArgOk g w H xs r
  | .cell c :: xs, vs => ∃ a r, vs = .ref a :: r ∧ w.cs[c]? = some (some a) ∧ ArgOk g w H xs r
def AOk (g : G) (w : Cs) (H : Hp) (σ : L2.St) (P : List Sl → S → Prop) (Q : List V → Hp → Prop) : Prop := ∀ xs s' H' vs, P xs s' → HExt w H H' → RS g w H' σ s' → ArgOk g w H' xs vs → Q vs H'
def lE (g : G) (W : WX) (td : TD) : TE := fun σ H Q => ∃ w s P PX, RS g w H σ s ∧ td s P PX ∧ EOk g w H σ P Q ∧ XOk g w H σ PX W
def lB (g : G) (W : WX) (td : TDB) : TT := fun σ H Q => ∃ w s P PX, RS g w H σ s ∧ td s P PX ∧ BOk g w H σ P Q ∧ XOk g w H σ PX W
def lA (g : G) (W : WX) (td : TDA) : TA := fun σ H Q => ∃ w s P PX, RS g w H σ s ∧ td s P PX ∧ AOk g w H σ P Q ∧ XOk g w H σ PX W
def FOk (g : G) (w : Cs) (H : Hp) (σ : L2.St) (P : List D → S → Prop) (Q : VK) : Prop := ∀ ds s' H' p vs, P ds s' → HExt w H H' → H p = none → ¬ w.bad p → RS g (w.out p) H' σ s' → H' p = some (.lst vs) → Reps g (w.out p) H' ds vs → Q (.ref p) H'
abbrev TDF := S → (List D → S → Prop) → KX → Prop
def lF (g : G) (W : WX) (td : TDF) : TE := fun σ H Q => ∃ w s P PX, RS g w H σ s ∧ td s P PX ∧ FOk g w H σ P Q ∧ XOk g w H σ PX W
def lR (g : G) (r : RD) : R2 := fun x y H Q => ∃ w d e P, Rep g w H d x ∧ Rep g w H e y ∧ r d e P ∧ (∀ a, H a = none → ¬ w.bad a) ∧ ∀ z v H', P z → Same H H' → Rep g w H' z v → Q v H'
def lU (g : G) (r : RU) : V → Hp → VK → Prop := fun x H Q => ∃ w d P, Rep g w H d x ∧ r d P ∧ (∀ a, H a = none → ¬ w.bad a) ∧ ∀ z v H', P z → Same H H' → Rep g w H' z v → Q v H'
theorem pe_imp {X : Cx} {e : Expr} {t t' : TE} (h : PE X e t) (i : ∀ σ H Q, t' σ H Q → t σ H Q) : PE X e t' := ⟨fun p s σ H Q I q => h.run p s σ H Q I (i σ H Q q)⟩
theorem pt_imp {X : Cx} {e : Expr} {t t' : TT} (h : PT X e t) (i : ∀ σ H Q, t' σ H Q → t σ H Q) : PT X e t' := ⟨fun p s σ H Q I q => h.run p s σ H Q I (i σ H Q q)⟩
theorem pw_imp {X : Cx} {e : Expr} {t t' : TT} (h : PW X e t) (i : ∀ σ H Q, t' σ H Q → t σ H Q) : PW X e t' := ⟨fun wh p s σ H Q I q => h.run wh p s σ H Q I (i σ H Q q)⟩
theorem pa_imp {X : Cx} {e : List Expr} {t t' : TA} (h : PA X e t) (i : ∀ σ H Q, t' σ H Q → t σ H Q) : PA X e t' := ⟨fun pos p s σ H Q I q => h.run pos p s σ H Q I (i σ H Q q)⟩
theorem ps_imp {X : Cx} {e : Stmt} {t t' : TS} (h : PS X e t) (i : ∀ D σ H, t' D σ H → t D σ H) : PS X e t' := ⟨fun p s σ H D I q => h.run p s σ H D I (i D σ H q)⟩
theorem pss_imp {X : Cx} {e : List Stmt} {t t' : TS} (h : PSs X e t) (i : ∀ D σ H, t' D σ H → t D σ H) : PSs X e t' := ⟨fun p s σ H D I q => h.run p s σ H D I (i D σ H q)⟩
section
variable {X : Cx} {g : G} {W : WX} {pos : Pos} {a b c e : Expr} {ta tb tc : TD} {w : Cs} {H H' : Hp} {σ : L2.St} {s : S}
theorem EOk.ext {P : D → S → Prop} {Q : VK} (k : EOk g w H σ P Q) (x : HExt w H H') : EOk g w H' σ P Q := fun d s' H2 v p y => k d s' H2 v p (x.trans y)
theorem BOk.ext {P : Bool → S → Prop} {Q : Bool → Hp → Prop} (k : BOk g w H σ P Q) (x : HExt w H H') : BOk g w H' σ P Q := fun d s' H2 p y => k d s' H2 p (x.trans y)
theorem XOk.ext {P : KX} (k : XOk g w H σ P W) (x : HExt w H H') : XOk g w H' σ P W := fun c d s' H2 dd v p y => k c d s' H2 dd v p (x.trans y)
theorem AOk.ext {P : List Sl → S → Prop} {Q : List V → Hp → Prop} (k : AOk g w H σ P Q) (x : HExt w H H') : AOk g w H' σ P Q := fun d s' H2 v p y => k d s' H2 v p (x.trans y)
@[simp] def dVar (i : Nat) : TD := fun s P _ => ∃ d, s.r[i]? = some (.dat d) ∧ P d s
@[simp] def dC (d : D) : TD := fun s P _ => P d s
theorem de_var (i : Nat) {x : Str} {pos : Pos} (h : PE X (.Name x pos) (tVar i)) : PE X (.Name x pos) (lE g W (dVar i)) := pe_imp h fun σ H Q ⟨w, s, P, PX, r, ⟨d, e, p⟩, k, _⟩ => by
  obtain ⟨v, ev, q⟩ := r.slot i _ e
  exact ⟨v, ev, k d s H v p (HExt.refl _ _) r q⟩
theorem de_c {d : D} {v : V} (h : PE X e (tC v)) (q : ∀ w H, Rep g w H d v) : PE X e (lE g W (dC d)) := pe_imp h fun σ H Q ⟨w, s, P, PX, r, p, k, _⟩ => k d s H v p (HExt.refl _ _) r (q w H)
theorem de_int {i j pos} : PE X (.Constant (.int i) j pos) (lE g W (dC (.int i))) := de_c pe_int fun _ _ => by simp only [Rep]
theorem de_bl {i j pos} : PE X (.Constant (.bool i) j pos) (lE g W (dC (.bl i))) := de_c pe_bl fun _ _ => by simp only [Rep]
theorem de_non {j pos} : PE X (.Constant .none j pos) (lE g W (dC .non)) := de_c pe_non fun _ _ => by simp only [Rep]
theorem de_str {i j pos} : PE X (.Constant (.str i) j pos) (lE g W (dC (.str i))) := de_c pe_str fun _ _ => by simp only [Rep]
@[simp] def dOp (r : RD) (ta tb : TD) : TD := fun s P X => ta s (fun x s1 => tb s1 (fun y s2 => r x y fun z => P z s2) X) X
@[simp] def dUn (r : RU) (ta : TD) : TD := fun s P X => ta s (fun x s1 => r x fun z => P z s1) X
theorem lE_bin {r : R2} {rd : RD} (hr : ∀ x y H Q, lR g rd x y H Q → r x y H Q) : ∀ σ H Q, lE g W (dOp rd ta tb) σ H Q → tOp r (lE g W ta) (lE g W tb) σ H Q := fun σ H Q ⟨w, s, P, PX, rs, h, k, x⟩ =>
  ⟨w, s, _, PX, rs, h, fun d s1 H1 v q e1 rs1 rp => ⟨w, s1, _, PX, rs1, q, fun d2 s2 H2 v2 q2 e2 rs2 rp2 =>
    hr _ _ _ _ ⟨w, d, d2, _, rp.mv (.of_ext e2), rp2, q2, fun a n => rs2.mem.fresh n, fun z u H3 pz sm rz => k z s2 H3 u pz (e1.trans (e2.trans (.of_same sm))) (rs2.same sm) rz⟩, x.ext e1⟩, x⟩
theorem de_op {op : Operator} {r : R2} {rd : RD} (ho : OpR X (binaryOp op) r) (hr : ∀ x y H Q, lR g rd x y H Q → r x y H Q) (ha : PE X a (lE g W ta)) (hb : PE X b (lE g W tb)) : PE X (.BinOp a op b pos) (lE g W (dOp rd ta tb)) :=
  pe_imp (pe_op ho ha hb) (lE_bin hr)
theorem de_un {op : UnaryOp} {r : V → Hp → VK → Prop} {rd : RU} (ho : UnR X (unaryOp op) r) (hr : ∀ x H Q, lU g rd x H Q → r x H Q) (ha : PE X a (lE g W ta)) : PE X (.UnaryOp op a pos) (lE g W (dUn rd ta)) :=
  pe_imp (pe_un ho ha) fun σ H Q ⟨w, s, P, PX, rs, h, k, x⟩ => ⟨w, s, _, PX, rs, h, fun d s1 H1 v q e1 rs1 rp =>
    hr _ _ _ ⟨w, d, _, rp, q, fun a n => rs1.mem.fresh n, fun z u H3 pz sm rz => k z s1 H3 u pz (e1.trans (.of_same sm)) (rs1.same sm) rz⟩, x⟩
theorem de_cmp {op : CmpOp} {r : R2} {rd : RD} (ho : OpR X (compareOp op) r) (hr : ∀ x y H Q, lR g rd x y H Q → r x y H Q) (ha : PE X a (lE g W ta)) (hb : PE X b (lE g W tb)) (hm : behindInMarks op b = false) : PE X (.Compare a [op] [b] pos) (lE g W (dOp rd ta tb)) :=
  pe_imp (pe_cmpR ho ha hb hm) (lE_bin hr)
@[simp] def dT (t : TD) : TDB := fun s P X => t s (fun x s1 => ∃ k, x = .bl k ∧ P k s1) X
theorem lT_of {t : TE} {td : TD} (h : ∀ σ H Q, lE g W td σ H Q → t σ H Q) : ∀ σ H Q, lB g W (dT td) σ H Q → tTest t σ H Q := fun σ H Q ⟨w, s, P, PX, rs, h', k, x⟩ =>
  h _ _ _ ⟨w, s, _, PX, rs, h', fun d s1 H1 v q e1 rs1 rp => by
    obtain ⟨b, e, q⟩ := q
    subst e
    simp only [Rep] at rp
    exact ⟨b, rp, k b s1 H1 q e1 rs1⟩, x⟩
theorem dt_cmp {op : CmpOp} {r : R2} {rd : RD} (ho : OpR X (compareOp op) r) (hr : ∀ x y H Q, lR g rd x y H Q → r x y H Q) (ha : PE X a (lE g W ta)) (hb : PE X b (lE g W tb)) (hm : behindInMarks op b = false) : PT X (.Compare a [op] [b] pos) (lB g W (dT (dOp rd ta tb))) :=
  pt_imp (pt_cmpR ho ha hb hm) (lT_of (lE_bin hr))
@[simp] def dChain (r r' : RD) (ta tb tc : TD) : TD := fun s P X => ta s (fun x s1 => tb s1 (fun y s2 => r x y fun z => ∃ k, z = .bl k ∧ if k = true then tc s2 (fun u s3 => r' y u fun z' => P z' s3) X else P (.bl false) s2) X) X
theorem lE_chain {r r' : R2} {rd rd' : RD} (hr : ∀ x y H Q, lR g rd x y H Q → r x y H Q) (hr' : ∀ x y H Q, lR g rd' x y H Q → r' x y H Q) : ∀ σ H Q, lE g W (dChain rd rd' ta tb tc) σ H Q → tChain r r' (lE g W ta) (lE g W tb) (lE g W tc) σ H Q := fun σ H Q ⟨w, s, P, PX, rs, h, k, x⟩ =>
  ⟨w, s, _, PX, rs, h, fun d s1 H1 v q e1 rs1 rp => ⟨w, s1, _, PX, rs1, q, fun d2 s2 H2 v2 q2 e2 rs2 rp2 =>
    hr _ _ _ _ ⟨w, d, d2, _, rp.mv (.of_ext e2), rp2, q2, fun a n => rs2.mem.fresh n, fun z u H3 pz sm rz => by
      obtain ⟨b, e, pz⟩ := pz
      subst e
      simp only [Rep] at rz
      refine ⟨b, rz, ?_⟩
      have e3 : HExt w H2 H3 := .of_same sm
      cases b with
      | true =>
        rw [if_pos rfl] at pz ⊢
        exact ⟨w, s2, _, PX, rs2.same sm, pz, fun d4 s4 H4 v4 q4 e4 rs4 rp4 => hr' _ _ _ _ ⟨w, d2, d4, _, (rp2.mv (.of_ext e3)).mv (.of_ext e4), rp4, q4, fun a n => rs4.mem.fresh n, fun z5 u5 H5 p5 sm5 r5 =>
          k z5 s4 H5 u5 p5 (e1.trans (e2.trans (e3.trans (e4.trans (.of_same sm5))))) (rs4.same sm5) r5⟩, x.ext (e1.trans (e2.trans e3))⟩
      | false =>
        rw [if_neg Bool.false_ne_true] at pz ⊢
        exact k _ s2 H3 _ pz (e1.trans (e2.trans e3)) (rs2.same sm) (by simp only [Rep])⟩, x.ext e1⟩, x⟩
variable {t u : TDB}
@[simp] def dAnd (t u : TDB) : TDB := fun s P X => t s (fun b s1 => if b = true then u s1 P X else P false s1) X
@[simp] def dOr (t u : TDB) : TDB := fun s P X => t s (fun b s1 => if b = true then P true s1 else u s1 P X) X
@[simp] def dNot (t : TDB) : TDB := fun s P X => t s (fun b s1 => P (!b) s1) X
variable {rest : List Expr}
theorem dw_and1 (ha : PT X a (lB g W t)) : PW X (.BoolOp .And [a] pos) (lB g W t) := pw_and1 ha
theorem dw_or1 (ha : PT X a (lB g W t)) : PW X (.BoolOp .Or [a] pos) (lB g W t) := pw_or1 ha
theorem dw_and (ha : PT X a (lB g W t)) (hb : PW X (.BoolOp .And (b :: rest) pos) (lB g W u)) : PW X (.BoolOp .And (a :: b :: rest) pos) (lB g W (dAnd t u)) := pw_imp (pw_and ha hb) fun σ H Q ⟨w, s, P, PX, rs, h, k, x⟩ =>
  ⟨w, s, _, PX, rs, h, fun b s1 H1 q e1 rs1 => by
    cases b with
    | true =>
      rw [if_pos rfl] at q ⊢
      exact ⟨w, s1, P, PX, rs1, q, k.ext e1, x.ext e1⟩
    | false =>
      rw [if_neg Bool.false_ne_true] at q ⊢
      exact k _ s1 H1 q e1 rs1, x⟩
theorem dw_or (ha : PT X a (lB g W t)) (hb : PW X (.BoolOp .Or (b :: rest) pos) (lB g W u)) : PW X (.BoolOp .Or (a :: b :: rest) pos) (lB g W (dOr t u)) := pw_imp (pw_or ha hb) fun σ H Q ⟨w, s, P, PX, rs, h, k, x⟩ =>
  ⟨w, s, _, PX, rs, h, fun b s1 H1 q e1 rs1 => by
    cases b with
    | false =>
      rw [if_neg Bool.false_ne_true] at q ⊢
      exact ⟨w, s1, P, PX, rs1, q, k.ext e1, x.ext e1⟩
    | true =>
      rw [if_pos rfl] at q ⊢
      exact k _ s1 H1 q e1 rs1, x⟩
theorem dt_not (ha : PT X a (lB g W t)) : PT X (.UnaryOp .Not a pos) (lB g W (dNot t)) := pt_imp (pt_not ha) fun σ H Q ⟨w, s, P, PX, rs, h, k, x⟩ =>
  ⟨w, s, _, PX, rs, h, fun b s1 H1 q e1 rs1 => k _ s1 H1 q e1 rs1, x⟩
@[simp] def dAndV (ta tb : TD) : TD := fun s P X => ta s (fun x s1 => ∃ k, x = .bl k ∧ if k = true then tb s1 P X else P (.bl false) s1) X
@[simp] def dOrV (ta tb : TD) : TD := fun s P X => ta s (fun x s1 => ∃ k, x = .bl k ∧ if k = true then P (.bl true) s1 else tb s1 P X) X
@[simp] def dNotV (ta : TD) : TD := fun s P X => ta s (fun x s1 => ∃ k, x = .bl k ∧ P (.bl (!k)) s1) X
theorem de_and (ha : PE X a (lE g W ta)) (hb : PE X (.BoolOp .And (b :: rest) pos) (lE g W tb)) : PE X (.BoolOp .And (a :: b :: rest) pos) (lE g W (dAndV ta tb)) := pe_imp (pe_and ha hb) fun σ H Q ⟨w, s, P, PX, rs, h, k, x⟩ =>
  ⟨w, s, _, PX, rs, h, fun d s1 H1 v q e1 rs1 rp => by
    obtain ⟨b, e, q⟩ := q
    subst e
    simp only [Rep] at rp
    refine ⟨b, rp, ?_⟩
    cases b with
    | true =>
      rw [if_pos rfl] at q ⊢
      exact ⟨w, s1, P, PX, rs1, q, k.ext e1, x.ext e1⟩
    | false =>
      rw [if_neg Bool.false_ne_true] at q ⊢
      exact k _ s1 H1 _ q e1 rs1 (by simp only [Rep]), x⟩
theorem de_or (ha : PE X a (lE g W ta)) (hb : PE X (.BoolOp .Or (b :: rest) pos) (lE g W tb)) : PE X (.BoolOp .Or (a :: b :: rest) pos) (lE g W (dOrV ta tb)) := pe_imp (pe_or ha hb) fun σ H Q ⟨w, s, P, PX, rs, h, k, x⟩ =>
  ⟨w, s, _, PX, rs, h, fun d s1 H1 v q e1 rs1 rp => by
    obtain ⟨b, e, q⟩ := q
    subst e
    simp only [Rep] at rp
    refine ⟨b, rp, ?_⟩
    cases b with
    | false =>
      rw [if_neg Bool.false_ne_true] at q ⊢
      exact ⟨w, s1, P, PX, rs1, q, k.ext e1, x.ext e1⟩
    | true =>
      rw [if_pos rfl] at q ⊢
      exact k _ s1 H1 _ q e1 rs1 (by simp only [Rep]), x⟩
theorem de_not (ha : PE X a (lE g W ta)) : PE X (.UnaryOp .Not a pos) (lE g W (dNotV ta)) := pe_imp (pe_not ha) fun σ H Q ⟨w, s, P, PX, rs, h, k, x⟩ =>
  ⟨w, s, _, PX, rs, h, fun d s1 H1 v q e1 rs1 rp => by
    obtain ⟨b, e, q⟩ := q
    subst e
    simp only [Rep] at rp
    exact ⟨b, rp, k _ s1 H1 _ q e1 rs1 (by simp only [Rep])⟩, x⟩
@[simp] def dIf (t : TDB) (ta tb : TD) : TD := fun s P X => t s (fun b s1 => if b = true then ta s1 P X else tb s1 P X) X
theorem de_if (hc : PT X c (lB g W t)) (ha : PE X a (lE g W ta)) (hb : PE X b (lE g W tb)) : PE X (.IfExp c a b pos) (lE g W (dIf t ta tb)) := pe_imp (pe_ifExp hc ha hb) fun σ H Q ⟨w, s, P, PX, rs, h, k, x⟩ =>
  ⟨w, s, _, PX, rs, h, fun d s1 H1 q e1 rs1 => by
    cases d with
    | true =>
      rw [if_pos rfl] at q ⊢
      exact ⟨w, s1, P, PX, rs1, q, k.ext e1, x.ext e1⟩
    | false =>
      rw [if_neg Bool.false_ne_true] at q ⊢
      exact ⟨w, s1, P, PX, rs1, q, k.ext e1, x.ext e1⟩, x⟩
variable {tr : TDA} {es : List Expr}
@[simp] def dNil : TDA := fun s P _ => P [] s
@[simp] def dCons (ta : TD) (tr : TDA) : TDA := fun s P X => ta s (fun x s1 => tr s1 (fun xs s2 => P (.dat x :: xs) s2) X) X
@[simp] def dConsC (i : Nat) (tr : TDA) : TDA := fun s P X => ∃ c, s.r[i]? = some (.cell c) ∧ tr s (fun xs s2 => P (.cell c :: xs) s2) X
theorem da_nil : PA X [] (lA g W dNil) := pa_imp pa_nil fun σ H Q ⟨w, s, P, PX, rs, h, k, x⟩ => k [] s H [] h (HExt.refl _ _) rs rfl
theorem da_cons (ha : PE X e (lE g W ta)) (hr : PA X es (lA g W tr)) (hs : starEach (e :: es) X.env = (false, eval e X.env) :: starEach es X.env := by rfl) : PA X (e :: es) (lA g W (dCons ta tr)) := pa_imp (pa_cons ha hr hs) fun σ H Q ⟨w, s, P, PX, rs, h, k, x⟩ =>
  ⟨w, s, _, PX, rs, h, fun d s1 H1 v q e1 rs1 rp => ⟨w, s1, _, PX, rs1, q, fun xs s2 H2 vs q2 e2 rs2 rp2 => k _ s2 H2 _ q2 (e1.trans e2) rs2 ⟨v, vs, rfl, rp.mv (.of_ext e2), rp2⟩, x.ext e1⟩, x⟩
theorem da_consC (i : Nat) {n : Str} {p : Pos} (ha : PE X (.Name n p) (tVar i)) (hr : PA X es (lA g W tr)) (hs : starEach ((.Name n p) :: es) X.env = (false, eval (.Name n p) X.env) :: starEach es X.env := by rfl) : PA X ((.Name n p) :: es) (lA g W (dConsC i tr)) := pa_imp (pa_cons ha hr hs) fun σ H Q ⟨w, s, P, PX, rs, ⟨c, ec, h⟩, k, x⟩ => by
  obtain ⟨a, ea, es⟩ := rs.slot i _ ec
  exact ⟨.ref a, es, w, s, _, PX, rs, h, fun xs s2 H2 vs q2 e2 rs2 rp2 => k _ s2 H2 _ q2 e2 rs2 ⟨a, vs, rfl, ea, rp2⟩, x⟩
@[simp] def dats : List Sl → Option (List D)
  | [] => some []
  | .dat d :: r => (dats r).map (d :: ·)
  | _ :: _ => none
theorem dats_map (ds : List D) : dats (ds.map Sl.dat) = some ds := by
  induction ds with
  | nil => rfl
  | cons d ds ih => simp only [List.map_cons, dats, ih, Option.map_some]
theorem ArgOk.reps : ∀ {xs : List Sl} {ds : List D} {vs : List V}, ArgOk g w H xs vs → dats xs = some ds → Reps g w H ds vs
  | [], ds, vs, h, e => by simp only [dats] at e; cases e; have h : vs = [] := h; subst h; exact Reps.nil
  | .no :: _, _, _, h, e => nomatch e
  | .cell _ :: _, _, _, h, e => nomatch e
  | .dat d :: xs, ds, vs, h, e => by
    simp only [dats] at e
    obtain ⟨v, r, ev, q, z⟩ := h
    subst ev
    cases e2 : dats xs with
    | none => rw [e2] at e; cases e
    | some es =>
      rw [e2] at e
      cases e
      exact Reps.cons q (ArgOk.reps z e2)
@[simp] def dTup (t : TDA) : TD := fun s P X => t s (fun xs s1 => ∃ ds, dats xs = some ds ∧ ds.length ≤ sizeLine ∧ P (.tup ds) s1) X
@[simp] def dLst (t : TDA) : TDF := fun s P X => t s (fun xs s1 => ∃ ds, dats xs = some ds ∧ ds.length ≤ sizeLine ∧ P ds s1) X
theorem de_tup {x1} (h : PA X es (lA g W tr)) : PE X (.Tuple es x1 pos) (lE g W (dTup tr)) := pe_imp (pe_tup h) fun σ H Q ⟨w, s, P, PX, rs, h, k, x⟩ =>
  ⟨w, s, _, PX, rs, h, fun xs s1 H1 vs q e1 rs1 rp => by
    obtain ⟨ds, ed, hl, q⟩ := q
    have rp := rp.reps ed
    refine ⟨by rw [rp.len]; exact hl, fun p hp => ?_⟩
    have sm := same_upd (o := .tup vs) hp
    exact k _ s1 _ _ q (e1.trans (.of_same sm)) (rs1.same sm) (Rep.tup (rs1.mem.fresh hp) upd_same (rp.mv (.of_same sm))), x⟩
theorem df_lst (h : PA X es (lA g W tr)) : PE X (.List es pos) (lF g W (dLst tr)) := pe_imp (pe_lst h) fun σ H Q ⟨w, s, P, PX, rs, h, k, x⟩ =>
  ⟨w, s, _, PX, rs, h, fun xs s1 H1 vs q e1 rs1 rp => by
    obtain ⟨ds, ed, hl, q⟩ := q
    have rp := rp.reps ed
    refine ⟨by rw [rp.len]; exact hl, fun p hp => ?_⟩
    have sm := same_upd (o := .lst vs) hp
    have n0 : H p = none := e1.non (fun z => rs1.mem.fresh hp (Or.inl z)) hp
    exact k ds s1 _ p vs q (e1.trans (.of_same sm)) n0 (rs1.mem.fresh hp) (rs1.out hp) upd_same (rp.mv (mv_out (.of_same sm) hp)), x⟩
@[simp] def dF (t : TDF) : TD := fun s P X => t s (fun ds s1 => P (.lst ds) s1) X
variable {tf : TDF}
theorem de_f (h : PE X e (lF g W tf)) : PE X e (lE g W (dF tf)) := pe_imp h fun σ H Q ⟨w, s, P, PX, rs, h, k, x⟩ =>
  ⟨w, s, _, PX, rs, h, fun ds s1 H1 p vs q e1 n0 nb rs1 hp rp => k _ s1 H1 _ q e1 rs1.inn (Rep.lst nb hp (Reps.gen k_in rp)), x⟩
end
end DL
namespace DL
open PySem L2
mutual
def toPy : D → PyData
  | .non => .none
  | .bl b => .bool b
  | .int i => .int i
  | .str x => .str x
  | .tup xs => .tuple (toPys xs)
  | .lst xs => .list (toPys xs)
  | .fl xs => .list (toPys xs)
  | .ins _ _ => .dict []
  | .xc _ _ _ => .dict []
  | .dk _ => .dict []
  | .ct xs => .tuple (toPys xs)
def toPys : List D → List PyData
  | [] => []
  | d :: ds => toPy d :: toPys ds
end
def eqD (d e : D) : Bool := PyData.eqv (toPy d) (toPy e)
def okD (d : D) : Bool := SeqAt.shaped (toPy d)
theorem eqD_refl (d : D) (h : okD d = true) : eqD d d = true := by
  unfold eqD
  exact SeqAt.eqv_refl _ (SeqAt.canLay_of_shaped h)
mutual
theorem Rep.dp {K : PySem.W.Frag} {g : G} {w : Cs} {H : Hp} (hk : g.K = K) : ∀ {d : D} {v : V}, (toPy d).canLay0 = true → Rep g w H d v → Dp K H v (toPy d)
  | .non, v, _, h => by simp only [Rep] at h; subst h; exact .non
  | .bl b, v, _, h => by simp only [Rep] at h; subst h; exact .bl b
  | .int b, v, _, h => by simp only [Rep] at h; subst h; exact .int b
  | .str b, v, _, h => by simp only [Rep] at h; subst h; exact .str b
  | .tup ds, v, c, h => by
    simp only [Rep] at h
    obtain ⟨a, vs, e, n, q, r⟩ := h
    subst e
    simp only [toPy] at c ⊢
    exact .tup (SqT.of q) (Reps.dp hk (by simpa [PyData.canLay0] using c) r)
  | .lst ds, v, c, h => by
    simp only [Rep] at h
    obtain ⟨a, vs, e, n, q, r⟩ := h
    subst e
    simp only [toPy] at c ⊢
    exact .lst (SqL.of q) (Reps.dp hk (by simpa [PyData.canLay0] using c) r)
  | .ct ds, v, c, h => by
    simp only [Rep] at h
    obtain ⟨a, vs, e, n, r⟩ := h
    subst e
    simp only [toPy] at c ⊢
    refine .tup ?_ (Reps.dp hk (by simpa [PyData.canLay0] using c) r)
    rw [← hk]; exact .inr n
  | .fl ds, v, c, h => by
    simp only [Rep] at h
    obtain ⟨a, vs, e, n, r⟩ := h
    subst e
    simp only [toPy] at c ⊢
    refine .lst ?_ (Reps.dp hk (by simpa [PyData.canLay0] using c) r)
    rcases n with ⟨_, n⟩ | n
    · exact .inl n
    · rw [← hk]; exact .inr n
  | .ins _ _, v, c, h => by simp [toPy, PyData.canLay0] at c
  | .xc _ _ _, v, c, h => by simp [toPy, PyData.canLay0] at c
  | .dk _, v, c, h => by simp [toPy, PyData.canLay0] at c
theorem Reps.dp {K : PySem.W.Frag} {g : G} {w : Cs} {H : Hp} (hk : g.K = K) : ∀ {ds : List D} {vs : List V}, PyData.canLayAll0 (toPys ds) = true → Reps g w H ds vs → DpAll K H vs (toPys ds)
  | [], _, _, h => by simp only [Reps] at h; subst h; simp only [toPys]; exact .nil
  | d :: ds, _, c, h => by
    simp only [Reps] at h
    obtain ⟨v, r, e, q, z⟩ := h
    subst e
    simp only [toPys] at c ⊢
    have c : (toPy d).canLay0 = true ∧ PyData.canLayAll0 (toPys ds) = true := by simpa [PyData.canLayAll0] using c
    exact .cons (Rep.dp hk c.1 q) (Reps.dp hk c.2 z)
end
section
variable {X : Cx} {g : G} {W : WX}
abbrev Same0 : ∀ {H : Hp}, Same H H := fun _ _ h => h
@[simp] def rI2 (f : Int → Int → D) : RD := fun x y P => match x, y with
  | .int i, .int j => P (f i j)
  | _, _ => False
@[simp] def rI2c (C : Int → Int → Prop) (f : Int → Int → D) : RD := fun x y P => match x, y with
  | .int i, .int j => C i j ∧ P (f i j)
  | _, _ => False
theorem lI2 {f : Int → Int → Int} {x y : V} {H : Hp} {Q : VK} (h : lR g (rI2 fun i j => .int (f i j)) x y H Q) : rI0 (fun i j => .int (f i j)) x y H Q := by
  obtain ⟨w, d, e, P, rd, re, r, nb, q⟩ := h
  cases d <;> cases e <;> try exact r.elim
  simp only [Rep] at rd re
  exact ⟨_, _, rd, re, q _ _ H r Same0 (by simp only [Rep])⟩
theorem lI2b {f : Int → Int → Bool} {x y : V} {H : Hp} {Q : VK} (h : lR g (rI2 fun i j => .bl (f i j)) x y H Q) : rI0 (fun i j => .bl (f i j)) x y H Q := by
  obtain ⟨w, d, e, P, rd, re, r, nb, q⟩ := h
  cases d <;> cases e <;> try exact r.elim
  simp only [Rep] at rd re
  exact ⟨_, _, rd, re, q _ _ H r Same0 (by simp only [Rep])⟩
theorem lI2c {C : Int → Int → Prop} {f : Int → Int → Int} {x y : V} {H : Hp} {Q : VK} (h : lR g (rI2c C fun i j => .int (f i j)) x y H Q) : rI C (fun i j => .int (f i j)) x y H Q := by
  obtain ⟨w, d, e, P, rd, re, r, nb, q⟩ := h
  cases d <;> cases e <;> try exact r.elim
  simp only [Rep] at rd re
  exact ⟨_, _, rd, re, r.1, q _ _ H r.2 Same0 (by simp only [Rep])⟩
@[simp] def rSubD : RD := rI2 fun i j => .int (i - j)
@[simp] def rMulD : RD := rI2c (fun i j => CMul i j ∨ CMulW i j) fun i j => .int (i * j)
@[simp] def rDivD : RD := rI2c CDivW fun i j => .int (i / j)
@[simp] def rModD : RD := rI2c (fun _ j => 0 < j) fun i j => .int (i % j)
@[simp] def rPowD : RD := rI2c CPow fun i j => .int (i ^ j.toNat)
@[simp] def rShlD : RD := rI2c CPow fun i j => .int (i * 2 ^ j.toNat)
@[simp] def rShrD : RD := rI2c (fun _ j => 0 ≤ j) fun i j => .int (i / 2 ^ j.toNat)
@[simp] def rLtD : RD := rI2 fun i j => .bl (decide (i < j))
@[simp] def rLeD : RD := rI2 fun i j => .bl (decide (i ≤ j))
@[simp] def rGtD : RD := rI2 fun i j => .bl (decide (j < i))
@[simp] def rGeD : RD := rI2 fun i j => .bl (decide (j ≤ i))
section
variable {a b : Expr} {ta tb : TD} {pos : Pos}
theorem de_sub (ha : PE X a (lE g W ta)) (hb : PE X b (lE g W tb)) : PE X (.BinOp a .Sub b pos) (lE g W (dOp rSubD ta tb)) := de_op op_sub (fun _ _ _ _ h => lI2 h) ha hb
theorem de_div (ha : PE X a (lE g W ta)) (hb : PE X b (lE g W tb)) : PE X (.BinOp a .FloorDiv b pos) (lE g W (dOp rDivD ta tb)) := de_op op_fdivW (fun _ _ _ _ h => lI2c h) ha hb
theorem de_mod (ha : PE X a (lE g W ta)) (hb : PE X b (lE g W tb)) : PE X (.BinOp a .Mod b pos) (lE g W (dOp rModD ta tb)) := de_op op_mod (fun _ _ _ _ h => lI2c h) ha hb
theorem de_pow (ha : PE X a (lE g W ta)) (hb : PE X b (lE g W tb)) : PE X (.BinOp a .Pow b pos) (lE g W (dOp rPowD ta tb)) := de_op op_pow (fun _ _ _ _ h => lI2c h) ha hb
@[simp] def rMultD : RD := fun x y P => match x, y with
  | .int i, .int j => (CMul i j ∨ CMulW i j) ∧ P (.int (i * j))
  | .lst a, .int k => (-(2 ^ 63) ≤ k ∧ k < 2 ^ 63 ∧ a.length * k.toNat ≤ sizeLine) ∧ P (.lst (List.replicate k.toNat a).flatten)
  | .tup a, .int k => (a ≠ [] ∧ 2 ≤ k ∧ k ≤ 1000 ∧ a.length ≤ 1000) ∧ P (.tup (List.replicate k.toNat a).flatten)
  | _, _ => False
theorem Reps.rep {w : Cs} {H : Hp} {ds : List D} {vs : List V} (h : Reps g w H ds vs) : ∀ k : Nat, Reps g w H (List.replicate k ds).flatten (List.replicate k vs).flatten
  | 0 => Reps.nil
  | k + 1 => by
    rw [List.replicate_succ, List.replicate_succ, List.flatten_cons, List.flatten_cons]
    exact Reps.app h (Reps.rep h k)
theorem op_mulA : OpR X (binaryOp .Mult) (fun x y H Q => rI CMul (fun i j => .int (i * j)) x y H Q ∨ rI CMulW (fun i j => .int (i * j)) x y H Q ∨ rRep x y H Q ∨ rRepT X.K x y H Q) := op_mul.or (op_mulW.or (op_rep.or op_repT))
theorem de_mul (ha : PE X a (lE g W ta)) (hb : PE X b (lE g W tb)) : PE X (.BinOp a .Mult b pos) (lE g W (dOp rMultD ta tb)) := de_op op_mulA (fun x y H Q h => by
  obtain ⟨w, d, e, P, rd, re, r, nb, q⟩ := h
  cases d <;> cases e <;> try exact r.elim
  · simp only [Rep] at rd re
    obtain ⟨c, r⟩ := r
    rcases c with c | c
    · exact .inl ⟨_, _, rd, re, c, q _ _ H r Same0 (by simp only [Rep])⟩
    · exact .inr (.inl ⟨_, _, rd, re, c, q _ _ H r Same0 (by simp only [Rep])⟩)
  · rename_i ds k
    simp only [Rep] at rd re
    obtain ⟨l, vs, e, n, hl, rv⟩ := rd
    obtain ⟨⟨c1, c2, c3, c4⟩, r⟩ := r
    refine .inr (.inr (.inr ⟨l, k, vs, e, re, SqT.of hl, fun z => c1 (by
      have := rv.len
      rw [z] at this
      exact List.length_eq_zero_iff.mp this.symm), c2, c3, by rw [rv.len]; exact c4, fun p hp => q _ _ _ r (same_upd hp) (Rep.tup (nb p hp) upd_same (Reps.mv (Reps.rep rv _) (.of_same (same_upd hp))))⟩))
  · rename_i ds k
    simp only [Rep] at rd re
    obtain ⟨l, vs, e, n, hl, rv⟩ := rd
    obtain ⟨⟨c1, c2, c3⟩, r⟩ := r
    refine .inr (.inr (.inl ⟨l, k, vs, e, re, hl, c1, c2, by rw [rv.len]; exact c3, fun p hp => q _ _ _ r (same_upd hp) (Rep.lst (nb p hp) upd_same (Reps.mv (Reps.rep rv _) (.of_same (same_upd hp))))⟩))) ha hb
@[simp] def rAddD : RD := fun x y P => match x, y with
  | .int i, .int j => P (.int (i + j))
  | .lst a, .lst b => a.length + b.length ≤ sizeLine ∧ P (.lst (a ++ b))
  | .tup a, .tup b => a.length + b.length ≤ sizeLine ∧ P (.tup (a ++ b))
  | _, _ => False
theorem op_addA : OpR X (binaryOp .Add) (fun x y H Q => rI0 (fun i j => .int (i + j)) x y H Q ∨ rCat x y H Q ∨ rCatA X.K x y H Q) := op_add.or (op_cat.or op_catA)
theorem de_add (ha : PE X a (lE g W ta)) (hb : PE X b (lE g W tb)) : PE X (.BinOp a .Add b pos) (lE g W (dOp rAddD ta tb)) := de_op op_addA (fun x y H Q h => by
  obtain ⟨w, d, e, P, rd, re, r, nb, q⟩ := h
  cases d <;> cases e <;> try exact r.elim
  · simp only [Rep] at rd re
    exact .inl ⟨_, _, rd, re, q _ _ H r Same0 (by simp only [Rep])⟩
  · rename_i ds es
    have rd' := rd
    have re' := re
    simp only [Rep] at rd re
    obtain ⟨l, vs, e, n, hl, rv⟩ := rd
    obtain ⟨l2, vs2, e2, n2, hl2, rv2⟩ := re
    obtain ⟨c, r⟩ := r
    subst e e2
    refine .inr (.inr ⟨l, l2, vs, vs2, rfl, rfl, SqT.of hl, SqT.of hl2, by rw [rv.len, rv2.len]; exact c, fun z => ?_, fun _ z => ?_, fun _ _ p hp => q _ _ _ r (same_upd hp) (Rep.tup (nb p hp) upd_same (Reps.mv (Reps.app rv rv2) (.of_same (same_upd hp))))⟩)
    · subst z
      have e : ds = [] := by
        have z := rv.len
        exact List.length_eq_zero_iff.mp z.symm
      subst e
      exact q _ _ H r Same0 re'
    · subst z
      have e : es = [] := by
        have z := rv2.len
        exact List.length_eq_zero_iff.mp z.symm
      subst e
      rw [List.append_nil] at r
      exact q _ _ H r Same0 rd'
  · simp only [Rep] at rd re
    obtain ⟨l, vs, e, n, hl, rv⟩ := rd
    obtain ⟨l2, vs2, e2, n2, hl2, rv2⟩ := re
    obtain ⟨c, r⟩ := r
    exact .inr (.inl ⟨l, l2, vs, vs2, e, e2, hl, hl2, by rw [rv.len, rv2.len]; exact c, fun p hp => q _ _ _ r (same_upd hp) (Rep.lst (nb p hp) upd_same (Reps.mv (Reps.app rv rv2) (.of_same (same_upd hp))))⟩)) ha hb
@[simp] def rNegD : RU := fun x P => match x with
  | .int i => P (.int (-i))
  | _ => False
theorem de_neg (ha : PE X a (lE g W ta)) : PE X (.UnaryOp .USub a pos) (lE g W (dUn rNegD ta)) := de_un un_neg (fun x H Q h => by
  obtain ⟨w, d, P, rd, r, nb, q⟩ := h
  cases d <;> try exact r.elim
  simp only [Rep] at rd
  exact ⟨_, rd, q _ _ H r Same0 (by simp only [Rep])⟩) ha
@[simp] def rEqD' : RD := fun x y P => okD x = true ∧ okD y = true ∧ P (.bl (eqD x y))
@[simp] def rNeD' : RD := fun x y P => okD x = true ∧ okD y = true ∧ P (.bl (!eqD x y))
theorem l_eq (hk : g.K = X.K) : ∀ x y H Q, lR g rEqD' x y H Q → rEqD X.K x y H Q := fun x y H Q ⟨w, d, e, P, rd, re, ⟨h1, h2, r⟩, nb, q⟩ =>
  ⟨toPy d, toPy e, Rep.dp hk (SeqAt.canLay_of_shaped h1) rd, Rep.dp hk (SeqAt.canLay_of_shaped h2) re, h1, h2, q _ _ H r Same0 (by simp only [Rep]; rfl)⟩
theorem l_ne (hk : g.K = X.K) : ∀ x y H Q, lR g rNeD' x y H Q → rNeD X.K x y H Q := fun x y H Q ⟨w, d, e, P, rd, re, ⟨h1, h2, r⟩, nb, q⟩ =>
  ⟨toPy d, toPy e, Rep.dp hk (SeqAt.canLay_of_shaped h1) rd, Rep.dp hk (SeqAt.canLay_of_shaped h2) re, h1, h2, q _ _ H r Same0 (by simp only [Rep]; rfl)⟩
@[simp] def isNonD : D → Bool
  | .non => true
  | _ => false
@[simp] def rIsN : RD := fun x y P => y = .non ∧ P (.bl (isNonD x))
@[simp] def rIsnotN : RD := fun x y P => y = .non ∧ P (.bl (!isNonD x))
@[simp] def flatD : D → Bool
  | .non | .bl _ | .int _ | .str _ => true
  | _ => false
def inD (d : D) (ds : List D) : Bool := ds.any fun z => eqD z d
theorem Rep.flat {w : Cs} {H : Hp} {d : D} {v : V} (h : Rep g w H d v) (f : flatD d = true) : flatV v = true := by
  cases d <;> simp only [Rep] at h <;> first | (subst h; rfl) | (simp [flatD] at f)
theorem Reps.flat {w : Cs} {H : Hp} : ∀ {ds : List D} {vs : List V}, Reps g w H ds vs → ds.all flatD = true → vs.all flatV = true
  | [], _, h, _ => by simp only [Reps] at h; subst h; rfl
  | d :: ds, _, h, f => by
    simp only [Reps] at h
    obtain ⟨v, r, e, q, z⟩ := h
    subst e
    rw [List.all_cons, Bool.and_eq_true] at f ⊢
    exact ⟨q.flat f.1, Reps.flat z f.2⟩
theorem eqV_D {w : Cs} {H : Hp} {d e : D} {v u : V} (h : Rep g w H d v) (k : Rep g w H e u) (f : flatD d = true) (f' : flatD e = true) : eqV v u = eqD d e := by
  cases d <;> simp only [flatD, Bool.false_eq_true] at f <;> cases e <;> simp only [flatD, Bool.false_eq_true] at f' <;> simp only [Rep] at h k <;> subst h <;> subst k <;> simp only [eqD, toPy, PyData.eqv, eqV]
theorem inV_D {w : Cs} {H : Hp} {d : D} {v : V} (h : Rep g w H d v) (f : flatD d = true) : ∀ {ds : List D} {vs : List V}, Reps g w H ds vs → ds.all flatD = true → inV v vs = inD d ds
  | [], _, k, _ => by simp only [Reps] at k; subst k; rfl
  | e :: ds, _, k, fs => by
    simp only [Reps] at k
    obtain ⟨u, r, e, q, z⟩ := k
    subst e
    rw [List.all_cons, Bool.and_eq_true] at fs
    have ih := inV_D h f z fs.2
    unfold inV inD at ih ⊢
    rw [List.any_cons, List.any_cons, ih, eqV_D q h fs.1 f]
@[simp] def rInD' (neg : Bool) : RD := fun x y P => match y with
  | .lst ds => okD x = true ∧ okD (.lst ds) = true ∧ P (.bl (if neg then !inD x ds else inD x ds))
  | .tup ds => flatD x = true ∧ ds.all flatD = true ∧ P (.bl (if neg then !inD x ds else inD x ds))
  | _ => False
theorem any_py (d : D) : ∀ ds : List D, (toPys ds).any (fun z => PyData.eqv z (toPy d)) = inD d ds
  | [] => rfl
  | e :: ds => by
    have ih := any_py d ds
    simp only [toPys, inD, List.any_cons, eqD] at ih ⊢
    rw [ih]
theorem op_inA (hu : X.A.units + 65 < cLine) : OpR X (compareOp .In) (fun x y H Q => rInD X.K x y H Q ∨ rIn X.K false x y H Q) := (op_inD hu).or op_in_seq
theorem op_notInA (hu : X.A.units + 65 < cLine) : OpR X (compareOp .NotIn) (fun x y H Q => rNotInD X.K x y H Q ∨ rIn X.K true x y H Q) := (op_notInD hu).or op_notIn_seq
theorem l_in (hk : g.K = X.K) : ∀ x y H Q, lR g (rInD' false) x y H Q → (rInD X.K x y H Q ∨ rIn X.K false x y H Q) := fun x y H Q ⟨w, d, e, P, rd, re, r, nb, q⟩ => by
  cases e <;> try exact r.elim
  · obtain ⟨h1, h2, r⟩ := r
    simp only [Rep] at re
    obtain ⟨p, vs, e, n, hp, rv⟩ := re
    exact .inr ⟨p, vs, e, .inr (SqT.of hp), rd.flat h1, rv.flat h2, q _ _ H r Same0 (by simp only [Rep, Bool.false_eq_true, if_false]; rw [inV_D rd h1 rv h2])⟩
  · rename_i ds
    obtain ⟨h1, h2, r⟩ := r
    exact .inl ⟨toPy d, toPys ds, Rep.dp hk (SeqAt.canLay_of_shaped h1) rd, by have z := Rep.dp hk (SeqAt.canLay_of_shaped h2) re; simpa only [toPy] using z, h1, by simpa only [okD, toPy] using h2, q _ _ H r Same0 (by simp only [Rep, Bool.false_eq_true, if_false]; rw [any_py])⟩
theorem l_notIn (hk : g.K = X.K) : ∀ x y H Q, lR g (rInD' true) x y H Q → (rNotInD X.K x y H Q ∨ rIn X.K true x y H Q) := fun x y H Q ⟨w, d, e, P, rd, re, r, nb, q⟩ => by
  cases e <;> try exact r.elim
  · obtain ⟨h1, h2, r⟩ := r
    simp only [Rep] at re
    obtain ⟨p, vs, e, n, hp, rv⟩ := re
    exact .inr ⟨p, vs, e, .inr (SqT.of hp), rd.flat h1, rv.flat h2, q _ _ H r Same0 (by simp only [Rep, if_true]; rw [inV_D rd h1 rv h2])⟩
  · rename_i ds
    obtain ⟨h1, h2, r⟩ := r
    exact .inl ⟨toPy d, toPys ds, Rep.dp hk (SeqAt.canLay_of_shaped h1) rd, by have z := Rep.dp hk (SeqAt.canLay_of_shaped h2) re; simpa only [toPy] using z, h1, by simpa only [okD, toPy] using h2, q _ _ H r Same0 (by simp only [Rep, if_true]; rw [any_py])⟩
end
end
end DL
namespace DL
open PySem L2
section
variable {X : Cx} {g : G} {W : WX} {pos : Pos} {a b c e : Expr} {ta tb tc : TD} {w : Cs} {H H' : Hp} {σ : L2.St} {s : S}
@[simp] def rIxD : RD := fun x y P => match x, y with
  | .lst ds, .int i => ∃ d, atI ds i = some d ∧ P d
  | .tup ds, .int i => ∃ d, atI ds i = some d ∧ P d
  | .fl ds, .int i => ∃ d, atI ds i = some d ∧ P d
  | _, _ => False
theorem Reps.atI {ds : List D} {vs : List V} (r : Reps g w H ds vs) {i : Int} {d : D} (h : L2.atI ds i = some d) : ∃ v, L2.atI vs i = some v ∧ Rep g w H d v := by
  unfold L2.atI at h ⊢
  rw [r.len]
  cases e : ixN ds.length i with
  | none => rw [e] at h; cases h
  | some j =>
    rw [e] at h
    exact r.get' h
theorem l_ix (hk : g.K = X.K) : ∀ x y H Q, lR g rIxD x y H Q → (rIxL X.K x y H Q ∨ rIxT X.K x y H Q) := fun x y H Q ⟨w, d, e, P, rd, re, r, nb, q⟩ => by
  cases d <;> cases e <;> try exact r.elim
  · simp only [Rep] at rd re
    obtain ⟨p, vs, e, n, hp, rv⟩ := rd
    obtain ⟨d, ed, r⟩ := r
    obtain ⟨v, ev, rp⟩ := rv.atI ed
    exact .inr ⟨p, vs, _, v, e, re, SqT.of hp, ev, q _ _ H r Same0 rp⟩
  · simp only [Rep] at rd re
    obtain ⟨p, vs, e, n, hp, rv⟩ := rd
    obtain ⟨d, ed, r⟩ := r
    obtain ⟨v, ev, rp⟩ := rv.atI ed
    exact .inl ⟨p, vs, _, v, e, re, SqL.of hp, ev, q _ _ H r Same0 rp⟩
  · simp only [Rep] at rd re
    obtain ⟨p, vs, e, n, rv⟩ := rd
    obtain ⟨d, ed, r⟩ := r
    obtain ⟨v, ev, rp⟩ := rv.atI ed
    refine .inl ⟨p, vs, _, v, e, re, ?_, ev, q _ _ H r Same0 rp⟩
    rcases n with ⟨_, n⟩ | n
    · exact .inl n
    · rw [← hk]; exact .inr n
theorem ix_A : IxR X (fun x y H Q => rIxL X.K x y H Q ∨ rIxT X.K x y H Q) := ix_list.or ix_tup
theorem de_ix (hk : g.K = X.K) (ha : PE X a (lE g W ta)) (hb : PE X b (lE g W tb)) (hs : PlainIx b) : PE X (.Subscript a b pos) (lE g W (dOp rIxD ta tb)) := pe_imp (pe_ix ix_A ha hb hs) (lE_bin (l_ix hk))
@[simp] def dIxC (i : Nat) (tb : TD) : TD := fun s P X => ∃ c, s.r[i]? = some (.cell c) ∧ tb s (fun y s1 => ∃ ds j d, s1.M[c]? = some (some (.lst ds)) ∧ y = .int j ∧ atI ds j = some d ∧ P d s1) X
theorem de_ixC (i : Nat) {x : Str} {p : Pos} (ha : PE X (.Name x p) (tVar i)) (hb : PE X b (lE g W tb)) (hs : PlainIx b) : PE X (.Subscript (.Name x p) b pos) (lE g W (dIxC i tb)) := pe_imp (pe_ix ix_list ha hb hs) fun σ H Q ⟨w, s, P, PX, rs, ⟨c, ec, h⟩, k, xk⟩ => by
  obtain ⟨a, ea, ev⟩ := rs.slot i _ ec
  refine ⟨.ref a, ev, w, s, _, PX, rs, h, fun d s1 H1 v q e1 rs1 rp => ?_, xk⟩
  obtain ⟨ds, j, d2, em, ed, ei, q⟩ := q
  subst ed
  simp only [Rep] at rp
  obtain ⟨a', ea', vs, hp, rv⟩ := rs1.mem.at_ c _ em
  rw [ea] at ea'
  cases ea'
  obtain ⟨v2, ev2, rp2⟩ := rv.atI ei
  exact ⟨a, vs, j, v2, rfl, rp, SqL.of hp, ev2, k _ s1 H1 _ q e1 rs1 rp2⟩
abbrev TDO := S → (Option Int → S → Prop) → KX → Prop
def lO (g : G) (W : WX) (td : TDO) : TO := fun σ H Q => ∃ w s P PX, RS g w H σ s ∧ td s P PX ∧ (∀ o s' H', P o s' → HExt w H H' → RS g w H' σ s' → Q o H') ∧ XOk g w H σ PX W
@[simp] def dNoPart : TDO := fun s P _ => P none s
@[simp] def dPart (t : TD) : TDO := fun s P X => t s (fun y s1 => ∃ i, y = .int i ∧ P (some i) s1) X
theorem do_none : PO X none (lO g W dNoPart) := ⟨fun pins s σ H Q I ⟨w, s1, P, PX, rs, h, k, x⟩ => po_none.run pins s σ H Q I (k _ s1 H h (HExt.refl _ _) rs)⟩
theorem do_some {t : TD} (h : PE X e (lE g W t)) : PO X (some e) (lO g W (dPart t)) := ⟨fun pins s σ H Q I ⟨w, s1, P, PX, rs, hh, k, x⟩ => (po_some h).run pins s σ H Q I ⟨w, s1, _, PX, rs, hh, fun d s2 H2 v q e1 rs1 rp => by
  obtain ⟨i, e, q⟩ := q
  subst e
  simp only [Rep] at rp
  exact ⟨i, rp, k _ s2 H2 q e1 rs1⟩, x⟩⟩
def cutD (xs : List D) (lo hi : Option Int) : List D := (xs.drop (HT.sIx xs.length 0 lo)).take (HT.sIx xs.length xs.length hi - HT.sIx xs.length 0 lo)
theorem Reps.cut {ds : List D} {vs : List V} (r : Reps g w H ds vs) (lo hi : Option Int) : Reps g w H (cutD ds lo hi) (cutV vs lo hi) := by
  unfold cutD cutV
  rw [r.len]
  exact Reps.take _ (Reps.drop _ r)
variable {lo hi : Option Expr} {tl th : TDO} {p2 : Pos}
theorem fresh0 {p : Addr} (e : HExt w H H') (rs : ¬ w.bad p) (n : H' p = none) : H p = none := by
  exact e.non (fun q => rs (.inl q)) n
@[simp] def dSlL (t : TD) (tl th : TDO) : TDF := fun s P X => t s (fun x s1 => tl s1 (fun l s2 => th s2 (fun u s3 => ∃ ds, x = .lst ds ∧ P (cutD ds l u) s3) X) X) X
theorem df_slice (ha : PE X e (lE g W ta)) (hl : PO X lo (lO g W tl)) (hh : PO X hi (lO g W th)) : PE X (.Subscript e (.Slice lo hi none p2) pos) (lF g W (dSlL ta tl th)) := pe_imp (pe_slice sl_list ha hl hh) fun σ H Q ⟨w, s, P, PX, rs, h, k, x⟩ =>
  ⟨w, s, _, PX, rs, h, fun d s1 H1 v q e1 rs1 rp => ⟨w, s1, _, PX, rs1, q, fun l s2 H2 q e2 rs2 => ⟨w, s2, _, PX, rs2, q, fun u s3 H3 q3 e3 rs3 => by
    obtain ⟨ds, e, q4⟩ := q3
    subst e
    simp only [Rep] at rp
    obtain ⟨a, vs, e, n, ha, rv⟩ := rp
    have ha3 : H3 a = some (.lst vs) := e3 _ _ (fun z => n (.inl z)) (e2 _ _ (fun z => n (.inl z)) ha)
    have rv3 := (Reps.mv rv (.of_ext e2)).mv (.of_ext e3)
    refine ⟨a, vs, e, SqL.of ha3, fun p hp => ?_⟩
    have e0 := e1.trans (e2.trans e3)
    have nb := rs3.mem.fresh hp
    exact k _ s3 _ p _ q4 (e0.trans (.of_same (same_upd hp))) (fresh0 e0 nb hp) nb (rs3.out hp) upd_same ((rv3.cut l u).mv (mv_out (.of_same (same_upd hp)) hp)), (x.ext e1).ext e2⟩, x.ext e1⟩, x⟩
@[simp] def dSlT (t : TD) (tl th : TDO) : TD := fun s P X => t s (fun x s1 => tl s1 (fun l s2 => th s2 (fun u s3 => ∃ ds, x = .tup ds ∧ P (.tup (cutD ds l u)) s3) X) X) X
abbrev RCd := List Sl → Mem → (D → Prop) → Prop
def lC (g : G) (r : RCd) : List V → Hp → VK → Prop := fun vs H Q => ∃ w xs M P, ArgOk g w H xs vs ∧ MemOk g w H M ∧ r xs M P ∧ ∀ z v H', P z → Same H H' → Rep g w H' z v → Q v H'
variable {x : Str} {p : Pos} {es : List Expr} {t : TDA} {id T : String}
@[simp] def dCB (r : RCd) (t : TDA) : TD := fun s P X => t s (fun xs s1 => r xs s1.M fun z => P z s1) X
theorem l_cb {r : List V → Hp → VK → Prop} {rd : RCd} (hr : ∀ vs H Q, lC g rd vs H Q → r vs H Q) : ∀ σ H Q, lE g W (dCB rd t) σ H Q → tCB r (lA g W t) σ H Q := fun σ H Q ⟨w, s, P, PX, rs, h, k, x⟩ =>
  ⟨w, s, _, PX, rs, h, fun xs s1 H1 vs q e1 rs1 ra => hr _ _ _ ⟨w, xs, s1.M, _, ra, rs1.mem, q, fun z v H' pz sm rz => k z s1 H' v pz (e1.trans (.of_same sm)) (rs1.same sm) rz⟩, x⟩
theorem ArgOk.one {d : D} {vs : List V} (h : ArgOk g w H [.dat d] vs) : ∃ v, vs = [v] ∧ Rep g w H d v := by
  obtain ⟨v, r, e, q, z⟩ := h
  have z : r = [] := z
  subst z
  exact ⟨v, e, q⟩
theorem ArgOk.two {d d' : D} {vs : List V} (h : ArgOk g w H [.dat d, .dat d'] vs) : ∃ v v', vs = [v, v'] ∧ Rep g w H d v ∧ Rep g w H d' v' := by
  obtain ⟨v, r, e, q, z⟩ := h
  obtain ⟨v', e', q'⟩ := ArgOk.one z
  subst e'
  exact ⟨v, v', e, q, q'⟩
theorem ArgOk.cell1 {c : Nat} {vs : List V} (h : ArgOk g w H [.cell c] vs) : ∃ a, vs = [.ref a] ∧ w.cs[c]? = some (some a) := by
  obtain ⟨v, r, e, q, z⟩ := h
  have z : r = [] := z
  subst z
  exact ⟨v, e, q⟩
@[simp] def rLenD : RCd := fun xs M P => match xs with
  | [.dat (.lst ds)] => P (.int ds.length)
  | [.dat (.tup ds)] => P (.int ds.length)
  | [.dat (.fl ds)] => P (.int ds.length)
  | [.cell c] => ∃ ds, M[c]? = some (some (.lst ds)) ∧ P (.int ds.length)
  | _ => False
def rLenV (K : PySem.W.Frag) : List V → Hp → VK → Prop := fun xs H Q => ∃ p ys, xs = [.ref p] ∧ (SqL K H p ys ∨ SqT K H p ys) ∧ Q (.int ys.length) H
theorem l_len (hk : g.K = X.K) : ∀ vs H Q, lC g rLenD vs H Q → rLenV X.K vs H Q := fun vs H Q ⟨w, xs, M, P, ha, m, r, q⟩ => by
  match xs, r, ha with
  | [.dat (.lst ds)], r, ha =>
    obtain ⟨v, e, h⟩ := ArgOk.one ha
    subst e
    simp only [Rep] at h
    obtain ⟨p, ys, e, n, hp, rv⟩ := h
    subst e
    exact ⟨p, ys, rfl, .inl (SqL.of hp), q _ _ H r Same0 (by simp only [Rep, rv.len])⟩
  | [.dat (.tup ds)], r, ha =>
    obtain ⟨v, e, h⟩ := ArgOk.one ha
    subst e
    simp only [Rep] at h
    obtain ⟨p, ys, e, n, hp, rv⟩ := h
    subst e
    exact ⟨p, ys, rfl, .inr (SqT.of hp), q _ _ H r Same0 (by simp only [Rep, rv.len])⟩
  | [.dat (.fl ds)], r, ha =>
    obtain ⟨v, e, h⟩ := ArgOk.one ha
    subst e
    simp only [Rep] at h
    obtain ⟨p, ys, e, n, rv⟩ := h
    subst e
    refine ⟨p, ys, rfl, .inl ?_, q _ _ H r Same0 (by simp only [Rep, rv.len])⟩
    rcases n with ⟨_, n⟩ | n
    · exact .inl n
    · rw [← hk]; exact .inr n
  | [.cell c], ⟨ds, em, r⟩, ha =>
    obtain ⟨a, e, ea⟩ := ArgOk.cell1 ha
    subst e
    obtain ⟨a', ea', vs, hp, rv⟩ := m.at_ c _ em
    rw [ea] at ea'
    cases ea'
    exact ⟨a, vs, rfl, .inl (SqL.of hp), q _ _ H r Same0 (by simp only [Rep, rv.len])⟩
theorem de_len (hk : g.K = X.K) (hg : Gl X "len") (hm : X.mg "len" = none) (ha : PA X (e :: es) (lA g W t)) (he : starEach (e :: es) X.env = (false, eval e X.env) :: starEach es X.env := by rfl) (hpl : (backTo pos (starEach es X.env)).any (·.1) = false := by rfl) :
    PE X (.Call (.Name "len" p) (e :: es) [] pos) (lE g W (dCB rLenD t)) := pe_imp (pe_callB call_len_seq hg hm PySem.boot_len ha (by decide) (by decide) he hpl) (l_cb (l_len hk))
@[simp] def r2I (f : Int → Int → Int) : RCd := fun xs M P => match xs with
  | [.dat (.int i), .dat (.int j)] => P (.int (f i j))
  | _ => False
theorem l_2I {f : Int → Int → Int} : ∀ (vs : List V) (H : Hp) (Q : VK), lC g (r2I f) vs H Q → ∃ i j, vs = [.int i, .int j] ∧ Q (.int (f i j)) H := fun vs H Q ⟨w, xs, M, P, ha, m, r, q⟩ => by
  match xs, r, ha with
  | [.dat (.int i), .dat (.int j)], r, ha =>
    obtain ⟨v, v', e, h, h'⟩ := ArgOk.two ha
    simp only [Rep] at h h'
    subst h h' e
    exact ⟨i, j, rfl, q _ _ H r Same0 (by simp only [Rep])⟩
theorem de_max2 (hc : X.calm = true) (hg : Gl X "max") (hm : X.mg "max" = none) (ha : PA X (e :: es) (lA g W t)) (he : starEach (e :: es) X.env = (false, eval e X.env) :: starEach es X.env := by rfl) (hpl : (backTo pos (starEach es X.env)).any (·.1) = false := by rfl) :
    PE X (.Call (.Name "max" p) (e :: es) [] pos) (lE g W (dCB (r2I fun i j => if j > i then j else i) t)) := pe_imp (pe_callB (call_max2 hc) hg hm (by decide +kernel) ha (by decide) (by decide) he hpl) (l_cb l_2I)
theorem de_min2 (hc : X.calm = true) (hg : Gl X "min") (hm : X.mg "min" = none) (ha : PA X (e :: es) (lA g W t)) (he : starEach (e :: es) X.env = (false, eval e X.env) :: starEach es X.env := by rfl) (hpl : (backTo pos (starEach es X.env)).any (·.1) = false := by rfl) :
    PE X (.Call (.Name "min" p) (e :: es) [] pos) (lE g W (dCB (r2I fun i j => if j < i then j else i) t)) := pe_imp (pe_callB (call_min2 hc) hg hm (by decide +kernel) ha (by decide) (by decide) he hpl) (l_cb l_2I)
@[simp] def rIntD : RCd := fun xs M P => match xs with
  | [.dat (.int i)] => P (.int i)
  | [.dat (.bl k)] => P (.int (if k then 1 else 0))
  | _ => False
theorem l_int : ∀ (vs : List V) (H : Hp) (Q : VK), lC g rIntD vs H Q → (∃ i, vs = [.int i] ∧ Q (.int i) H) ∨ ∃ k, vs = [.bl k] ∧ Q (.int (if k then 1 else 0)) H := fun vs H Q ⟨w, xs, M, P, ha, m, r, q⟩ => by
  match xs, r, ha with
  | [.dat (.int i)], r, ha =>
    obtain ⟨v, e, h⟩ := ArgOk.one ha
    simp only [Rep] at h
    subst h e
    exact .inl ⟨i, rfl, q _ _ H r Same0 (by simp only [Rep])⟩
  | [.dat (.bl i)], r, ha =>
    obtain ⟨v, e, h⟩ := ArgOk.one ha
    simp only [Rep] at h
    subst h e
    exact .inr ⟨i, rfl, q _ _ H r Same0 (by simp only [Rep])⟩
theorem de_intc (hg : Gl X "int") (hm : X.mg "int" = none) (ha : PA X (e :: es) (lA g W t)) (he : starEach (e :: es) X.env = (false, eval e X.env) :: starEach es X.env := by rfl) (hpl : (backTo pos (starEach es X.env)).any (·.1) = false := by rfl) :
    PE X (.Call (.Name "int" p) (e :: es) [] pos) (lE g W (dCB rIntD t)) := pe_imp (pe_callTy call_int1 hg hm (by decide +kernel) ha (by decide) (by decide) he hpl) (l_cb l_int)
@[simp] def rTupD : RCd := fun xs M P => match xs with
  | [.dat (.lst ds)] => P (.tup ds)
  | [.dat (.tup ds)] => P (.tup ds)
  | [.cell c] => ∃ ds, M[c]? = some (some (.lst ds)) ∧ P (.tup ds)
  | _ => False
def rTupV (K : PySem.W.Frag) : List V → Hp → VK → Prop := fun xs H Q => ∃ p ys, xs = [.ref p] ∧ ((SqL K H p ys ∧ ∀ l, H l = none → Q (.ref l) (upd H l (.tup ys))) ∨ (SqT K H p ys ∧ Q (.ref p) H))
theorem l_tup : ∀ vs H Q, lC g rTupD vs H Q → rTupV X.K vs H Q := fun vs H Q ⟨w, xs, M, P, ha, m, r, q⟩ => by
  match xs, r, ha with
  | [.dat (.lst ds)], r, ha =>
    obtain ⟨v, e, h⟩ := ArgOk.one ha
    subst e
    simp only [Rep] at h
    obtain ⟨p, ys, e, n, hp, rv⟩ := h
    subst e
    exact ⟨p, ys, rfl, .inl ⟨SqL.of hp, fun l hl => q _ _ _ r (same_upd hl) (Rep.tup (m.fresh hl) upd_same (rv.mv (.of_same (same_upd hl))))⟩⟩
  | [.dat (.tup ds)], r, ha =>
    obtain ⟨v, e, h⟩ := ArgOk.one ha
    subst e
    have h0 := h
    simp only [Rep] at h
    obtain ⟨p, ys, e, n, hp, rv⟩ := h
    subst e
    exact ⟨p, ys, rfl, .inr ⟨SqT.of hp, q _ _ H r Same0 h0⟩⟩
  | [.cell c], ⟨ds, em, r⟩, ha =>
    obtain ⟨a, e, ea⟩ := ArgOk.cell1 ha
    subst e
    obtain ⟨a', ea', vs, hp, rv⟩ := m.at_ c _ em
    rw [ea] at ea'
    cases ea'
    exact ⟨a, vs, rfl, .inl ⟨SqL.of hp, fun l hl => q _ _ _ r (same_upd hl) (Rep.tup (m.fresh hl) upd_same (rv.mv (.of_same (same_upd hl))))⟩⟩
theorem de_tuple (hg : Gl X "tuple") (hm : X.mg "tuple" = none) (ha : PA X (e :: es) (lA g W t)) (he : starEach (e :: es) X.env = (false, eval e X.env) :: starEach es X.env := by rfl) (hpl : (backTo pos (starEach es X.env)).any (·.1) = false := by rfl) :
    PE X (.Call (.Name "tuple" p) (e :: es) [] pos) (lE g W (dCB rTupD t)) := pe_imp (pe_callTy call_tuple_of hg hm (by decide +kernel) ha (by decide) (by decide) he hpl) (l_cb l_tup)
end
end DL
namespace DL
open PySem L2
structure EK where
  nx : S → Prop
  rt : D → S → Prop
  bk : S → Prop
  ct : S → Prop
abbrev TSd := S → EK → KX → Prop
section
variable {X : Cx} {g : G} {W : WX} {pos : Pos} {a b c e : Expr} {ta tb tc : TD} {w : Cs} {H H' : Hp} {σ : L2.St} {s : S}
def NOk (g : G) (w : Cs) (H : Hp) (P : S → Prop) (Q : L2.St → Hp → Prop) : Prop := ∀ s' w' H' σ', P s' → Mv w H w' H' → RS g w' H' σ' s' → Q σ' H'
structure SOk (g : G) (w : Cs) (H : Hp) (E : EK) (D : Ends) : Prop where
  nx : NOk g w H E.nx D.nx
  bk : NOk g w H E.bk D.bk
  ct : NOk g w H E.ct D.ct
  rt : ∀ d s' w' H' σ' v, E.rt d s' → Mv w H w' H' → RS g w' H' σ' s' → Rep g w' H' d v → D.rt v H'
def XOkS (g : G) (w : Cs) (H : Hp) (P : KX) (W : WX) : Prop := ∀ c x s' w' H' σ' dd v, P c x s' → Mv w H w' H' → RS g w' H' σ' s' → XdAt w' H' dd v → Rep g w' H' x v → W (.ref (g.CA c)) (some dd) σ' H'
def lS (g : G) (W : WX) (td : TSd) : TS := fun D σ H => ∃ w s E PX, RS g w H σ s ∧ td s E PX ∧ SOk g w H E D ∧ XOkS g w H PX W
theorem NOk.mv {P : S → Prop} {Q : L2.St → Hp → Prop} {w' : Cs} (k : NOk g w H P Q) (m : Mv w H w' H') (av : ∀ x, x ∈ w.av → some x ∉ w.cs ∧ ∃ o, H x = some o) : NOk g w' H' P Q := fun s2 w2 H2 σ2 p m2 r => k s2 w2 H2 σ2 p (m.trans m2 av) r
theorem SOk.mv {E : EK} {D : Ends} {w' : Cs} (k : SOk g w H E D) (m : Mv w H w' H') (av : ∀ x, x ∈ w.av → some x ∉ w.cs ∧ ∃ o, H x = some o) : SOk g w' H' E D :=
  ⟨k.nx.mv m av, k.bk.mv m av, k.ct.mv m av, fun d s2 w2 H2 σ2 v p m2 r q => k.rt d s2 w2 H2 σ2 v p (m.trans m2 av) r q⟩
theorem XOkS.mv {P : KX} {w' : Cs} (k : XOkS g w H P W) (m : Mv w H w' H') (av : ∀ x, x ∈ w.av → some x ∉ w.cs ∧ ∃ o, H x = some o) : XOkS g w' H' P W :=
  fun c x s2 w2 H2 σ2 dd v p m2 r q q2 => k c x s2 w2 H2 σ2 dd v p (m.trans m2 av) r q q2
theorem XOkS.ex {P : KX} (k : XOkS g w H P W) : XOk g w H σ P W := fun c x s2 H2 dd v p m r q q2 => k c x s2 w H2 σ dd v p (.of_ext m) r q q2
variable {st : Stmt} {rest : List Stmt} {t u : TSd} {td : TD}
@[simp] def dNext : TSd := fun s E _ => E.nx s
@[simp] def dSeq (t u : TSd) : TSd := fun s E X => t s { E with nx := fun s' => u s' E X } X
@[simp] def dRet (td : TD) : TSd := fun s E X => td s (fun d s' => E.rt d s') X
@[simp] def dRetN : TSd := fun s E _ => E.rt .non s
@[simp] def dDrop (td : TD) : TSd := fun s E X => td s (fun _ s' => E.nx s') X
@[simp] def dIfS (c : TDB) (t u : TSd) : TSd := fun s E X => c s (fun b s1 => if b = true then t s1 E X else u s1 E X) X
@[simp] def dBreak : TSd := fun s E _ => E.bk s
@[simp] def dCont : TSd := fun s E _ => E.ct s
theorem dss_nil : PSs X [] (lS g W dNext) := pss_imp pss_nil fun D σ H ⟨w, s, E, PX, rs, h, k, _⟩ => k.nx s w H σ h (Mv.refl _ _) rs
theorem lS_seq {t' u' : TS} (ht : ∀ D σ H, lS g W t D σ H → t' D σ H) (hu : ∀ D σ H, lS g W u D σ H → u' D σ H) : ∀ D σ H, lS g W (dSeq t u) D σ H → tSeq t' u' D σ H := fun D σ H ⟨w, s, E, PX, rs, h, k, x⟩ =>
  ht _ _ _ ⟨w, s, _, PX, rs, h, ⟨fun s1 w1 H1 σ1 q m rs1 => hu _ _ _ ⟨w1, s1, E, PX, rs1, q, k.mv m rs.mem.av, x.mv m rs.mem.av⟩, k.bk, k.ct, k.rt⟩, x⟩
theorem dss_cons (h1 : PS X st (lS g W t)) (h2 : PSs X rest (lS g W u)) : PSs X (st :: rest) (lS g W (dSeq t u)) := pss_imp (pss_cons h1 h2) (lS_seq (fun _ _ _ h => h) fun _ _ _ h => h)
theorem dss_one (h1 : PS X st (lS g W t)) : PSs X [st] (lS g W t) := pss_one h1
theorem ds_break : PS X (.Break pos) (lS g W dBreak) := ps_imp ps_break fun D σ H ⟨w, s, E, PX, rs, h, k, _⟩ => k.bk s w H σ h (Mv.refl _ _) rs
theorem ds_ret (he : PE X e (lE g W td)) : PS X (.Return (some e) pos) (lS g W (dRet td)) := ps_imp (ps_ret he) fun D σ H ⟨w, s, E, PX, rs, h, k, x⟩ =>
  ⟨w, s, _, PX, rs, h, fun d s1 H1 v q e1 rs1 rp => k.rt d s1 w H1 σ v q (.of_ext e1) rs1 rp, x.ex⟩
theorem ds_expr (he : PE X e (lE g W td)) (hs : swapsWith e none pos.line X.env = pure false := by rfl) : PS X (.Expr e pos) (lS g W (dDrop td)) := ps_imp (ps_expr he hs) fun D σ H ⟨w, s, E, PX, rs, h, k, x⟩ =>
  ⟨w, s, _, PX, rs, h, fun d s1 H1 v q e1 rs1 rp => k.nx s1 w H1 σ q (.of_ext e1) rs1, x.ex⟩
theorem ds_if {a b : List Stmt} {tc : TDB} (hc : PT X c (lB g W tc)) (ha : PSs X a (lS g W t)) (hb : PSs X b (lS g W u)) : PS X (.If c a b pos) (lS g W (dIfS tc t u)) := ps_imp (ps_if hc ha hb) fun D σ H ⟨w, s, E, PX, rs, h, k, x⟩ =>
  ⟨w, s, _, PX, rs, h, fun d s1 H1 q e1 rs1 => by
    have m : Mv w H w H1 := .of_ext e1
    cases d with
    | true =>
      rw [if_pos rfl] at q
      show lS g W t D σ H1
      exact ⟨w, s1, E, PX, rs1, q, k.mv m rs.mem.av, x.mv m rs.mem.av⟩
    | false =>
      rw [if_neg Bool.false_ne_true] at q
      show lS g W u D σ H1
      exact ⟨w, s1, E, PX, rs1, q, k.mv m rs.mem.av, x.mv m rs.mem.av⟩, x.ex⟩
@[simp] def dSet (i : Nat) (td : TD) : TSd := fun s E X => td s (fun d s1 => E.nx { s1 with r := s1.r.set i (.dat d) }) X
theorem lS_set {i : Nat} {te : TE} (he : ∀ σ H Q, lE g W td σ H Q → te σ H Q) : ∀ D σ H, lS g W (dSet i td) D σ H → tAsg te (gName i) D σ H := fun D σ H ⟨w, s, E, PX, rs, h, k, x⟩ =>
  he _ _ _ ⟨w, s, _, PX, rs, h, fun d s1 H1 v q e1 rs1 rp => k.nx _ w H1 _ q (.of_ext e1) (rs1.set rp), x.ex⟩
theorem ds_set {st : Stmt} {i : Nat} (h : PS X st (tAsg (lE g W td) (gName i))) : PS X st (lS g W (dSet i td)) := ps_imp h (lS_set fun _ _ _ h => h)
@[simp] def dSetF (i : Nat) (tf : TDF) : TSd := fun s E X => tf s (fun ds s1 => E.nx { r := s1.r.set i (.cell s1.M.length), M := s1.M ++ [some (.lst ds)] }) X
theorem lS_setF {i : Nat} {tf : TDF} {te : TE} (he : ∀ σ H Q, lF g W tf σ H Q → te σ H Q) : ∀ D σ H, lS g W (dSetF i tf) D σ H → tAsg te (gName i) D σ H := fun D σ H ⟨w, s, E, PX, rs, h, k, x⟩ =>
  he _ _ _ ⟨w, s, _, PX, rs, h, fun ds s1 H1 p vs q e1 n0 nb rs1 hp rp => by
    refine k.nx _ (w.cell p) H1 _ q (mv_cell e1 n0 nb) ?_
    have r2 := rs1.toCell nb hp rp
    have z := r2.put (i := i) (o := some (.ref p)) (x := .cell s1.M.length) fun σ' e => ⟨p, by
      have ml : w.cs.length = s1.M.length := rs1.mem.len
      show (w.cs ++ [some p])[s1.M.length]? = _
      rw [← ml, List.getElem?_append_right (Nat.le_refl _), Nat.sub_self]
      rfl, e⟩
    exact z, x.ex⟩
theorem ds_setF {st : Stmt} {i : Nat} {tf : TDF} (h : PS X st (tAsg (lF g W tf) (gName i))) : PS X st (lS g W (dSetF i tf)) := ps_imp h (lS_setF fun _ _ _ h => h)
def thaw (c : Nat) (ds : List D) : Sl → Sl
  | .cell j => if j = c then .dat (.lst ds) else .cell j
  | x => x
@[simp] theorem thaw_no (c : Nat) (ds : List D) : thaw c ds .no = .no := rfl
@[simp] theorem thaw_dat (c : Nat) (ds : List D) (d : D) : thaw c ds (.dat d) = .dat d := rfl
@[simp] theorem thaw_cell (c j : Nat) (ds : List D) : thaw c ds (.cell j) = if j = c then .dat (.lst ds) else .cell j := rfl
@[simp] def dFreeze (i : Nat) (t : TSd) : TSd := fun s E X => ∃ c ds, s.r[i]? = some (.cell c) ∧ s.M[c]? = some (some (.lst ds)) ∧ t { r := s.r.map (thaw c ds), M := s.M.set c none } E X
theorem lS_freeze {i : Nat} : ∀ D σ H, lS g W (dFreeze i t) D σ H → lS g W t D σ H := fun D σ H ⟨w, s, E, PX, rs, ⟨c, ds, ei, em, h⟩, k, x⟩ => by
  obtain ⟨p, ep, vs, hp, rv⟩ := rs.mem.at_ c _ em
  have hcl : c < w.cs.length := (List.getElem?_eq_some_iff.mp ep).1
  have nb : ¬ Cs.bad { w with cs := w.cs.set c none } p := fun z => by
    rcases z with z | z
    · obtain ⟨j, ej⟩ := List.getElem?_of_mem z
      by_cases hj : c = j
      · subst hj
        rw [List.getElem?_set_self hcl] at ej
        cases ej
      · rw [List.getElem?_set_ne hj] at ej
        exact hj (rs.mem.inj c j p ep ej)
    · exact (rs.mem.av p z).1 (List.mem_of_getElem? ep)
  have sub : ∀ a, Cs.bad { w with cs := w.cs.set c none } a → w.bad a := fun a z => by
    rcases z with z | z
    · obtain ⟨j, ej⟩ := List.getElem?_of_mem z
      by_cases hj : c = j
      · subst hj
        rw [List.getElem?_set_self hcl] at ej
        cases ej
      · rw [List.getElem?_set_ne hj] at ej
        exact .inl (List.mem_of_getElem? ej)
    · exact .inr z
  have m : Mv w H { w with cs := w.cs.set c none } H := by
    refine ⟨HExt.refl _ _, fun a z => .inl (sub a z), fun j y ej => ?_, fun a ha z => ?_, fun a h => h⟩
    · by_cases hj : c = j
      · subst hj
        exact .inr (List.getElem?_set_self hcl)
      · exact .inl (by show (w.cs.set c none)[j]? = _; rw [List.getElem?_set_ne hj]; exact ej)
    · have z : some a ∈ w.cs.set c none := z
      obtain ⟨j, ej⟩ := List.getElem?_of_mem z
      by_cases hj : c = j
      · subst hj
        rw [List.getElem?_set_self hcl] at ej
        cases ej
      · rw [List.getElem?_set_ne hj] at ej
        exact List.mem_of_getElem? ej
  have kk : ∀ a o, ¬ w.bad a → H a = some o → H a = some o ∧ ¬ Cs.bad { w with cs := w.cs.set c none } a := fun a o n e => ⟨e, fun z => n (sub a z)⟩
  refine ⟨{ w with cs := w.cs.set c none }, _, E, PX, ⟨by simp [rs.len], fun j y ej => ?_, ⟨by simp [rs.mem.len], fun j y ej => ?_, fun j a ej => ?_, fun j j' a e1 e2 => ?_, fun a ha => ?_, fun a ha => ⟨fun z => (rs.mem.tabs a ha).1 (sub a z), (rs.mem.tabs a ha).2⟩⟩⟩, h, k.mv m rs.mem.av, x.mv m rs.mem.av⟩
  · have ej : (s.r.map (thaw c ds))[j]? = some y := ej
    rw [List.getElem?_map] at ej
    cases ez : s.r[j]? with
    | none => rw [ez] at ej; cases ej
    | some z =>
      rw [ez] at ej
      cases ej
      have q := rs.slot j z ez
      cases z with
      | no => trivial
      | dat d => obtain ⟨v, ev, q⟩ := q; exact ⟨v, ev, Rep.gen kk q⟩
      | cell j' =>
        obtain ⟨a, ea, ev⟩ := q
        simp only [thaw]
        by_cases hj : j' = c
        · rw [if_pos hj]
          subst hj
          rw [ep] at ea
          cases ea
          exact ⟨.ref p, ev, Rep.lst nb hp (Reps.gen kk rv)⟩
        · rw [if_neg hj]
          exact ⟨a, by show (w.cs.set c none)[j']? = _; rw [List.getElem?_set_ne (Ne.symm hj)]; exact ea, ev⟩
  · have ej : (s.M.set c none)[j]? = some (some y) := ej
    by_cases hj : c = j
    · subst hj
      rw [List.getElem?_set_self (by rw [← rs.mem.len]; exact hcl)] at ej
      cases ej
    · rw [List.getElem?_set_ne hj] at ej
      obtain ⟨a, ea, q⟩ := rs.mem.at_ j y ej
      exact ⟨a, by show (w.cs.set c none)[j]? = _; rw [List.getElem?_set_ne hj]; exact ea, q.gen kk rfl⟩
  · have ej : (w.cs.set c none)[j]? = some (some a) := ej
    by_cases hj : c = j
    · subst hj
      rw [List.getElem?_set_self hcl] at ej
      cases ej
    · rw [List.getElem?_set_ne hj] at ej
      obtain ⟨y, ey⟩ := rs.mem.live j a ej
      exact ⟨y, by show (s.M.set c none)[j]? = _; rw [List.getElem?_set_ne hj]; exact ey⟩
  · have e1 : (w.cs.set c none)[j]? = some (some a) := e1
    have e2 : (w.cs.set c none)[j']? = some (some a) := e2
    have get : ∀ i, (w.cs.set c none)[i]? = some (some a) → w.cs[i]? = some (some a) := fun i e => by
      by_cases hj : c = i
      · subst hj
        rw [List.getElem?_set_self hcl] at e
        cases e
      · rw [List.getElem?_set_ne hj] at e
        exact e
    exact rs.mem.inj j j' a (get j e1) (get j' e2)
  · obtain ⟨n, o, e⟩ := rs.mem.av a ha
    refine ⟨fun z => ?_, o, e⟩
    obtain ⟨j, ej⟩ := List.getElem?_of_mem z
    by_cases hj : c = j
    · subst hj
      rw [List.getElem?_set_self hcl] at ej
      cases ej
    · rw [List.getElem?_set_ne hj] at ej
      exact n (List.mem_of_getElem? ej)
theorem dss_freeze {sts : List Stmt} (i : Nat) (h : PSs X sts (lS g W t)) : PSs X sts (lS g W (dFreeze i t)) := pss_imp h lS_freeze
abbrev TGd := D → S → (S → Prop) → Prop
abbrev TGds := List D → S → (S → Prop) → Prop
def lG (g : G) (ix : List Nat) (gt : TGd) : TG := fun v σ H Q => ∃ w s d P, RS g w H σ s ∧ Rep g w H d v ∧ gt d s P ∧ ∀ s' σ', P s' → RS g w H σ' s' → (∀ vs : List Nat, (∀ i ∈ ix, i ∈ vs) → wipe σ' vs = wipe σ vs) → Q σ' H
def lGs (g : G) (ix : List Nat) (gt : TGds) : TGs := fun vs σ H Q => ∃ w s ds P, RS g w H σ s ∧ Reps g w H ds vs ∧ gt ds s P ∧ ∀ s' σ', P s' → RS g w H σ' s' → (∀ vs : List Nat, (∀ i ∈ ix, i ∈ vs) → wipe σ' vs = wipe σ vs) → Q σ' H
theorem wipe_set_out {x : Option V} {i : Nat} : ∀ {vs : List Nat}, i ∉ vs → wipe (σ.set i x) vs = (wipe σ vs).set i x
  | [], _ => rfl
  | v :: vs, h => by
    have h1 : i ≠ v := fun e => h (by simp [e])
    have h2 : i ∉ vs := fun e => h (by simp [e])
    unfold wipe
    rw [wipe_set_out h2, List.set_comm _ _ h1]
theorem wipe_set_in {x : Option V} {i : Nat} : ∀ {vs : List Nat}, i ∈ vs → wipe (σ.set i x) vs = wipe σ vs
  | v :: vs, h => by
    unfold wipe
    by_cases h2 : i ∈ vs
    · rw [wipe_set_in h2]
    · have e : i = v := by
        rcases List.mem_cons.mp h with z | z
        · exact z
        · exact absurd z h2
      subst e
      rw [wipe_set_out h2, List.set_set]
@[simp] def dgName (i : Nat) : TGd := fun d s P => P { s with r := s.r.set i (.dat d) }
theorem pg_imp {X : Cx} {tg : Expr} {t t' : TG} (h : PG X tg t) (i : ∀ v σ H Q, t' v σ H Q → t v σ H Q) : PG X tg t' := ⟨fun p s σ H v u Q I r q => h.run p s σ H v u Q I r (i v σ H Q q)⟩
theorem dg_name {i : Nat} {tg : Expr} (h : PG X tg (gName i)) : PG X tg (lG g [i] (dgName i)) := pg_imp h fun v σ H Q ⟨w, s, d, P, rs, rp, h, k⟩ => k _ _ h (rs.set rp) fun vs hv => wipe_set_in (hv i (by simp))
@[simp] def dgsNil : TGds := fun ds s P => ds = [] ∧ P s
@[simp] def dgsCons (t : TGd) (u : TGds) : TGds := fun ds s P => match ds with
  | d :: r => t d s fun s' => u r s' P
  | [] => False
theorem dgs_nil {ix : List Nat} : PGs X [] (lGs g ix dgsNil) := ⟨fun pins s σ H vs us Q I r ⟨w, s1, ds, P, rs, rp, ⟨e, h⟩, k⟩ => pgs_nil.run pins s σ H vs us Q I r ⟨by subst e; simpa only [Reps] using rp, k s1 σ h rs fun _ _ => rfl⟩⟩
theorem dgs_cons {tg : Expr} {tgs : List Expr} {ix jx : List Nat} {t : TGd} {u : TGds} (h1 : PG X tg (lG g ix t)) (h2 : PGs X tgs (lGs g jx u))
    (hs : (assignEach (tg :: tgs) X.env).map (·.2) = assign tg X.env :: (assignEach tgs X.env).map (·.2) := by rfl) : PGs X (tg :: tgs) (lGs g (ix ++ jx) (dgsCons t u)) := ⟨fun pins s σ H vs us Q I r ⟨w, s1, ds, P, rs, rp, h, k⟩ => (pgs_cons h1 h2 hs).run pins s σ H vs us Q I r (by
    cases ds with
    | nil => exact h.elim
    | cons d ds =>
      simp only [Reps] at rp
      obtain ⟨v, r', e, q, z⟩ := rp
      subst e
      exact ⟨v, r', rfl, w, s1, d, _, rs, q, h, fun s2 σ2 h2 rs2 hw => ⟨w, s2, ds, P, rs2, z, h2, fun s3 σ3 h3 rs3 hw3 => k s3 σ3 h3 rs3 fun vs hv => (hw3 vs fun i hi => hv i (List.mem_append_right _ hi)).trans (hw vs fun i hi => hv i (List.mem_append_left _ hi))⟩⟩)⟩
@[simp] def dgTup (n : Nat) (t : TGds) : TGd := fun d s P => match d with
  | .tup ds => ds.length = n ∧ t ds s P
  | _ => False
theorem dg_tup {tgs : List Expr} {k n : Nat} {ix : List Nat} {t : TGds} {p : Pos} (hc : X.calm = true) (h : PGs X tgs (lGs g ix t)) (hn : (assignEach tgs X.env).length = n := by rfl) (hst : (assignEach tgs X.env).findIdx? (·.1) = none := by rfl) : PG X (.Tuple tgs k p) (lG g ix (dgTup n t)) :=
  pg_imp (pg_tup hc h hn hst) fun v σ H Q ⟨w, s, d, P, rs, rp, h, k⟩ => by
    cases d <;> try exact h.elim
    simp only [Rep] at rp
    obtain ⟨a, vs, e, n, hp, rv⟩ := rp
    exact ⟨a, vs, e, SqT.of hp, by rw [rv.len]; exact h.1, w, s, _, P, rs, rv, h.2, k⟩
@[simp] def dAsg (td : TD) (gt : TGd) : TSd := fun s E X => td s (fun d s1 => gt d s1 E.nx) X
@[simp] def dPar (i j : Nat) (t : TDA) : TSd := fun s E X => t s (fun xs s1 => ∃ x y, xs = [x, y] ∧ x ≠ .no ∧ y ≠ .no ∧ E.nx { s1 with r := (s1.r.set i x).set j y }) X
end
end DL
namespace DL
open PySem L2
section
variable {X : Cx} {g : G} {W : WX} {pos : Pos} {a b c e : Expr} {ta tb tc : TD} {w : Cs} {H H' : Hp} {σ : L2.St} {s : S}
structure WalkD (g : G) (w : Cs) (H : Hp) (J : It) (ds : List D) : Prop where
  ex : ∃ (Gd : Hp → Prop) (Y : Nat → Hp → V → Hp → Prop), Walk J ds.length Gd Y ∧ (∀ w' H', Mv w H w' H' → Gd H') ∧
    ∀ i w' H1 x H2, i < ds.length → Mv w H w' H1 → (∀ a, H1 a = none → ¬ w'.bad a) → Y i H1 x H2 → Same H1 H2 ∧ ∃ d, ds[i]? = some d ∧ Rep g w' H2 d x
abbrev TDI := S → (List D → S → Prop) → KX → Prop
def lI (g : G) (W : WX) (td : TDI) : TI := fun σ H R => ∃ w s P PX, RS g w H σ s ∧ td s P PX ∧ (∀ ds s' H' J, P ds s' → HExt w H H' → RS g w H' σ s' → WalkD g w H' J ds → R J H') ∧ XOk g w H σ PX W
theorem pi_imp {tg iter : Expr} {t t' : TI} (h : PI X tg iter t) (i : ∀ σ H R, t' σ H R → t σ H R) : PI X tg iter t' := ⟨fun p s σ H R I q => h.run p s σ H R I (i σ H R q)⟩
theorem walkD_list {a : Addr} {ds : List D} {vs : List V} (K : PySem.W.Frag) (n : ¬ w.bad a) (h : H a = some (.lst vs)) (rv : Reps g w H ds vs) : WalkD g w H (Itl K a) ds :=
  ⟨fun H => SqL K H a vs, YAt vs, by rw [← rv.len]; exact walk_list, fun w' H' m => SqL.of (m.at_ n h), fun i w' H1 x H2 hi m _ y => by
    obtain ⟨e, y⟩ := y
    subst e
    exact ⟨Same0, (rv.mv m).get y⟩⟩
theorem walkD_tup {a : Addr} {ds : List D} {vs : List V} (K : PySem.W.Frag) (n : ¬ w.bad a) (h : H a = some (.tup vs)) (rv : Reps g w H ds vs) : WalkD g w H (Itt K a) ds :=
  ⟨fun H => SqT K H a vs, YAt vs, by rw [← rv.len]; exact walk_tup, fun w' H' m => SqT.of (m.at_ n h), fun i w' H1 x H2 hi m _ y => by
    obtain ⟨e, y⟩ := y
    subst e
    exact ⟨Same0, (rv.mv m).get y⟩⟩
def iSeq (K : PySem.W.Frag) (tl : TE) : TI := fun σ H R => tl σ H fun x H1 => ∃ a, x = .ref a ∧ ((∃ xs, SqL K H1 a xs ∧ R (Itl K a) H1) ∨ ∃ xs, SqT K H1 a xs ∧ R (Itt K a) H1)
theorem pi_seq {tg l : Expr} {tl : TE} (hl : PE X l tl) : PI X tg l (iSeq X.K tl) := by
  refine ⟨fun pins s σ H R I h => ?_⟩
  refine thn (hl.run pins s σ H _ I h) fun v s1 ⟨x, H1, I1, r1, q1⟩ => ?_
  obtain ⟨a, e, q⟩ := q1
  subst e
  cases r1
  rcases q with ⟨xs, hq, q⟩ | ⟨xs, hq, q⟩
  · obtain ⟨its, rv, p, hz⟩ := I1.list hq
    refine wpAny_pyIter_list p.isList ?_
    refine ⟨s1.heap.objs.size, [s1.heap.objs.size], _, _, H1, rfl, I1.kept (t' := s1.toks) fun b o e => Heap.get?_push_of_some _ e, turn_list a _, ⟨_, Heap.get?_push_size _ rfl, rfl, rfl⟩, fun b hb => ?_, q⟩
    have e : b = s1.heap.objs.size := by simpa using hb
    subst e
    exact I1.fpOk (Nat.le_refl _) (I1.hok.fresh (Nat.le_refl _))
  · obtain ⟨its, rv, p, hz⟩ := I1.tuple hq
    refine wpAny_pyIter_tuple (show s1.heap.IsTuple a its.toArray from p) ?_
    refine ⟨s1.heap.objs.size, [s1.heap.objs.size], _, _, H1, rfl, I1.kept (t' := s1.toks) fun b o e => Heap.get?_push_of_some _ e, turn_tuple a _, ⟨_, Heap.get?_push_size _ rfl, rfl, rfl⟩, fun b hb => ?_, q⟩
    have e : b = s1.heap.objs.size := by simpa using hb
    subst e
    exact I1.fpOk (Nat.le_refl _) (I1.hok.fresh (Nat.le_refl _))
@[simp] def seqD : D → Option (List D)
  | .lst ds => some ds
  | .tup ds => some ds
  | _ => none
@[simp] def dIter (td : TD) : TDI := fun s P X => td s (fun d s1 => ∃ ds, seqD d = some ds ∧ P ds s1) X
theorem di_seq {tg l : Expr} (hl : PE X l (lE g W ta)) : PI X tg l (lI g W (dIter ta)) := pi_imp (pi_seq hl) fun σ H R ⟨w, s, P, PX, rs, h, k, x⟩ =>
  ⟨w, s, _, PX, rs, h, fun d s1 H1 v q e1 rs1 rp => by
    obtain ⟨ds, ed, q⟩ := q
    cases d <;> simp only [seqD, reduceCtorEq, Option.some.injEq] at ed
    · subst ed
      simp only [Rep] at rp
      obtain ⟨a, vs, e, n, hp, rv⟩ := rp
      exact ⟨a, e, .inr ⟨vs, SqT.of hp, k _ s1 H1 _ q e1 rs1 (walkD_tup _ n hp rv)⟩⟩
    · subst ed
      simp only [Rep] at rp
      obtain ⟨a, vs, e, n, hp, rv⟩ := rp
      exact ⟨a, e, .inl ⟨vs, SqL.of hp, k _ s1 H1 _ q e1 rs1 (walkD_list _ n hp rv)⟩⟩, x⟩
def rangeD (lo : Int) (n : Nat) : List D := (List.range n).map fun (i : Nat) => D.int (lo + (i : Int))
theorem walkD_range {lo : Int} {n : Nat} : WalkD g w H (Itr lo n) (rangeD lo n) :=
  ⟨fun _ => True, YFn fun i => .int (lo + i), by unfold rangeD; rw [List.length_map, List.length_range]; exact walk_range, fun _ _ _ => trivial, fun i w' H1 x H2 hi m _ y => by
    obtain ⟨e, y⟩ := y
    subst e y
    refine ⟨Same0, .int (lo + i), ?_, by simp only [Rep]⟩
    have hi : i < n := by simpa [rangeD] using hi
    simp [rangeD, hi]⟩
variable {t : TDA}
def small (i : Int) : Prop := -(2 ^ 62) ≤ i ∧ i < 2 ^ 62
@[simp] def dRange1 (t : TDA) : TDI := fun s P X => t s (fun xs s1 => ∃ n, xs = [.dat (.int n)] ∧ small n ∧ P (rangeD 0 n.toNat) s1) X
@[simp] def dRange2 (t : TDA) : TDI := fun s P X => t s (fun xs s1 => ∃ m n, xs = [.dat (.int m), .dat (.int n)] ∧ small m ∧ small n ∧ P (rangeD m (n - m).toNat) s1) X
theorem di_range1 {tg : Expr} {p : Pos} (hg : Gl X "range") (hm : X.mg "range" = none) (ha : PA X [a] (lA g W t)) (hs : starEach [a] X.env = [(false, eval a X.env)] := by rfl) : PI X tg (.Call (.Name "range" p) [a] [] pos) (lI g W (dRange1 t)) := pi_imp (pi_range1 hg hm ha hs) fun σ H R ⟨w, s, P, PX, rs, h, k, x⟩ =>
  ⟨w, s, _, PX, rs, h, fun xs s1 H1 vs q e1 rs1 ra => by
    obtain ⟨n, e, ⟨h1, h2⟩, q⟩ := q
    subst e
    obtain ⟨v, e, rp⟩ := ArgOk.one ra
    simp only [Rep] at rp
    subst e rp
    exact ⟨n, rfl, h1, h2, k _ s1 H1 _ q e1 rs1 walkD_range⟩, x⟩
theorem di_range2 {tg : Expr} {p : Pos} (hg : Gl X "range") (hm : X.mg "range" = none) (ha : PA X [a, b] (lA g W t)) (hs : starEach [a, b] X.env = [(false, eval a X.env), (false, eval b X.env)] := by rfl) (hs2 : starEach [b] X.env = [(false, eval b X.env)] := by rfl) : PI X tg (.Call (.Name "range" p) [a, b] [] pos) (lI g W (dRange2 t)) := pi_imp (pi_range2 hg hm ha hs hs2) fun σ H R ⟨w, s, P, PX, rs, h, k, x⟩ =>
  ⟨w, s, _, PX, rs, h, fun xs s1 H1 vs q e1 rs1 ra => by
    obtain ⟨m, n, e, ⟨h0, h00⟩, ⟨h1, h2⟩, q⟩ := q
    subst e
    obtain ⟨v, v', e, rp, rp'⟩ := ArgOk.two ra
    simp only [Rep] at rp rp'
    subst e rp rp'
    exact ⟨m, n, rfl, ⟨h0, h00, h1, h2⟩, k _ s1 H1 _ q e1 rs1 walkD_range⟩, x⟩
def loopD (gt : TGd) (tb : TSd) (E : EK) (PX : KX) : List D → S → Prop
  | [], s => E.nx s
  | d :: ds, s => gt d s fun s1 => tb s1 { nx := loopD gt tb E PX ds, ct := loopD gt tb E PX ds, bk := E.nx, rt := E.rt } PX
@[simp] def dFor (wd : TDI) (gt : TGd) (tb : TSd) : TSd := fun s E X => wd s (fun ds s1 => loopD gt tb E X ds s1) X
theorem ds_for {tg iter : Expr} {body : List Stmt} {ix : List Nat} {wd : TDI} {gt : TGd} {tb : TSd} (h : PS X (.For tg iter body [] pos) (tFor (lI g W wd) (lG g ix gt) (lS g W tb))) : PS X (.For tg iter body [] pos) (lS g W (dFor wd gt tb)) := ps_imp h fun D σ H ⟨w, s, E, PX, rs, h, k, x⟩ =>
  ⟨w, s, _, PX, rs, h, fun ds s1 H1 J q e1 rs1 wk => by
    obtain ⟨Gd, Y, wk, hG, hY⟩ := wk.ex
    have av := rs.mem.av
    have av1 := rs1.mem.av
    have m1 : Mv w H w H1 := .of_ext e1
    refine for_it wk (fun i σ' H' => ∃ w' s', Mv w H1 w' H' ∧ RS g w' H' σ' s' ∧ loopD gt tb E PX (ds.drop i) s') ⟨w, s1, Mv.refl _ _, rs1, q⟩ (fun i σ' H' _ ⟨w', s', m, _, _⟩ => hG w' H' m) ?_ ?_
    · rintro i x1 σ' H' H2 hi ⟨w', s', m, rs', q⟩ y
      obtain ⟨sm, d, ed, rp⟩ := hY i w' H' x1 H2 hi m (fun a n => rs'.mem.fresh n) y
      have ed2 : ds.drop i = d :: ds.drop (i + 1) := by
        rw [List.drop_eq_getElem_cons hi]
        rw [List.getElem?_eq_getElem hi] at ed
        cases ed
        rfl
      rw [ed2] at q
      have rs2 := rs'.same sm
      have m2 : Mv w H1 w' H2 := m.trans (.of_same sm) av1
      refine ⟨w', s', d, _, rs2, rp, q, fun s3 σ3 q3 rs3 _ => ?_⟩
      have nx : NOk g w' H2 (loopD gt tb E PX (ds.drop (i + 1))) (fun σ' H' => ∃ w' s', Mv w H1 w' H' ∧ RS g w' H' σ' s' ∧ loopD gt tb E PX (ds.drop (i + 1)) s') := fun s4 w4 H4 σ4 q4 m4 rs4 => ⟨w4, s4, m2.trans m4 av1, rs4, q4⟩
      refine ⟨w', s3, _, PX, rs3, q3, ⟨nx, (k.nx.mv m1 av).mv m2 av1, nx, ((k.mv m1 av).mv m2 av1).rt⟩, (x.mv m1 av).mv m2 av1⟩
    · rintro σ' H' ⟨w', s', m, rs', q⟩
      rw [List.drop_length] at q
      exact k.nx s' w' H' σ' q (m1.trans m av) rs', x.ex⟩
def whileD (c : TDB) (tb : TSd) (E : EK) (PX : KX) : Nat → S → Prop
  | 0, _ => False
  | n + 1, s => c s (fun b s1 => if b = true then tb s1 { nx := whileD c tb E PX n, ct := whileD c tb E PX n, bk := E.nx, rt := E.rt } PX else E.nx s1) PX
def dWhile (c : TDB) (tb : TSd) : TSd := fun s E X => ∃ n, whileD c tb E X n s
abbrev noX : KX := fun _ _ _ => False
abbrev W0 : WX := fun _ _ _ _ => False
@[simp] def wipeS : List Sl → List Nat → List Sl
  | r, [] => r
  | r, v :: vs => (wipeS r vs).set v .no
def lcD (gt : TGd) (tt : TDB) (te : TD) (vs : List Nat) (P : List D → S → Prop) : List D → List D → S → Prop
  | [], acc, s => P acc s
  | d :: ds, acc, s => gt d { s with r := wipeS s.r vs } fun s2 => tt s2 (fun b s3 => if b = true then te s3 (fun z s4 => acc.length < sizeLine ∧ lcD gt tt te vs P ds (acc ++ [z]) { s4 with r := s.r }) noX else lcD gt tt te vs P ds acc { s3 with r := s.r }) noX
@[simp] def dLc (wd : TDI) (gt : TGd) (tt : TDB) (te : TD) (vs : List Nat) : TDF := fun s P X => wd s (fun ds s1 => lcD gt tt te vs P ds [] s1) X
theorem RS.wipe (r : RS g w H σ s) : ∀ vs : List Nat, RS g w H (wipe σ vs) { s with r := wipeS s.r vs }
  | [] => r
  | v :: vs => (RS.wipe r vs).setNo
theorem xok0 : XOk g w H σ noX W := fun _ _ _ _ _ _ h => h.elim
theorem lF_lc {wi : TI} {gg : TG} {tt' : TT} {te' : TE} {wd : TDI} {gt : TGd} {tt : TDB} {te : TD} {vs ix : List Nat} (hwi : ∀ σ H R, lI g W wd σ H R → wi σ H R) (hgg : ∀ v σ H Q, lG g ix gt v σ H Q → gg v σ H Q) (htt : ∀ σ H Q, lB g W0 tt σ H Q → tt' σ H Q) (hte : ∀ σ H Q, lE g W0 te σ H Q → te' σ H Q) (hix : ∀ i ∈ ix, i ∈ vs) :
    ∀ σ H Q, lF g W (dLc wd gt tt te vs) σ H Q → tLc wi gg tt' te' vs σ H Q := fun σ H Q ⟨w, s, P, PX, rs, h, k, x⟩ =>
  hwi _ _ _ ⟨w, s, _, PX, rs, h, fun ds s1 H1 J q e1 rs1 wk => by
    intro p hp
    obtain ⟨Gd, Y, wk, hG, hY⟩ := wk.ex
    have nb := rs1.mem.fresh hp
    have nc : some p ∉ w.cs := fun z => nb (.inl z)
    have m0 : Mv w H1 (w.out p) (upd H1 p (.lst [])) := mv_out (.of_same (same_upd hp)) hp
    refine lc_it wk (fun i H' => ∃ M acc vacc, RS g (w.out p) H' σ { s1 with M := M } ∧ HExt w H1 H' ∧ H' p = some (.lst vacc) ∧ Reps g (w.out p) H' acc vacc ∧ lcD gt tt te vs P (ds.drop i) acc { s1 with M := M }) ⟨s1.M, [], [], rs1.out hp, m0.ext, upd_same, Reps.nil, q⟩ (fun i H' _ ⟨M, acc, vacc, r, e, _⟩ => hG (w.out p) H' (mv_out e hp)) ?_ ?_
    · rintro i x1 H2 H3 hi ⟨M, acc, vacc, rs2, e2, hp2, ra, q⟩ y
      have m2 : Mv w H1 (w.out p) H2 := mv_out e2 hp
      obtain ⟨sm, d, ed, rp⟩ := hY i (w.out p) H2 x1 H3 hi m2 (fun a n => rs2.mem.fresh n) y
      have ed2 : ds.drop i = d :: ds.drop (i + 1) := by
        rw [List.drop_eq_getElem_cons hi]
        rw [List.getElem?_eq_getElem hi] at ed
        cases ed
        rfl
      rw [ed2] at q
      have rs3 := rs2.same sm
      refine hgg _ _ _ _ ⟨w.out p, _, d, _, rs3.wipe vs, rp, q, fun s4 σ4 q4 rs4 hw => ?_⟩
      have e3 : HExt w H1 H3 := e2.trans (.of_same sm)
      refine ⟨?_, htt _ _ _ ⟨w.out p, s4, _, noX, rs4, q4, fun bb s5 H5 q5 e5 rs5 => ?_, xok0⟩⟩
      · rw [hw vs hix]
        clear hw q4
        have idem : ∀ us : List Nat, (∀ i ∈ us, i ∈ vs) → L2.wipe (L2.wipe σ vs) us = L2.wipe σ vs := by
          intro us
          induction us with
          | nil => intro _; rfl
          | cons u us ih =>
            intro hu
            show (L2.wipe (L2.wipe σ vs) us).set u none = _
            rw [ih fun i hi => hu i (List.mem_cons_of_mem _ hi)]
            have hm : u ∈ vs := hu u List.mem_cons_self
            have key : ∀ ws : List Nat, u ∈ ws → (L2.wipe σ ws).set u none = L2.wipe σ ws := by
              intro ws
              induction ws with
              | nil => intro h; cases h
              | cons v ws ih2 =>
                intro h
                show ((L2.wipe σ ws).set v none).set u none = (L2.wipe σ ws).set v none
                by_cases e : u = v
                · subst e
                  rw [List.set_set]
                · rw [List.set_comm _ _ (Ne.symm e)]
                  rcases List.mem_cons.mp h with z | z
                  · exact absurd z e
                  · rw [ih2 z]
            exact key vs hm
        exact idem vs fun _ h => h
      · have e5' : HExt w H1 H5 := e3.trans e5
        cases bb with
        | true =>
          rw [if_pos rfl] at q5
          dsimp only
          rw [if_pos rfl]
          refine hte _ _ _ ⟨w.out p, s5, _, noX, rs5, q5, fun z s6 H6 v6 q6 e6 rs6 rp6 => ?_, xok0⟩
          have e36 : HExt (w.out p) H3 H6 := e5.trans e6
          have hp6 : H6 p = some (.lst vacc) := e36 _ _ nc (sm _ _ hp2)
          have ra6 : Reps g (w.out p) H6 acc vacc := (ra.mv (.of_same sm)).mv (.of_ext e36)
          refine ⟨vacc, hp6, by rw [ra6.len]; exact q6.1, s6.M, acc ++ [z], vacc ++ [v6], ?_, ?_, upd_same, ?_, q6.2⟩
          · have r7 := rs3.mem' e36 rs6.mem
            exact r7.updOut List.mem_cons_self
          · exact (e5'.trans e6).updN hp
          · exact Reps.gen (upd_k (.inr List.mem_cons_self)) (Reps.app ra6 (Reps.cons rp6 Reps.nil))
        | false =>
          rw [if_neg Bool.false_ne_true] at q5
          dsimp only
          rw [if_neg Bool.false_ne_true]
          refine ⟨s5.M, acc, vacc, rs3.mem' e5 rs5.mem, e5', e5 _ _ nc (sm _ _ hp2), (ra.mv (.of_same sm)).mv (.of_ext e5), q5⟩
    · rintro H2 ⟨M, acc, vacc, rs2, e2, hp2, ra, q⟩
      rw [List.drop_length] at q
      exact k acc _ H2 p vacc q (e1.trans e2) (fresh0 e1 nb hp) nb rs2 hp2 ra, x⟩
theorem df_lc {elt : Expr} {gs : List Comprehension} {scope : Scope} {wd : TDI} {gt : TGd} {tt : TDB} {te : TD} {vs ix : List Nat} (h : PE X (.ListComp elt gs scope pos) (tLc (lI g W wd) (lG g ix gt) (lB g W0 tt) (lE g W0 te) vs)) (hix : ∀ i ∈ ix, i ∈ vs := by decide) : PE X (.ListComp elt gs scope pos) (lF g W (dLc wd gt tt te vs)) :=
  pe_imp h (lF_lc (fun _ _ _ h => h) (fun _ _ _ _ h => h) (fun _ _ _ h => h) (fun _ _ _ h => h) hix)
theorem ds_lc {st : Stmt} {i : Nat} {wd : TDI} {gt : TGd} {tt : TDB} {te : TD} {vs ix : List Nat} (h : PS X st (tAsg (tLc (lI g W wd) (lG g ix gt) (lB g W0 tt) (lE g W0 te) vs) (gName i))) (hix : ∀ i ∈ ix, i ∈ vs := by decide) : PS X st (tAsg (lF g W (dLc wd gt tt te vs)) (gName i)) :=
  ps_imp h fun D σ H q => lF_lc (fun _ _ _ h => h) (fun _ _ _ _ h => h) (fun _ _ _ h => h) (fun _ _ _ h => h) hix σ H _ q
theorem ds_fe {st : Stmt} {i : Nat} {tf : TDF} (h : PS X st (tAsg (lF g W tf) (gName i))) : PS X st (tAsg (lE g W (dF tf)) (gName i)) := ps_imp h fun D σ H ⟨w, s, P, PX, rs, h, k, x⟩ =>
  ⟨w, s, _, PX, rs, h, fun ds s1 H1 p vs q e1 n0 nb rs1 hp rp => k _ s1 H1 _ q e1 rs1.inn (Rep.lst nb hp (Reps.gen k_in rp)), x⟩
end
end DL
namespace DL
open PySem L2
abbrev KXM := Str → D → Mem → Prop
abbrev SpD := List Sl → Mem → (D → Mem → Prop) → KXM → Prop
section
variable {X : Cx} {g : G} {W : WX} {pos : Pos} {a b c e : Expr} {ta tb tc : TD} {w : Cs} {H H' : Hp} {σ : L2.St} {s : S}
def lSp (g : G) (spd : SpD) : Sp := fun vs H Q E => ∃ w xs M P PX, ArgOk g w H xs vs ∧ MemOk g w H M ∧ spd xs M P PX ∧ (∀ d M' H' v, P d M' → HExt w H H' → MemOk g w H' M' → Rep g w H' d v → Q v H') ∧
  (∀ c x M' H' dd v, PX c x M' → HExt w H H' → MemOk g w H' M' → XdAt w H' dd v → Rep g w H' x v → E (.ref (g.CA c)) (some dd) H')
@[simp] def cellsIn : List Sl → List Nat
  | [] => []
  | .cell c :: r => c :: cellsIn r
  | _ :: r => cellsIn r
@[simp] def ren0 : Sl → Sl
  | .cell _ => .cell 0
  | x => x
@[simp] def callM (spd : SpD) (xs : List Sl) (s : S) (P : D → S → Prop) (PX : KX) : Prop := match cellsIn xs with
  | [] => spd xs [] (fun d _ => P d s) (fun c x _ => PX c x s)
  | [c] => ∃ m, s.M[c]? = some (some m) ∧ spd (xs.map ren0) [some m] (fun d M' => ∃ m', M' = [some m'] ∧ P d { s with M := s.M.set c (some m') }) (fun k x M' => ∃ m', M' = [some m'] ∧ PX k x { s with M := s.M.set c (some m') })
  | _ => False
def Cs.all (w : Cs) : List Addr := w.cs.filterMap id
theorem mem_all {a : Addr} : a ∈ w.all ↔ some a ∈ w.cs := by
  unfold Cs.all
  rw [List.mem_filterMap]
  constructor
  · rintro ⟨x, h, e⟩
    have e : x = some a := e
    subst e
    exact h
  · intro h
    exact ⟨some a, h, rfl⟩
def Cs.none_ (w : Cs) : Cs := ⟨[], w.all ++ w.av⟩
def Cs.one_ (w : Cs) (a : Addr) : Cs := ⟨[some a], (w.all.filter fun b => decide (b ≠ a)) ++ w.av⟩
theorem bad_none {a : Addr} : w.none_.bad a ↔ w.bad a := by
  unfold Cs.bad Cs.none_
  simp only [List.not_mem_nil, false_or, List.mem_append, mem_all]
theorem bad_one {p a : Addr} (hp : some p ∈ w.cs) : (w.one_ p).bad a ↔ w.bad a := by
  unfold Cs.bad Cs.one_
  simp only [List.mem_cons, Option.some.injEq, List.not_mem_nil, or_false, List.mem_append, List.mem_filter, mem_all, decide_eq_true_eq]
  constructor
  · rintro (h | ⟨h, _⟩ | h)
    · subst h; exact .inl hp
    · exact .inl h
    · exact .inr h
  · rintro (h | h)
    · by_cases e : a = p
      · exact .inl e
      · exact .inr (.inl ⟨h, e⟩)
    · exact .inr (.inr h)
theorem kb {w w' : Cs} (h : ∀ a, w'.bad a ↔ w.bad a) : ∀ a o, ¬ w.bad a → H a = some o → H a = some o ∧ ¬ w'.bad a := fun a o n e => ⟨e, fun z => n ((h a).mp z)⟩
theorem ArgOk.none_ : ∀ {xs : List Sl} {vs : List V}, ArgOk g w H xs vs → cellsIn xs = [] → ArgOk g w.none_ H xs vs
  | [], _, h, _ => h
  | .no :: _, _, h, _ => h
  | .dat d :: xs, _, h, e => by
    obtain ⟨v, r, ev, q, z⟩ := h
    exact ⟨v, r, ev, Rep.gen (kb fun a => bad_none) q, ArgOk.none_ z e⟩
  | .cell c :: xs, _, h, e => nomatch e
theorem ArgOk.noCell {w' : Cs} (hb : ∀ a, w'.bad a ↔ w.bad a) : ∀ {xs : List Sl} {vs : List V}, ArgOk g w H xs vs → cellsIn xs = [] → ArgOk g w' H (xs.map ren0) vs
  | [], _, h, _ => h
  | .no :: _, _, h, _ => h
  | .dat d :: xs, _, h, e => by
    obtain ⟨v, r, ev, q, z⟩ := h
    exact ⟨v, r, ev, Rep.gen (kb hb) q, ArgOk.noCell hb z e⟩
  | .cell c :: xs, _, h, e => nomatch e
theorem ArgOk.one_ {c : Nat} {p : Addr} (hp : w.cs[c]? = some (some p)) : ∀ {xs : List Sl} {vs : List V}, ArgOk g w H xs vs → cellsIn xs = [c] → ArgOk g (w.one_ p) H (xs.map ren0) vs
  | [], _, h, e => nomatch e
  | .no :: _, _, h, _ => h
  | .dat d :: xs, _, h, e => by
    obtain ⟨v, r, ev, q, z⟩ := h
    exact ⟨v, r, ev, Rep.gen (kb fun a => bad_one (List.mem_of_getElem? hp)) q, ArgOk.one_ hp z e⟩
  | .cell j :: xs, _, h, e => by
    obtain ⟨a, r, ev, q, z⟩ := h
    simp only [cellsIn, List.cons.injEq] at e
    obtain ⟨e1, e2⟩ := e
    subst e1
    rw [hp] at q
    cases q
    exact ⟨p, r, ev, rfl, ArgOk.noCell (fun a => bad_one (List.mem_of_getElem? hp)) z e2⟩
theorem MemOk.none_ {M : Mem} (m : MemOk g w H M) : MemOk g w.none_ H [] := by
  refine ⟨rfl, fun c x e => absurd e (by simp), fun c a e => absurd e (by simp [Cs.none_]), fun c c' a e => absurd e (by simp [Cs.none_]), fun a ha => ⟨fun z => absurd z (by simp [Cs.none_]), ?_⟩, fun a ha => ⟨fun z => (m.tabs a ha).1 (bad_none.mp z), (m.tabs a ha).2⟩⟩
  exact m.tracked (bad_none.mp (.inr ha))
theorem MemOk.one_ {M : Mem} {c : Nat} {p : Addr} {x : CC} (m : MemOk g w H M) (hp : w.cs[c]? = some (some p)) (hx : M[c]? = some (some x)) : MemOk g (w.one_ p) H [some x] := by
  have hb : ∀ a, (w.one_ p).bad a ↔ w.bad a := fun a => bad_one (List.mem_of_getElem? hp)
  refine ⟨rfl, fun j y e => ?_, fun j a e => ?_, fun j j' a e e' => ?_, fun a ha => ⟨fun z => ?_, m.tracked ((hb a).mp (.inr ha))⟩, fun a ha => ⟨fun z => (m.tabs a ha).1 ((hb a).mp z), (m.tabs a ha).2⟩⟩
  · cases j with
    | zero =>
      cases e
      obtain ⟨a, ea, q⟩ := m.at_ c x hx
      rw [hp] at ea
      cases ea
      exact ⟨p, rfl, q.gen (kb hb) rfl⟩
    | succ j => simp at e
  · cases j with
    | zero => exact ⟨x, rfl⟩
    | succ j => simp [Cs.one_] at e
  · cases j with
    | zero =>
      cases j' with
      | zero => rfl
      | succ j => simp [Cs.one_] at e'
    | succ j => simp [Cs.one_] at e
  · have z : a = p := by simpa [Cs.one_] using z
    subst z
    have ha : a ∈ (w.all.filter fun b => decide (b ≠ a)) ++ w.av := ha
    rcases List.mem_append.mp ha with h | h
    · have := (List.mem_filter.mp h).2
      simp at this
    · exact (m.av a h).1 (List.mem_of_getElem? hp)
theorem RS.after_one {c : Nat} {p : Addr} {x' : CC} (r : RS g w H σ s) (hp : w.cs[c]? = some (some p)) (e : HExt (w.one_ p) H H') (m : MemOk g (w.one_ p) H' [some x']) :
    HExt w H H' ∧ RS g w H' σ { s with M := s.M.set c (some x') } := by
  have hb : ∀ a, (w.one_ p).bad a ↔ w.bad a := fun a => bad_one (List.mem_of_getElem? hp)
  have hcl : c < s.M.length := by rw [← r.mem.len]; exact (List.getElem?_eq_some_iff.mp hp).1
  have ne : ∀ a, a ≠ p → some a ∉ (w.one_ p).cs := fun a h z => h (by simpa [Cs.one_] using z)
  have e' : HExt w H H' := e.sub fun a n => ne a fun z => n (by rw [z]; exact List.mem_of_getElem? hp)
  refine ⟨e', r.mem' e' ⟨by simp [r.mem.len], fun j y ej => ?_, fun j a ej => ?_, r.mem.inj, fun a ha => ?_, fun a ha => ⟨(r.mem.tabs a ha).1, e'.tab (fun z => (r.mem.tabs a ha).1 (.inl z)) (r.mem.tabs a ha).2⟩⟩⟩
  · have ej : (s.M.set c (some x'))[j]? = some (some y) := ej
    by_cases hj : c = j
    · subst hj
      rw [List.getElem?_set_self hcl] at ej
      cases ej
      obtain ⟨a, ea, q⟩ := m.at_ 0 x' rfl
      have ea : some p = some a := by simpa [Cs.one_] using ea
      cases ea
      exact ⟨p, hp, q.gen (kb fun a => (hb a).symm) rfl⟩
    · rw [List.getElem?_set_ne hj] at ej
      obtain ⟨a, ea, q⟩ := r.mem.at_ j y ej
      obtain ⟨o, eo, nt⟩ := q.trackedN
      have hap : a ≠ p := fun z => hj (r.mem.inj c j p hp (by rw [ea, z]))
      exact ⟨a, ea, q.mv (.of_ext e') ((e a o (ne a hap) eo nt).trans eo.symm)⟩
  · obtain ⟨y, ey⟩ := r.mem.live j a ej
    by_cases hj : c = j
    · subst hj
      exact ⟨_, List.getElem?_set_self hcl⟩
    · exact ⟨y, by show (s.M.set c _)[j]? = _; rw [List.getElem?_set_ne hj]; exact ey⟩
  · obtain ⟨n, o, h⟩ := r.mem.av a ha
    exact ⟨n, e'.ex n h⟩
@[simp] def dCall (spd : SpD) (t : TDA) : TD := fun s P X => t s (fun xs s1 => callM spd xs s1 P X) X
theorem lE_call {spd : SpD} {t : TDA} {ta : TA} (ht : ∀ σ H Q, lA g W t σ H Q → ta σ H Q) : ∀ σ H Q, lE g W (dCall spd t) σ H Q → tCallS (lSp g spd) (WE W) ta σ H Q := fun σ H Q ⟨w, s, P, PX, rs, h, k, x⟩ =>
  ht _ _ _ ⟨w, s, _, PX, rs, h, fun xs s1 H1 vs q e1 rs1 ra => by
    have q : callM spd xs s1 P PX := q
    unfold callM at q
    split at q
    · rename_i hc
      refine ⟨w.none_, xs, [], _, _, ra.none_ hc, rs1.mem.none_, q, fun d M' H2 v p e2 m2 rp => ?_, fun cc xx M' H2 dd v p e2 m2 hd rp => ?_⟩
      · have sm : HExtC [] H1 H2 := e2
        exact k d s1 H2 v p (e1.trans sm.all_) (rs1.grown sm) (Rep.gen (kb fun a => bad_none.symm) rp)
      · have sm : HExtC [] H1 H2 := e2
        exact x cc xx s1 H2 dd v p (e1.trans sm.all_) (rs1.grown sm) ⟨fun z => hd.1 (bad_none.mpr z), hd.2⟩ (Rep.gen (kb fun a => bad_none.symm) rp)
    · rename_i c hc
      obtain ⟨m, em, q⟩ := q
      obtain ⟨p, hp, _⟩ := rs1.mem.at_ c m em
      have hb : ∀ a, w.bad a ↔ (w.one_ p).bad a := fun a => (bad_one (List.mem_of_getElem? hp)).symm
      refine ⟨w.one_ p, _, _, _, _, ra.one_ hp hc, rs1.mem.one_ hp em, q, fun d M' H2 v pp e2 m2 rp => ?_, fun cc xx M' H2 dd v pp e2 m2 hd rp => ?_⟩
      · obtain ⟨m', em', pp⟩ := pp
        subst em'
        obtain ⟨e3, rs3⟩ := rs1.after_one hp e2 m2
        exact k d _ H2 v pp (e1.trans e3) rs3 (Rep.gen (kb hb) rp)
      · obtain ⟨m', em', pp⟩ := pp
        subst em'
        obtain ⟨e3, rs3⟩ := rs1.after_one hp e2 m2
        exact x cc xx _ H2 dd v pp (e1.trans e3) rs3 ⟨fun z => hd.1 ((hb dd).mp z), hd.2⟩ (Rep.gen (kb hb) rp)
    · exact q.elim, x⟩
theorem de_call {spd : SpD} {t : TDA} {k : Nat} {f : Addr} {fd : FuncData} {ps : List Str} {x : Str} {p : Pos} {es : List Expr} (tk : Takes X W) (F : FnOk X.prog X.w X.K X.mg X.base (L2.CX X.prog X.w) k f fd ps (lSp g spd)) (hr : Room k X.A) (hg : Gl X x) (hm : X.mg x = some (.ref f)) (hk : PySem.W.keepIn X.K (.ref f) = true) (hb : Binds X.K fd ps [])
    (ha : PA X (e :: es) (lA g W t)) (hdb : (x == ("__debug__" : Str)) = false := by decide) (he : starEach (e :: es) X.env = (false, eval e X.env) :: starEach es X.env := by rfl) (hpl : (backTo pos (starEach es X.env)).any (·.1) = false := by rfl) :
    PE X (.Call (.Name x p) (e :: es) [] pos) (lE g W (dCall spd t)) := pe_imp (pe_callS F hr hg hm hk hb (fun σ => passAt tk σ) ha hdb he hpl) (lE_call fun _ _ _ h => h)
@[simp] def alive (M : Mem) : Prop := M.all Option.isSome = true
@[simp] def endE (n : Nat) (P : D → Mem → Prop) : EK := { nx := fun s => alive (s.M.take n) ∧ P .non (s.M.take n), rt := fun d s => alive (s.M.take n) ∧ P d (s.M.take n), bk := fun _ => False, ct := fun _ => False }
@[simp] def endX (n : Nat) (P : KXM) : KX := fun c x s => alive (s.M.take n) ∧ P c x (s.M.take n)
theorem ArgOk.len : ∀ {xs : List Sl} {vs : List V}, ArgOk g w H xs vs → vs.length = xs.length
  | [], _, h => by have h : _ = [] := h; subst h; rfl
  | .no :: _, _, h => h.elim
  | .dat d :: xs, _, h => by
    obtain ⟨v, r, e, _, z⟩ := h
    subst e
    rw [List.length_cons, List.length_cons, ArgOk.len z]
  | .cell d :: xs, _, h => by
    obtain ⟨v, r, e, _, z⟩ := h
    subst e
    rw [List.length_cons, List.length_cons, ArgOk.len z]
theorem ArgOk.get : ∀ {xs : List Sl} {vs : List V}, ArgOk g w H xs vs → ∀ {i : Nat} {x : Sl}, xs[i]? = some x → ∃ v, vs[i]? = some v ∧ ∀ σ : L2.St, σ[i]? = some (some v) → SlOk g w H σ i x
  | [], _, h, i, x, e => by simp at e
  | .no :: _, _, h, _, _, _ => h.elim
  | .dat d :: xs, _, h, i, x, e => by
    obtain ⟨v, r, ev, q, z⟩ := h
    subst ev
    cases i with
    | zero => cases e; exact ⟨v, rfl, fun σ es => ⟨v, es, q⟩⟩
    | succ i =>
      have e : xs[i]? = some x := by simpa using e
      obtain ⟨v2, e2, k⟩ := ArgOk.get z e
      refine ⟨v2, by simpa using e2, fun σ es => ?_⟩
      cases x with
      | no => trivial
      | dat d2 =>
        obtain ⟨v3, e3, k3⟩ := k (List.replicate i none ++ [some v2]) (by simp)
        have e3 : v2 = v3 := by simpa using e3
        subst e3
        exact ⟨v2, es, k3⟩
      | cell c =>
        obtain ⟨a, ea, k3⟩ := k (List.replicate i none ++ [some v2]) (by simp)
        have k3 : v2 = .ref a := by simpa using k3
        subst k3
        exact ⟨a, ea, es⟩
  | .cell d :: xs, _, h, i, x, e => by
    obtain ⟨v, r, ev, q, z⟩ := h
    subst ev
    cases i with
    | zero => cases e; exact ⟨.ref v, rfl, fun σ es => ⟨v, q, es⟩⟩
    | succ i =>
      have e : xs[i]? = some x := by simpa using e
      obtain ⟨v2, e2, k⟩ := ArgOk.get z e
      refine ⟨v2, by simpa using e2, fun σ es => ?_⟩
      cases x with
      | no => trivial
      | dat d2 =>
        obtain ⟨v3, e3, k3⟩ := k (List.replicate i none ++ [some v2]) (by simp)
        have e3 : v2 = v3 := by simpa using e3
        subst e3
        exact ⟨v2, es, k3⟩
      | cell c =>
        obtain ⟨a, ea, k3⟩ := k (List.replicate i none ++ [some v2]) (by simp)
        have k3 : v2 = .ref a := by simpa using k3
        subst k3
        exact ⟨a, ea, es⟩
theorem MemOk.back {w' : Cs} {M M' : Mem} (m : MemOk g w H M) (mv : Mv w H w' H') (m' : MemOk g w' H' M') (al : alive (M'.take M.length)) : MemOk g w H' (M'.take M.length) ∧ ∀ a o, ¬ w'.bad a → H' a = some o → H' a = some o ∧ ¬ w.bad a := by
  have live : ∀ c x, w.cs[c]? = some (some x) → w'.cs[c]? = some (some x) ∧ ∃ y, M'[c]? = some (some y) := fun c x e => by
    have hc : c < M.length := by rw [← m.len]; exact (List.getElem?_eq_some_iff.mp e).1
    rcases mv.pre c _ e with q | q
    · exact ⟨q, m'.live c x q⟩
    · exfalso
      have hcl : c < M'.length := by rw [← m'.len]; exact (List.getElem?_eq_some_iff.mp q).1
      have z : M'[c]?.isSome := by simp [hcl]
      cases ez : M'[c]? with
      | none => rw [ez] at z; cases z
      | some y =>
        cases y with
        | none =>
          have hm : (none : Option CC) ∈ M'.take M.length := List.mem_of_getElem? (i := c) (by rw [List.getElem?_take_of_lt hc]; exact ez)
          have := List.all_eq_true.mp al _ hm
          cases this
        | some y =>
          obtain ⟨p, ep, _⟩ := m'.at_ c y ez
          rw [q] at ep
          cases ep
  have bad : ∀ a, w.bad a → w'.bad a := fun a h => by
    rcases h with h | h
    · obtain ⟨c, e⟩ := List.getElem?_of_mem h
      exact .inl (List.mem_of_getElem? (live c a e).1)
    · exact .inr (mv.avk a h)
  have kk : ∀ a o, ¬ w'.bad a → H' a = some o → H' a = some o ∧ ¬ w.bad a := fun a o n e => ⟨e, fun z => n (bad a z)⟩
  have hlen : M.length ≤ M'.length := by
    rw [← m.len, ← m'.len]
    by_cases h : w.cs.length ≤ w'.cs.length
    · exact h
    · exfalso
      have hc : w'.cs.length < w.cs.length := by omega
      rcases mv.pre w'.cs.length _ (List.getElem?_eq_getElem hc) with q | q
      · simp at q
      · simp at q
  refine ⟨⟨by rw [List.length_take, m.len]; omega, fun c x e => ?_, fun c a e => ?_, m.inj, fun a ha => ?_, fun a ha => ⟨(m.tabs a ha).1, (m'.tabs a ha).2⟩⟩, kk⟩
  · have hc : c < M.length := by
      have z := (List.getElem?_eq_some_iff.mp e).1
      rw [List.length_take] at z
      omega
    rw [List.getElem?_take_of_lt hc] at e
    obtain ⟨a, ea, q⟩ := m'.at_ c x e
    have hcl : c < w.cs.length := by rw [m.len]; exact hc
    rcases mv.pre c _ (List.getElem?_eq_getElem hcl) with z | z
    · rw [ea] at z
      have z := Option.some.inj z
      refine ⟨a, by rw [List.getElem?_eq_getElem hcl, ← z], ?_⟩
      cases x with
      | lst ds => obtain ⟨vs, q, r⟩ := q; exact ⟨vs, q, Reps.gen kk r⟩
      | dk ds => obtain ⟨vs, q, r⟩ := q; exact ⟨vs, q, RepK.gen kk r⟩
      | dt ds => obtain ⟨vs, q, r⟩ := q; exact ⟨vs, q, RepK.gen kk r⟩
    · rw [ea] at z
      cases z
  · obtain ⟨_, y, ey⟩ := live c a e
    have hc : c < M.length := by rw [← m.len]; exact (List.getElem?_eq_some_iff.mp e).1
    exact ⟨y, by rw [List.getElem?_take_of_lt hc]; exact ey⟩
  · obtain ⟨n, o, e⟩ := m.av a ha
    exact ⟨n, mv.ext.ex n e⟩
variable {P : Program} {wd : World} {K : PySem.W.Frag} {mg : Str → Option Value} {base : Heap}
@[simp] def startS (N : List Str) (xs : List Sl) (M : Mem) : S := { r := xs ++ List.replicate (N.length - xs.length) .no, M := M }
theorem rs_start {N : List Str} {xs : List Sl} {vs : List V} {M : Mem} (hl : xs.length ≤ N.length) (ra : ArgOk g w H xs vs) (m : MemOk g w H M) : RS g w H (L2.start N vs) (startS N xs M) := by
  have hv := ra.len
  refine ⟨by unfold L2.start startS; simp [hv], fun i x e => ?_, m⟩
  by_cases hi : i < xs.length
  · have e : xs[i]? = some x := by
      have e : (xs ++ List.replicate (N.length - xs.length) .no)[i]? = some x := e
      rw [List.getElem?_append_left hi] at e
      exact e
    obtain ⟨v, ev, k⟩ := ra.get e
    refine k _ ?_
    unfold L2.start
    rw [List.getElem?_append_left (by simp [hv, hi]), List.getElem?_map, ev]
    rfl
  · have e : (xs ++ List.replicate (N.length - xs.length) .no)[i]? = some x := e
    rw [List.getElem?_append_right (by omega)] at e
    have z := List.mem_of_getElem? e
    have z : x = .no := (List.mem_replicate.mp z).2
    subst z
    trivial
theorem fn_ok {x qual : Str} {st : Stmt} {f : Addr} {fd : FuncData} {N ps : List Str} {k : Nat} {spd : SpD} {td : TSd} (F : Fun K x qual st f fd) (S : FnScope N ps (defScope st)) (g : G)
    (len : ∀ xs M P PX, spd xs M P PX → xs.length = ps.length) (hN : ps.length ≤ N.length)
    (body : ∀ (cdv : Value) (A : Around) (outer : List Env) (s : Shared) (H : Hp) (E : XK), Room k (A.deeper (PyProof.Rows.envOfC qual (defScope st) s.heap.objs.size f cdv)) →
      PSs (cxOf (L2.CX P wd) P wd K mg base N qual (defScope st) f cdv A outer s H E) (defBody st) (lS g (fun cls d _ H => E cls d H) td))
    (math : ∀ xs M P PX, spd xs M P PX → td (startS N xs M) (endE M.length P) (endX M.length PX)) : FnOk P wd K mg base (L2.CX P wd) (k + 1) f fd ps (lSp g spd) := by
  refine F.okX S (fun vs H Q E ⟨w, xs, M, P, PX, ra, m, h, _⟩ => (ra.len).trans (len xs M P PX h)) fun cdv A outer s H vs Q E hr ⟨w, xs, M, P, PX, ra, m, h, kq, kx⟩ => ?_
  refine ⟨_, body cdv A outer s H E hr, w, startS N xs M, endE M.length P, endX M.length PX, rs_start (by rw [len xs M P PX h]; exact hN) ra m, math xs M P PX h, ⟨?_, fun _ _ _ _ h => h.elim, fun _ _ _ _ h => h.elim, ?_⟩, ?_⟩
  · rintro s' w' H' σ' ⟨al, p⟩ mv rs'
    obtain ⟨mb, kk⟩ := m.back mv rs'.mem al
    exact kq _ _ H' _ p mv.ext mb (by simp only [Rep])
  · rintro d s' w' H' σ' v ⟨al, p⟩ mv rs' rp
    obtain ⟨mb, kk⟩ := m.back mv rs'.mem al
    exact kq _ _ H' _ p mv.ext mb (Rep.gen kk rp)
  · rintro c x s' w' H' σ' dd v ⟨al, p⟩ mv rs' hd rp
    obtain ⟨mb, kk⟩ := m.back mv rs'.mem al
    exact kx _ _ _ H' _ _ p mv.ext mb ⟨(kk _ _ hd.1 hd.2).2, hd.2⟩ (Rep.gen kk rp)
end
end DL
namespace DLE
open PySem L2
theorem meets_enum1 {v : Value} {o : Obj} {H : Heap → Prop} (B : Begins v o H) :
    Meets (Builtin.«enumerate.__new__» ⟨[.type "enumerate", v], []⟩) (fun _ R s => H s.heap ∧
      R (.ok (.ret (.ref (s.heap.push o).objs.size))) { s with heap := (s.heap.push o).push { cls := .type "enumerate", data := .fields #[.none, .bool false, .ref s.heap.objs.size, rawInt 0, .none, .none] } }) :=
  .of_wp fun prog w A R s h => by
    obtain ⟨hp, g, d, tk, os⟩ := s; obtain ⟨h1, h⟩ := h
    have hsub := sub_enumerate
    have q1 : ∀ {A' : Around} {E : Value → Shared → Prop} {Q : Value → Shared → Prop}, Q (.ref hp.objs.size) ⟨hp.push o, g, d, tk, os⟩ → wpAny (model prog w) A' (pyIter v) Q E ⟨hp, g, d, tk, os⟩ :=
      fun q => B.iter prog w _ _ ⟨hp, g, d, tk, os⟩ _ h1 q
    wp_walk using q1
    refine wpAny_stack_any fun st => wpAny_pure ?_
    split
    · rename_i c _ _ _ _ _
      cases (c == Value.type "enumerate")
      · wp_walk using q1
        exact ⟨_, rfl, h⟩
      · wp_walk using q1
        exact ⟨_, rfl, h⟩
    · wp_walk using q1
      exact ⟨_, rfl, h⟩
section
variable {prog : Program} {w : World} {A : Around} {E : Value → Shared → Prop} {s : Shared}
theorem call_enum1 {v : Value} {o : Obj} {H : Heap → Prop} {Q : Value → Shared → Prop} (B : Begins v o H) (h1 : H s.heap)
    (h : ∀ h', IsEnum h' (s.heap.objs.size + 1) s.heap.objs.size 0 .none → h'.get? s.heap.objs.size = some o → h'.objs.size = s.heap.objs.size + 2 →
      (∀ b o, s.heap.get? b = some o → h'.get? b = some o) → Q (.ref (s.heap.objs.size + 1)) { s with heap := h' }) :
    wpAny (model prog w) A (call (.type "enumerate") [v]) Q E s := by
  refine callType_new F.called_enumerate (by decide) (F.typeCall_enumerate_1 _) (F.newCall_enumerate_1 _) (fun obj => F.args_object_init_2 obj _) F.entry_enumerate_new
    (meets_enum1 B) ⟨h1, ?_⟩
  have hz : (s.heap.push o).objs.size = s.heap.objs.size + 1 := Heap.size_push ..
  show _ ∧ _
  rw [hz]
  have he : IsEnum ((s.heap.push o).push { cls := .type "enumerate", data := .fields #[.none, .bool false, .ref s.heap.objs.size, rawInt 0, .none, .none] }) (s.heap.objs.size + 1) s.heap.objs.size 0 .none := by
    have := Heap.get?_push_size (s.heap.push o) (o := { cls := .type "enumerate", data := .fields #[.none, .bool false, .ref s.heap.objs.size, rawInt 0, .none, .none] }) rfl
    rw [hz] at this; exact this
  exact ⟨⟨_, he, rfl⟩, h _ he (Heap.get?_push_of_some _ (Heap.get?_push_size _ B.free)) (by rw [Heap.size_push, hz]) fun b o x => Heap.get?_push_of_some _ (Heap.get?_push_of_some _ x)⟩
end
def IteT (a : Addr) : It :=
  ⟨fun i H => ∃ (xs : List V) (x : V), H a = some (.tup xs) ∧ xs[i]? = some x, fun i H v H' => ∃ T x, v = .ref T ∧ H T = none ∧ H' = upd H T (.tup [.int (i : Nat), x]) ∧ ∀ xs, H a = some (.tup xs) → xs[i]? = some x, fun i H => ∃ xs : List V, H a = some (.tup xs) ∧ xs.length = i⟩
theorem turn_enumT {P : Program} {w : World} {K : PySem.W.Frag} {elts : List Expr} {kk : Nat} {tpos : Pos} (a e it : Addr) :
    Turn P w K (.Tuple elts kk tpos) (IteT a) [e, it] e (fun i h => (∃ old, IsEnum h e it ((i : Nat) : Int) old) ∧ h.IsTupleIter it a i ∧ e ≠ it) where
  mem := by simp
  obj := fun i h st b hb => by
    obtain ⟨⟨old, he⟩, ⟨o, ho, hc, hd⟩, _⟩ := st
    have e' : b = e ∨ b = it := by simpa using hb
    rcases e' with z | z
    · rw [z]; exact ⟨_, he, fun v q => nomatch q⟩
    · rw [z]; exact ⟨o, ho, fun v q => by rw [hd] at q; cases q⟩
  keep := fun i h h' st k => let ⟨⟨old, he⟩, hi, hne⟩ := st; ⟨⟨old, k e (by simp) _ he⟩, hi.at fun o q => k it (by simp) o q, hne⟩
  item := by
    intro X hP hw hK hc i pins s σ H E I hf st hg
    subst hP hw hK
    obtain ⟨⟨old, he⟩, hit, hne⟩ := st
    obtain ⟨xs, x, hq, hx⟩ := hg
    obtain ⟨its, rv, p, hz⟩ := I.tuple (SqT.of hq)
    obtain ⟨u, hu, ru⟩ := rv.get hx
    have hel : e < s.heap.objs.size := Heap.lt_size he
    have hil : it < s.heap.objs.size := by obtain ⟨_, q, _⟩ := hit; exact Heap.lt_size q
    have hai : a ≠ it := fun z => by
      have := (hf it (by simp)).1
      rw [← z, hq] at this; cases this
    have hae : a ≠ e := fun z => by
      have := (hf e (by simp)).1
      rw [← z, hq] at this; cases this
    have D := Draws.tuple (prog := X.prog) (w := X.w) (A := X.A.in1) (I.ok.hd hc) it a hai its.toArray
    have hlt : i < its.toArray.size := by
      have z := (List.getElem?_eq_some_iff.mp hu).1
      simpa using z
    refine wpAny_pyNext_enum_itemD D he ⟨hit, p⟩ hlt hne (by simp [hne, Ne.symm hae]) fun y h' tk hy ho hst hT hsz hk => ?_
    have ey : y = u := by
      have z : its[i]? = some y := by simpa using hy
      rw [hu] at z
      exact (Option.some.inj z).symm
    subst ey
    obtain ⟨hit', _⟩ := hst
    refine ⟨_, rfl, wpAny_letOwnedTupleGo_enum (s := { s with heap := h', toks := tk + 1 }) ho fun h'' he' sb => ?_⟩
    have hT2 : h''.get? s.heap.objs.size = some { cls := .type "tuple", data := .seq #[.int i tk, y] } := (sb.2 _ (Nat.ne_of_gt hel)).trans hT
    have new : ObjOk X.prog X.w (upd H s.heap.objs.size (.tup [.int (i : Nat), x])) h'' s.heap.objs.size (.tup [.int (i : Nat), x]) :=
      ⟨by show 2 ≤ sizeLine; decide, [.int i tk, y], .cons ⟨_, rfl⟩ (.cons ru .nil), ⟨_, hT2, rfl, _, rfl⟩⟩
    have I1 : Inv X pins σ (upd H s.heap.objs.size (.tup [.int (i : Nat), x])) { s with heap := h'', toks := tk + 1 } :=
      I.turnedNew (ch := [e, it]) (fun b ob hb q => (sb.2 b (fun z => hb (by simp [z]))).trans (hk b ob (fun z => hb (by simp [z])) (fun z => hb (by simp [z])) q)) hf (Nat.le_refl _) new
    refine ⟨.ref s.heap.objs.size, _, I1, rfl, ⟨_, x, rfl, I.hok.fresh (Nat.le_refl _), rfl, fun ys hy => by rw [hq] at hy; cases hy; exact hx⟩, ⟨⟨y, ?_⟩, hit'.at fun o q => (sb.2 it (Ne.symm hne)).trans q, hne⟩, fun b hb => ?_⟩
    · have e1 : ((i + 1 : Nat) : Int) = (i : Int) + 1 := by omega
      rw [e1]; exact he'
    · have hb' : b < s.heap.objs.size := by
        have e' : b = e ∨ b = it := by simpa using hb
        rcases e' with z | z
        · rw [z]; exact hel
        · rw [z]; exact hil
      rw [upd_ne (Nat.ne_of_lt hb')]
      exact (hf b hb).1
  done := by
    intro X hP hw hK hc i pins s σ H E I hf st hg
    subst hP hw hK
    obtain ⟨⟨old, he⟩, hit, hne⟩ := st
    obtain ⟨xs, hq, hx⟩ := hg
    obtain ⟨its, rv, p, hz⟩ := I.tuple (SqT.of hq)
    obtain ⟨f0, f1, f2, f3, f4, f5⟩ := hf it (by simp)
    have hl := rv.length
    have hai : a ≠ it := fun z => by
      rw [← z, hq] at f0; cases f0
    have D := Draws.tuple (prog := X.prog) (w := X.w) (A := X.A.in1) (I.ok.hd hc) it a hai its.toArray
    have e0 : i = its.toArray.size := by simp; omega
    exact wpAny_pyNext_enum_endD D he (by rw [← e0]; exact ⟨hit, p⟩) fun h' eb => ⟨rfl, I.turned (t' := s.toks) (fun b o hb q => eb b o hb q) f0 f1 f3 f4 f5⟩
  self := fun A i s Q E st h => let ⟨⟨_, he⟩, _⟩ := st; wpAny_pyIter_enum he h
def iEnumA (K : PySem.W.Frag) (ta : TA) : TI := fun σ H R => ta σ H fun vs H1 => ∃ a xs, vs = [.ref a] ∧ ((SqL K H1 a xs ∧ R (Ite K a) H1) ∨ (H1 a = some (.tup xs) ∧ R (IteT a) H1))
theorem pi_enumA {X : Cx} {e : Expr} {ta : TA} {p pos tpos : Pos} {elts : List Expr} {kk : Nat} (hg : Gl X "enumerate") (hm : X.mg "enumerate" = none) (ha : PA X [e] ta) (hs : starEach [e] X.env = [(false, eval e X.env)] := by rfl) :
    PI X (.Tuple elts kk tpos) (.Call (.Name "enumerate" p) [e] [] pos) (iEnumA X.K ta) := by
  refine ⟨fun pins s σ H R I h => ?_⟩
  refine PyProof.Rows.Call_ (ld_blt I hg hm PyProof.Rows.boot_enumerate (PyProof.Rows.callWith_type1 (thn (ha.run pos pins s σ H _ I h) fun us s1 ⟨vs, H1, I1, r1, q1⟩ => ?_) hs rfl))
  obtain ⟨a, xs, ex, q⟩ := q1
  subst ex
  cases r1 with
  | cons r rr =>
    cases rr
    cases r
    have fin : ∀ {b : Addr}, b ∈ [s1.heap.objs.size + 1, s1.heap.objs.size] → FpOk X pins H1 b := fun {b} hb => by
      have e' : b = s1.heap.objs.size + 1 ∨ b = s1.heap.objs.size := by simpa using hb
      have hle : s1.heap.objs.size ≤ b := by
        rcases e' with z | z
        · rw [z]; exact Nat.le_add_right _ _
        · rw [z]; exact Nat.le_refl _
      exact I1.fpOk hle (I1.hok.fresh hle)
    rcases q with ⟨hq, q⟩ | ⟨hq, q⟩
    · obtain ⟨its, rv, p', hz⟩ := I1.list hq
      refine call_enumerate_list p'.isList fun h' he hit hsz hk => wpAny_pyIter_enum he ?_
      have I2 : Inv X pins σ H1 { s1 with heap := h' } := I1.kept (t' := s1.toks) hk
      exact ⟨s1.heap.objs.size + 1, [s1.heap.objs.size + 1, s1.heap.objs.size], _, _, H1, rfl, I2, turn_enum a (s1.heap.objs.size + 1) s1.heap.objs.size, ⟨⟨.none, he⟩, hit, Nat.succ_ne_self _⟩, fun b hb => fin hb, q⟩
    · obtain ⟨its, rv, p', hz⟩ := I1.tuple (SqT.of hq)
      refine call_enum1 (begins_tuple a its.toArray) (show s1.heap.IsTuple a its.toArray from p') fun h' he hit hsz hk => wpAny_pyIter_enum he ?_
      have I2 : Inv X pins σ H1 { s1 with heap := h' } := I1.kept (t' := s1.toks) hk
      exact ⟨s1.heap.objs.size + 1, [s1.heap.objs.size + 1, s1.heap.objs.size], _, _, H1, rfl, I2, turn_enumT a (s1.heap.objs.size + 1) s1.heap.objs.size, ⟨⟨.none, he⟩, ⟨_, hit, rfl, rfl⟩, Nat.succ_ne_self _⟩, fun b hb => fin hb, q⟩
end DLE
namespace DL
open PySem L2
section
variable {X : Cx} {g : G} {W : WX} {pos : Pos} {a b c e : Expr} {ta tb tc : TD} {w : Cs} {H H' : Hp} {σ : L2.St} {s : S} {t : TDA}
def enumD (ds : List D) : List D := ds.zipIdx.map fun p => D.tup [.int (p.2 : Nat), p.1]
theorem enumD_at {ds : List D} {i : Nat} {d : D} (h : ds[i]? = some d) : (enumD ds)[i]? = some (.tup [.int (i : Nat), d]) := by
  unfold enumD
  rw [List.getElem?_map, List.getElem?_zipIdx, h]
  simp
theorem enumD_len (ds : List D) : (enumD ds).length = ds.length := by simp [enumD]
theorem walkD_pair {J : It} {ds es : List D} {vs : List V} {Gd : Hp → Prop} (hl : es.length = ds.length) (wk : Walk J vs.length Gd (YPair (fun i => some (.int (i : Nat))) (fun i => vs[i]?))) (hG : ∀ w' H', Mv w H w' H' → Gd H') (rv : Reps g w H ds vs) (he : es = enumD ds) : WalkD g w H J es :=
  ⟨Gd, _, by rw [hl, ← rv.len]; exact wk, hG, fun i w' H1 x H2 hi m nb y => by
    obtain ⟨T, x1, y1, e1, n1, e2, e3, e4⟩ := y
    subst e1 e2
    have e3 := Option.some.inj e3
    subst e3
    obtain ⟨d, ed, rp⟩ := rv.get e4
    refine ⟨same_upd n1, _, by rw [he]; exact enumD_at ed, Rep.tup (nb T n1) upd_same (Reps.cons (by simp only [Rep]) (Reps.cons ((rp.mv m).mv (.of_same (same_upd n1))) Reps.nil))⟩⟩
@[simp] def dEnum (t : TDA) : TDI := fun s P X => t s (fun xs s1 => ∃ d ds, xs = [.dat d] ∧ seqD d = some ds ∧ P (enumD ds) s1) X
theorem di_enum {p tpos : Pos} {elts : List Expr} {kk : Nat} (hg : Gl X "enumerate") (hm : X.mg "enumerate" = none) (ha : PA X [e] (lA g W t)) (hs : starEach [e] X.env = [(false, eval e X.env)] := by rfl) : PI X (.Tuple elts kk tpos) (.Call (.Name "enumerate" p) [e] [] pos) (lI g W (dEnum t)) := pi_imp (DLE.pi_enumA hg hm ha hs) fun σ H R ⟨w, s, P, PX, rs, h, k, x⟩ =>
  ⟨w, s, _, PX, rs, h, fun xs s1 H1 vs q e1 rs1 ra => by
    obtain ⟨d, ds, e, ed, q⟩ := q
    subst e
    obtain ⟨v, e, rp⟩ := ArgOk.one ra
    subst e
    cases d <;> simp only [seqD, reduceCtorEq, Option.some.injEq] at ed
    · subst ed
      simp only [Rep] at rp
      obtain ⟨a, vs, e, n, hp, rv⟩ := rp
      subst e
      refine ⟨a, vs, rfl, .inr ⟨hp, k _ s1 H1 _ q e1 rs1 (walkD_pair (Gd := fun H => H a = some (.tup vs)) (enumD_len _) ⟨fun i H hi h => ⟨vs, vs[i], h, by simp [hi]⟩, fun H h => ⟨vs, h, rfl⟩, fun i H v H' hi h y => ?_⟩ (fun w' H' m => m.at_ n hp) rv rfl)⟩⟩
      obtain ⟨T, x, h1, h2, h3, h4⟩ := y
      exact ⟨T, .int (i : Nat), x, h1, h2, h3, rfl, h4 vs h⟩
    · subst ed
      simp only [Rep] at rp
      obtain ⟨a, vs, e, n, hp, rv⟩ := rp
      subst e
      exact ⟨a, vs, rfl, .inl ⟨SqL.of hp, k _ s1 H1 _ q e1 rs1 (walkD_pair (enumD_len _) walk_enum (fun w' H' m => SqL.of (m.at_ n hp)) rv rfl)⟩⟩, x⟩
end
end DL
namespace DL
open PySem L2
section
variable {X : Cx} {g : G} {W : WX} {pos : Pos} {a b c e : Expr} {ta tb tc td : TD} {w : Cs} {H H' : Hp} {σ : L2.St} {s : S} {t : TDA}
@[simp] def isLst : Option (Option CC) → Prop
  | some (some (.lst _)) => True
  | _ => False
theorem isLst_ex {m : Option (Option CC)} (h : isLst m) : ∃ ds, m = some (some (.lst ds)) := by
  match m, h with
  | some (some (.lst ds)), _ => exact ⟨ds, rfl⟩
@[simp] def dMeth1 (i : Nat) (f : List D → D → (D → List D → Prop) → Prop) (td : TD) : TD := fun s P X => ∃ c, s.r[i]? = some (.cell c) ∧ isLst s.M[c]? ∧ td s (fun d s1 => ∃ ds, s1.M[c]? = some (some (.lst ds)) ∧ f ds d fun z ds' => P z { s1 with M := s1.M.set c (some (.lst ds')) }) X
@[simp] def dMeth0 (i : Nat) (f : List D → (D → List D → Prop) → Prop) : TD := fun s P X => ∃ c, s.r[i]? = some (.cell c) ∧ ∃ ds, s.M[c]? = some (some (.lst ds)) ∧ f ds fun z ds' => P z { s with M := s.M.set c (some (.lst ds')) }
theorem tyList {K : PySem.W.Frag} {a : Addr} {vs : List V} (h : H a = some (.lst vs)) : tyV K "list" (.ref a) H := .inl ⟨rfl, _, .inl (.inl h)⟩
theorem l_meth1 {r : V → List V → Hp → VK → Prop} {i : Nat} {f : List D → D → (D → List D → Prop) → Prop}
    (hr : ∀ (a : Addr) (vs : List V) (v : V) (w : Cs) (H : Hp) (ds : List D) (d : D) (P : D → List D → Prop) (Q : VK), H a = some (.lst vs) → Reps g w H ds vs → Rep g w H d v → f ds d P →
      (∀ z zv ds' vs', P z ds' → Rep g w H z zv → Reps g w H ds' vs' → Q zv (upd H a (.lst vs'))) → r (.ref a) [v] H Q) :
    ∀ σ H Q, lE g W (dMeth1 i f td) σ H Q → tBM X.K "list" r (tVar i) (tCons (lE g W td) tNil) σ H Q := fun σ H Q ⟨w, s, P, PX, rs, ⟨c, ec, il, h⟩, k, x⟩ => by
  obtain ⟨a, ea, ev⟩ := rs.slot i _ ec
  have tr : ∃ vs, H a = some (.lst vs) := by
    obtain ⟨ds0, ey⟩ := isLst_ex il
    obtain ⟨a', ea', vs, q, _⟩ := rs.mem.at_ c _ ey
    rw [ea] at ea'
    cases ea'
    exact ⟨vs, q⟩
  obtain ⟨vs0, hvs0⟩ := tr
  refine ⟨.ref a, ev, tyList hvs0, w, s, _, PX, rs, h, fun d s1 H1 v q e1 rs1 rp => ?_, x⟩
  obtain ⟨ds, em, q⟩ := q
  obtain ⟨a', ea', vs, hp, rv⟩ := rs1.mem.at_ c _ em
  rw [ea] at ea'
  cases ea'
  refine hr a vs v w H1 ds d _ _ hp rv rp q fun z zv ds' vs' pz rz rv' => ?_
  have hb : w.bad a := .inl (List.mem_of_getElem? ea)
  exact k z _ _ zv pz (e1.trans (upd_cell_ext ea)) (rs1.updCell ea rv') (Rep.gen (upd_k hb) rz)
@[simp] def fAppend : List D → D → (D → List D → Prop) → Prop := fun ds d P => ds.length < sizeLine ∧ P .non (ds ++ [d])
@[simp] def fPopAt : List D → D → (D → List D → Prop) → Prop := fun ds d P => ∃ (k : Nat) (z : D), d = .int (k : Int) ∧ (k : Int) < 2 ^ 63 ∧ ds[k]? = some z ∧ P z (ds.eraseIdx k)
@[simp] def fPop : List D → (D → List D → Prop) → Prop := fun ds P => ∃ z, ds[ds.length - 1]? = some z ∧ P z ds.dropLast
theorem Reps.dropLast {ds : List D} {vs : List V} (h : Reps g w H ds vs) : Reps g w H ds.dropLast vs.dropLast := by
  rw [List.dropLast_eq_take, List.dropLast_eq_take, h.len]
  exact Reps.take _ h
variable {x : Str} {p q : Pos}
theorem de_append (i : Nat) (h : PE X e (tBM X.K "list" rAppend (tVar i) (tCons (lE g W td) tNil))) : PE X e (lE g W (dMeth1 i fAppend td)) := pe_imp h (l_meth1 fun a vs v w H ds d P Q hp rv rp ⟨hl, pz⟩ k =>
  ⟨a, vs, v, rfl, rfl, hp, by rw [rv.len]; exact hl, k _ _ _ _ pz (by simp only [Rep]) (Reps.app rv (Reps.cons rp Reps.nil))⟩)
theorem de_popAt (i : Nat) (h : PE X e (tBM X.K "list" rPopAt (tVar i) (tCons (lE g W td) tNil))) : PE X e (lE g W (dMeth1 i fPopAt td)) := pe_imp h (l_meth1 fun a vs v w H ds d P Q hp rv rp ⟨j, z, ed, hj, hz, pz⟩ k => by
  subst ed
  simp only [Rep] at rp
  subst rp
  obtain ⟨zv, ez, rz⟩ := rv.get' hz
  have hjl : j < ds.length := (List.getElem?_eq_some_iff.mp hz).1
  refine ⟨a, vs, (j : Int), j, zv, rfl, rfl, hp, by omega, hj, ?_, ez, k _ _ _ _ pz rz (Reps.erase j rv)⟩
  obtain ⟨j', e1, e2, _⟩ := atI_get (atI_nat (xs := vs) ez)
  rw [e1]
  have hix : L2.ixN vs.length (j : Int) = some j := by
    unfold L2.ixN
    rw [if_pos (by omega), if_pos (by rw [rv.len]; omega)]
    simp
  have := (ixN_seq hix).1
  rw [e1] at this
  exact this)
@[simp] def dSetIx (i : Nat) (tb te : TD) : TSd := fun s E X => te s (fun d s1 => ∃ c, s1.r[i]? = some (.cell c) ∧ tb s1 (fun y s2 => ∃ ds k j, s2.M[c]? = some (some (.lst ds)) ∧ y = .int k ∧ ixN ds.length k = some j ∧ E.nx { s2 with M := s2.M.set c (some (.lst (ds.set j d))) }) X) X
theorem ds_setIx (i : Nat) {te : TD} {st : Stmt} (h : PS X st (tAsg (lE g W te) (gSub (tVar i) (lE g W tb) rSetL))) : PS X st (lS g W (dSetIx i tb te)) := ps_imp h fun D σ H ⟨w, s, E, PX, rs, h, k, x⟩ =>
  ⟨w, s, _, PX, rs, h, fun d s1 H1 v q e1 rs1 rp => by
    obtain ⟨c, ec, q⟩ := q
    obtain ⟨a, ea, ev⟩ := rs1.slot i _ ec
    refine ⟨.ref a, ev, w, s1, _, PX, rs1, q, fun y s2 H2 yv q2 e2 rs2 rp2 => ?_, x.ex.ext e1⟩
    obtain ⟨ds, kk, j, em, ey, ei, q2⟩ := q2
    subst ey
    simp only [Rep] at rp2
    obtain ⟨a', ea', vs, hp, rv⟩ := rs2.mem.at_ c _ em
    rw [ea] at ea'
    cases ea'
    exact ⟨a, vs, kk, j, rfl, rp2, hp, by rw [rv.len]; exact ei, k.nx _ w _ σ q2 (.of_ext (e1.trans (e2.trans (upd_cell_ext ea)))) (rs2.updCell ea (Reps.set j rv (rp.mv (.of_ext e2))))⟩, x.ex⟩
def lIp (g : G) (r : RD) : TIp := fun x y H Q => lR g r x y H Q
@[simp] def dAug (i : Nat) (r : RD) (td : TD) : TSd := fun s E X => ∃ d, s.r[i]? = some (.dat d) ∧ td s (fun y s1 => r d y fun z => E.nx { s1 with r := s1.r.set i (.dat z) }) X
def insI (x : Int) : List Int → List Int
  | [] => [x]
  | y :: r => if x ≤ y then x :: y :: r else y :: insI x r
def sortI : List Int → List Int
  | [] => []
  | x :: r => insI x (sortI r)
theorem insI_perm (x : Int) : ∀ l, (insI x l).Perm (x :: l)
  | [] => List.Perm.refl _
  | y :: r => by
    unfold insI
    split
    · exact List.Perm.refl _
    · exact ((insI_perm x r).cons y).trans (List.Perm.swap x y r)
theorem sortI_perm : ∀ l, (sortI l).Perm l
  | [] => List.Perm.refl _
  | x :: r => (insI_perm x _).trans ((sortI_perm r).cons x)
theorem insI_sorted (x : Int) : ∀ l, l.Pairwise (· ≤ ·) → (insI x l).Pairwise (· ≤ ·)
  | [], _ => by simp [insI]
  | y :: r, h => by
    unfold insI
    split
    · rename_i hxy
      refine List.pairwise_cons.mpr ⟨fun z hz => ?_, h⟩
      rcases List.mem_cons.mp hz with e | hz
      · rw [e]; exact hxy
      · exact Int.le_trans hxy ((List.pairwise_cons.mp h).1 z hz)
    · rename_i hxy
      refine List.pairwise_cons.mpr ⟨fun z hz => ?_, insI_sorted x r (List.pairwise_cons.mp h).2⟩
      rcases List.mem_cons.mp ((insI_perm x r).mem_iff.mp hz) with e | hz
      · rw [e]; omega
      · exact (List.pairwise_cons.mp h).1 z hz
theorem sortI_sorted : ∀ l, (sortI l).Pairwise (· ≤ ·)
  | [] => List.Pairwise.nil
  | x :: r => insI_sorted x _ (sortI_sorted r)
theorem sorted_uniq {α : Type} {R : α → α → Prop} (anti : ∀ x y, R x y → R y x → x = y) : ∀ {l m : List α}, l.Perm m → l.Pairwise R → m.Pairwise R → l = m
  | [], m, p, _, _ => (List.Perm.eq_nil p.symm).symm
  | x :: l, [], p, _, _ => absurd p.length_eq (by simp)
  | x :: l, y :: m, p, h1, h2 => by
    have e : x = y := by
      rcases List.mem_cons.mp (p.mem_iff.mp (List.mem_cons_self (a := x) (l := l))) with e | hx
      · exact e
      · rcases List.mem_cons.mp (p.mem_iff.mpr (List.mem_cons_self (a := y) (l := m))) with e | hy
        · exact e.symm
        · exact anti x y ((List.pairwise_cons.mp h1).1 y hy) ((List.pairwise_cons.mp h2).1 x hx)
    subst e
    rw [sorted_uniq anti p.cons_inv (List.pairwise_cons.mp h1).2 (List.pairwise_cons.mp h2).2]
def leP (p q : Int × Int) : Bool := !SrtO.lexB q p
def insP (x : Int × Int) : List (Int × Int) → List (Int × Int)
  | [] => [x]
  | y :: r => if leP x y = true then x :: y :: r else y :: insP x r
def sortP : List (Int × Int) → List (Int × Int)
  | [] => []
  | x :: r => insP x (sortP r)
theorem leP_iff {p q : Int × Int} : leP p q = true ↔ p.1 < q.1 ∨ (p.1 = q.1 ∧ p.2 ≤ q.2) := by
  unfold leP
  rw [Bool.not_eq_true', SrtO.lexB_no]
  omega
theorem insP_perm (x : Int × Int) : ∀ l, (insP x l).Perm (x :: l)
  | [] => List.Perm.refl _
  | y :: r => by
    unfold insP
    split
    · exact List.Perm.refl _
    · exact ((insP_perm x r).cons y).trans (List.Perm.swap x y r)
theorem sortP_perm : ∀ l, (sortP l).Perm l
  | [] => List.Perm.refl _
  | x :: r => (insP_perm x _).trans ((sortP_perm r).cons x)
abbrev LeP (p q : Int × Int) : Prop := leP p q = true
theorem insP_sorted (x : Int × Int) : ∀ l, l.Pairwise LeP → (insP x l).Pairwise LeP
  | [], _ => by simp [insP]
  | y :: r, h => by
    unfold insP
    split
    · rename_i hxy
      refine List.pairwise_cons.mpr ⟨fun z hz => ?_, h⟩
      rcases List.mem_cons.mp hz with e | hz
      · rw [e]; exact hxy
      · have h1 := leP_iff.mp hxy
        have h2 := leP_iff.mp ((List.pairwise_cons.mp h).1 z hz)
        exact leP_iff.mpr (by omega)
    · rename_i hxy
      refine List.pairwise_cons.mpr ⟨fun z hz => ?_, insP_sorted x r (List.pairwise_cons.mp h).2⟩
      rcases List.mem_cons.mp ((insP_perm x r).mem_iff.mp hz) with e | hz
      · rw [e]
        have h1 : ¬ (x.1 < y.1 ∨ (x.1 = y.1 ∧ x.2 ≤ y.2)) := fun z => hxy (leP_iff.mpr z)
        exact leP_iff.mpr (by omega)
      · exact (List.pairwise_cons.mp h).1 z hz
theorem sortP_sorted : ∀ l, (sortP l).Pairwise LeP
  | [] => List.Pairwise.nil
  | x :: r => insP_sorted x _ (sortP_sorted r)
theorem leP_anti : ∀ x y : Int × Int, LeP x y → LeP y x → x = y := fun x y h1 h2 => by
  have a := leP_iff.mp h1
  have b := leP_iff.mp h2
  exact Prod.ext (by omega) (by omega)
@[simp] def pairD (p : Int × Int) : D := .tup [.int p.1, .int p.2]
def rSortD : RCd := fun xs M P => match xs with
  | [.dat (.lst ds)] => (∃ ns : List Int, ds = ns.map D.int ∧ P (.lst ((sortI ns).map D.int))) ∨ (∃ ps : List (Int × Int), ds = ps.map pairD ∧ P (.lst ((sortP ps).map pairD)))
  | _ => False
def keyAt (H : Hp) : V → Int × Int
  | .ref a => match H a with
    | some (.tup [.int i, .int j]) => (i, j)
    | _ => (0, 0)
  | _ => (0, 0)
theorem pairs_key : ∀ {ps : List (Int × Int)} {vs : List V}, Reps g w H (ps.map pairD) vs → vs.map (keyAt H) = ps ∧ ∀ v ∈ vs, ∃ t, v = .ref t ∧ ¬ w.bad t ∧ H t = some (.tup [.int (keyAt H v).1, .int (keyAt H v).2])
  | [], vs, h => by simp only [List.map_nil, Reps] at h; subst h; exact ⟨rfl, fun _ h => nomatch h⟩
  | p :: ps, vs, h => by
    simp only [List.map_cons, Reps, pairD, Rep] at h
    obtain ⟨v, r, e, ⟨a, us, ev, n, hp, u1, r1, e1, q1, u2, r2, e2, q2, e3⟩, z⟩ := h
    subst e ev e3 e2 q2 e1 q1
    obtain ⟨i1, i2⟩ := pairs_key z
    have kk : keyAt H (.ref a) = p := by simp only [keyAt, hp]
    refine ⟨by rw [List.map_cons, kk, i1], fun v hv => ?_⟩
    rcases List.mem_cons.mp hv with e | hv
    · subst e
      exact ⟨a, rfl, n, by rw [kk]; exact hp⟩
    · exact i2 v hv
theorem reps_pairs : ∀ {vs : List V}, (∀ v ∈ vs, ∃ t, v = .ref t ∧ ¬ w.bad t ∧ H t = some (.tup [.int (keyAt H v).1, .int (keyAt H v).2])) → Reps g w H ((vs.map (keyAt H)).map pairD) vs
  | [], _ => Reps.nil
  | v :: vs, h => by
    obtain ⟨t, e, n, ht⟩ := h v List.mem_cons_self
    exact Reps.cons (by rw [e] at ht ⊢; exact Rep.tup n ht (Reps.cons (by simp only [Rep]) (Reps.cons (by simp only [Rep]) Reps.nil))) (reps_pairs fun u hu => h u (List.mem_cons_of_mem _ hu))
def rSortV (K : PySem.W.Frag) : List V → Hp → VK → Prop := fun vs H Q => rSortedPO K vs H Q ∨ rSortedI K vs H Q
theorem l_sort : ∀ vs H Q, lC g rSortD vs H Q → rSortV X.K vs H Q := fun vs H Q ⟨w, xs, M, P, ha, m, r, q⟩ => by
  match xs, r, ha with
  | [.dat (.lst ds)], r, ha =>
    obtain ⟨v, e, h⟩ := ArgOk.one ha
    subst e
    simp only [Rep] at h
    obtain ⟨p, ys, e, n, hp, rv⟩ := h
    subst e
    rcases r with ⟨ns, e, r⟩ | ⟨ps, e, r⟩
    · subst e
      have e := rv.ints
      subst e
      refine .inr ⟨p, ns, rfl, SqL.of hp, fun ns' p' pm so np => ?_⟩
      have e : ns' = sortI ns := sorted_uniq (R := fun a b : Int => a ≤ b) (fun x y h1 h2 => by omega) (pm.trans (sortI_perm ns).symm) so (sortI_sorted ns)
      subst e
      exact q _ _ _ r (same_upd np) (Rep.lst (m.fresh np) upd_same (Reps.of_ints _))
    · subst e
      obtain ⟨e1, e2⟩ := pairs_key rv
      refine .inl ⟨p, ys, keyAt H, rfl, SqL.of hp, fun x hx => ?_, fun zs p' so st np => ?_⟩
      · obtain ⟨t, e, _, ht⟩ := e2 x hx
        exact ⟨t, e, ht⟩
      · have hz : ∀ v ∈ zs, ∃ t, v = .ref t ∧ ¬ w.bad t ∧ H t = some (.tup [.int (keyAt H v).1, .int (keyAt H v).2]) := fun v hv => e2 v (st.perm.mem_iff.mp hv)
        have e : zs.map (keyAt H) = sortP ps := by
          refine sorted_uniq leP_anti ?_ ?_ (sortP_sorted ps)
          · exact ((st.perm.map _).trans (by rw [e1])).trans (sortP_perm ps).symm
          · refine List.pairwise_map.mpr (so.imp fun {a b} h => ?_)
            have h : SrtO.lexB (keyAt H b) (keyAt H a) = false := h
            unfold LeP leP
            rw [h]
            rfl
        have rz := reps_pairs (g := g) hz
        rw [e] at rz
        exact q _ _ _ r (same_upd np) (Rep.lst (m.fresh np) upd_same (rz.mv (.of_same (same_upd np))))
theorem de_sorted {es : List Expr} (hg : Gl X "sorted") (hm : X.mg "sorted" = none) (ha : PA X (e :: es) (lA g W t)) (he : starEach (e :: es) X.env = (false, eval e X.env) :: starEach es X.env := by rfl) (hpl : (backTo pos (starEach es X.env)).any (·.1) = false := by rfl) :
    PE X (.Call (.Name "sorted" p) (e :: es) [] pos) (lE g W (dCB rSortD t)) := pe_imp (pe_callB (cr_sortedPO.or cr_sortedI) hg hm (by decide +kernel) ha (by decide) (by decide) he hpl) (l_cb l_sort)
end
end DL
namespace DL
open PySem L2
section
variable {X : Cx} {g : G} {W : WX} {pos : Pos} {a b c e : Expr} {ta tb tc td : TD} {w : Cs} {H H' : Hp} {σ : L2.St} {s : S} {t : TDA} {tf : TDF}
def AGOk (g : G) (w : Cs) (H : Hp) (σ : L2.St) (P : List Sl → S → Prop) (Q : List V → Hp → Prop) : Prop := ∀ xs s' w' H' vs, P xs s' → Mv w H w' H' → (∀ (c : Nat) a, w.cs[c]? = some (some a) → w'.cs[c]? = some (some a)) → RS g w' H' σ s' → ArgOk g w' H' xs vs → Q vs H'
def XGOk (g : G) (w : Cs) (H : Hp) (σ : L2.St) (P : KX) (W : WX) : Prop := ∀ c x s' w' H' dd v, P c x s' → Mv w H w' H' → RS g w' H' σ s' → XdAt w' H' dd v → Rep g w' H' x v → W (.ref (g.CA c)) (some dd) σ H'
def lAG (g : G) (W : WX) (td : TDA) : TA := fun σ H Q => ∃ w s P PX, RS g w H σ s ∧ td s P PX ∧ AGOk g w H σ P Q ∧ XGOk g w H σ PX W
theorem XGOk.x {P : KX} (k : XGOk g w H σ P W) : XOk g w H σ P W := fun c x s' H' dd v p e r => k c x s' w H' dd v p (.of_ext e) r
theorem XOkS.gg {P : KX} (k : XOkS g w H P W) : XGOk g w H σ P W := fun c x s' w' H' dd v p m r => k c x s' w' H' σ dd v p m r
theorem XGOk.mv {P : KX} {w' : Cs} (k : XGOk g w H σ P W) (m : Mv w H w' H') (av : ∀ x, x ∈ w.av → some x ∉ w.cs ∧ ∃ o, H x = some o) : XGOk g w' H' σ P W := fun c x s2 w2 H2 dd v p m2 r => k c x s2 w2 H2 dd v p (m.trans m2 av) r
theorem dag_nil : PA X [] (lAG g W dNil) := pa_imp pa_nil fun σ H Q ⟨w, s, P, PX, rs, h, k, x⟩ => k [] s w H [] h (Mv.refl _ _) (fun _ _ h => h) rs rfl
variable {es : List Expr} {tr : TDA}
theorem dag_cons (ha : PE X e (lE g W ta)) (hr : PA X es (lAG g W tr)) (hs : starEach (e :: es) X.env = (false, eval e X.env) :: starEach es X.env := by rfl) : PA X (e :: es) (lAG g W (dCons ta tr)) := pa_imp (pa_cons ha hr hs) fun σ H Q ⟨w, s, P, PX, rs, h, k, x⟩ =>
  ⟨w, s, _, PX, rs, h, fun d s1 H1 v q e1 rs1 rp => ⟨w, s1, _, PX, rs1, q, fun xs s2 w2 H2 vs q2 m2 pr rs2 rp2 => k _ s2 w2 H2 _ q2 ((Mv.of_ext e1).trans m2 rs.mem.av) pr rs2 ⟨v, vs, rfl, rp.mv m2, rp2⟩, x.mv (.of_ext e1) rs.mem.av⟩, x.x⟩
@[simp] def dConsF (tf : TDF) (tr : TDA) : TDA := fun s P X => tf s (fun ds s1 => tr { s1 with M := s1.M ++ [some (.lst ds)] } (fun xs s2 => P (.cell s1.M.length :: xs) s2) X) X
theorem dag_consF (ha : PE X e (lF g W tf)) (hr : PA X es (lAG g W tr)) (hs : starEach (e :: es) X.env = (false, eval e X.env) :: starEach es X.env := by rfl) : PA X (e :: es) (lAG g W (dConsF tf tr)) := pa_imp (pa_cons ha hr hs) fun σ H Q ⟨w, s, P, PX, rs, h, k, x⟩ =>
  ⟨w, s, _, PX, rs, h, fun ds s1 H1 p vs q e1 n0 nb rs1 hp rp => by
    have m1 : Mv w H (w.cell p) H1 := mv_cell e1 n0 nb
    have ml : w.cs.length = s1.M.length := rs1.mem.len
    have at1 : (w.cell p).cs[s1.M.length]? = some (some p) := by
      show (w.cs ++ [some p])[s1.M.length]? = _
      rw [← ml, List.getElem?_append_right (Nat.le_refl _), Nat.sub_self]
      rfl
    have pr1 : ∀ (c : Nat) a, w.cs[c]? = some (some a) → (w.cell p).cs[c]? = some (some a) := fun c a e => by
      show (w.cs ++ [some p])[c]? = _
      rw [List.getElem?_append_left (List.getElem?_eq_some_iff.mp e).1]
      exact e
    exact ⟨w.cell p, _, _, PX, rs1.toCell nb hp rp, q, fun xs s2 w2 H2 vs2 q2 m2 pr rs2 rp2 => k _ s2 w2 H2 _ q2 (m1.trans m2 rs.mem.av) (fun c a e => pr c a (pr1 c a e)) rs2 ⟨p, vs2, rfl, pr _ _ at1, rp2⟩, x.mv m1 rs.mem.av⟩, x.x⟩
theorem arg_one {y : Sl} {ys : List Sl} {vs : List V} (ny : y ≠ .no) (ra : ArgOk g w H (y :: ys) vs) : ∃ v r, vs = v :: r ∧ ArgOk g w H ys r ∧ ∀ i (σ' : L2.St), σ'[i]? = some (some v) → SlOk g w H σ' i y := by
  cases y with
  | no => exact absurd rfl ny
  | dat d => obtain ⟨v, r, e, q, z⟩ := ra; exact ⟨v, r, e, z, fun i σ' e => ⟨v, e, q⟩⟩
  | cell c => obtain ⟨a, r, e, q, z⟩ := ra; exact ⟨.ref a, r, e, z, fun i σ' e => ⟨a, q, e⟩⟩
theorem ds_parG {st : Stmt} {i j : Nat} (h : PS X st (tPar i j (lAG g W t))) : PS X st (lS g W (dPar i j t)) := ps_imp h fun D σ H ⟨w, s, E, PX, rs, h, k, x⟩ =>
  ⟨w, s, _, PX, rs, h, fun xs s1 w1 H1 vs q m1 _ rs1 ra => by
    obtain ⟨y, z, e, ny, nz, q⟩ := q
    subst e
    obtain ⟨v1, r1, e1', z1, k1⟩ := arg_one ny ra
    obtain ⟨v2, r2, e2', z2, k2⟩ := arg_one nz z1
    have z2 : r2 = [] := z2
    subst e1' e2' z2
    exact ⟨v1, v2, rfl, k.nx _ w1 H1 _ q m1 ((rs1.put (i := i) (o := some v1) (x := y) (k1 i)).put (i := j) (o := some v2) (x := z) (k2 j))⟩, x.gg⟩
@[simp] def dPar3 (i j l : Nat) (t : TDA) : TSd := fun s E X => t s (fun xs s1 => ∃ x y z, xs = [x, y, z] ∧ x ≠ .no ∧ y ≠ .no ∧ z ≠ .no ∧ E.nx { s1 with r := ((s1.r.set i x).set j y).set l z }) X
theorem ds_parG3 {st : Stmt} {i j l : Nat} (h : PS X st (tPar3 i j l (lAG g W t))) : PS X st (lS g W (dPar3 i j l t)) := ps_imp h fun D σ H ⟨w, s, E, PX, rs, h, k, x⟩ =>
  ⟨w, s, _, PX, rs, h, fun xs s1 w1 H1 vs q m1 _ rs1 ra => by
    obtain ⟨y, z, u, e, ny, nz, nu, q⟩ := q
    subst e
    obtain ⟨v1, r1, e1', z1, k1⟩ := arg_one ny ra
    obtain ⟨v2, r2, e2', z2, k2⟩ := arg_one nz z1
    obtain ⟨v3, r3, e3', z3, k3⟩ := arg_one nu z2
    have z3 : r3 = [] := z3
    subst e1' e2' e3' z3
    exact ⟨v1, v2, v3, rfl, k.nx _ w1 H1 _ q m1 (((rs1.put (i := i) (o := some v1) (x := y) (k1 i)).put (i := j) (o := some v2) (x := z) (k2 j)).put (i := l) (o := some v3) (x := u) (k3 l))⟩, x.gg⟩
variable {lo hi : Option Expr} {tl th : TDO} {p2 : Pos}
@[simp] def rCutD (d : D) (l u : Option Int) (P : D → Prop) : Prop := match d with
  | .lst ds => P (.lst (cutD ds l u))
  | .tup ds => P (.tup (cutD ds l u))
  | _ => False
@[simp] def dSl (t : TD) (tl th : TDO) : TD := fun s P X => t s (fun x s1 => tl s1 (fun l s2 => th s2 (fun u s3 => rCutD x l u fun z => P z s3) X) X) X
theorem de_slice (ha : PE X e (lE g W ta)) (hl : PO X lo (lO g W tl)) (hh : PO X hi (lO g W th)) : PE X (.Subscript e (.Slice lo hi none p2) pos) (lE g W (dSl ta tl th)) := pe_imp (pe_slice (sl_list.or sl_tupA) ha hl hh) fun σ H Q ⟨w, s, P, PX, rs, h, k, x⟩ =>
  ⟨w, s, _, PX, rs, h, fun d s1 H1 v q e1 rs1 rp => ⟨w, s1, _, PX, rs1, q, fun l s2 H2 q e2 rs2 => ⟨w, s2, _, PX, rs2, q, fun u s3 H3 q3 e3 rs3 => by
    have e0 := e1.trans (e2.trans e3)
    cases d <;> try exact q3.elim
    · simp only [Rep] at rp
      obtain ⟨a, vs, e, n, ha, rv⟩ := rp
      subst e
      have ha3 : H3 a = some (.tup vs) := e3 _ _ (fun z => n (.inl z)) (e2 _ _ (fun z => n (.inl z)) ha)
      have rv3 := (Reps.mv rv (.of_ext e2)).mv (.of_ext e3)
      refine .inr ⟨a, vs, rfl, SqT.of ha3, fun hw => ?_, fun _ p hp => ?_⟩
      · refine k _ s3 H3 _ q3 e0 rs3 ?_
        rename_i ds _
        have ec : cutD ds l u = ds := by
          unfold cutD
          rw [rv.len] at hw
          rw [hw.1, hw.2]
          simp
        rw [ec]
        exact Rep.tup n ha3 rv3
      · have nb := rs3.mem.fresh hp
        exact k _ s3 _ _ q3 (e0.trans (.of_same (same_upd hp))) (rs3.same (same_upd hp)) (Rep.tup nb upd_same ((rv3.cut l u).mv (.of_same (same_upd hp))))
    · simp only [Rep] at rp
      obtain ⟨a, vs, e, n, ha, rv⟩ := rp
      have ha3 : H3 a = some (.lst vs) := e3 _ _ (fun z => n (.inl z)) (e2 _ _ (fun z => n (.inl z)) ha)
      have rv3 := (Reps.mv rv (.of_ext e2)).mv (.of_ext e3)
      refine .inl ⟨a, vs, e, SqL.of ha3, fun p hp => ?_⟩
      have nb := rs3.mem.fresh hp
      exact k _ s3 _ _ q3 (e0.trans (.of_same (same_upd hp))) (rs3.same (same_upd hp)) (Rep.lst nb upd_same ((rv3.cut l u).mv (.of_same (same_upd hp)))), (x.ext e1).ext e2⟩, x.ext e1⟩, x⟩
def RF := D → D → (List D → Prop) → Prop
def lRF (g : G) (r : D → D → (List D → Prop) → Prop) : R2 := fun x y H Q => ∃ w d e P, Rep g w H d x ∧ Rep g w H e y ∧ r d e P ∧ ∀ ds p vs, P ds → H p = none → Reps g w H ds vs → Q (.ref p) (upd H p (.lst vs))
@[simp] def dOpF (r : D → D → (List D → Prop) → Prop) (ta tb : TD) : TDF := fun s P X => ta s (fun x s1 => tb s1 (fun y s2 => r x y fun z => P z s2) X) X
theorem lF_bin {r : R2} {rd : D → D → (List D → Prop) → Prop} (hr : ∀ x y H Q, lRF g rd x y H Q → r x y H Q) : ∀ σ H Q, lF g W (dOpF rd ta tb) σ H Q → tOp r (lE g W ta) (lE g W tb) σ H Q := fun σ H Q ⟨w, s, P, PX, rs, h, k, x⟩ =>
  ⟨w, s, _, PX, rs, h, fun d s1 H1 v q e1 rs1 rp => ⟨w, s1, _, PX, rs1, q, fun d2 s2 H2 v2 q2 e2 rs2 rp2 =>
    hr _ _ _ _ ⟨w, d, d2, _, rp.mv (.of_ext e2), rp2, q2, fun ds p vs pz hp rv => by
      have nb := rs2.mem.fresh hp
      exact k ds s2 _ p vs pz (e1.trans (e2.trans (.of_same (same_upd hp)))) (fresh0 (e1.trans e2) nb hp) nb (rs2.out hp) upd_same (rv.mv (mv_out (.of_same (same_upd hp)) hp))⟩, x.ext e1⟩, x⟩
@[simp] def rCatF : D → D → (List D → Prop) → Prop := fun x y P => match x, y with
  | .lst a, .lst b => a.length + b.length ≤ sizeLine ∧ P (a ++ b)
  | _, _ => False
@[simp] def rRepF : D → D → (List D → Prop) → Prop := fun x y P => match x, y with
  | .lst a, .int k => (-(2 ^ 63) ≤ k ∧ k < 2 ^ 63 ∧ a.length * k.toNat ≤ sizeLine) ∧ P (List.replicate k.toNat a).flatten
  | _, _ => False
theorem df_mul (ha : PE X a (lE g W ta)) (hb : PE X b (lE g W tb)) : PE X (.BinOp a .Mult b pos) (lF g W (dOpF rRepF ta tb)) := pe_imp (pe_op op_rep ha hb) (lF_bin fun x y H Q ⟨w, d, e, P, rd, re, r, q⟩ => by
  cases d <;> cases e <;> try exact r.elim
  simp only [Rep] at rd re
  obtain ⟨l, vs, e, n, hl, rv⟩ := rd
  exact ⟨l, _, vs, e, re, hl, r.1.1, r.1.2.1, by rw [rv.len]; exact r.1.2.2, fun p hp => q _ p _ r.2 hp (Reps.rep rv _)⟩)
variable {x : Str} {p q : Pos}
@[simp] def dBM1 (r : D → D → (D → Prop) → Prop) (ta tb : TD) : TD := fun s P X => ta s (fun x s1 => (∃ ds, x = .lst ds) ∧ tb s1 (fun y s2 => r x y fun z => P z s2) X) X
theorem l_bm1 {r : V → List V → Hp → VK → Prop} {rd : RD} (hr : ∀ x y H Q, lR g rd x y H Q → r x [y] H Q) : ∀ σ H Q, lE g W (dBM1 rd ta tb) σ H Q → tBM X.K "list" r (lE g W ta) (tCons (lE g W tb) tNil) σ H Q := fun σ H Q ⟨w, s, P, PX, rs, h, k, x⟩ =>
  ⟨w, s, _, PX, rs, h, fun d s1 H1 v q e1 rs1 rp => by
    obtain ⟨⟨ds, ed⟩, q⟩ := q
    have rp0 := rp
    subst ed
    simp only [Rep] at rp
    obtain ⟨a, vs, e, n, hp, rv⟩ := rp
    refine ⟨by subst e; exact tyList hp, w, s1, _, PX, rs1, q, fun d2 s2 H2 v2 q2 e2 rs2 rp2 => hr _ _ _ _ ⟨w, _, d2, _, rp0.mv (.of_ext e2), rp2, q2, fun a n => rs2.mem.fresh n, fun z u H3 pz sm rz => k z s2 H3 u pz (e1.trans (e2.trans (.of_same sm))) (rs2.same sm) rz⟩, x.ext e1⟩, x⟩
def rIndexD' : RD := fun x y P => match x with
  | .lst ds => flatD y = true ∧ ds.all flatD = true ∧ ∃ (j : Nat) (z : D), ds[j]? = some z ∧ eqD z y = true ∧ (∀ (m : Nat) (z' : D), m < j → ds[m]? = some z' → eqD z' y = false) ∧ P (.int (j : Nat))
  | _ => False
end
abbrev SpF := List Sl → Mem → (List D → Prop) → Prop
section
variable {X : Cx} {g : G} {W : WX} {pos : Pos} {a b c e : Expr} {ta tb tc td : TD} {w : Cs} {H H' : Hp} {σ : L2.St} {s : S} {t : TDA} {tf : TDF}
def lSpF (g : G) (spd : SpF) : Sp := fun vs H Q _ => ∃ w xs P, w.cs = [] ∧ ArgOk g w H xs vs ∧ MemOk g w H [] ∧ spd xs [] P ∧ ∀ ds p H' us, P ds → HExt w H H' → H p = none → ¬ w.bad p → Reps g (w.out p) H' ds us → H' p = some (.lst us) → Q (.ref p) H'
@[simp] def dCallF (spd : SpF) (t : TDA) : TDF := fun s P X => t s (fun xs s1 => cellsIn xs = [] ∧ spd xs [] fun ds => P ds s1) X
theorem RS.hext_out {p : Addr} (r : RS g (w.out p) H σ s) (nb : ¬ w.bad p) {xs : List Addr} (e2 : HExt ⟨[some p], xs⟩ H H') (hp : ∃ o, H' p = some o) : RS g (w.out p) H' σ s := by
  have h : ∀ a o, a ≠ p → H a = some o → NT o → H' a = some o := fun a o ne h nt => e2 a o (by simpa using ne) h nt
  have k : ∀ a u, ¬ (w.out p).bad a → H a = some u → NT u → H' a = some u ∧ ¬ (w.out p).bad a := fun a u n e nt => ⟨h a u (fun z => n (.inr (by rw [z]; exact List.mem_cons_self))) e nt, n⟩
  have tp : ∀ a, a ∈ g.TA → some a ∉ [some p] := fun a ha z => (r.mem.tabs a ha).1 (.inr (by
    have z : a = p := by simpa using z
    rw [z]; exact List.mem_cons_self))
  refine ⟨r.len, fun i x e => ?_, ⟨r.mem.len, fun c x e => ?_, r.mem.live, r.mem.inj, fun a ha => ?_, fun a ha => ⟨(r.mem.tabs a ha).1, HExt.tab (w := ⟨[some p], xs⟩) e2 (tp a ha) (r.mem.tabs a ha).2⟩⟩⟩
  · have z := r.slot i x e
    cases x with
    | no => trivial
    | dat d => obtain ⟨v, e, q⟩ := z; exact ⟨v, e, Rep.genN k q⟩
    | cell c => exact z
  · obtain ⟨a, ea, q⟩ := r.mem.at_ c x e
    obtain ⟨o, eo, nt⟩ := q.trackedN
    have ne : a ≠ p := fun z => nb (.inl (by rw [← z]; exact List.mem_of_getElem? ea))
    exact ⟨a, ea, q.genN k ((h a o ne eo nt).trans eo.symm)⟩
  · obtain ⟨n, o, e⟩ := r.mem.av a ha
    by_cases z : a = p
    · exact ⟨n, by rw [z]; exact hp⟩
    · exact ⟨n, e2.ex (by simpa using z) e⟩
theorem df_call {spd : SpF} {k : Nat} {f : Addr} {fd : FuncData} {ps : List Str} {x : Str} {p : Pos} {es : List Expr} (tk : Takes X W) (F : FnOk X.prog X.w X.K X.mg X.base (L2.CX X.prog X.w) k f fd ps (lSpF g spd)) (hr : Room k X.A) (hg : Gl X x) (hm : X.mg x = some (.ref f)) (hk : PySem.W.keepIn X.K (.ref f) = true) (hb : Binds X.K fd ps [])
    (ha : PA X (e :: es) (lA g W t)) (hdb : (x == ("__debug__" : Str)) = false := by decide) (he : starEach (e :: es) X.env = (false, eval e X.env) :: starEach es X.env := by rfl) (hpl : (backTo pos (starEach es X.env)).any (·.1) = false := by rfl) :
    PE X (.Call (.Name x p) (e :: es) [] pos) (lF g W (dCallF spd t)) := pe_imp (pe_callS F hr hg hm hk hb (fun σ => passAt tk σ) ha hdb he hpl) fun σ H Q ⟨w, s, P, PX, rs, h, k, x⟩ =>
  ⟨w, s, _, PX, rs, h, fun xs s1 H1 vs q e1 rs1 ra => by
    obtain ⟨hc, q⟩ := q
    refine ⟨w.none_, xs, _, rfl, ra.none_ hc, rs1.mem.none_, q, fun ds p H2 us pz e2 n2 nb2 ru hp => ?_⟩
    have sm : HExtC [] H1 H2 := e2
    have nb : ¬ w.bad p := fun z => nb2 (bad_none.mpr z)
    have bo : ∀ a, (w.none_.out p).bad a ↔ (w.out p).bad a := fun a => by
      constructor
      · intro z
        rcases Cs.out_bad z with z | z
        · rcases bad_none.mp z with z | z
          · exact .inl z
          · exact .inr (List.mem_cons_of_mem _ z)
        · exact .inr (by rw [z]; exact List.mem_cons_self)
      · intro z
        rcases Cs.out_bad z with z | z
        · rcases bad_none.mpr z with z | z
          · exact .inl z
          · exact .inr (List.mem_cons_of_mem _ z)
        · exact .inr (by rw [z]; exact List.mem_cons_self)
    have r0 : RS g (w.out p) (upd H1 p (.lst us)) σ s1 := rs1.out n2
    have nep : ∀ a, some a ∉ [some p] → a ≠ p := fun a h z => h (by rw [z]; simp)
    have r1 : RS g (w.out p) H2 σ s1 := r0.hext_out (xs := []) nb ⟨fun a o ne eo nt => by
      rw [upd_ne (nep a ne)] at eo
      exact sm.keep a o (by simp) eo nt, fun a ps ne eo => by
      rw [upd_ne (nep a ne)] at eo
      exact sm.grow a ps (by simp) eo⟩ ⟨_, hp⟩
    exact k ds s1 H2 p us pz (e1.trans sm.all_) (fresh0 e1 nb n2) nb r1 hp (Reps.gen (kb fun a => (bo a).symm) ru), x⟩
@[simp] def dCallNew (spd : SpD) (tf : TDF) : TD := fun s P X => tf s (fun ds s1 => spd [.cell 0] [some (.lst ds)] (fun d _ => P d s1) (fun c x _ => X c x s1)) X
end
end DL
namespace DL
open PySem L2
section
variable {X : Cx} {g : G} {W : WX} {pos : Pos} {a b c e : Expr} {ta tb tc td : TD} {w : Cs} {H H' : Hp} {σ : L2.St} {s : S} {t : TDA} {tf : TDF}
@[simp] def truD : D → Option Bool
  | .non => some false
  | .bl b => some b
  | .int i => some (i != 0)
  | .lst ds => some (!ds.isEmpty)
  | .tup ds => some (!ds.isEmpty)
  | .fl ds => some (!ds.isEmpty)
  | _ => none
theorem Reps.empty {ds : List D} {vs : List V} (h : Reps g w H ds vs) : vs.isEmpty = ds.isEmpty := by
  have z := h.len
  cases ds <;> cases vs <;> simp at z ⊢
theorem Rep.tru (hk : g.K = X.K) {d : D} {v : V} {k : Bool} (h : Rep g w H d v) (e : truD d = some k) : TruV X.K v H k := by
  cases d <;> simp only [truD, Option.some.injEq, reduceCtorEq] at e <;> subst e <;> simp only [Rep] at h
  · subst h; rfl
  · subst h; rfl
  · subst h; rfl
  · obtain ⟨a, vs, e, n, hp, rv⟩ := h
    subst e
    exact .inr (.inl ⟨vs, SqT.of hp, by rw [rv.empty]⟩)
  · obtain ⟨a, vs, e, n, hp, rv⟩ := h
    subst e
    exact .inl ⟨vs, SqL.of hp, by rw [rv.empty]⟩
  · obtain ⟨a, vs, e, n, rv⟩ := h
    subst e
    refine .inl ⟨vs, ?_, by rw [rv.empty]⟩
    rcases n with ⟨_, n⟩ | n
    · exact .inl n
    · rw [← hk]; exact .inr n
@[simp] def dTru (t : TD) : TDB := fun s P X => t s (fun x s1 => ∃ k, truD x = some k ∧ P k s1) X
theorem dt_tru (hk : g.K = X.K) (he : PE X e (lE g W ta)) (hw : ∀ whole, isTrue e X.env whole = (do let v ← whole; standAt e.pos; holding [v] (truthy v)) := by intro _; rfl) : PT X e (lB g W (dTru ta)) := pt_imp (pt_truth he hw) fun σ H Q ⟨w, s, P, PX, rs, h, k, x⟩ =>
  ⟨w, s, _, PX, rs, h, fun d s1 H1 v q e1 rs1 rp => by
    obtain ⟨b, eb, q⟩ := q
    exact ⟨b, rp.tru hk eb, k b s1 H1 q e1 rs1⟩, x⟩
@[simp] def dYes : TDB := fun s P _ => P true s
theorem dts_nil : PTs X [] (lB g W dYes) := ⟨fun pins s σ H Q I ⟨w, s1, P, PX, rs, h, k, x⟩ => pts_nil.run pins s σ H Q I (k _ s1 H h (HExt.refl _ _) rs)⟩
theorem dts_one {c : Expr} {t : TDB} (h : PT X c (lB g W t)) : PTs X [c] (lB g W t) := pts_one h
theorem de_one {op : BoolOp} (h : PE X a (lE g W ta)) : PE X (.BoolOp op [a] pos) (lE g W ta) := pe_one h
theorem hu65 {A : Around} {k : Nat} (hr : Room k A) : A.units + 65 < cLine := by have := hr.un; omega
def RFd (g : G) (W : WX) (t : TS) (td : S → (List D → S → Prop) → KX → Prop) : Prop := ∀ D σ H w s P PX, RS g w H σ s → td s P PX → XOkS g w H PX W →
  (∀ ds s' w' H' H1 σ' p vs, P ds s' → Mv w H w' H1 → HExt w' H1 H' → H1 p = none → ¬ w'.bad p → RS g (w'.out p) H' σ' s' → H' p = some (.lst vs) → Reps g (w'.out p) H' ds vs → (∀ x, x ∈ w'.av → some x ∉ w'.cs ∧ ∃ o, H1 x = some o) → D.rt (.ref p) H') → t D σ H
theorem rf_ret {tf : TDF} : RFd g W (tRet (lF g W tf)) tf := fun D σ H w s P PX rs h x k => ⟨w, s, P, PX, rs, h, fun ds s' H' p vs q e n nb r hp rv => k ds s' w H' H σ p vs q (Mv.refl _ _) e n nb r hp rv rs.mem.av, x.ex⟩
@[simp] def dSeqF (t : TSd) (u : S → (List D → S → Prop) → KX → Prop) : S → (List D → S → Prop) → KX → Prop := fun s P X => t s { nx := fun s' => u s' P X, rt := fun _ _ => False, bk := fun _ => False, ct := fun _ => False } X
theorem rf_cons {t : TSd} {u : TS} {ud : S → (List D → S → Prop) → KX → Prop} (hu : RFd g W u ud) : RFd g W (tSeq (lS g W t) u) (dSeqF t ud) := fun D σ H w s P PX rs h x k =>
  ⟨w, s, _, PX, rs, h, ⟨fun s1 w1 H1 σ1 q m rs1 => hu D σ1 H1 w1 s1 P PX rs1 q (x.mv m rs.mem.av) fun ds s' w' H' H2 σ' p vs q2 m2 e n nb r hp rv av => k ds s' w' H' H2 σ' p vs q2 (m.trans m2 rs.mem.av) e n nb r hp rv av, fun _ _ _ _ h => h.elim, fun _ _ _ _ h => h.elim, fun _ _ _ _ _ _ h => h.elim⟩, x⟩
variable {P : Program} {wd : World} {K : PySem.W.Frag} {mg : Str → Option Value} {base : Heap}
theorem fn_okF {x qual : Str} {st : Stmt} {f : Addr} {fd : FuncData} {N ps : List Str} {k : Nat} {spd : SpF} {td : S → (List D → S → Prop) → KX → Prop} (F : Fun K x qual st f fd) (S : FnScope N ps (defScope st)) (g : G)
    (len : ∀ xs M P, spd xs M P → xs.length = ps.length) (hN : ps.length ≤ N.length)
    (body : ∀ (cdv : Value) (A : Around) (outer : List Env) (s : Shared) (H : Hp) (E : XK), Room k (A.deeper (PyProof.Rows.envOfC qual (defScope st) s.heap.objs.size f cdv)) →
      ∃ t, PSs (cxOf (L2.CX P wd) P wd K mg base N qual (defScope st) f cdv A outer s H E) (defBody st) t ∧ RFd g (fun cls d _ H => E cls d H) t td)
    (math : ∀ xs P, spd xs [] P → td (startS N xs []) (fun ds _ => P ds) noX) : FnOk P wd K mg base (L2.CX P wd) (k + 1) f fd ps (lSpF g spd) := by
  refine F.okX S (fun vs H Q E ⟨w, xs, P, _, ra, m, h, _⟩ => (ra.len).trans (len xs _ P h)) fun cdv A outer s H vs Q E hr ⟨w, xs, P, hw, ra, m, h, kq⟩ => ?_
  obtain ⟨t, ht, hf⟩ := body cdv A outer s H E hr
  refine ⟨t, ht, hf _ _ H w (startS N xs []) _ noX (rs_start (by rw [len xs _ P h]; exact hN) ra m) (math xs P h) (fun _ _ _ _ _ _ _ _ h => h.elim) ?_⟩
  intro ds s' w' H' H1 σ' p us pz m1 e n nb r hp rv av
  have hpn : H p = none := m1.ext.non (fun c => by rw [hw] at c; cases c) n
  have nbw : ¬ w.bad p := m.fresh hpn
  refine kq ds p H' us pz ((m1.trans (.of_ext e) m.av).ext) hpn nbw (Reps.gen (fun a o na ea => ⟨ea, fun z => ?_⟩) rv) hp
  rcases Cs.out_bad z with z | z
  · rcases z with z | z
    · rw [hw] at z; cases z
    · exact na (.inr (List.mem_cons_of_mem _ (m1.avk a z)))
  · exact na (.inr (by rw [z]; exact List.mem_cons_self))
end
end DL
namespace DL
open PySem L2
@[simp] def dNever : TSd := fun _ _ _ => False
end DL
namespace DL
open PySem L2
def OkN (k : Nat) (d : D) : Prop := (toPy d).canLay0 = true ∧ (toPy d).depth ≤ k
theorem OkN.ok {k : Nat} {d : D} (h : OkN k d) (hk : k ≤ 64 := by decide) : okD d = true := by
  unfold okD SeqAt.shaped
  rw [h.1, Bool.true_and]
  exact decide_eq_true (Nat.le_trans h.2 hk)
theorem OkN.int (k : Nat) (i : Int) : OkN k (.int i) := ⟨by simp [toPy, PyData.canLay0], by simp [toPy, PyData.depth]⟩
theorem OkN.non (k : Nat) : OkN k .non := ⟨by simp [toPy, PyData.canLay0], by simp [toPy, PyData.depth]⟩
theorem OkN.bl (k : Nat) (b : Bool) : OkN k (.bl b) := ⟨by simp [toPy, PyData.canLay0], by simp [toPy, PyData.depth]⟩
theorem okAll {k : Nat} : ∀ {ds : List D}, (∀ d ∈ ds, OkN k d) → PyData.canLayAll0 (toPys ds) = true ∧ PyData.depthAll (toPys ds) ≤ k
  | [], _ => ⟨by simp [toPys, PyData.canLayAll0], by simp [toPys, PyData.depthAll]⟩
  | d :: ds, h => by
    obtain ⟨a, b⟩ := okAll (k := k) (ds := ds) fun d hd => h d (List.mem_cons_of_mem _ hd)
    obtain ⟨c, e⟩ := h d List.mem_cons_self
    exact ⟨by simp [toPys, PyData.canLayAll0, a, c], by simp [toPys, PyData.depthAll]; omega⟩
theorem OkN.tup {k : Nat} {ds : List D} (h : ∀ d ∈ ds, OkN k d) : OkN (k + 1) (.tup ds) := by
  obtain ⟨a, b⟩ := okAll h
  exact ⟨by simpa [toPy, PyData.canLay0] using a, by simp only [toPy, PyData.depth]; omega⟩
theorem OkN.lst {k : Nat} {ds : List D} (h : ∀ d ∈ ds, OkN k d) : OkN (k + 1) (.lst ds) := by
  obtain ⟨a, b⟩ := okAll h
  exact ⟨by simpa [toPy, PyData.canLay0] using a, by simp only [toPy, PyData.depth]; omega⟩
abbrev tupI (xs : List Int) : D := .tup (xs.map D.int)
theorem OkN.ofInts (k : Nat) (xs : List Int) : ∀ d ∈ xs.map D.int, OkN k d := fun d h => by
  obtain ⟨i, _, e⟩ := List.mem_map.mp h
  subst e
  exact .int k i
theorem OkN.pairs (xs : List (Int × Int)) : ∀ d ∈ xs.map pairD, OkN 1 d := fun d h => by
  obtain ⟨i, _, e⟩ := List.mem_map.mp h
  subst e
  exact .tup (k := 0) fun d h => by
    rcases List.mem_cons.mp h with e | h
    · subst e; exact .int _ _
    · rcases List.mem_cons.mp h with e | h
      · subst e; exact .int _ _
      · cases h
@[simp] theorem okD_int (i : Int) : okD (.int i) = true := (OkN.int 0 i).ok
@[simp] theorem okD_non : okD .non = true := (OkN.non 0).ok
@[simp] theorem okD_bl (b : Bool) : okD (.bl b) = true := (OkN.bl 0 b).ok
@[simp] theorem okD_ints (xs : List Int) : okD (.tup (xs.map D.int)) = true := (OkN.tup (OkN.ofInts 0 xs)).ok
@[simp] theorem okD_pairs (xs : List (Int × Int)) : okD (.tup (xs.map pairD)) = true := (OkN.tup (OkN.pairs xs)).ok
@[simp] theorem eqD_int (i j : Int) : eqD (.int i) (.int j) = decide (i = j) := by
  simp only [eqD, toPy, PyData.eqv]
  rfl
@[simp] theorem eqD_non : eqD .non .non = true := by simp [eqD, toPy, PyData.eqv]
theorem atI_pos {α : Type} {xs : List α} {i : Int} (h : 0 ≤ i) : atI xs i = xs[i.toNat]? := by
  unfold atI ixN
  rw [if_pos h]
  by_cases hl : i < xs.length
  · rw [if_pos hl]; rfl
  · rw [if_neg hl]
    have : xs.length ≤ i.toNat := by omega
    rw [List.getElem?_eq_none this]
    rfl
@[simp] theorem atI_nat {α : Type} {xs : List α} {i : Nat} : atI xs (i : Int) = xs[i]? := by rw [atI_pos (by omega)]; simp
@[simp] theorem atI_zero {α : Type} {xs : List α} : atI xs 0 = xs[0]? := by rw [atI_pos (by omega)]; simp
@[simp] theorem atI_one {α : Type} {xs : List α} : atI xs 1 = xs[1]? := by rw [atI_pos (by omega)]; simp
@[simp] theorem length_rangeD (lo : Int) (n : Nat) : (rangeD lo n).length = n := by simp [rangeD]
@[simp] theorem length_enumD (ds : List D) : (enumD ds).length = ds.length := by simp [enumD]
@[simp] def src (a b : Int) : Option CC := some (.lst [.int a, .int b])
structure Good (a b : Int) : Prop where
  a0 : 0 ≤ a
  b0 : 0 ≤ b
  b1 : b < 2147483647
def spTake : SpD := fun xs M P _ => ∃ top a b, xs = [.cell 0, .dat (.int top)] ∧ M = [src a b] ∧ Good a b ∧ 1 ≤ top ∧ top.natAbs.log2 < 9000 ∧ ∀ k a' b', 0 ≤ k → k < top → Good a' b' → P (.int k) [src a' b']
def spOne : SpD := fun xs M P _ => ∃ d0 ds a b, xs = [.cell 0, .dat d0] ∧ seqD d0 = some ds ∧ M = [src a b] ∧ Good a b ∧ ds ≠ [] ∧ ds.length < 2 ^ 60 ∧ ∀ d a' b', d ∈ ds → Good a' b' → P d [src a' b']
def spPool : SpF := fun xs _ P => ∃ (ns : List Int) (k : Int), xs = [.dat (.fl (ns.map .int)), .dat (.int k)] ∧ 0 ≤ k ∧ k ≤ 1000000 ∧ ∀ a b, Good a b → P [.int a, .int b]
def tdPool : S → (List D → S → Prop) → KX → Prop :=
  dSeqF (dSet 2 (dC (.int 0)))
  (dSeqF (dIfS (dT (dOp rLtD (dVar 1) (dCB rLenD (dCons (dVar 0) (dNil))))) (dSet 2 (dOp rIxD (dVar 0) (dVar 1))) (dIfS (dTru (dVar 0)) (dSet 2 (dOp rIxD (dVar 0) (dC (.int 0)))) (dNext)))
  (dSeqF (dSet 3 (dCB (r2I fun i j => if j > i then j else i) (dCons (dCB rIntD (dCons (dVar 2) (dNil))) (dCons (dCB rIntD (dCons (dOp rSubD (dUn rNegD (dC (.int 1))) (dVar 2)) (dNil))) (dNil)))))
  (dSeqF (dSet 4 (dOp rModD (dCB rIntD (dCons (dOp rMultD (dOp rAddD (dOp rAddD (dOp rAddD (dOp rModD (dCB rIntD (dCons (dVar 3) (dNil))) (dC (.int 2147483629))) (dOp rMultD (dOp rMultD (dC (.int 7919)) (dVar 1)) (dVar 1))) (dOp rMultD (dC (.int 31)) (dVar 1))) (dC (.int 17))) (dC (.int 48271))) (dNil))) (dC (.int 2147483647))))
  (dLst (dCons (dOp rMultD (dVar 3) (dCB rIntD (dCons (dOp rGeD (dVar 3) (dOp rPowD (dC (.int 10)) (dC (.int 18)))) (dNil)))) (dCons (dVar 4) (dNil)))))))
def tdTake : TSd :=
  dSeq (dIfS (dT (dOp rGtD (dIxC 0 (dC (.int 0))) (dC (.int 0)))) (dSeq (dSet 2 (dOp rModD (dCB rIntD (dCons (dIxC 0 (dC (.int 0))) (dNil))) (dVar 1)))
  (dSeq (dSetIx 0 (dC (.int 0)) (dOp rDivD (dIxC 0 (dC (.int 0))) (dVar 1)))
  (dRet (dVar 2)))) (dNext))
  (dSeq (dSetIx 0 (dC (.int 1)) (dOp rModD (dCB rIntD (dCons (dOp rAddD (dOp rMultD (dIxC 0 (dC (.int 1))) (dC (.int 39373))) (dC (.int 7))) (dNil))) (dC (.int 2147483647))))
  (dRet (dOp rModD (dCB rIntD (dCons (dOp rDivD (dOp rModD (dCB rIntD (dCons (dOp rMultD (dIxC 0 (dC (.int 1))) (dIxC 0 (dC (.int 1)))) (dNil))) (dC (.int 2147483629))) (dC (.int 32))) (dNil))) (dVar 1))))
def tdOne : TSd :=
  dRet (dOp rIxD (dVar 1) (dCall spTake (dConsC 0 (dCons (dCB rLenD (dCons (dVar 1) (dNil))) (dNil)))))
abbrev N_take : List Str := ["_law_source", "_law_top", "_law_digit"]
abbrev N_one : List Str := ["_law_source", "_law_things"]
abbrev N_pool : List Str := ["_law_script", "_law_k", "_law_cell", "_law_big", "_law_stirred"]
end DL
namespace DL
open PySem L2
theorem sp_start {K : PySem.W.Frag} {CA : Str → Addr} {TA : List Addr} {spd : SpD} {H : Hp} {a : Addr} {ns : List Int} (hS : SqL K H a (ns.map V.int)) (h : ∀ P : D → Mem → Prop, P (.bl true) [] → spd [.dat (.fl (ns.map .int))] [] P (fun _ _ _ => False)) (hT : ∀ b, b ∈ TA → GxR.TabG H b := by intro b hb; cases hb) : lSp ⟨K, CA, TA⟩ spd [.ref a] H (fun v _ => v = .bl true) (fun _ _ _ => False) := by
  refine ⟨⟨[], []⟩, [.dat (.fl (ns.map .int))], [], fun d _ => d = .bl true, fun _ _ _ => False, ⟨.ref a, [], rfl, ?_, rfl⟩, ⟨rfl, fun c x e => ?_, fun c a e => ?_, fun c c' a e => ?_, fun a h => ?_, fun b hb => ⟨by simp [Cs.bad], hT b hb⟩⟩, h _ rfl, fun d M' H' v e _ _ r => ?_, fun _ _ _ _ _ _ z => z.elim⟩
  · simp only [Rep]
    refine ⟨a, ns.map V.int, rfl, ?_, Reps.of_ints _⟩
    rcases hS with z | z
    · exact .inl ⟨by simp [Cs.bad], z⟩
    · exact .inr z
  · simp at e
  · simp at e
  · simp at e
  · cases h
  · subst e
    simpa only [Rep] using r
end DL
namespace DL
open PySem L2 PySem.Spec PyProof.Rows
abbrev Cls := Option Nat × Value × (Addr → Value → Option Addr → TS)
def goneD (i : Nat) (D : Ends) : Ends := { nx := fun σ H => D.nx (σ.set i none) H, rt := D.rt, bk := fun σ H => D.bk (σ.set i none) H, ct := fun σ H => D.ct (σ.set i none) H }
def endOf (o : Option Nat) (D : Ends) : Ends := match o with
  | none => D
  | some i => goneD i D
def slotOf (o : Option Nat) (σ : L2.St) (a : Addr) : L2.St := match o with
  | none => σ
  | some i => σ.set i (some (.ref a))
def wH (K : PySem.W.Frag) (Wout : WX) (D : Ends) : List Cls → WX
  | [] => Wout
  | q :: r => fun cls d σ H => ∃ b, PySem.W.exmOne K cls q.2.1 = some b ∧ (b = true → ∀ a, H a = none → q.2.2 a cls d (endOf q.1 D) (slotOf q.1 σ a) H) ∧ (b = false → wH K Wout D r cls d σ H)
inductive Hs2 (X : Cx) : List ExceptHandler → List Cls → Prop
  | nil : Hs2 X [] []
  | nm {x n : Str} {c : Value} {i : Nat} {u : Addr → Value → Option Addr → TS} {b0 : Stmt} {bs : List Stmt} {p1 p2 : Pos} {r : List ExceptHandler} {l : List Cls} (hc : Names X x c) (hN : X.N.Nodup) (hi : X.N[i]? = some n) (hl : X.env.kindOf n = some .local)
      (hu : ∀ (a : Addr) (oe : Obj) (cls : Value) (d : Option Addr) (pn : List (Addr × Obj)), Zc cls d oe → (∃ vs, oe.data = .fields vs) → PSs (X.suite a ((a, oe) :: pn)) (b0 :: bs) (u a cls d)) (hr : Hs2 X r l) :
      Hs2 X (.ExceptHandler (some (.Name x p1)) (some n) (b0 :: bs) p2 :: r) ((some i, c, u) :: l)
  | un {x : Str} {c : Value} {u : Addr → Value → Option Addr → TS} {b0 : Stmt} {bs : List Stmt} {p1 p2 : Pos} {r : List ExceptHandler} {l : List Cls} (hc : Names X x c)
      (hu : ∀ (a : Addr) (oe : Obj) (cls : Value) (d : Option Addr) (pn : List (Addr × Obj)), Zc cls d oe → (∃ vs, oe.data = .fields vs) → PSs (X.suite a ((a, oe) :: pn)) (b0 :: bs) (u a cls d)) (hr : Hs2 X r l) :
      Hs2 X (.ExceptHandler (some (.Name x p1)) none (b0 :: bs) p2 :: r) ((none, c, u) :: l)
theorem ps_try_hs {X : Cx} {body : List Stmt} {h0 : ExceptHandler} {hds : List ExceptHandler} {l : List Cls} {pos : Pos} {tb : WX → TS} {Wout : WX} (es : X.stack = X.env :: X.outer) (ef : X.env.frame = some X.env.locals) (tk : Takes X Wout)
    (hb : ∀ (W : WX) (pn : List (Addr × Obj)) (xe : Value → Shared → Prop), Takes (X.tr pn xe) W → PassesOwn (model X.prog X.w) X.A X.env xe → PSs (X.tr pn xe) body (tb W)) (hh : Hs2 X (h0 :: hds) l) :
    PS X (.Try body (h0 :: hds) [] [] pos) (fun D σ H => tb (wH X.K Wout D l) D σ H) := by
  refine ⟨fun pi s0 st0 Hh Dd In hyp => ?_⟩
  have okX := In.ok
  have fra : X.A.frames = some (X.env :: X.outer) := by rw [okX.frames, es]
  refine wpAny_Try_except ?_
  have bodyR := (hb (wH X.K Wout Dd l) (X.pn ++ pi) (fun e s₁ => wpAny (model X.prog X.w) X.A (noteFrame e X.env) (fun _ s₂ => wpAny (model X.prog X.w) X.A (setFlight e none) (fun _ s₃ => wpAny (model X.prog X.w) X.A (handleBy e X.env (h0 :: hds)) (SP X pi Dd) X.xe s₃) X.xe s₂) X.xe s₁) (fun u s' xx => ?_) PassesOwn.looking).run [] s0 st0 Hh Dd (In.toTry _) hyp
  · refine wpAny_mono bodyR (fun f s1 hsp => ?_) (fun e s1 he => he)
    cases f with
    | next => obtain ⟨a1, a2, a3, a4⟩ := hsp; exact wpAny_execs_nil ⟨a1, a2, a3.ofTry okX, a4⟩
    | brk => obtain ⟨a1, a2, a3, a4⟩ := hsp; exact ⟨a1, a2, a3.ofTry okX, a4⟩
    | cont => obtain ⟨a1, a2, a3, a4⟩ := hsp; exact ⟨a1, a2, a3.ofTry okX, a4⟩
    | ret z => obtain ⟨a0, a1, a2, a3, a5, a4⟩ := hsp; exact ⟨a0, a1, a2, a3.ofTry okX, a5, a4⟩
  · obtain ⟨a, B, sI, pi2, st1, H1, cls, d, rfl, J0, nb, up, sk, na, eo, ag, w0⟩ := xx
    have J : Inv X pi st1 H1 sI := J0.ofTry okX
    have sk2 : Sky B (X.env :: X.outer) a (Zc cls d) X.env.locals s'.heap := by rw [← es]; exact sk
    show wpAny (model X.prog X.w) X.A (noteFrame (.ref a) X.env) _ _ _
    refine Sky.land Zc.steady fra ef sk2 fun g3 fl3 up3 => ?_
    have J3 : Inv X pi st1 H1 { s' with heap := g3 } := J.landed nb fl3.1 (up.trans up3) eo ag
    obtain ⟨oe3, vs3, he3, hz3, hd3⟩ := fl3.there
    have out3 : a ∉ frs (X.env :: X.outer) := fun hm => by
      obtain ⟨_, o', e', hnf⟩ := fl3.2.2.1.mem hm
      rw [he3] at e'
      cases e'
      exact hnf _ hd3
    have nL : a ≠ X.env.locals := fun z => out3 (List.mem_filterMap.mpr ⟨X.env, List.mem_cons_self, by rw [ef, z]⟩)
    have nF : a ∉ X.fs := fun hm => by
      obtain ⟨y, hy, q⟩ := List.mem_filterMap.mp hm
      exact out3 (List.mem_filterMap.mpr ⟨y, List.mem_cons_of_mem _ hy, q⟩)
    have S3 := J3.suite he3 hd3 na nL nF
    have LT : PySem.W.Looks (model X.prog X.w) g3 (typeOf (.ref a)) cls := fun A Q E s k q => wpAny_typeOf_ref (k _ _ he3) (by rw [hz3.1]; exact q)
    have look : ∀ {x : Str} {c : Value} {p1 : Pos}, Names X x c → ∀ {Q E : Value → Shared → Prop}, Q c { s' with heap := g3 } → wpAny (model X.prog X.w) (X.A.mark (some (.ref a))) (eval (.Name x p1) X.env) Q E { s' with heap := g3 } := fun {x c p1} hc {Q E} q => by
      obtain ⟨hg, hdb, hm⟩ := hc
      rcases hm with hm | ⟨hm, hv, hnn⟩
      · exact ld_glob (X := X.suite a ((a, oe3) :: (X.pn ++ pi))) S3 hg hm q hdb
      · exact ld_blt (X := X.suite a ((a, oe3) :: (X.pn ++ pi))) S3 hg hm hv q hnn hdb
    have go : ∀ {hds' : List ExceptHandler} {l' : List Cls}, Hs2 X hds' l' → wH X.K Wout Dd l' cls d st1 H1 → wpAny (model X.prog X.w) X.A (handleBy (.ref a) X.env hds') (SP X pi Dd) X.xe { s' with heap := g3 } := by
      intro hds' l' hk
      induction hk with
      | nil =>
        intro w1
        refine wpAny_handleBy_nil ?_
        obtain ⟨k1, k2, k3, oe, vs, T, oT, ts', he, hz, hd, h1, hr⟩ := id fl3
        unfold PySem.passOn
        refine wpAny_bind (wpAny_field he hd h1 ?_)
        rw [if_neg (show ¬ ((Value.ref T == Value.none) = true) from by simp)]
        have last : wpAny (model X.prog X.w) X.A (setFlight (.ref a) X.env.frame) (fun _ s4 => wpAny (model X.prog X.w) X.A (throw (.ref a) : Sem Flow) (SP X pi Dd) X.xe s4) X.xe { s' with heap := g3 } := by
          rw [ef]
          refine HandSPX.setFlight_upZ fl3 fun g4 hh4 up4 => wpAny_throw (tk _ _ ?_)
          exact ⟨a, B, sI, pi, st1, H1, cls, d, rfl, J, nb, (up.trans up3).trans up4, .inr (.inr (by rw [es]; exact hh4)), na, eo, ag, w1⟩
        first
          | exact wpAny_bind (wpAny_pure (wpAny_bind last))
          | exact wpAny_bind last
      | @nm x n c i u b0 bs p1 p2 r l2 hc hN hi hl hu hr ih =>
        intro w1
        obtain ⟨b, hb1, yes, no⟩ := w1
        have LM := PySem.W.exm_one (M := model X.prog X.w) J3.kIn LT hb1
        refine wpAny_handleBy_cons (codeAny_handlers_test ?_) (by intro q; cases q)
        refine look hc (LM.here ?_)
        cases b with
        | false => show wpAny _ X.A (handleBy (.ref a) X.env r) _ _ _; exact ih (no rfl)
        | true =>
          refine codeAny_handlers_suite_as ?_
          refine HandSPX.lands_againZ fl3 fun g4 fl4 up4 => ?_
          have J4 : Inv X pi st1 H1 { s' with heap := g4 } := J.landed nb fl4.1 ((up.trans up3).trans up4) eo ag
          obtain ⟨oe4, vs4, he4, hz4, hd4⟩ := fl4.there
          have S4 := J4.suite he4 hd4 na nL nF
          refine store_ok (X := X.suite a ((a, oe4) :: (X.pn ++ pi))) (v := .ref a) S4 hN hi (.inl hl) rfl (fun s5 S5 => ?_) (.inr hl)
          have run := (hu a oe4 cls d (X.pn ++ pi) hz4 ⟨_, hd4⟩).run [] s5 _ H1 _ S5 (yes rfl a na)
          refine wpAny_mono run (fun f s6 hsp => ?_) (fun _ _ z => False.elim z)
          have fin : ∀ {st6 : L2.St} {H6 : Hp} {Q : Shared → Prop}, Inv (X.suite a ((a, oe4) :: (X.pn ++ pi))) [] st6 H6 s6 → (∀ s7, Inv X pi (st6.set i none) H6 s7 → Q s7) → wpAny (model X.prog X.w) X.A (do bindName X.env n .none; unbindBehindTheSuite X.env n p2) (fun _ s7 => Q s7) X.xe s6 := fun {st6 H6 Q} S6 hq => gone_ok (S6.unsuite okX) hN hi hl hq
          cases f with
          | next => obtain ⟨a1, a2, a3, a4⟩ := hsp; exact fin a3 fun s7 J7 => ⟨_, _, J7, a4⟩
          | brk => obtain ⟨a1, a2, a3, a4⟩ := hsp; exact fin a3 fun s7 J7 => ⟨_, _, J7, a4⟩
          | cont => obtain ⟨a1, a2, a3, a4⟩ := hsp; exact fin a3 fun s7 J7 => ⟨_, _, J7, a4⟩
          | ret z => obtain ⟨a0, a1, a2, a3, a5, a4⟩ := hsp; exact fin a3 fun s7 J7 => ⟨_, _, _, J7, a5, a4⟩
      | @un x c u b0 bs p1 p2 r l2 hc hu hr ih =>
        intro w1
        obtain ⟨b, hb1, yes, no⟩ := w1
        have LM := PySem.W.exm_one (M := model X.prog X.w) J3.kIn LT hb1
        refine wpAny_handleBy_cons (codeAny_handlers_test ?_) (by intro q; cases q)
        refine look hc (LM.here ?_)
        cases b with
        | false => show wpAny _ X.A (handleBy (.ref a) X.env r) _ _ _; exact ih (no rfl)
        | true =>
          refine codeAny_handlers_suite ?_
          refine HandSPX.lands_againZ fl3 fun g4 fl4 up4 => ?_
          have J4 : Inv X pi st1 H1 { s' with heap := g4 } := J.landed nb fl4.1 ((up.trans up3).trans up4) eo ag
          obtain ⟨oe4, vs4, he4, hz4, hd4⟩ := fl4.there
          have S4 := J4.suite he4 hd4 na nL nF
          have run := (hu a oe4 cls d (X.pn ++ pi) hz4 ⟨_, hd4⟩).run [] _ _ H1 _ S4 (yes rfl a na)
          refine wpAny_mono run (fun f s6 hsp => ?_) (fun _ _ z => False.elim z)
          cases f with
          | next => obtain ⟨a1, a2, a3, a4⟩ := hsp; exact ⟨_, _, a3.unsuite okX, a4⟩
          | brk => obtain ⟨a1, a2, a3, a4⟩ := hsp; exact ⟨_, _, a3.unsuite okX, a4⟩
          | cont => obtain ⟨a1, a2, a3, a4⟩ := hsp; exact ⟨_, _, a3.unsuite okX, a4⟩
          | ret z => obtain ⟨a0, a1, a2, a3, a5, a4⟩ := hsp; exact ⟨_, _, _, a3.unsuite okX, a5, a4⟩
    exact go hh w0
end DL
namespace DL
open PySem L2 PySem.Spec PyProof.Rows
structure ErrC (K : PySem.W.Frag) (C fI : Addr) : Prop where
  oex : OexC K C
  wh : PySem.W.findIn K (.ref C) "what" = some none
  iC : PySem.W.findIn K (.ref C) "__init__" = some (some (.ref fI))
  xf : XfC K C
def spIni (K : PySem.W.Frag) : Sp := fun vs H Q _ => ∃ (a C : Addr) (v : V), vs = [.ref a, v] ∧ OexC K C ∧ PySem.W.findIn K (.ref C) "what" = some none ∧ H a = some (exo a C none) ∧ ∀ dx, H dx = none → dx ≠ a → Q .non (upd (upd H dx (exd dx [(("what" : Str), v)])) a (exo a C (some dx)))
theorem ini_reads {K : PySem.W.Frag} {vs : List V} {H : Hp} {Q : VK} {E : XK} (h : spIni K vs H Q E) : tOst K "what" (tVar 0) (tVar 1) { nx := fun _ H' => Q .non H', rt := Q } (start ["self", "what"] vs) H := by
  obtain ⟨a, C, v, rfl, T, hno, ha, q⟩ := h
  exact ⟨v, rfl, .ref a, rfl, a, C, rfl, T, hno, .inl ⟨ha, q⟩⟩
theorem ok_ini {P : Program} {w : World} {K : PySem.W.Frag} {mg : Str → Option Value} {base : Heap} {qual : Str} {st : Stmt} {f : Addr} {fd : FuncData} (F : Fun K "__init__" qual st f fd) (S : FnScope ["self", "what"] ["self", "what"] (defScope st))
    (hb : ∀ (cdv : Value) (A : Around) (outer : List Env) (s : Shared) (H : Hp) (E : XK), PSs (cxOf (L2.CX P w) P w K mg base ["self", "what"] qual (defScope st) f cdv A outer s H E) (defBody st) (tOst K "what" (tVar 0) (tVar 1))) : FnOk P w K mg base (L2.CX P w) 1 f fd ["self", "what"] (spIni K) :=
  F.okX S (fun vs H Q E h => by obtain ⟨_, _, _, rfl, _⟩ := h; rfl) fun cdv A outer s H vs Q E _ h => ⟨_, hb cdv A outer s H E, ini_reads h⟩
section
variable {X : Cx} {g : G} {W : WX} {pos : Pos} {e : Expr} {te : TD} {w : Cs} {H H' : Hp} {σ : L2.St} {s : S}
@[simp] def dRaise (c : Str) (te : TD) : TSd := fun s E PX => te s (fun d s1 => PX c d s1) PX
theorem ds_raise {c x : Str} {C fI : Addr} {fd : FuncData} {p pos2 : Pos} (hca : g.CA c = C) (T : ErrC X.K C fI) (tI : PySem.W.typeIn X.K (.ref fI) = some (.type "function")) (F1 : FnOk X.prog X.w X.K X.mg X.base (L2.CX X.prog X.w) 1 fI fd ["self", "what"] (spIni X.K)) (hr : Room 2 X.A) (hb : Binds X.K fd ["self", "what"] [])
    (hc : X.calm = true) (tk : Takes X W) (hg : Gl X x) (hm : X.mg x = some (.ref C)) (he : PE X e (lE g W te)) (hx : Passes (L2.CX X.prog X.w) X (fun _ _ _ => False)) (hs : starEach (e :: []) X.env = (false, eval e X.env) :: starEach [] X.env := by rfl)
    (hdb : (x == ("__debug__" : Str)) = false := by decide) (he' : starEach (e :: []) X.env = (false, eval e X.env) :: starEach [] X.env := by rfl) (hpl : (backTo pos (starEach [] X.env)).any (·.1) = false := by rfl) :
    PS X (.Raise (some (.Call (.Name x p) (e :: []) [] pos)) none pos2) (lS g W (dRaise c te)) := ps_imp (ps_raise hc tk (pmk_oex T.oex T.iC tI F1 hr hb .nil hx hg hm (pa_cons he pa_nil hs) hdb he' hpl)) fun D σ H ⟨w, s, E, PX, rs, h, k, x⟩ =>
  ⟨w, s, _, PX, rs, h, fun d s1 H1 v q e1 rs1 rp => ⟨by simp, fun a na => ⟨a, C, v, rfl, T.oex, T.wh, upd_same, fun dx n ne => by
    have nd : H1 dx = none := by rw [upd_ne ne] at n; exact n
    refine ⟨rfl, dx, [(("what" : Str), v)], upd_same, by rw [upd_ne ne]; exact upd_same, nd, ?_⟩
    have eh : upd (del (upd (upd (upd H1 a (exo a C none)) dx (exd dx [(("what" : Str), v)])) a (exo a C (some dx))) a) dx (.xd [(("what" : Str), v)]) = upd H1 dx (.xd [(("what" : Str), v)]) := by
      funext b
      by_cases e1 : b = dx
      · rw [e1, upd_same, upd_same]
      · rw [upd_ne e1, upd_ne e1]
        by_cases e2 : b = a
        · rw [e2, del_same, na]
        · rw [del_ne e2, upd_ne e2, upd_ne e1, upd_ne e2]
    rw [eh, ← hca]
    have sm : Same H1 (upd H1 dx (.xd [(("what" : Str), v)])) := same_upd nd
    exact x c d s1 w _ σ dx v q (.of_ext (e1.trans (.of_same sm))) (rs1.same sm) ⟨rs1.mem.fresh nd, upd_same⟩ (rp.mv (.of_same sm))⟩⟩, x.ex⟩
@[simp] def subE (c C : Str) : Bool := c == C || C == "Refused"
abbrev HdD := Option Nat × Str × (Addr → Addr → TSd)
@[simp] def putX : Option Nat → Addr → Addr → D → S → S
  | none, _, _, _, s => s
  | some i, a, dd, x, s => { s with r := s.r.set i (.dat (.xc a dd x)) }
@[simp] def goneE : Option Nat → EK → EK
  | none, E => E
  | some i, E => { nx := fun s => E.nx { s with r := s.r.set i .no }, rt := E.rt, bk := fun s => E.bk { s with r := s.r.set i .no }, ct := fun s => E.ct { s with r := s.r.set i .no } }
@[simp] def selD (E : EK) (PX : KX) : List HdD → Str → D → S → Prop
  | [], c, x, s => PX c x s
  | q :: r, c, x, s => if subE c q.2.1 = true then ∀ a dd, q.2.2 a dd (putX q.1 a dd x s) (goneE q.1 E) noX else selD E PX r c x s
@[simp] def dTry (L : List Str) (t : TSd) (hs : List HdD) : TSd := fun s E PX => t s E (fun c x s' => c ∈ L ∧ selD E PX hs c x s')
def tsOf (g : G) (L : List Str) (u : Addr → Addr → TSd) : Addr → Value → Option Addr → TS := fun a cls d D σ H => ∃ dd c, d = some dd ∧ cls = .ref (g.CA c) ∧ c ∈ L ∧ lS g W0 (u a dd) D σ H
def clsOf (g : G) (L : List Str) (hs : List HdD) : List Cls := hs.map fun q => (q.1, .ref (g.CA q.2.1), tsOf g L q.2.2)
theorem SOk.gone {E : EK} {D : Ends} (k : SOk g w H E D) : ∀ o : Option Nat, SOk g w H (goneE o E) (endOf o D)
  | none => k
  | some i => ⟨fun s2 w2 H2 σ2 p m r => k.nx _ w2 H2 _ p m r.setNo, fun s2 w2 H2 σ2 p m r => k.bk _ w2 H2 _ p m r.setNo, fun s2 w2 H2 σ2 p m r => k.ct _ w2 H2 _ p m r.setNo, k.rt⟩
theorem RS.putX {a dd : Addr} {x : D} {v : V} (r : RS g w H σ s) (h : XdAt w H dd v) (q : Rep g w H x v) : ∀ o : Option Nat, RS g w H (slotOf o σ a) (DL.putX o a dd x s)
  | none => r
  | some i => r.put fun σ' e => ⟨.ref a, e, by simp only [Rep]; exact ⟨v, trivial, h.1, h.2, q⟩⟩
theorem sel_ok {L : List Str} {Dn : Ends} {E : EK} {PX : KX} (k : SOk g w H E Dn) (kx : XOkS g w H PX W) (av : ∀ x, x ∈ w.av → some x ∉ w.cs ∧ ∃ o, H x = some o) {K : PySem.W.Frag} {c : Str} {x : D} {s' : S} {w' : Cs} {H' : Hp} {σ' : L2.St} {dd : Addr} {v : V} (hL : c ∈ L) (m : Mv w H w' H') (rs : RS g w' H' σ' s') (hd : XdAt w' H' dd v) (rp : Rep g w' H' x v) :
    ∀ hs : List HdD, (∀ q ∈ hs, PySem.W.exmOne K (.ref (g.CA c)) (.ref (g.CA q.2.1)) = some (subE c q.2.1)) → selD E PX hs c x s' → wH K W Dn (clsOf g L hs) (.ref (g.CA c)) (some dd) σ' H'
  | [], _, h => kx c x s' w' H' σ' dd v h m rs hd rp
  | q :: r, he, h => by
    refine ⟨subE c q.2.1, he q List.mem_cons_self, fun e a na => ?_, fun e => ?_⟩
    · simp only [selD, e, if_true] at h
      exact ⟨dd, c, rfl, rfl, hL, w', _, _, noX, rs.putX hd rp q.1, h a dd, (k.mv m av).gone q.1, fun _ _ _ _ _ _ _ _ z => z.elim⟩
    · simp only [selD, e, Bool.false_eq_true, if_false] at h
      exact sel_ok k kx av hL m rs hd rp r (fun q hq => he q (List.mem_cons_of_mem _ hq)) h
theorem ds_try {L : List Str} {body : List Stmt} {h0 : ExceptHandler} {hds : List ExceptHandler} {t : TSd} {hs : List HdD} (es : X.stack = X.env :: X.outer) (ef : X.env.frame = some X.env.locals) (tk : Takes X W)
    (hb : ∀ (W' : WX) (pn : List (Addr × Obj)) (xe : Value → Shared → Prop), Takes (X.tr pn xe) W' → PassesOwn (model X.prog X.w) X.A X.env xe → PSs (X.tr pn xe) body (lS g W' t))
    (he : ∀ c ∈ L, ∀ q ∈ hs, PySem.W.exmOne X.K (.ref (g.CA c)) (.ref (g.CA q.2.1)) = some (subE c q.2.1)) (hh : Hs2 X (h0 :: hds) (clsOf g L hs)) :
    PS X (.Try body (h0 :: hds) [] [] pos) (lS g W (dTry L t hs)) := ps_imp (ps_try_hs (l := clsOf g L hs) es ef tk hb hh) fun D σ H ⟨w, s, E, PX, rs, h, k, x⟩ =>
  ⟨w, s, E, _, rs, h, k, fun c x' s' w' H' σ' dd v ⟨hL, z⟩ m rs' hd rp => sel_ok k x rs.mem.av hL m rs' hd rp hs (fun q hq => he c hL q hq) z⟩
theorem suite_ok {L : List Str} {u : Addr → Addr → TSd} {a : Addr} {oe : Obj} {cls : Value} {d : Option Addr} {pn : List (Addr × Obj)} {bs : List Stmt} (h : ∀ dd c, c ∈ L → cls = .ref (g.CA c) → d = some dd → PSs (X.suite a ((a, oe) :: pn)) bs (lS g W0 (u a dd))) : PSs (X.suite a ((a, oe) :: pn)) bs (tsOf g L u a cls d) :=
  ⟨fun pins s σ H D I ⟨dd, c, e1, e2, hL, z⟩ => (h dd c hL e2 e1).run pins s σ H D I z⟩
@[simp] def dWhat (i : Nat) (a dd : Addr) : TD := fun s P _ => ∃ x, s.r[i]? = some (.dat (.xc a dd x)) ∧ P x s
theorem de_what {c : Str} {a dd fI : Addr} {oe : Obj} {cls : Value} {d : Option Addr} {pn : List (Addr × Obj)} {n : Str} {p : Pos} (i : Nat) (T : ErrC X.K (g.CA c) fI) (hz : Zc cls d oe) (hf : ∃ vs, oe.data = .fields vs) (ec : cls = .ref (g.CA c)) (ed : d = some dd)
    (he : PE (X.suite a ((a, oe) :: pn)) (.Name n p) (tVar i)) (hb : attributeBase (.Name n p) "what" X.env (eval (.Name n p) X.env) = eval (.Name n p) X.env := by rfl) : PE (X.suite a ((a, oe) :: pn)) (.Attribute (.Name n p) "what" pos) (lE g W0 (dWhat i a dd)) :=
  pe_imp (pe_xf T.xf T.wh hz hf he hb) fun σ H Q ⟨w, s, P, PX, rs, h, k, x⟩ => by
    obtain ⟨y, ey, h⟩ := h
    obtain ⟨u, eu, ru⟩ := rs.slot i _ ey
    simp only [Rep] at ru
    obtain ⟨z, e1, nb, hd, rz⟩ := ru
    subst e1
    exact ⟨.ref a, eu, rfl, ec, dd, _, z, ed, hd, by simp [List.lookup], k y s H z h (HExt.refl _ _) rs rz⟩
end
end DL
namespace DL
def caOf (K : PySem.W.Frag) (c : PySem.Str) : PySem.Addr := match PySem.W.nsIn K PySem.mainGlobals c with
  | some (some (.ref a)) => a
  | _ => 0
def gOf (K : PySem.W.Frag) (TA : List PySem.Addr := []) : G := ⟨K, caOf K, TA⟩
end DL
namespace DL
open PySem
theorem exm_mk {K : PySem.W.Frag} {s c : Addr} {b : Bool} (hb : PySem.W.subIn K (.ref c) (.type "BaseException") = some true) (hc : PySem.W.isClsIn K c = true) (ht : PySem.W.typeIn K (.ref c) = some (.type "type")) (hs : PySem.W.subIn K (.ref s) (.ref c) = some b) : PySem.W.exmOne K (.ref s) (.ref c) = some b := by
  have hc : (PySem.W.clsIn K c).isSome = true := hc
  have one : (PySem.W.subIn K (.ref c) (.type "BaseException") == some true) = true := by rw [hb]; rfl
  have two : ((PySem.W.clsIn K c).isSome && PySem.W.typeIn K (.ref c) == some (.type "type")) = true := by rw [hc, ht]; rfl
  unfold PySem.W.exmOne
  rw [if_pos one]
  exact (if_pos two).trans hs
end DL
namespace DL
open PySem L2
section
variable {X : Cx} {g : G} {W : WX} {e : Expr} {ta td : TD}
@[simp] def dIns (i : Nat) (ta td : TD) : TD := fun s P X => ∃ c, s.r[i]? = some (.cell c) ∧ isLst s.M[c]? ∧ ta s (fun y s1 => td s1 (fun d s2 => ∃ ds j, s2.M[c]? = some (some (.lst ds)) ∧ y = .int j ∧ 0 ≤ j ∧ j < 2 ^ 63 ∧ ds.length < sizeLine ∧ P .non { s2 with M := s2.M.set c (some (.lst (ds.take j.toNat ++ [d] ++ ds.drop j.toNat))) }) X) X
abbrev rIns : V → List V → Hp → VK → Prop := fun x vs H Q => ∃ (l : Addr) (xs : List V) (i : Int) (y : V), x = .ref l ∧ vs = [.int i, y] ∧ H l = some (.lst xs) ∧ xs.length < sizeLine ∧ 0 ≤ i ∧ i < 2 ^ 63 ∧ Q .non (upd H l (.lst (xs.take i.toNat ++ [y] ++ xs.drop i.toNat)))
@[simp] def dTruC (i : Nat) : TDB := fun s P _ => ∃ c ds, s.r[i]? = some (.cell c) ∧ s.M[c]? = some (some (.lst ds)) ∧ P (!ds.isEmpty) s
end
end DL
namespace DL
open PySem L2 PySem.Spec PyProof.Rows
structure FldC (K : PySem.W.Frag) (C fI : Addr) : Prop where
  cl : L2.Cls K C
  na : ∀ f ∈ (["n", "strengths", "guards"] : List Str), NoAttr K C f
  mks : Mk K C fI
section
variable {X : Cx} {g : G} {W : WX} {pos : Pos} {e e2 : Expr} {te te2 : TD} {w : Cs} {H H' : Hp} {σ : L2.St} {s : S}
theorem RepF.get {f : Str} : ∀ {fs : List (Str × D)} {fv : List (Str × V)} {v : D}, RepF g w H fs fv → fs.lookup f = some v → ∃ u, fv.lookup f = some u ∧ Rep g w H v u
  | [], _, _, _, h => by simp at h
  | p :: fs, fv, v, hr, h => by
    simp only [RepF] at hr
    obtain ⟨u, r, e, q, z⟩ := hr
    subst e
    obtain ⟨k, d⟩ := p
    by_cases c : f = k
    · subst c
      simp [List.lookup] at h ⊢
      subst h
      exact q
    · have c' : (f == k) = false := by simpa using c
      simp only [List.lookup, c'] at h ⊢
      exact RepF.get z h
@[simp] def dFld (te : TD) (c f : Str) : TD := fun s P X => te s (fun d s1 => ∃ fs v, d = .ins c fs ∧ fs.lookup f = some v ∧ P v s1) X
def spFI (K : PySem.W.Frag) : Sp := fun vs H Q _ => ∃ (a C dx t1 fI : Addr) (xs : List V) (gv : V), vs = [.ref a, .ref t1, gv] ∧ FldC K C fI ∧ H a = some (.ins C dx []) ∧ H t1 = some (.tup xs) ∧
  Q .non (upd H a (.ins C dx [(("n" : Str), .int xs.length), (("strengths" : Str), .ref t1), (("guards" : Str), gv)]))
@[simp] def dMkF (c : Str) (t : TDA) : TD := fun s P X => t s (fun xs s1 => ∃ ds y, xs = [.dat (.tup ds), .dat y] ∧ P (.ins c [("n", .int ds.length), ("strengths", .tup ds), ("guards", y)]) s1) X
theorem dt_chain {a b c : Expr} {ta tb tc : TD} {op op' : CmpOp} {r r' : R2} {rd rd' : RD} (h : PT X (.Compare a [op, op'] [b, c] pos) (tTest (tChain r r' (lE g W ta) (lE g W tb) (lE g W tc)))) (hr : ∀ x y H Q, lR g rd x y H Q → r x y H Q) (hr' : ∀ x y H Q, lR g rd' x y H Q → r' x y H Q) :
    PT X (.Compare a [op, op'] [b, c] pos) (lB g W (dT (dChain rd rd' ta tb tc))) := pt_imp h (lT_of (lE_chain hr hr'))
end
end DL
namespace DL
open PySem L2 PySem.Spec PyProof.Rows
def tyD : D → Option String
  | .non => some "NoneType"
  | .bl _ => some "bool"
  | .int _ => some "int"
  | .str _ => some "str"
  | .tup _ => some "tuple"
  | .lst _ => some "list"
  | _ => none
@[simp] def isT (T : String) : D → Option Bool
  | .non => some (T == "NoneType")
  | .bl _ => some (T == "bool" || T == "int")
  | .int _ => some (T == "int")
  | .str _ => some (T == "str")
  | .tup _ => some (T == "tuple")
  | .lst _ => some (T == "list")
  | _ => none
section
variable {X : Cx} {g : G} {W : WX} {pos : Pos} {e : Expr} {te : TD} {w : Cs} {H : Hp}
theorem Rep.tyX {d : D} {v : V} {t : String} (h : Rep g w H d v) (e : tyD d = some t) : TyX X.K H v (.type t) := by
  cases d <;> simp only [tyD, Option.some.injEq, reduceCtorEq] at e <;> subst e <;> simp only [Rep] at h
  · subst h; exact .base .non
  · subst h; exact .base (.bl _)
  · subst h; exact .base (.int _)
  · subst h; exact .base (.str _)
  · obtain ⟨a, vs, e, n, hp, rv⟩ := h; subst e; exact .base (.tup hp)
  · obtain ⟨a, vs, e, n, hp, rv⟩ := h; subst e; exact .base (.lst hp)
structure KitT (T : String) : Prop where
  ok : ∀ t ∈ ["NoneType", "bool", "int", "str", "tuple", "list"], kitB t T = some (T == t || (t == "bool" && T == "int"))
theorem kit_int : KitT "int" := ⟨by decide +kernel⟩
theorem kit_bool : KitT "bool" := ⟨by decide +kernel⟩
theorem kit_tuple : KitT "tuple" := ⟨by decide +kernel⟩
@[simp] def dIsT (T : String) (te : TD) : TD := fun s P X => te s (fun d s1 => ∃ b, isT T d = some b ∧ P (.bl b) s1) X
theorem de_isT {T : String} {y : Str} {p q : Pos} (kt : KitT T) (hT : T = "int" ∨ T = "bool" ∨ T = "tuple" ∨ T = "str") (hg : Gl X "isinstance") (hm : X.mg "isinstance" = none) (he : PE X e (lE g W te)) (ht : PE X (.Name y q) (tC (.ty T))) (hs : starEach (e :: [.Name y q]) X.env = (false, eval e X.env) :: starEach [.Name y q] X.env := by rfl)
    (hs2 : starEach (.Name y q :: []) X.env = (false, eval (.Name y q) X.env) :: starEach [] X.env := by rfl) (hpl : (backTo pos (starEach [.Name y q] X.env)).any (·.1) = false := by rfl) :
    PE X (.Call (.Name "isinstance" p) (e :: [.Name y q]) [] pos) (lE g W (dIsT T te)) := pe_imp (pe_callB call_isi hg hm PyProof.Rows.boot_isinstance (pa_cons he (pa_cons ht pa_nil hs2) hs) (by decide) (by decide) hs hpl) fun σ H Q ⟨w, s, P, PX, rs, h, k, x⟩ =>
  ⟨w, s, _, PX, rs, h, fun d s1 H1 v q1 e1 rs1 rp => by
    obtain ⟨b, eb, q1⟩ := q1
    have key : ∀ t, tyD d = some t → t ∈ ["NoneType", "bool", "int", "str", "tuple", "list"] → (T == t || (t == "bool" && T == "int")) = b → rIsi X.K [v, .ty T] H1 Q := fun t e1' mt eb' =>
      ⟨v, .ty T, .type t, .type T, b, rfl, .ty T, rp.tyX e1', kit_ty (by rw [kt.ok t mt, eb']), k (.bl b) s1 H1 _ q1 e1 rs1 (by simp only [Rep])⟩
    have fin : ∃ t, tyD d = some t ∧ t ∈ ["NoneType", "bool", "int", "str", "tuple", "list"] ∧ (T == t || (t == "bool" && T == "int")) = b := by
      cases d <;> simp only [isT, Option.some.injEq, reduceCtorEq] at eb <;> subst eb <;> refine ⟨_, rfl, by decide, ?_⟩ <;> rcases hT with rfl | rfl | rfl | rfl <;> decide
    obtain ⟨t, h1, h2, h3⟩ := fin
    exact key t h1 h2 h3, x⟩
end
end DL
namespace DL
open PySem L2 PySem.Spec PyProof.Rows
def pick {α : Type} (p : List Nat) (l : List α) : List α := p.filterMap (l[·]?)
section
variable {X : Cx} {CX : CXT} {k n : Nat} {f : Addr} {fd : FuncData} {ps ks : List Str} {sp : Sp} {E : L2.St → XK} {x : Str} {p pos : Pos} {e : Expr} {es : List Expr} {kws : List Keyword} {t tk : TA} {g : List Value → List Value → List Value} {gV : List V → List V → List V}
def tCallNS (n m : Nat) (sp : Sp) (gV : List V → List V → List V) (E : L2.St → XK) (t tk : TA) : TE := fun σ H Q => t σ H fun vs H1 => tk σ H1 fun zs H2 => vs.length = n ∧ zs.length = m ∧ sp (gV vs zs) H2 Q (E σ)
end
section
variable {X : Cx} {g : G} {W : WX} {pos kpos : Pos} {a b c e : Expr} {ta tb tc : TD} {w : Cs} {H H' : Hp} {σ : L2.St} {s : S} {kws : List Keyword} {tr : TDA} {nm : Option Str}
theorem ArgOk.ext (e : HExt w H H') : ∀ {xs : List Sl} {vs : List V}, ArgOk g w H xs vs → ArgOk g w H' xs vs
  | [], _, h => h
  | .no :: _, _, h => h
  | .dat d :: xs, _, ⟨v, r, ev, q, z⟩ => ⟨v, r, ev, q.mv (.of_ext e), ArgOk.ext e z⟩
  | .cell c :: xs, _, ⟨a, r, ev, q, z⟩ => ⟨a, r, ev, q, ArgOk.ext e z⟩
theorem ArgOk.app : ∀ {xs ys : List Sl} {vs us : List V}, ArgOk g w H xs vs → ArgOk g w H ys us → ArgOk g w H (xs ++ ys) (vs ++ us)
  | [], _, _, _, h, k => by have h : _ = [] := h; subst h; exact k
  | .no :: _, _, _, _, h, _ => h.elim
  | .dat d :: xs, _, _, _, ⟨v, r, ev, q, z⟩, k => by subst ev; exact ⟨v, _, rfl, q, ArgOk.app z k⟩
  | .cell c :: xs, _, _, _, ⟨a, r, ev, q, z⟩, k => by subst ev; exact ⟨a, _, rfl, q, ArgOk.app z k⟩
theorem ArgOk.cons_at : ∀ {xs : List Sl} {vs : List V}, ArgOk g w H xs vs → ∀ {i : Nat} {x : Sl}, xs[i]? = some x → ∃ v, vs[i]? = some v ∧ ∀ {ys : List Sl} {us : List V}, ArgOk g w H ys us → ArgOk g w H (x :: ys) (v :: us)
  | [], _, h, i, x, e => by simp at e
  | .no :: _, _, h, _, _, _ => h.elim
  | .dat d :: xs, _, ⟨v, r, ev, q, z⟩, i, x, e => by
    subst ev
    cases i with
    | zero => cases e; exact ⟨v, rfl, fun k => ⟨v, _, rfl, q, k⟩⟩
    | succ i => exact ArgOk.cons_at z (by simpa using e)
  | .cell c :: xs, _, ⟨a, r, ev, q, z⟩, i, x, e => by
    subst ev
    cases i with
    | zero => cases e; exact ⟨_, rfl, fun k => ⟨a, _, rfl, q, k⟩⟩
    | succ i => exact ArgOk.cons_at z (by simpa using e)
theorem ArgOk.pick {xs : List Sl} {vs : List V} (h : ArgOk g w H xs vs) : ∀ p : List Nat, ArgOk g w H (pick p xs) (pick p vs)
  | [] => rfl
  | i :: p => by
    have ih := ArgOk.pick h p
    unfold DL.pick at ih ⊢
    rw [List.filterMap_cons, List.filterMap_cons]
    cases e : xs[i]? with
    | none =>
      have e2 : vs[i]? = none := by
        rw [List.getElem?_eq_none_iff] at e ⊢
        rw [h.len]; exact e
      simp only [e2]
      exact ih
    | some v =>
      obtain ⟨u, hu, ru⟩ := h.cons_at e
      simp only [hu]
      exact ru ih
@[simp] def dCallK (spd : SpD) (n m : Nat) (p : List Nat) (t u : TDA) : TD := fun s P X => t s (fun xs s1 => u s1 (fun ys s2 => xs.length = n ∧ ys.length = m ∧ callM spd (pick p (xs ++ ys)) s2 P X) X) X
@[simp] theorem pick_nil {α : Type} (l : List α) : pick [] l = [] := rfl
@[simp] theorem pick_cons {α : Type} (i : Nat) (p : List Nat) (l : List α) : pick (i :: p) l = (match l[i]? with | some x => x :: pick p l | none => pick p l) := by
  unfold pick
  rw [List.filterMap_cons]
  cases l[i]? <;> rfl
end
section
variable {X : Cx} {g : G} {W : WX} {pos p2 : Pos} {e st : Expr} {te : TE} {ts : TO} {ta : TD} {tl : TDO}
def tBack (K : PySem.W.Frag) (te : TE) (ts : TO) : TE := fun σ H Q => te σ H fun x H1 => ts σ H1 fun o H2 => o = some (-1) ∧ ∃ a xs, x = .ref a ∧ SqL K H2 a xs ∧ ∀ p, H2 p = none → Q (.ref p) (upd H2 p (.lst xs.reverse))
variable {w : Cs} {H : Hp} {σ : L2.St} {s : S} {i : Int} {j : Nat} {cp up : Pos}
@[simp] def dBackF (ta : TD) : TDF := fun s P X => ta s (fun x s1 => ∃ ds, x = .lst ds ∧ P ds.reverse s1) X
end
end DL
namespace DL
open PySem L2
theorem map_erase {α β : Type} (f : α → β) : ∀ (l : List α) (k : Nat), (l.map f).eraseIdx k = (l.eraseIdx k).map f
  | [], _ => rfl
  | _ :: _, 0 => rfl
  | x :: l, k + 1 => by simp [map_erase f l k]
theorem OkN.str (k : Nat) {i : Str} (h : PyData.strOk i = true) : OkN k (.str i) := ⟨by simpa [toPy, PyData.canLay0] using h, by simp [toPy, PyData.depth]⟩
@[simp] theorem ex_par {α β : Type} {a : α} {b : β} {Q : α → β → Prop} : (∃ x y, (a = x ∧ b = y) ∧ Q x y) ↔ Q a b := ⟨fun ⟨_, _, ⟨e1, e2⟩, q⟩ => by rw [e1, e2]; exact q, fun q => ⟨_, _, ⟨rfl, rfl⟩, q⟩⟩
@[simp] theorem ex_par3 {α : Type} {a b c : α} {Q : α → α → α → Prop} : (∃ x y z, (a = x ∧ b = y ∧ c = z) ∧ Q x y z) ↔ Q a b c := ⟨fun ⟨_, _, _, ⟨e1, e2, e3⟩, q⟩ => by rw [e1, e2, e3]; exact q, fun q => ⟨_, _, _, ⟨rfl, rfl, rfl⟩, q⟩⟩
@[simp] theorem okD_intsL (xs : List Int) : okD (.lst (xs.map D.int)) = true := (OkN.lst (OkN.ofInts 0 xs)).ok
inductive Ans | err (s : Str) (x : Int) | bl (b : Bool) | seq (L : List Int) | num (i : Int) | non
@[simp] def Ans.ok : Ans → Prop
  | .err s _ => PyData.strOk s = true
  | .seq L => L.length ≤ 1000000
  | _ => True
def ansD : Ans → D
  | .err s x => .lst [.str s, .int x]
  | .bl b => .lst [.bl b]
  | .seq L => .lst [tupI L]
  | .num i => .lst [.int i]
  | .non => .lst [.non]
def fldD (ss gs : List Int) : D := .ins "Field" [("n", .int ss.length), ("strengths", tupI ss), ("guards", tupI gs)]
def outI (s : Int) : Bool := !(decide (-1000000000 ≤ s) && decide (s ≤ 1000000000))
def firstOutK : Nat → List Int → Option Nat
  | _, [] => none
  | k, s :: l => if outI s = true then some k else firstOutK (k + 1) l
def firstOut (l : List Int) : Option Nat := firstOutK 0 l
def badF (ss gs : List Int) : Option (Str × Int) :=
  if ss.length < 1 ∨ 32 < ss.length then some ("BadSize", ss.length) else match firstOut ss with
  | some i => some ("BadStrength", (i : Int))
  | none => if gs.length ≠ ss.length then some ("Unlike", gs.length) else match firstOut gs with
    | some i => some ("BadGuard", (i : Int))
    | none => none
def rangeI (n : Nat) : List Int := (List.range n).map fun (i : Nat) => (i : Int)
theorem rangeI_len (n : Nat) : (rangeI n).length = n := by simp [rangeI]
theorem rangeI_mem {n : Nat} {x : Int} : x ∈ rangeI n ↔ 0 ≤ x ∧ x < n := by
  unfold rangeI
  rw [List.mem_map]
  constructor
  · rintro ⟨i, hi, rfl⟩
    have := List.mem_range.mp hi
    omega
  · rintro ⟨h0, h1⟩
    exact ⟨x.toNat, List.mem_range.mpr (by omega), by omega⟩
def spShuf : SpD := fun xs M P _ => ∃ (n a b : Int), xs = [.cell 0, .dat (.int n)] ∧ M = [src a b] ∧ Good a b ∧ 0 ≤ n ∧ n ≤ 1000 ∧ ∀ (L : List Int) a' b', L.Perm (rangeI n.toNat) → Good a' b' → P (.lst (L.map .int)) [src a' b']
def spNum : SpD := fun xs M P _ => ∃ d, xs = [.dat d] ∧ M = [] ∧ (isT "int" d).isSome = true ∧ P (.bl (match d with | .int _ => true | _ => false)) []
def spAlike : SpD := fun xs M P _ => ∃ r : Ans, r.ok ∧ xs = [.dat (ansD r), .dat (ansD r)] ∧ M = [] ∧ P (.bl true) []
def spFar : SpD := fun xs M P _ => ∃ (n a b : Int), xs = [.cell 0, .dat (.int n)] ∧ M = [src a b] ∧ Good a b ∧ 0 ≤ n ∧ n ≤ 1000 ∧ ∀ x a' b', (x < 0 ∨ n ≤ x) → Good a' b' → P (.int x) [src a' b']
def spFieldL : SpD := fun xs M P _ => ∃ (n a b : Int), xs = [.cell 0, .dat (.int n)] ∧ M = [src a b] ∧ Good a b ∧ 1 ≤ n ∧ n ≤ 1000 ∧
  ∀ (ss gs : List Int) a' b', (ss.length : Int) = n → (gs.length : Int) = n → (∀ v ∈ ss, 0 ≤ v ∧ v ≤ n + 2) → (∀ v ∈ gs, 0 ≤ v ∧ v ≤ n + 2) → Good a' b' → P (.tup [.lst (ss.map .int), .lst (gs.map .int)]) [src a' b']
def spMade : SpD := fun xs M P PX => ∃ ss gs, xs = [.dat (tupI ss), .dat (tupI gs)] ∧ M = [] ∧ match badF ss gs with
  | some (c, x) => PX c (.int x) []
  | none => P (fldD ss gs) []
def sideBad (n : Int) : Int → List Int → Option Int
  | _, [] => none
  | last, x :: xs => if last < x ∧ x < n then sideBad n x xs else some x
def spSideRow : SpD := fun xs M P PX => ∃ (n : Int) (d : D) (L : List Int), xs = [.dat (.int n), .dat d] ∧ seqD d = some (L.map .int) ∧ M = [] ∧ match sideBad n (-1) L with
  | some x => PX "BadSide" (.int x) []
  | none => P .non []
def tdShuf : TSd :=
  dSeq (dPar 2 3 (dConsF (dLc (dRange1 (dCons (dVar 1) (dNil))) (dgName 4) (dYes) (dVar 4) [4]) (dConsF (dLst (dNil)) (dNil))))
  (dSeq (dFor (dRange1 (dCons (dVar 1) (dNil))) (dgName 5) (dDrop (dMeth1 3 fAppend (dMeth1 2 fPopAt (dCall spTake (dConsC 0 (dCons (dCB rLenD (dConsC 2 (dNil))) (dNil))))))))
  (dFreeze 3 (dRet (dVar 3))))
def tdNum : TSd :=
  dRet (dAndV (dIsT "int" (dVar 0)) (dNotV (dIsT "bool" (dVar 0))))
def tdAlike : TSd :=
  dSeq (dIfS (dT (dOp rNeD' (dVar 0) (dVar 1))) (dRet (dC (.bl false))) (dNext))
  (dSeq (dIfS (dT (dOp rEqD' (dCB rLenD (dCons (dVar 1) (dNil))) (dC (.int 2)))) (dRet (dC (.bl true))) (dNext))
  (dSeq (dPar 2 3 (dCons (dOp rIxD (dVar 0) (dC (.int 0))) (dCons (dOp rIxD (dVar 1) (dC (.int 0))) (dNil))))
  (dSeq (dIfS (dOr (dTru (dIsT "bool" (dVar 3))) (dTru (dIsT "bool" (dVar 2)))) (dRet (dAndV (dIsT "bool" (dVar 3)) (dIsT "bool" (dVar 2)))) (dNext))
  (dSeq (dIfS (dTru (dIsT "tuple" (dVar 3))) (dRet (dAndV (dIsT "tuple" (dVar 2)) (dOp rEqD' (dF (dLc (dIter (dVar 2)) (dgName 4) (dNot (dTru (dCall spNum (dCons (dVar 4) (dNil))))) (dVar 4) [4])) (dF (dLst (dNil)))))) (dNext))
  (dRet (dOrV (dOp rIsN (dVar 3) (dC .non)) (dCall spNum (dCons (dVar 2) (dNil)))))))))
def tdFar : TSd :=
  dRet (dCall spOne (dConsC 0 (dCons (dF (dLst (dCons (dVar 1) (dCons (dUn rNegD (dC (.int 1))) (dCons (dOp rAddD (dOp rAddD (dVar 1) (dC (.int 1))) (dCall spTake (dConsC 0 (dCons (dC (.int 90)) (dNil))))) (dCons (dOp rSubD (dUn rNegD (dC (.int 2))) (dCall spTake (dConsC 0 (dCons (dC (.int 90)) (dNil))))) (dCons (dOp rPowD (dC (.int 10)) (dC (.int 20))) (dCons (dUn rNegD (dOp rPowD (dC (.int 10)) (dC (.int 20)))) (dNil))))))))) (dNil))))
def tdFieldL : TSd :=
  dSeq (dAsg (dTup (dCons (dCall spTake (dConsC 0 (dCons (dC (.int 3)) (dNil)))) (dCons (dOp rAddD (dC (.int 1)) (dCall spTake (dConsC 0 (dCons (dOp rAddD (dVar 1) (dC (.int 2))) (dNil))))) (dCons (dCall spShuf (dConsC 0 (dCons (dVar 1) (dNil)))) (dNil))))) (dgTup 3 (dgsCons (dgName 2) (dgsCons (dgName 3) (dgsCons (dgName 4) (dgsNil))))))
  (dSeq (dSet 5 (dF (dLc (dRange1 (dCons (dVar 1) (dNil))) (dgName 6) (dYes) (dCall spTake (dConsC 0 (dCons (dVar 3) (dNil)))) [6])))
  (dSeq (dSet 7 (dF (dLc (dRange1 (dCons (dVar 1) (dNil))) (dgName 6) (dYes) (dCall spTake (dConsC 0 (dCons (dVar 3) (dNil)))) [6])))
  (dSeq (dIfS (dT (dOp rEqD' (dVar 2) (dC (.int 0)))) (dRet (dTup (dCons (dVar 4) (dCons (dVar 4) (dNil))))) (dNext))
  (dSeq (dIfS (dT (dOp rEqD' (dVar 2) (dC (.int 1)))) (dRet (dTup (dCons (dVar 5) (dCons (dVar 5) (dNil))))) (dNext))
  (dRet (dTup (dCons (dVar 5) (dCons (dVar 7) (dNil)))))))))
def tdMade : TSd :=
  dSeq (dIfS (dNot (dT (dChain rLeD rLeD (dC (.int 1)) (dCB rLenD (dCons (dVar 0) (dNil))) (dC (.int 32))))) (dRaise "BadSize" (dCB rLenD (dCons (dVar 0) (dNil)))) (dNext))
  (dSeq (dFor (dEnum (dCons (dVar 0) (dNil))) (dgTup 2 (dgsCons (dgName 2) (dgsCons (dgName 3) (dgsNil)))) (dIfS (dNot (dT (dChain rLeD rLeD (dUn rNegD (dC (.int 1000000000))) (dVar 3) (dC (.int 1000000000))))) (dRaise "BadStrength" (dVar 2)) (dNext)))
  (dSeq (dIfS (dT (dOp rNeD' (dCB rLenD (dCons (dVar 1) (dNil))) (dCB rLenD (dCons (dVar 0) (dNil))))) (dRaise "Unlike" (dCB rLenD (dCons (dVar 1) (dNil)))) (dNext))
  (dSeq (dFor (dEnum (dCons (dVar 1) (dNil))) (dgTup 2 (dgsCons (dgName 2) (dgsCons (dgName 4) (dgsNil)))) (dIfS (dNot (dT (dChain rLeD rLeD (dUn rNegD (dC (.int 1000000000))) (dVar 4) (dC (.int 1000000000))))) (dRaise "BadGuard" (dVar 2)) (dNext)))
  (dRet (dMkF "Field" (dCons (dVar 0) (dCons (dVar 1) (dNil))))))))
def tdSideRow : TSd :=
  dSeq (dSet 2 (dUn rNegD (dC (.int 1))))
  (dFor (dIter (dVar 1)) (dgName 3) (dSeq (dIfS (dNot (dT (dChain rLtD rLtD (dVar 2) (dVar 3) (dVar 0)))) (dRaise "BadSide" (dVar 3)) (dNext))
  (dSet 2 (dVar 3))))
abbrev N_shuf : List Str := ["_law_source", "_law_count", "_law_left", "_law_found", "_law_x", "_law_turn"]
abbrev N_num : List Str := ["_law_thing"]
abbrev N_far : List Str := ["_law_source", "_law_n"]
abbrev N_fieldL : List Str := ["_law_source", "_law_n", "_law_kind", "_law_top", "_law_names", "_law_low", "_law_x", "_law_high"]
abbrev N_made : List Str := ["strengths", "guards", "index", "strength", "guard"]
abbrev N_sideRow : List Str := ["n", "sides", "last", "x"]
end DL
namespace DL
open PySem L2
@[simp] theorem cutD_all (ds : List D) : cutD ds none none = ds := by simp [cutD, HT.sIx_none]
def spRight : SpD := fun xs M P _ => ∃ a b, xs = [.cell 0] ∧ M = [src a b] ∧ Good a b ∧ ∀ a' b', Good a' b' → P (.bl true) [src a' b']
def spLaw : SpD := fun xs M P _ => ∃ ns : List Int, xs = [.dat (.fl (ns.map .int))] ∧ M = [] ∧ P (.bl true) []
def tdLaw (c : Int) (sp : SpD) : TSd :=
  dSeq (dFor (dRange1 (dCons (dCB (r2I fun i j => if j > i then j else i) (dCons (dC (.int 1)) (dCons (dCB (r2I fun i j => if j < i then j else i) (dCons (dCB rLenD (dCons (dVar 0) (dNil))) (dCons (dC (.int c)) (dNil)))) (dNil)))) (dNil))) (dgName 1) (dIfS (dNot (dTru (dCallNew sp (dCallF spPool (dCons (dVar 0) (dCons (dVar 1) (dNil))))))) (dRet (dC (.bl false))) (dNext)))
  (dRet (dC (.bl true)))
def atG (gs : List Int) (x : Int) : Int := gs.getD x.toNat 0
def keyP (gs : List Int) (x : Int) : Int × Int := (-(atG gs x), x)
def stairOf (gs : List Int) (L : List Int) : List Int := (sortP (L.map (keyP gs))).map (·.2)
def Asc (n : Int) (L : List Int) : Prop := L.Pairwise (· < ·) ∧ ∀ x ∈ L, 0 ≤ x ∧ x < n
theorem asc_sideBad {n : Int} : ∀ {L : List Int} {last : Int}, (∀ x ∈ L, last < x ∧ x < n) → L.Pairwise (· < ·) → sideBad n last L = none
  | [], _, _, _ => rfl
  | x :: L, last, h, p => by
    unfold sideBad
    rw [if_pos (h x List.mem_cons_self)]
    have p := List.pairwise_cons.mp p
    exact asc_sideBad (fun y hy => ⟨p.1 y hy, (h y (List.mem_cons_of_mem _ hy)).2⟩) p.2
theorem Asc.ok {n : Int} {L : List Int} (h : Asc n L) : sideBad n (-1) L = none := asc_sideBad (fun x hx => by have := h.2 x hx; omega) h.1
def bestOf (gs : List Int) : Int → List Int → Int
  | b, [] => b
  | b, x :: r => if atG gs b < atG gs x then bestOf gs x r else bestOf gs b r
end DL
namespace DL
theorem rangeI_asc (n : Nat) : (rangeI n).Pairwise (· < ·) := by
  unfold rangeI
  refine List.pairwise_map.mpr (List.pairwise_lt_range.imp fun h => ?_)
  omega
end DL
namespace DL
open PySem
@[simp] theorem fl_n (a b c : D) : List.lookup ("n" : Str) [("n", a), ("strengths", b), ("guards", c)] = some a := rfl
@[simp] theorem fl_s (a b c : D) : List.lookup ("strengths" : Str) [("n", a), ("strengths", b), ("guards", c)] = some b := rfl
@[simp] theorem fl_g (a b c : D) : List.lookup ("guards" : Str) [("n", a), ("strengths", b), ("guards", c)] = some c := rfl
end DL
namespace DL
open PySem L2 PySem.Spec PyProof.Rows
def dedupI : List Int → List Int
  | [] => []
  | x :: l => if x ∈ l then dedupI l else x :: dedupI l
theorem nodup_le {l : List Int} : ∀ {m : List Int}, l.Nodup → (∀ k ∈ l, k ∈ m) → l.length ≤ m.length := by
  induction l with
  | nil => intro m _ _; exact Nat.zero_le _
  | cons x l ih =>
    intro m nd h
    have nd := List.nodup_cons.mp nd
    have hx := h x List.mem_cons_self
    have := ih (m := m.erase x) nd.2 fun k hk => (List.mem_erase_of_ne (fun z => nd.1 (by rw [← z]; exact hk))).mpr (h k (List.mem_cons_of_mem _ hk))
    rw [List.length_erase_of_mem hx] at this
    have := List.length_pos_of_mem hx
    rw [List.length_cons]
    omega
theorem nodup_len {l m : List Int} (h1 : l.Nodup) (h2 : m.Nodup) (h : ∀ k, k ∈ l ↔ k ∈ m) : l.length = m.length := Nat.le_antisymm (nodup_le h1 fun k hk => (h k).mp hk) (nodup_le h2 fun k hk => (h k).mpr hk)
section
variable {X : Cx} {g : G} {W : WX} {pos pos' p p' : Pos} {e : Expr} {te : TE} {ta : TD} {w : Cs} {H H' : Hp} {σ : L2.St} {s : S}
def rSetI (K : PySem.W.Frag) : List V → Hp → VK → Prop := fun xs H Q => ∃ (p : Addr) (ns : List Int), xs = [.ref p] ∧ SqT K H p (ns.map V.int) ∧ ns.length + 1 < scanBound ∧
  ∀ (l : Addr) (S : Int → Bool), H l = none → Q (.ref l) (upd H l (.set S (dedupI ns).length))
def rLenSet : List V → Hp → VK → Prop := fun xs H Q => ∃ (a : Addr) (S : Int → Bool) (n : Nat), xs = [.ref a] ∧ H a = some (.set S n) ∧ Q (.int n) H
@[simp] def dLenSet (ta : TD) : TD := fun s P X => ta s (fun d s1 => ∃ ns : List Int, d = .tup (ns.map .int) ∧ ns.length ≤ 1000 ∧ P (.int (dedupI ns).length) s1) X
end
end DL
namespace DL
open PySem L2
def eqDs : List D → List D → Bool
  | [], [] => true
  | x :: xs, y :: ys => eqD x y && eqDs xs ys
  | _, _ => false
theorem eqvAll_D : ∀ xs ys : List D, PyData.eqvAll (toPys xs) (toPys ys) = eqDs xs ys
  | [], [] => by simp [toPys, PyData.eqvAll, eqDs]
  | [], _ :: _ => by simp [toPys, PyData.eqvAll, eqDs]
  | _ :: _, [] => by simp [toPys, PyData.eqvAll, eqDs]
  | x :: xs, y :: ys => by
    have ih := eqvAll_D xs ys
    simp only [toPys, PyData.eqvAll, eqDs, eqD, ih]
theorem eqD_tup (xs ys : List D) : eqD (.tup xs) (.tup ys) = eqDs xs ys := by
  simp only [eqD, toPy, PyData.eqv]
  exact eqvAll_D xs ys
theorem eqD_lst (xs ys : List D) : eqD (.lst xs) (.lst ys) = eqDs xs ys := by
  simp only [eqD, toPy, PyData.eqv]
  exact eqvAll_D xs ys
theorem eqDs_ints : ∀ a b : List Int, eqDs (a.map D.int) (b.map D.int) = decide (a = b)
  | [], [] => rfl
  | [], _ :: _ => by simp [eqDs]
  | _ :: _, [] => by simp [eqDs]
  | x :: xs, y :: ys => by
    have ih := eqDs_ints xs ys
    simp only [List.map_cons, eqDs, eqD_int, ih]
    by_cases h : x = y <;> simp [h]
@[simp] theorem eqD_tints (a b : List Int) : eqD (.tup (a.map D.int)) (.tup (b.map D.int)) = decide (a = b) := (eqD_tup _ _).trans (eqDs_ints a b)
@[simp] theorem eqD_lints (a b : List Int) : eqD (.lst (a.map D.int)) (.lst (b.map D.int)) = decide (a = b) := (eqD_lst _ _).trans (eqDs_ints a b)
@[simp] theorem eqD_bl (a b : Bool) : eqD (.bl a) (.bl b) = (a == b) := by simp [eqD, toPy, PyData.eqv]
def firstAt (x : Int) : List Int → Nat
  | [] => 0
  | y :: l => if y = x then 0 else firstAt x l + 1
def inS (n x : Int) : Bool := decide (0 ≤ x) && decide (x < n)
def sideF (n : Int) (L : List Int) : Option Int := L.find? fun x => !inS n x
def spSide : SpD := fun xs M P PX => ∃ n x, xs = [.dat (.int n), .dat (.int x)] ∧ M = [] ∧ if inS n x = true then P .non [] else PX "BadSide" (.int x) []
def tdSide : TSd :=
  dIfS (dNot (dT (dChain rLeD rLtD (dC (.int 0)) (dVar 1) (dVar 0)))) (dRaise "BadSide" (dVar 1)) (dNext)
end DL
namespace DL
end DL
namespace DLE
open PySem L2 PySem.Spec PyProof.Rows
def SqA (K : PySem.W.Frag) (b : Bool) (H : Hp) (a : Addr) (xs : List V) : Prop := if b = true then SqL K H a xs else SqT K H a xs
def IsA (b : Bool) (h : Heap) (a : Addr) (items : Array Value) : Prop := if b = true then h.IsList a items else h.IsTuple a items
def IterA (b : Bool) (h : Heap) (it a : Addr) (i : Nat) : Prop := if b = true then h.IsListIter it a i else h.IsTupleIter it a i
section
variable {X : Cx} {pins : List (Addr × Obj)} {σ : L2.St} {H : Hp} {s : Shared} {a : Addr} {xs ys : List V}
end
theorem IterA.at {b : Bool} {h h' : Heap} {it a : Addr} {i : Nat} (x : IterA b h it a i) (k : ∀ o, h.get? it = some o → h'.get? it = some o) : IterA b h' it a i := by
  cases b with
  | true => exact Heap.IsListIter.at (show h.IsListIter it a i from x) k
  | false => exact Heap.IsTupleIter.at (show h.IsTupleIter it a i from x) k
theorem IterA.ob {b : Bool} {h : Heap} {it a : Addr} {i : Nat} (x : IterA b h it a i) : ∃ o, h.get? it = some o ∧ ∀ v, o.data ≠ .cell v := by
  cases b with
  | true => obtain ⟨o, e, _, d⟩ := (show h.IsListIter it a i from x); exact ⟨o, e, fun v q => by rw [d] at q; cases q⟩
  | false => obtain ⟨o, e, _, d⟩ := (show h.IsTupleIter it a i from x); exact ⟨o, e, fun v q => by rw [d] at q; cases q⟩
def ItzA (K : PySem.W.Frag) (b1 b2 : Bool) (a b : Addr) : It :=
  ⟨fun i H => ∃ (xs ys : List V) (x y : V), SqA K b1 H a xs ∧ SqA K b2 H b ys ∧ xs[i]? = some x ∧ ys[i]? = some y,
    fun i H v H' => ∃ T x y, v = .ref T ∧ H T = none ∧ H' = upd H T (.tup [x, y]) ∧ (∀ xs, SqA K b1 H a xs → xs[i]? = some x) ∧ ∀ ys, SqA K b2 H b ys → ys[i]? = some y,
    fun i H => ∃ xs ys : List V, SqA K b1 H a xs ∧ SqA K b2 H b ys ∧ i ≤ xs.length ∧ i ≤ ys.length ∧ (i = xs.length ∨ i = ys.length)⟩
def iZipB (K : PySem.W.Frag) (ta : TA) : TI := fun σ H R => ta σ H fun vs H1 => ∃ b1 b2 a b xs ys, vs = [.ref a, .ref b] ∧ SqA K b1 H1 a xs ∧ SqA K b2 H1 b ys ∧ R (ItzA K b1 b2 a b) H1
end DLE
namespace DL
open PySem L2
section
variable {X : Cx} {g : G} {W : WX} {pos : Pos} {e e2 : Expr} {w : Cs} {H H' : Hp} {σ : L2.St} {s : S} {t : TDA}
def zipD : List D → List D → List D
  | x :: xs, y :: ys => .tup [x, y] :: zipD xs ys
  | _, _ => []
@[simp] def dZip (t : TDA) : TDI := fun s P X => t s (fun xs s1 => ∃ d d' ds es, xs = [.dat d, .dat d'] ∧ seqD d = some ds ∧ seqD d' = some es ∧ P (zipD ds es) s1) X
end
end DL
namespace DL
open PySem L2 PySem.Spec PyProof.Rows
section
variable {X : Cx} {g : G} {W : WX} {pos : Pos} {e a b : Expr} {te ta tb td : TD} {w : Cs} {H H' : Hp} {σ : L2.St} {s : S}
structure InsC (K : PySem.W.Frag) (C : Addr) : Prop where
  cl : L2.Cls K C
  ha : PySem.W.findIn K (.ref C) "__class__" = some (some (.builtin "object.__class__"))
  hn : PySem.W.specialIn K (.builtin "object.__class__") "__get__" = some (some (.builtin "getset_descriptor.__get__"))
  htk : PySem.W.takesIn K (.builtin "object.__class__") = some true
  hm : PySem.W.mroIn K C (.type "object") = some true
@[simp] def dIsO (c : Str) (te : TD) : TD := fun s P X => te s (fun d s1 => ∃ fs, d = .ins c fs ∧ P (.bl true) s1) X
@[simp] def dTupRg (ta : TD) : TD := fun s P X => ta s (fun d s1 => ∃ n : Int, d = .int n ∧ n ≤ 16777216 ∧ -(2 ^ 62) ≤ n ∧ P (.tup (rangeD 0 n.toNat)) s1) X
abbrev TGm := D → S → (S → Prop) → KX → Prop
abbrev TGms := List D → S → (S → Prop) → KX → Prop
def lGm (g : G) (W : WX) (gt : TGm) : TG := fun v σ H Q => ∃ w s d P PX, RS g w H σ s ∧ Rep g w H d v ∧ gt d s P PX ∧ (∀ s' σ' H', P s' → HExt w H H' → RS g w H' σ' s' → Q σ' H') ∧ (∀ σ', XOk g w H σ' PX W)
def lGms (g : G) (W : WX) (gt : TGms) : TGs := fun vs σ H Q => ∃ w s ds P PX, RS g w H σ s ∧ Reps g w H ds vs ∧ gt ds s P PX ∧ (∀ s' σ' H', P s' → HExt w H H' → RS g w H' σ' s' → Q σ' H') ∧ (∀ σ', XOk g w H σ' PX W)
@[simp] def dmName (i : Nat) : TGm := fun d s P _ => P { s with r := s.r.set i (.dat d) }
@[simp] def dmSub (i : Nat) (tb : TD) : TGm := fun d s P X => ∃ c, s.r[i]? = some (.cell c) ∧ tb s (fun y s2 => ∃ ds k j, s2.M[c]? = some (some (.lst ds)) ∧ y = .int k ∧ ixN ds.length k = some j ∧ P { s2 with M := s2.M.set c (some (.lst (ds.set j d))) }) X
theorem dm_sub (i : Nat) {tg : Expr} (h : PG X tg (gSub (tVar i) (lE g W tb) rSetL)) : PG X tg (lGm g W (dmSub i tb)) := pg_imp h fun v σ H Q ⟨w, s, d, P, PX, rs, rp, ⟨c, ec, q⟩, k, x⟩ => by
  obtain ⟨a, ea, ev⟩ := rs.slot i _ ec
  refine ⟨.ref a, ev, w, s, _, PX, rs, q, fun y s2 H2 yv q2 e2 rs2 rp2 => ?_, x σ⟩
  obtain ⟨ds, kk, j, em, ey, ei, q2⟩ := q2
  subst ey
  simp only [Rep] at rp2
  obtain ⟨a', ea', vs, hp, rv⟩ := rs2.mem.at_ c _ em
  rw [ea] at ea'
  cases ea'
  exact ⟨a, vs, kk, j, rfl, rp2, hp, by rw [rv.len]; exact ei, k _ σ _ q2 (e2.trans (upd_cell_ext ea)) (rs2.updCell ea (Reps.set j rv (rp.mv (.of_ext e2))))⟩
@[simp] def dmsNil : TGms := fun ds s P _ => ds = [] ∧ P s
@[simp] def dmsCons (t : TGm) (u : TGms) : TGms := fun ds s P X => match ds with
  | d :: r => t d s (fun s' => u r s' P X) X
  | [] => False
theorem dms_nil : PGs X [] (lGms g W dmsNil) := ⟨fun pins s σ H vs us Q I r ⟨w, s1, ds, P, PX, rs, rp, ⟨e, h⟩, k, x⟩ => pgs_nil.run pins s σ H vs us Q I r ⟨by subst e; simpa only [Reps] using rp, k s1 σ H h (HExt.refl _ _) rs⟩⟩
theorem dms_cons {tg : Expr} {tgs : List Expr} {t : TGm} {u : TGms} (h1 : PG X tg (lGm g W t)) (h2 : PGs X tgs (lGms g W u))
    (hs : (assignEach (tg :: tgs) X.env).map (·.2) = assign tg X.env :: (assignEach tgs X.env).map (·.2) := by rfl) : PGs X (tg :: tgs) (lGms g W (dmsCons t u)) := ⟨fun pins s σ H vs us Q I r ⟨w, s1, ds, P, PX, rs, rp, h, k, x⟩ => (pgs_cons h1 h2 hs).run pins s σ H vs us Q I r (by
    cases ds with
    | nil => exact h.elim
    | cons d ds =>
      simp only [Reps] at rp
      obtain ⟨v, r', e, q, z⟩ := rp
      subst e
      exact ⟨v, r', rfl, w, s1, d, _, PX, rs, q, h, fun s2 σ2 H2 h2 e2 rs2 => ⟨w, s2, ds, P, PX, rs2, Reps.mv z (.of_ext e2), h2, fun s3 σ3 H3 h3 e3 rs3 => k s3 σ3 H3 h3 (e2.trans e3) rs3, fun σ' => (x σ').ext e2⟩, x⟩)⟩
@[simp] def dmTup (n : Nat) (t : TGms) : TGm := fun d s P X => match d with
  | .tup ds => ds.length = n ∧ t ds s P X
  | _ => False
theorem dm_tup {tgs : List Expr} {k n : Nat} {t : TGms} {p : Pos} (hc : X.calm = true) (h : PGs X tgs (lGms g W t)) (hn : (assignEach tgs X.env).length = n := by rfl) (hst : (assignEach tgs X.env).findIdx? (·.1) = none := by rfl) : PG X (.Tuple tgs k p) (lGm g W (dmTup n t)) :=
  pg_imp (pg_tup hc h hn hst) fun v σ H Q ⟨w, s, d, P, PX, rs, rp, h, k, x⟩ => by
    cases d <;> try exact h.elim
    simp only [Rep] at rp
    obtain ⟨a, vs, e, n, hp, rv⟩ := rp
    exact ⟨a, vs, e, SqT.of hp, by rw [rv.len]; exact h.1, w, s, _, P, PX, rs, rv, h.2, k, x⟩
@[simp] def dAsgM (td : TD) (gt : TGm) : TSd := fun s E X => td s (fun d s1 => gt d s1 E.nx X) X
theorem ds_asgM {st : Stmt} {gt : TGm} (h : PS X st (tAsg (lE g W td) (lGm g W gt))) : PS X st (lS g W (dAsgM td gt)) := ps_imp h fun D σ H ⟨w, s, E, PX, rs, h, k, x⟩ =>
  ⟨w, s, _, PX, rs, h, fun d s1 H1 v q e1 rs1 rp => ⟨w, s1, d, _, PX, rs1, rp, q, fun s2 σ2 H2 p e2 rs2 => k.nx s2 w H2 σ2 p (.of_ext (e1.trans e2)) rs2, fun σ' => x.ex.ext e1⟩, x.ex⟩
def rGetL (K : PySem.W.Frag) : V → V → Hp → VK → Prop := fun x y H Q => ∃ p xs i z, x = .ref p ∧ y = .int i ∧ SqL K H p xs ∧ 0 ≤ i ∧ atI xs i = some z ∧ Q z H
@[simp] def dAugIx (i : Nat) (tb : TD) (r : RD) (te : TD) : TSd := fun s E X => ∃ c, s.r[i]? = some (.cell c) ∧ tb s (fun y s1 => ∃ ds k d, s1.M[c]? = some (some (.lst ds)) ∧ y = .int k ∧ 0 ≤ k ∧ atI ds k = some d ∧
  te s1 (fun y2 s2 => r d y2 fun z => ∃ ds' j, s2.M[c]? = some (some (.lst ds')) ∧ ixN ds'.length k = some j ∧ E.nx { s2 with M := s2.M.set c (some (.lst (ds'.set j z))) }) X) X
end
end DL
namespace DL
open PySem L2
def nameOf (c : Str) : Str := if c = "BadSize" then "size" else if c = "BadStrength" then "strength" else if c = "Unlike" then "unlike" else "guard"
@[simp] theorem nm1 : nameOf "BadSize" = "size" := by decide +kernel
@[simp] theorem nm2 : nameOf "BadStrength" = "strength" := by decide +kernel
@[simp] theorem nm3 : nameOf "Unlike" = "unlike" := by decide +kernel
@[simp] theorem nm4 : nameOf "BadGuard" = "guard" := by decide +kernel
def faultD : Option (Str × Int) → D
  | some (c, x) => .lst [.str (nameOf c), .int x]
  | none => .lst []
def spRow : SpD := fun xs M P _ => ∃ (L : List Int) (d : D), xs = [.dat (tupI L), .dat d] ∧ seqD d = some (L.map .int) ∧ M = [] ∧ P (.bl true) []
def spFieldIs : SpD := fun xs M P _ => ∃ (ss gs : List Int) (d e : D), xs = [.dat (fldD ss gs), .dat d, .dat e] ∧ seqD d = some (ss.map .int) ∧ seqD e = some (gs.map .int) ∧ M = [] ∧ P (.bl true) []
def spFault : SpD := fun xs M P _ => ∃ (ss gs : List Int), xs = [.dat (.lst (ss.map .int)), .dat (.lst (gs.map .int))] ∧ M = [] ∧ P (faultD (badF ss gs)) []
def spSaid : SpD := fun xs M P _ => ∃ (b : Bool), xs = [.dat (.bl b), .dat (.bl b)] ∧ M = [] ∧ P (.bl true) []
def spEntry : SpD := fun xs M P _ => ∃ (n a b : Int), xs = [.cell 0, .dat (.int n)] ∧ M = [src a b] ∧ Good a b ∧ 1 ≤ n ∧ n < 2 ^ 80 ∧ ∀ x a' b', -n < x → x < n → Good a' b' → P (.int x) [src a' b']
def spNumbers : SpD := fun xs M P _ => ∃ (n a b : Int), xs = [.cell 0, .dat (.int n)] ∧ M = [src a b] ∧ Good a b ∧ 0 ≤ n ∧ n ≤ 1000 ∧ ∀ (L : List Int) a' b', (L.length : Int) = n → (∀ v ∈ L, -1000000000 ≤ v ∧ v ≤ 1000000000) → Good a' b' → P (.lst (L.map .int)) [src a' b']
def spSides : SpD := fun xs M P PX => ∃ (n : Int), xs = [.dat (.int n)] ∧ M = [] ∧ if 1 ≤ n ∧ n ≤ 32 then P .non [] else PX "BadSize" (.int n) []
def tdRow : TSd :=
  dSeq (dIfS (dOr (dNot (dTru (dIsT "tuple" (dVar 0)))) (dT (dOp rNeD' (dCB rLenD (dCons (dVar 0) (dNil))) (dCB rLenD (dCons (dVar 1) (dNil)))))) (dRet (dC (.bl false))) (dNext))
  (dSeq (dFor (dZip (dCons (dVar 0) (dCons (dVar 1) (dNil)))) (dgTup 2 (dgsCons (dgName 2) (dgsCons (dgName 3) (dgsNil)))) (dIfS (dOr (dNot (dTru (dCall spNum (dCons (dVar 2) (dNil))))) (dT (dOp rNeD' (dVar 2) (dVar 3)))) (dRet (dC (.bl false))) (dNext)))
  (dRet (dC (.bl true))))
def tdFieldIs : TSd :=
  dSeq (dIfS (dOr (dNot (dTru (dIsO "Field" (dVar 0)))) (dOr (dNot (dTru (dCall spNum (dCons (dFld (dVar 0) "Field" "n") (dNil))))) (dT (dOp rNeD' (dFld (dVar 0) "Field" "n") (dCB rLenD (dCons (dVar 1) (dNil))))))) (dRet (dC (.bl false))) (dNext))
  (dRet (dAndV (dCall spRow (dCons (dFld (dVar 0) "Field" "strengths") (dCons (dVar 1) (dNil)))) (dCall spRow (dCons (dFld (dVar 0) "Field" "guards") (dCons (dVar 2) (dNil))))))
def tdFault : TSd :=
  dSeq (dIfS (dNot (dT (dChain rLeD rLeD (dC (.int 1)) (dCB rLenD (dCons (dVar 0) (dNil))) (dC (.int 32))))) (dRet (dF (dLst (dCons (dC (.str "size")) (dCons (dCB rLenD (dCons (dVar 0) (dNil))) (dNil)))))) (dNext))
  (dSeq (dFor (dEnum (dCons (dVar 0) (dNil))) (dgTup 2 (dgsCons (dgName 2) (dgsCons (dgName 3) (dgsNil)))) (dIfS (dNot (dT (dChain rLeD rLeD (dUn rNegD (dOp rPowD (dC (.int 10)) (dC (.int 9)))) (dVar 3) (dOp rPowD (dC (.int 10)) (dC (.int 9)))))) (dRet (dF (dLst (dCons (dC (.str "strength")) (dCons (dVar 2) (dNil)))))) (dNext)))
  (dSeq (dIfS (dT (dOp rNeD' (dCB rLenD (dCons (dVar 1) (dNil))) (dCB rLenD (dCons (dVar 0) (dNil))))) (dRet (dF (dLst (dCons (dC (.str "unlike")) (dCons (dCB rLenD (dCons (dVar 1) (dNil))) (dNil)))))) (dNext))
  (dSeq (dFor (dEnum (dCons (dVar 1) (dNil))) (dgTup 2 (dgsCons (dgName 2) (dgsCons (dgName 3) (dgsNil)))) (dIfS (dNot (dT (dChain rLeD rLeD (dUn rNegD (dOp rPowD (dC (.int 10)) (dC (.int 9)))) (dVar 3) (dOp rPowD (dC (.int 10)) (dC (.int 9)))))) (dRet (dF (dLst (dCons (dC (.str "guard")) (dCons (dVar 2) (dNil)))))) (dNext)))
  (dRet (dF (dLst (dNil)))))))
def tdSaid : TSd :=
  dRet (dAndV (dIsT "bool" (dVar 0)) (dOp rEqD' (dVar 0) (dVar 1)))
def tdEntry : TSd :=
  dSeq (dSet 2 (dCall spTake (dConsC 0 (dCons (dVar 1) (dNil)))))
  (dRet (dIf (dT (dOp rEqD' (dCall spTake (dConsC 0 (dCons (dC (.int 2)) (dNil)))) (dC (.int 0)))) (dUn rNegD (dVar 2)) (dVar 2)))
def tdNumbers : TSd :=
  dSeq (dSet 2 (dCall spOne (dConsC 0 (dCons (dF (dLst (dCons (dC (.int 1)) (dCons (dC (.int 2)) (dCons (dC (.int 4)) (dCons (dOp rAddD (dOp rPowD (dC (.int 10)) (dC (.int 9))) (dC (.int 1))) (dNil))))))) (dNil)))))
  (dRet (dF (dLc (dRange1 (dCons (dVar 1) (dNil))) (dgName 3) (dYes) (dCall spEntry (dConsC 0 (dCons (dVar 2) (dNil)))) [3])))
def tdSides : TSd :=
  dIfS (dNot (dT (dChain rLeD rLeD (dC (.int 1)) (dVar 0) (dC (.int 32))))) (dRaise "BadSize" (dVar 0)) (dNext)
end DL
namespace DL
open PySem
theorem ofString_inj {a b : String} : Str.ofString a = Str.ofString b ↔ a = b := by
  refine ⟨fun h => ?_, fun h => by rw [h]⟩
  rw [Str.ofString_eq_toList, Str.ofString_eq_toList] at h
  have h1 : a.toList.map Char.toNat = b.toList.map Char.toNat := by
    have := congrArg Str.cps h
    have := congrArg Array.toList this
    simpa using this
  have h2 : a.toList = b.toList := by
    have inj : ∀ l m : List Char, l.map Char.toNat = m.map Char.toNat → l = m := by
      intro l
      induction l with
      | nil => intro m h; cases m with | nil => rfl | cons _ _ => cases h
      | cons c l ih =>
        intro m h
        cases m with
        | nil => cases h
        | cons d m =>
          simp only [List.map_cons, List.cons.injEq] at h
          rw [ih m h.2]
          have : c = d := Char.ext (UInt32.toNat_inj.mp h.1)
          rw [this]
    exact inj _ _ h1
  exact String.toList_inj.mp h2
end DL
namespace DL
end DL
namespace DL
open PySem L2
section
variable {X : Cx} {g : G} {W : WX}
abbrev TDR := S → (List D → S → Prop) → KX → Prop
def RFe (g : G) (W : WX) (t : TS) (td : TDR) : Prop := ∀ D σ H w s P PX, RS g w H σ s → td s P PX → XOkS g w H PX W →
  (∀ ds s' w' H' p vs, P ds s' → Mv w H w' H' → (some p ∈ w.cs ∨ H p = none) → w'.bad p → H' p = some (.lst vs) → Reps g w' H' ds vs → D.rt (.ref p) H') → t D σ H
@[simp] def dRetC (i : Nat) : TDR := fun s P _ => ∃ c ds, s.r[i]? = some (.cell c) ∧ s.M[c]? = some (some (.lst ds)) ∧ P ds s
@[simp] def dIfF (c : TDB) (tf : TDF) (ud : TDR) : TDR := fun s P X => c s (fun b s1 => if b = true then tf s1 P X else ud s1 P X) X
variable {P : Program} {wd : World} {K : PySem.W.Frag} {mg : Str → Option Value} {base : Heap}
end
end DL
namespace DL
open PySem L2 PyProof.Rows
def CtAt (K : PySem.W.Frag) (a : Addr) (ns : List Int) : Prop := ∃ (o : Obj) (its : Array Value) (n : Nat), K.lookup a = some o ∧ o.cls = .type "tuple" ∧ o.data = .seq its n ∧ its.size ≤ sizeLine ∧ Vals (ns.map V.int) its.toList
section
variable {X : Cx} {g : G} {W : WX} {pos p : Pos} {a b c e : Expr} {ta tb tc td : TD} {w : Cs} {H H' : Hp} {σ : L2.St} {s : S} {t : TDA} {es : List Expr}
theorem CtAt.rep (hk : g.K = X.K) {ad : Addr} {ns : List Int} (h : CtAt X.K ad ns) : Rep g w H (.ct (ns.map .int)) (.ref ad) := by
  simp only [Rep]
  obtain ⟨o, its, n, h1, h2, h3, h4, h5⟩ := h
  exact ⟨ad, _, rfl, ⟨o, its, n, by rw [hk]; exact h1, h2, h3, h4, h5⟩, Reps.of_ints ns⟩
@[simp] def dIterCt (td : TD) : TDI := fun s P X => td s (fun d s1 => ∃ ds, d = .ct ds ∧ P ds s1) X
@[simp] def rInC (neg : Bool) : RD := fun x y P => match y with
  | .ct ds => flatD x = true ∧ ds.all flatD = true ∧ P (.bl (if neg then !inD x ds else inD x ds))
  | _ => False
@[simp] def rSumD : RCd := fun xs M P => match xs with
  | [.dat (.lst ds)] => ∃ ns : List Int, ds = ns.map .int ∧ P (.int ns.sum)
  | _ => False
@[simp] def rMax1D : RCd := fun xs M P => match xs with
  | [.dat (.lst ds)] => ∃ ns : List Int, ds = ns.map .int ∧ 0 < ns.length ∧ ∀ m, m ∈ ns → (∀ y, y ∈ ns → y ≤ m) → P (.int m)
  | _ => False
@[simp] def rMin1D : RCd := fun xs M P => match xs with
  | [.dat (.lst ds)] => ∃ ns : List Int, ds = ns.map .int ∧ 0 < ns.length ∧ ∀ m, m ∈ ns → (∀ y, y ∈ ns → m ≤ y) → P (.int m)
  | _ => False
theorem l_max1 : ∀ vs H Q, lC g rMax1D vs H Q → rMax X.K vs H Q := fun vs H Q ⟨w, xs, M, P, ha, m, r, q⟩ => by
  match xs, r, ha with
  | [.dat (.lst ds)], ⟨ns, ed, hl, r⟩, ha =>
    obtain ⟨v, e, h⟩ := ArgOk.one ha
    subst e ed
    simp only [Rep] at h
    obtain ⟨p, ys, e, n, hp, rv⟩ := h
    subst e
    have e := rv.ints
    subst e
    exact ⟨p, ns, rfl, SqL.of hp, hl, fun z h1 h2 => q _ _ _ (r z h1 h2) Same0 (by simp only [Rep])⟩
theorem de_max1 (hc : X.calm = true) (hg : Gl X "max") (hm : X.mg "max" = none) (ha : PA X (e :: es) (lA g W t)) (he : starEach (e :: es) X.env = (false, eval e X.env) :: starEach es X.env := by rfl) (hpl : (backTo pos (starEach es X.env)).any (·.1) = false := by rfl) :
    PE X (.Call (.Name "max" p) (e :: es) [] pos) (lE g W (dCB rMax1D t)) := pe_imp (pe_callB (cr_max hc) hg hm (by decide +kernel) ha (by decide) (by decide) he hpl) (l_cb l_max1)
def rAnyT (K : PySem.W.Frag) : List V → Hp → VK → Prop := fun vs H Q => ∃ (a : Addr) (ns : List Int), vs = [V.ref a] ∧ SqT K H a (ns.map V.int) ∧ Q (.bl (ns.any (· != 0))) H
@[simp] def rAnyD : RCd := fun xs M P => match xs with
  | [.dat (.tup ds)] => ∃ ns : List Int, ds = ns.map .int ∧ P (.bl (ns.any (· != 0)))
  | _ => False
end
end DL
namespace DL
open PySem PySem.Spec PyProof.Rows L2
theorem tuple_mul1 (l : Addr) (items : Array Value) (n : Nat) (dd : Option Addr) (sl : Array (Option Value)) (u : Tok) (ne : items.isEmpty = false) :
    Meets (Builtin.«tuple.__mul__» ⟨[.ref l, .int 1 u], []⟩) (fun _ R s => s.heap.get? l = some { cls := .type "tuple", dict := dd, data := .seq items n, slots := sl } ∧ R (.ok (.ret (Value.ref l))) s) :=
  .of_wp fun prog w A R s h => by
    obtain ⟨hp, g, d, tk, os⟩ := s
    obtain ⟨hl, h⟩ := h
    have f1 := AutoSeq1.idx_int
    have c0 : (decide ((1 : Int) < -(2 ^ 63)) || decide ((1 : Int) ≥ 2 ^ 63)) = false := by decide
    have c1 : (items.isEmpty || (1 : Int) == 1) = true := by rw [ne]; rfl
    wp_walk using wpAny_loadPart' hl
    repeat (first
      | (refine wpAny_ite_false (decide_eq_false (by rw [c0]; exact Bool.false_ne_true)) ?_; wp_walk using wpAny_loadPart' hl)
      | (refine wpAny_ite_true (decide_eq_true c1) ?_; wp_walk using wpAny_loadPart' hl))
    exact ⟨_, rfl, h⟩
theorem tuple_mul0 (l : Addr) (items : Array Value) (n : Nat) (dd : Option Addr) (sl : Array (Option Value)) (x : Int) (u : Tok) (c0 : (decide (x < -(2 ^ 63)) || decide (x ≥ 2 ^ 63)) = false) (c1 : (items.isEmpty || x == 1) = false) (c2 : (decide (x ≤ 0) || items.isEmpty) = true) :
    Meets (Builtin.«tuple.__mul__» ⟨[.ref l, .int x u], []⟩) (fun _ R s => s.heap.get? l = some { cls := .type "tuple", dict := dd, data := .seq items n, slots := sl } ∧
      R (.ok (.ret (Value.ref s.heap.objs.size))) { s with heap := s.heap.push { cls := Value.type "tuple", data := Data.seq #[] }, toks := s.toks }) :=
  .of_wp fun prog w A R s h => by
    obtain ⟨hp, g, d, tk, os⟩ := s
    obtain ⟨hl, h⟩ := h
    have f1 := AutoSeq1.idx_int
    wp_walk using wpAny_loadPart' hl
    repeat (first
      | (refine wpAny_ite_false (decide_eq_false (by rw [c0]; exact Bool.false_ne_true)) ?_; wp_walk using wpAny_loadPart' hl)
      | (refine wpAny_ite_false (decide_eq_false (by rw [c1]; exact Bool.false_ne_true)) ?_; wp_walk using wpAny_loadPart' hl)
      | (refine wpAny_ite_true (decide_eq_true c2) ?_; wp_walk using wpAny_loadPart' hl))
    exact ⟨_, rfl, h⟩
section
variable {X : Cx}
def rRepT01 (K : PySem.W.Frag) : R2 := fun x y H Q => ∃ l k xs, x = .ref l ∧ y = .int k ∧ SqT K H l xs ∧ xs ≠ [] ∧ -1000 ≤ k ∧ k ≤ 1 ∧ (k = 1 → Q (.ref l) H) ∧ (k ≠ 1 → ∀ p, H p = none → Q (.ref p) (upd H p (.tup [])))
theorem op_repT01 : OpR X (binaryOp .Mult) (rRepT01 X.K) := by
  intro pins s σ H x y v u Q I rx ry h
  obtain ⟨l, k, xs, rfl, rfl, hT, hne, h1, h2, q1, q2⟩ := h
  cases rx
  obtain ⟨t, rfl⟩ := ry
  obtain ⟨its, r, ⟨⟨cls, dd, data, sl⟩, ho, hc, n, hd⟩, hs⟩ := I.tuple hT
  simp only at hc hd
  subst hc hd
  have hle : its.length = xs.length := r.length.symm
  have hn : its ≠ [] := fun e => hne (by
    rw [e] at hle
    exact List.eq_nil_of_length_eq_zero hle.symm)
  have hi : its.toArray.isEmpty = false := by
    cases its with
    | nil => exact absurd rfl hn
    | cons a b => rfl
  by_cases hk : k = 1
  · subst hk
    refine wpAny_binaryOp_repeat_ref (T := "tuple") (U := "int") (by decide) ⟨_, ho, rfl⟩ (fun s' => typeIs_int s' 1 t) noFill_tuple_mul F.fills_int_mul F.slot_int_rmul repeat_tuple F.slot_int_index.lookup
      (call_meets F.slot_int_rmul (typeIs_int s 1 t) F.entry_int_rmul (F.args_int_rmul_2 _ _) (int_rmul_tuple 1 t l its.toArray n dd sl)
        ⟨ho, rfl, ⟨_, ho, rfl⟩, call_meets F.slot_tuple_mul ⟨_, ho, rfl⟩ F.entry_tuple_mul (F.args_tuple_mul_2 _ _) (tuple_mul1 l its.toArray n dd sl t hi) ⟨ho, ?_⟩⟩)
    exact ⟨.ref l, H, I, rfl, q1 rfl⟩
  · have c0 : (decide (k < -(2 ^ 63)) || decide (k ≥ 2 ^ 63)) = false := by
      rw [decide_eq_false (by omega), decide_eq_false (by omega)] <;> rfl
    have c1 : (its.toArray.isEmpty || k == 1) = false := by
      rw [hi, Bool.false_or]
      exact beq_eq_false_iff_ne.mpr hk
    have c2 : (decide (k ≤ 0) || its.toArray.isEmpty) = true := by
      rw [decide_eq_true (by omega)]; rfl
    refine wpAny_binaryOp_repeat_ref (T := "tuple") (U := "int") (by decide) ⟨_, ho, rfl⟩ (fun s' => typeIs_int s' k t) noFill_tuple_mul F.fills_int_mul F.slot_int_rmul repeat_tuple F.slot_int_index.lookup
      (call_meets F.slot_int_rmul (typeIs_int s k t) F.entry_int_rmul (F.args_int_rmul_2 _ _) (int_rmul_tuple k t l its.toArray n dd sl)
        ⟨ho, rfl, ⟨_, ho, rfl⟩, call_meets F.slot_tuple_mul ⟨_, ho, rfl⟩ F.entry_tuple_mul (F.args_tuple_mul_2 _ _) (tuple_mul0 l its.toArray n dd sl k t c0 c1 c2) ⟨ho, ?_⟩⟩)
    refine ⟨.ref s.heap.objs.size, _, I.laid (t' := s.toks) (o := .tup []) (fun b ob q => Heap.get?_push_of_some _ q) (Nat.le_refl _) ?_, rfl, q2 hk _ (I.hok.fresh (Nat.le_refl _))⟩
    exact ⟨Nat.zero_le _, [], .nil, IsTup.new _ _⟩
def rRepTB (K : PySem.W.Frag) : R2 := fun x y H Q => ∃ l k xs, x = .ref l ∧ y = .int k ∧ SqT K H l xs ∧ xs ≠ [] ∧ 2 ≤ k ∧ k ≤ 2000 ∧ xs.length ≤ 1000 ∧ ∀ p, H p = none → Q (.ref p) (upd H p (.tup (List.replicate k.toNat xs).flatten))
theorem op_repTB : OpR X (binaryOp .Mult) (rRepTB X.K) := by
  intro pins s σ H x y v u Q I rx ry h
  obtain ⟨l, k, xs, rfl, rfl, hT, hne, k1, k2, hz, q⟩ := h
  cases rx
  obtain ⟨t, rfl⟩ := ry
  obtain ⟨its, r, ⟨⟨cls, dd, data, sl⟩, ho, hc, n, hd⟩, hs⟩ := I.tuple hT
  simp only at hc hd
  subst hc hd
  have hle : its.length = xs.length := r.length.symm
  have hi : its.toArray.isEmpty = false := by
    cases its with
    | nil => exact absurd (List.eq_nil_of_length_eq_zero hle.symm) hne
    | cons a b => rfl
  have prod : (its.toArray.size : Int) * k ≤ 2000000 := by
    have a1 : (its.toArray.size : Int) * k ≤ 1000 * k := Int.mul_le_mul_of_nonneg_right (by rw [List.size_toArray]; omega) (by omega)
    omega
  have long : ∀ ys : List Value, ys.length = xs.length → (List.replicate k.toNat ys).flatten.length ≤ sizeLine := fun ys e => by
    have a1 : k.toNat * ys.length ≤ 2000 * 1000 := Nat.mul_le_mul (by omega) (by omega)
    have a2 : (2000 * 1000 : Nat) ≤ sizeLine := by decide
    rw [PyProof.Rows.lm_len_rep_flat]; omega
  have long' : (List.replicate k.toNat xs).flatten.length ≤ sizeLine := by
    have a1 : k.toNat * xs.length ≤ 2000 * 1000 := Nat.mul_le_mul (by omega) hz
    have a2 : (2000 * 1000 : Nat) ≤ sizeLine := by decide
    rw [PyProof.Rows.lm_len_rep_flat]; omega
  have few : Builtin.Tuple.tupleTooMany ((its.toArray.size : Int) * k) = false := by
    unfold Builtin.Tuple.tupleTooMany
    rw [sizeLine_eq]
    exact decide_eq_false (by omega)
  have m := tuple_mulW l its.toArray n dd sl k t (by rw [decide_eq_false (by omega), decide_eq_false (by omega)] <;> rfl) (by rw [hi, Bool.false_or]; exact beq_eq_false_iff_ne.mpr (by omega)) (by rw [hi, Bool.or_false]; exact decide_eq_false (by omega)) (by omega) few (by rw [size_rep, List.size_toArray]; exact long its hle)
  refine wpAny_binaryOp_repeat_ref (T := "tuple") (U := "int") (by decide) ⟨_, ho, rfl⟩ (fun s' => typeIs_int s' k t) noFill_tuple_mul F.fills_int_mul F.slot_int_rmul repeat_tuple F.slot_int_index.lookup
    (call_meets F.slot_int_rmul (typeIs_int s k t) F.entry_int_rmul (F.args_int_rmul_2 _ _) (int_rmul_tuple k t l its.toArray n dd sl)
      ⟨ho, rfl, ⟨_, ho, rfl⟩, call_meets F.slot_tuple_mul ⟨_, ho, rfl⟩ F.entry_tuple_mul (F.args_tuple_mul_2 _ _) m ⟨ho, ?_⟩⟩)
  rw [size_rep]
  exact ⟨.ref s.heap.objs.size, _, I.laid (t' := s.toks) (o := .tup (List.replicate k.toNat xs).flatten) (fun b ob q => Heap.get?_push_of_some _ q) (Nat.le_refl _) ⟨long', _, r.rep k.toNat, IsTup.new _ _⟩, rfl, q _ (I.hok.fresh (Nat.le_refl _))⟩
variable {g : G} {W : WX} {pos : Pos} {a b : Expr} {ta tb : TD}
@[simp] def rRepTD : RD := fun x y P => match x, y with
  | .tup a, .int k => (a ≠ [] ∧ -1000 ≤ k ∧ k ≤ 2000 ∧ a.length ≤ 1000) ∧ P (.tup (List.replicate k.toNat a).flatten)
  | _, _ => False
theorem de_mulT (ha : PE X a (lE g W ta)) (hb : PE X b (lE g W tb)) : PE X (.BinOp a .Mult b pos) (lE g W (dOp rRepTD ta tb)) := de_op (op_repTB.or op_repT01) (fun x y H Q h => by
  obtain ⟨w, d, e, P, rd, re, r, nb, q⟩ := h
  cases d <;> cases e <;> try exact r.elim
  rename_i ds k
  simp only [Rep] at rd re
  obtain ⟨l, vs, e, n, hl, rv⟩ := rd
  obtain ⟨⟨c1, c2, c3, c4⟩, r⟩ := r
  subst e re
  have hv : vs ≠ [] := fun z => c1 (by
    have := rv.len
    rw [z] at this
    exact List.length_eq_zero_iff.mp this.symm)
  by_cases hk : 2 ≤ k
  · exact .inl ⟨l, k, vs, rfl, rfl, SqT.of hl, hv, hk, c3, by rw [rv.len]; exact c4, fun p hp => q _ _ _ r (same_upd hp) (Rep.tup (nb p hp) upd_same (Reps.mv (Reps.rep rv _) (.of_same (same_upd hp))))⟩
  · refine .inr ⟨l, k, vs, rfl, rfl, SqT.of hl, hv, c2, by omega, fun z => ?_, fun z p hp => ?_⟩
    · subst z
      have e : (List.replicate (1 : Int).toNat ds).flatten = ds := by show (List.replicate 1 ds).flatten = ds; simp
      rw [e] at r
      exact q _ _ _ r Same0 (Rep.tup n hl rv)
    · have e : (List.replicate k.toNat ds).flatten = [] := by rw [show k.toNat = 0 by omega]; rfl
      rw [e] at r
      exact q _ _ _ r (same_upd hp) (Rep.tup (nb p hp) upd_same Reps.nil)) ha hb
end
end DL
namespace DL
open PySem L2
section
variable {X : Cx} {g : G} {W : WX} {pos p : Pos} {e : Expr} {es : List Expr} {td : TD} {t : TDA}
@[simp] def fRemI : List D → D → (D → List D → Prop) → Prop := fun ds d P => ∃ (ns : List Int) (k : Int) (j : Nat), ds = ns.map .int ∧ d = .int k ∧ ns[j]? = some k ∧ (∀ m : Nat, m < j → ns[m]? ≠ some k) ∧ P .non ((ns.eraseIdx j).map .int)
theorem de_remove (i : Nat) (h : PE X e (tBM X.K "list" rRemI (tVar i) (tCons (lE g W td) tNil))) : PE X e (lE g W (dMeth1 i fRemI td)) := pe_imp h (l_meth1 fun a vs v w H ds d P Q hp rv rp ⟨ns, k, j, e1, e2, h1, h2, pz⟩ kk => by
  subst e1 e2
  simp only [Rep] at rp
  subst rp
  have e := rv.ints
  subst e
  exact ⟨a, ns, k, j, rfl, rfl, hp, h1, h2, kk _ _ _ _ pz (by simp only [Rep]) (Reps.of_ints _)⟩)
@[simp] def fExtend : List D → D → (D → List D → Prop) → Prop := fun ds d P => ∃ es, d = .lst es ∧ ds.length + es.length ≤ sizeLine ∧ P .non (ds ++ es)
@[simp] def dListF (t : TDA) : TDF := fun s P X => t s (fun xs s1 => ∃ d ds, xs = [.dat d] ∧ seqD d = some ds ∧ P ds s1) X
@[simp] def rAbsD : RCd := fun xs M P => match xs with
  | [.dat (.int i)] => P (.int (if i < 0 then -i else i))
  | _ => False
end
end DL
namespace DL
open PySem L2
section
variable {X : Cx} {g : G} {W : WX} {pos pos' : Pos} {a b c e o i : Expr} {ta tb tc td ty tv : TD} {w : Cs} {H H' : Hp} {σ : L2.St} {s : S} {t : TDA} {α β : Type} [DecidableEq α] [DecidableEq β]
def valD (ks : List (α × D)) (k : α) : Option D := (ks.find? fun p => decide (p.1 = k)).map (·.2)
def putD (ks : List (α × D)) (k : α) (d : D) : List (α × D) := if (ks.any fun p => decide (p.1 = k)) = true then ks.map (fun p => if p.1 = k then (p.1, d) else p) else ks ++ [(k, d)]
@[simp] theorem valD_nil (k : α) : valD ([] : List (α × D)) k = none := rfl
theorem valD_cons (p : α × D) (ks : List (α × D)) (k : α) : valD (p :: ks) k = if p.1 = k then some p.2 else valD ks k := by
  unfold valD
  by_cases h : p.1 = k
  · rw [if_pos h, List.find?_cons_of_pos (by simpa using h)]; rfl
  · rw [if_neg h, List.find?_cons_of_neg (by simpa using h)]
theorem RepK.len {enc : α → β} : ∀ {ks : List (α × D)} {ws : List (β × V)}, RepK g w H enc ks ws → ws.length = ks.length
  | [], _, h => by subst h; rfl
  | _ :: ks, _, ⟨v, r, e, q, z⟩ => by subst e; rw [List.length_cons, List.length_cons, RepK.len z]
theorem RepK.val {enc : α → β} (inj : ∀ x y, enc x = enc y → x = y) (k : α) : ∀ {ks : List (α × D)} {ws : List (β × V)}, RepK g w H enc ks ws → (valD ks k = none ∧ valV ws (enc k) = none) ∨ ∃ d v, valD ks k = some d ∧ valV ws (enc k) = some v ∧ Rep g w H d v
  | [], _, h => by subst h; exact .inl ⟨rfl, valV_nil⟩
  | p :: ks, _, ⟨v, r, e, q, z⟩ => by
    subst e
    by_cases hk : p.1 = k
    · exact .inr ⟨p.2, v, by rw [valD_cons, if_pos hk], valV_pos (p := (enc p.1, v)) (by show enc p.1 = enc k; rw [hk]), q⟩
    · rw [valD_cons, if_neg hk, valV_neg (p := (enc p.1, v)) (fun z => hk (inj _ _ z))]
      exact RepK.val inj k z
theorem RepK.any {enc : α → β} (inj : ∀ x y, enc x = enc y → x = y) (k : α) : ∀ {ks : List (α × D)} {ws : List (β × V)}, RepK g w H enc ks ws → (ks.any fun p => decide (p.1 = k)) = (ws.any fun p => decide (p.1 = enc k))
  | [], _, h => by subst h; rfl
  | p :: ks, _, ⟨v, r, e, q, z⟩ => by
    subst e
    rw [List.any_cons, List.any_cons, RepK.any inj k z]
    congr 1
    by_cases hk : p.1 = k
    · simp [hk]
    · have : ¬ enc p.1 = enc k := fun z => hk (inj _ _ z)
      simp [hk, this]
theorem RepK.map {enc : α → β} (inj : ∀ x y, enc x = enc y → x = y) (k : α) {d : D} {u : V} (hd : Rep g w H d u) : ∀ {ks : List (α × D)} {ws : List (β × V)}, RepK g w H enc ks ws → RepK g w H enc (ks.map fun p => if p.1 = k then (p.1, d) else p) (ws.map fun p => if p.1 = enc k then (p.1, u) else p)
  | [], _, h => by subst h; exact rfl
  | p :: ks, _, ⟨v, r, e, q, z⟩ => by
    subst e
    rw [List.map_cons, List.map_cons]
    by_cases hk : p.1 = k
    · rw [if_pos hk, if_pos (by rw [hk])]
      exact ⟨u, _, rfl, hd, RepK.map inj k hd z⟩
    · rw [if_neg hk, if_neg (fun z => hk (inj _ _ z))]
      exact ⟨v, _, rfl, q, RepK.map inj k hd z⟩
theorem RepK.snoc {enc : α → β} (k : α) {d : D} {u : V} (hd : Rep g w H d u) : ∀ {ks : List (α × D)} {ws : List (β × V)}, RepK g w H enc ks ws → RepK g w H enc (ks ++ [(k, d)]) (ws ++ [(enc k, u)])
  | [], _, h => by subst h; exact ⟨u, [], rfl, hd, rfl⟩
  | p :: ks, _, ⟨v, r, e, q, z⟩ => by subst e; exact ⟨v, _, rfl, q, RepK.snoc k hd z⟩
theorem RepK.put {enc : α → β} (inj : ∀ x y, enc x = enc y → x = y) (k : α) {d : D} {u : V} (hd : Rep g w H d u) {ks : List (α × D)} {ws : List (β × V)} (h : RepK g w H enc ks ws) : RepK g w H enc (putD ks k d) (putK ws (enc k) u) := by
  unfold putD putK
  rw [← h.any inj k]
  by_cases z : (ks.any fun p => decide (p.1 = k)) = true
  · rw [if_pos z, if_pos z]
    exact h.map inj k hd
  · rw [if_neg z, if_neg z]
    exact h.snoc k hd
@[simp] def intsD : List D → Option (List Int)
  | [] => some []
  | .int i :: ds => (intsD ds).map (i :: ·)
  | _ :: _ => none
@[simp] theorem intsD_map (js : List Int) : intsD (js.map .int) = some js := by
  induction js with
  | nil => rfl
  | cons j js ih => simp [ih]
@[simp] def isDic : Option (Option CC) → Prop
  | some (some (.dk _)) => True
  | some (some (.dt _)) => True
  | _ => False
@[simp] def getC (m : Option (Option CC)) (y : D) (P : Option D → Prop) : Prop := match m, y with
  | some (some (.dk ks)), .int k => P (valD ks k)
  | some (some (.dt ks)), .tup ds => ∃ js, intsD ds = some js ∧ P (valD ks js)
  | _, _ => False
@[simp] def putC (m : Option (Option CC)) (y d : D) (P : CC → Prop) : Prop := match m, y with
  | some (some (.dk ks)), .int k => ks.length < sizeLine ∧ P (.dk (putD ks k d))
  | some (some (.dt ks)), .tup ds => ∃ js, intsD ds = some js ∧ ks.length < sizeLine ∧ P (.dt (putD ks js d))
  | _, _ => False
@[simp] def dInK (neg : Bool) (i : Nat) (ty : TD) : TD := fun s P X => ty s (fun y s1 => ∃ c, s1.r[i]? = some (.cell c) ∧ getC s1.M[c]? y fun o => P (.bl (if neg then !o.isSome else o.isSome)) s1) X
@[simp] def dIxK (n : Nat) (ty : TD) : TD := fun s P X => ∃ c, s.r[n]? = some (.cell c) ∧ ty s (fun y s1 => getC s1.M[c]? y fun o => ∃ d, o = some d ∧ P d s1) X
@[simp] def dGet1 (n : Nat) (ty : TD) : TD := fun s P X => ∃ c, s.r[n]? = some (.cell c) ∧ isDic s.M[c]? ∧ ty s (fun y s1 => getC s1.M[c]? y fun o => P (o.getD .non) s1) X
@[simp] def dGet2 (n : Nat) (ty tv : TD) : TD := fun s P X => ∃ c, s.r[n]? = some (.cell c) ∧ isDic s.M[c]? ∧ ty s (fun y s1 => tv s1 (fun d s2 => getC s2.M[c]? y fun o => P (o.getD d) s2) X) X
@[simp] def dPutK (n : Nat) (ty tv : TD) : TSd := fun s E X => tv s (fun v s1 => ∃ c, s1.r[n]? = some (.cell c) ∧ ty s1 (fun y s2 => putC s2.M[c]? y v fun x => E.nx { s2 with M := s2.M.set c (some x) }) X) X
@[simp] def dNewD (n : Nat) (x0 : CC) : TSd := fun s E _ => E.nx { r := s.r.set n (.cell s.M.length), M := s.M ++ [some x0] }
end
end DL
namespace DL
open PySem L2
section
variable {X : Cx} {g : G} {W : WX} {pos pos' : Pos} {a b c e o i : Expr} {ta tb tc td ty tv : TD} {w : Cs} {H H' H1 : Hp} {σ : L2.St} {s s1 : S} {t : TDA}
abbrev Cs.off (w : Cs) (c : Nat) : Cs := { w with cs := w.cs.set c none }
theorem RS.freeze {c : Nat} {ds : List D} (rs : RS g w H σ s) (em : s.M[c]? = some (some (.lst ds))) : RS g (w.off c) H σ { r := s.r.map (thaw c ds), M := s.M.set c none } := by
  obtain ⟨p, ep, vs, hp, rv⟩ := rs.mem.at_ c _ em
  have hcl : c < w.cs.length := (List.getElem?_eq_some_iff.mp ep).1
  have nb : ¬ Cs.bad { w with cs := w.cs.set c none } p := fun z => by
    rcases z with z | z
    · obtain ⟨j, ej⟩ := List.getElem?_of_mem z
      by_cases hj : c = j
      · subst hj
        rw [List.getElem?_set_self hcl] at ej
        cases ej
      · rw [List.getElem?_set_ne hj] at ej
        exact hj (rs.mem.inj c j p ep ej)
    · exact (rs.mem.av p z).1 (List.mem_of_getElem? ep)
  have sub : ∀ a, Cs.bad { w with cs := w.cs.set c none } a → w.bad a := fun a z => by
    rcases z with z | z
    · obtain ⟨j, ej⟩ := List.getElem?_of_mem z
      by_cases hj : c = j
      · subst hj
        rw [List.getElem?_set_self hcl] at ej
        cases ej
      · rw [List.getElem?_set_ne hj] at ej
        exact .inl (List.mem_of_getElem? ej)
    · exact .inr z
  have kk : ∀ a o, ¬ w.bad a → H a = some o → H a = some o ∧ ¬ Cs.bad { w with cs := w.cs.set c none } a := fun a o n e => ⟨e, fun z => n (sub a z)⟩
  refine ⟨by simp [rs.len], fun j y ej => ?_, ⟨by simp [rs.mem.len], fun j y ej => ?_, fun j a ej => ?_, fun j j' a e1 e2 => ?_, fun a ha => ?_, fun a ha => ⟨fun z => (rs.mem.tabs a ha).1 (sub a z), (rs.mem.tabs a ha).2⟩⟩⟩
  · have ej : (s.r.map (thaw c ds))[j]? = some y := ej
    rw [List.getElem?_map] at ej
    cases ez : s.r[j]? with
    | none => rw [ez] at ej; cases ej
    | some z =>
      rw [ez] at ej
      cases ej
      have q := rs.slot j z ez
      cases z with
      | no => trivial
      | dat d => obtain ⟨v, ev, q⟩ := q; exact ⟨v, ev, Rep.gen kk q⟩
      | cell j' =>
        obtain ⟨a, ea, ev⟩ := q
        simp only [thaw]
        by_cases hj : j' = c
        · rw [if_pos hj]
          subst hj
          rw [ep] at ea
          cases ea
          exact ⟨.ref p, ev, Rep.lst nb hp (Reps.gen kk rv)⟩
        · rw [if_neg hj]
          exact ⟨a, by show (w.cs.set c none)[j']? = _; rw [List.getElem?_set_ne (Ne.symm hj)]; exact ea, ev⟩
  · have ej : (s.M.set c none)[j]? = some (some y) := ej
    by_cases hj : c = j
    · subst hj
      rw [List.getElem?_set_self (by rw [← rs.mem.len]; exact hcl)] at ej
      cases ej
    · rw [List.getElem?_set_ne hj] at ej
      obtain ⟨a, ea, q⟩ := rs.mem.at_ j y ej
      exact ⟨a, by show (w.cs.set c none)[j]? = _; rw [List.getElem?_set_ne hj]; exact ea, q.gen kk rfl⟩
  · have ej : (w.cs.set c none)[j]? = some (some a) := ej
    by_cases hj : c = j
    · subst hj
      rw [List.getElem?_set_self hcl] at ej
      cases ej
    · rw [List.getElem?_set_ne hj] at ej
      obtain ⟨y, ey⟩ := rs.mem.live j a ej
      exact ⟨y, by show (s.M.set c none)[j]? = _; rw [List.getElem?_set_ne hj]; exact ey⟩
  · have e1 : (w.cs.set c none)[j]? = some (some a) := e1
    have e2 : (w.cs.set c none)[j']? = some (some a) := e2
    have get : ∀ i, (w.cs.set c none)[i]? = some (some a) → w.cs[i]? = some (some a) := fun i e => by
      by_cases hj : c = i
      · subst hj
        rw [List.getElem?_set_self hcl] at e
        cases e
      · rw [List.getElem?_set_ne hj] at e
        exact e
    exact rs.mem.inj j j' a (get j e1) (get j' e2)
  · obtain ⟨n, o, e⟩ := rs.mem.av a ha
    refine ⟨fun z => ?_, o, e⟩
    obtain ⟨j, ej⟩ := List.getElem?_of_mem z
    by_cases hj : c = j
    · subst hj
      rw [List.getElem?_set_self hcl] at ej
      cases ej
    · rw [List.getElem?_set_ne hj] at ej
      exact n (List.mem_of_getElem? ej)
mutual
@[simp] def noL : D → Bool
  | .non => true
  | .bl _ => true
  | .int _ => true
  | .str _ => true
  | .tup ds => noLs ds
  | .ct ds => noLs ds
  | .lst _ => false
  | .fl _ => false
  | .ins _ _ => false
  | .xc _ _ _ => false
  | .dk _ => false
@[simp] def noLs : List D → Bool
  | [] => true
  | d :: ds => noL d && noLs ds
end
theorem noLs_all {ds : List D} (h : ∀ d ∈ ds, noL d = true) : noLs ds = true := by
  induction ds with
  | nil => rfl
  | cons d ds ih => simp only [noLs, Bool.and_eq_true]; exact ⟨h d List.mem_cons_self, ih fun x hx => h x (List.mem_cons_of_mem _ hx)⟩
theorem noLs_map {α : Type} {f : α → D} (h : ∀ x, noL (f x) = true) (l : List α) : noLs (l.map f) = true := noLs_all fun d hd => by
  obtain ⟨x, _, e⟩ := List.mem_map.mp hd
  subst e
  exact h x
@[simp] theorem noLs_ints (l : List Int) : noLs (l.map .int) = true := noLs_map (fun _ => rfl) l
@[simp] theorem noLs_app (l k : List D) : noLs (l ++ k) = (noLs l && noLs k) := by
  induction l with
  | nil => rfl
  | cons d l ih => simp [ih, Bool.and_assoc]
@[simp] def ccNoL : CC → Bool
  | .lst ds => noLs ds
  | .dk ks => noLs (ks.map (·.2))
  | .dt ks => noLs (ks.map (·.2))
@[simp] def memNoL : Mem → Bool
  | [] => true
  | none :: M => memNoL M
  | some x :: M => ccNoL x && memNoL M
theorem memNoL_at : ∀ {M : Mem} {j : Nat} {x : CC}, memNoL M = true → M[j]? = some (some x) → ccNoL x = true
  | [], j, x, _, e => by simp at e
  | none :: M, 0, x, _, e => by simp at e
  | none :: M, j + 1, x, h, e => memNoL_at (M := M) h (by simpa using e)
  | some y :: M, 0, x, h, e => by
    simp at e; subst e
    simp only [memNoL, Bool.and_eq_true] at h
    exact h.1
  | some y :: M, j + 1, x, h, e => by
    simp only [memNoL, Bool.and_eq_true] at h
    exact memNoL_at (M := M) h.2 (by simpa using e)
mutual
theorem Rep.noL {cs cs' : Cs} {p : Addr} {us : List V} (hb : ∀ a, cs'.bad a → cs.bad a ∨ a = p) (hp : H p = some (.lst us)) : ∀ {d : D} {v : V}, noL d = true → Rep g cs H d v → Rep g cs' H d v
  | .non, _, _, h => by simpa only [Rep] using h
  | .bl _, _, _, h => by simpa only [Rep] using h
  | .int _, _, _, h => by simpa only [Rep] using h
  | .str _, _, _, h => by simpa only [Rep] using h
  | .tup ds, v, n, h => by
    simp only [Rep] at h ⊢
    obtain ⟨a, vs, e, nb, q, r⟩ := h
    exact ⟨a, vs, e, fun z => (hb a z).elim nb (fun z => by rw [z, hp] at q; cases q), q, Reps.noL hb hp (by simpa using n) r⟩
  | .ct ds, v, n, h => by
    simp only [Rep] at h ⊢
    obtain ⟨a, vs, e, q, r⟩ := h
    exact ⟨a, vs, e, q, Reps.noL hb hp (by simpa using n) r⟩
  | .lst _, _, n, _ => by simp at n
  | .fl _, _, n, _ => by simp at n
  | .ins _ _, _, n, _ => by simp at n
  | .xc _ _ _, _, n, _ => by simp at n
  | .dk _, _, n, _ => by simp at n
theorem Reps.noL {cs cs' : Cs} {p : Addr} {us : List V} (hb : ∀ a, cs'.bad a → cs.bad a ∨ a = p) (hp : H p = some (.lst us)) : ∀ {ds : List D} {vs : List V}, noLs ds = true → Reps g cs H ds vs → Reps g cs' H ds vs
  | [], _, _, h => by simpa only [Reps] using h
  | d :: ds, _, n, h => by
    simp only [Reps] at h ⊢
    simp only [noLs, Bool.and_eq_true] at n
    obtain ⟨v, r, e, q, z⟩ := h
    exact ⟨v, r, e, Rep.noL hb hp n.1 q, Reps.noL hb hp n.2 z⟩
end
theorem RepK.noL {α β : Type} {enc : α → β} {cs cs' : Cs} {p : Addr} {us : List V} (hb : ∀ a, cs'.bad a → cs.bad a ∨ a = p) (hp : H p = some (.lst us)) : ∀ {ks : List (α × D)} {ws : List (β × V)}, noLs (ks.map (·.2)) = true → RepK g cs H enc ks ws → RepK g cs' H enc ks ws
  | [], _, _, h => h
  | q :: ks, _, n, ⟨v, r, e, h, z⟩ => by
    simp only [List.map_cons, noLs, Bool.and_eq_true] at n
    exact ⟨v, r, e, Rep.noL hb hp n.1 h, RepK.noL hb hp n.2 z⟩
theorem CellOk.noL {cs cs' : Cs} {p : Addr} {us : List V} (hb : ∀ a, cs'.bad a → cs.bad a ∨ a = p) (hp : H p = some (.lst us)) {x : CC} {a : Addr} (n : ccNoL x = true) (h : CellOk g cs H x a) : CellOk g cs' H x a := by
  cases x with
  | lst ds => obtain ⟨vs, q, r⟩ := h; exact ⟨vs, q, Reps.noL hb hp n r⟩
  | dk ds => obtain ⟨vs, q, r⟩ := h; exact ⟨vs, q, RepK.noL hb hp n r⟩
  | dt ds => obtain ⟨vs, q, r⟩ := h; exact ⟨vs, q, RepK.noL hb hp n r⟩
theorem bad_off {av : List Addr} {c : Nat} {p : Addr} (ep : w.cs[c]? = some (some p)) : ∀ a, Cs.bad ⟨w.cs, av⟩ a → Cs.bad ⟨w.cs.set c none, av⟩ a ∨ a = p := fun a h => by
  rcases h with h | h
  · obtain ⟨j, ej⟩ := List.getElem?_of_mem h
    have ej : w.cs[j]? = some (some a) := ej
    by_cases hj : c = j
    · subst hj
      rw [ep] at ej
      cases ej
      exact .inr rfl
    · refine .inl (.inl (List.mem_of_getElem? (i := j) ?_))
      show (w.cs.set c none)[j]? = _
      rw [List.getElem?_set_ne hj]
      exact ej
  · exact .inl (.inr h)
theorem off_ext {c : Nat} (e1 : HExt (w.off c) H H1) : HExt w H H1 := e1.sub fun a n z => n (by
  obtain ⟨j, ej⟩ := List.getElem?_of_mem z
  have ej : (w.cs.set c none)[j]? = some (some a) := ej
  by_cases hj : c = j
  · subst hj
    have hc : c < w.cs.length := by
      have := (List.getElem?_eq_some_iff.mp ej).1
      simpa using this
    rw [List.getElem?_set_self hc] at ej
    cases ej
  · rw [List.getElem?_set_ne hj] at ej
    exact List.mem_of_getElem? ej)
theorem off_not {c : Nat} {p : Addr} (rs : RS g w H σ s) (ep : w.cs[c]? = some (some p)) : some p ∉ (w.off c).cs := fun z => by
  obtain ⟨j, ej⟩ := List.getElem?_of_mem z
  have ej : (w.cs.set c none)[j]? = some (some p) := ej
  by_cases hj : c = j
  · subst hj
    rw [List.getElem?_set_self (List.getElem?_eq_some_iff.mp ep).1] at ej
    cases ej
  · rw [List.getElem?_set_ne hj] at ej
    exact hj (rs.mem.inj c j p ep ej)
theorem RS.lend {av1 : List Addr} {c : Nat} {p : Addr} {ds : List D} (rs : RS g w H σ s) (ep : w.cs[c]? = some (some p)) (em : s.M[c]? = some (some (.lst ds))) (e1 : HExt (w.off c) H H1)
    (rs1 : RS g ⟨w.cs.set c none, av1⟩ H1 σ s1) (nl : memNoL s1.M = true) (m : Mv w H ⟨w.cs, av1⟩ H1) (hav : ∀ a, a ∈ av1 → some a ∉ w.cs) :
    (∃ us, H1 p = some (.lst us)) ∧ RS g ⟨w.cs, av1⟩ H1 σ { r := s.r, M := s1.M.set c (some (.lst ds)) } := by
  obtain ⟨p', ep', vs, hp, rv⟩ := rs.mem.at_ c _ em
  rw [ep] at ep'
  cases ep'
  have hp1 : H1 p = some (.lst vs) := e1 p _ (off_not rs ep) hp
  have hlen : s1.M.length = w.cs.length := by
    have := rs1.mem.len
    simpa using this.symm
  have hcl : c < w.cs.length := (List.getElem?_eq_some_iff.mp ep).1
  refine ⟨⟨vs, hp1⟩, rs.len, fun j y ej => ?_, ⟨by simp [hlen], fun j y ej => ?_, fun j a ej => ?_, rs.mem.inj, fun a ha => ⟨hav a ha, (rs1.mem.av a ha).2⟩, fun a ha => ⟨fun z => z.elim (fun z => (rs.mem.tabs a ha).1 (.inl z)) (fun z => (rs1.mem.tabs a ha).1 (.inr z)), (rs1.mem.tabs a ha).2⟩⟩⟩
  · have q := rs.slot j y ej
    cases y with
    | no => trivial
    | dat d => obtain ⟨v, ev, q⟩ := q; exact ⟨v, ev, q.mv m⟩
    | cell j' => exact q
  · have ej : (s1.M.set c (some (.lst ds)))[j]? = some (some y) := ej
    by_cases hj : c = j
    · subst hj
      rw [List.getElem?_set_self (by rw [hlen]; exact hcl)] at ej
      cases ej
      exact ⟨p, ep, vs, hp1, rv.mv m⟩
    · rw [List.getElem?_set_ne hj] at ej
      obtain ⟨a, ea, q⟩ := rs1.mem.at_ j y ej
      have ea : (w.cs.set c none)[j]? = some (some a) := ea
      rw [List.getElem?_set_ne hj] at ea
      exact ⟨a, ea, CellOk.noL (bad_off ep) hp1 (memNoL_at nl ej) q⟩
  · by_cases hj : c = j
    · subst hj
      exact ⟨_, List.getElem?_set_self (by rw [hlen]; exact hcl)⟩
    · obtain ⟨y, ey⟩ := rs1.mem.live j a (by show (w.cs.set c none)[j]? = _; rw [List.getElem?_set_ne hj]; exact ej)
      exact ⟨y, by show (s1.M.set c _)[j]? = _; rw [List.getElem?_set_ne hj]; exact ey⟩
@[simp] def dLendF (n : Nat) (tf : TDF) : TDF := fun s P _ => ∃ c ds, s.r[n]? = some (.cell c) ∧ s.M[c]? = some (some (.lst ds)) ∧
  tf { r := s.r.map (thaw c ds), M := s.M.set c none } (fun es s1 => memNoL s1.M = true ∧ noLs es = true ∧ P es { r := s.r, M := s1.M.set c (some (.lst ds)) }) fun _ _ _ => False
@[simp] def dLend (n : Nat) (t : TD) : TD := fun s P _ => ∃ c ds, s.r[n]? = some (.cell c) ∧ s.M[c]? = some (some (.lst ds)) ∧
  t { r := s.r.map (thaw c ds), M := s.M.set c none } (fun d s1 => memNoL s1.M = true ∧ noL d = true ∧ P d { r := s.r, M := s1.M.set c (some (.lst ds)) }) fun _ _ _ => False
theorem lF_lend {n : Nat} {tf : TDF} : ∀ σ H Q, lF g W (dLendF n tf) σ H Q → lF g W tf σ H Q := fun σ H Q ⟨w, s, P, PX, rs, ⟨c, ds, ec, em, h⟩, k, x⟩ => by
  obtain ⟨p, ep, vs, hp, rv⟩ := rs.mem.at_ c _ em
  refine ⟨w.off c, _, _, _, rs.freeze em, h, fun es s1 H1 q us ⟨nl, ne, pz⟩ e1 n0 nb rs1 hq rq => ?_, fun _ _ _ _ _ _ z => z.elim⟩
  have ex := off_ext e1
  have nbw : ¬ w.bad q := rs.mem.fresh n0
  obtain ⟨⟨ls, hl⟩, rs2⟩ := rs.lend (av1 := q :: w.av) ep em e1 rs1 nl (mv_out ex n0) fun a ha => by
    rcases List.mem_cons.mp ha with z | z
    · rw [z]; exact fun z => nbw (.inl z)
    · exact (rs.mem.av a z).1
  exact k es _ H1 q us pz ex n0 nbw rs2 hq (Reps.noL (bad_off ep) hl ne rq)
theorem lE_lend {n : Nat} {t : TD} : ∀ σ H Q, lE g W (dLend n t) σ H Q → lE g W t σ H Q := fun σ H Q ⟨w, s, P, PX, rs, ⟨c, ds, ec, em, h⟩, k, x⟩ => by
  obtain ⟨p, ep, vs, hp, rv⟩ := rs.mem.at_ c _ em
  refine ⟨w.off c, _, _, _, rs.freeze em, h, fun d s1 H1 v ⟨nl, ne, pz⟩ e1 rs1 rd => ?_, fun _ _ _ _ _ _ z => z.elim⟩
  have ex := off_ext e1
  obtain ⟨⟨ls, hl⟩, rs2⟩ := rs.lend (av1 := w.av) ep em e1 rs1 nl (.of_ext ex) fun a ha => (rs.mem.av a ha).1
  exact k d _ H1 v pz ex rs2 (Rep.noL (bad_off ep) hl ne rd)
theorem de_lend (n : Nat) {t : TD} (h : PE X e (lE g W t)) : PE X e (lE g W (dLend n t)) := pe_imp h lE_lend
theorem ds_lend (n : Nat) {st : Stmt} {tf : TDF} {i : Nat} (h : PS X st (tAsg (lF g W tf) (gName i))) : PS X st (tAsg (lF g W (dLendF n tf)) (gName i)) := ps_imp h fun D σ H q => lF_lend σ H _ q
@[simp] def ren2 (c : Nat) : Sl → Sl
  | .cell j => if j = c then .cell 0 else .cell 1
  | x => x
def Cs.two_ (w : Cs) (a b : Addr) : Cs := ⟨[some a, some b], (w.all.filter fun x => decide (x ≠ a) && decide (x ≠ b)) ++ w.av⟩
theorem bad_two {p q a : Addr} (hp : some p ∈ w.cs) (hq : some q ∈ w.cs) : (w.two_ p q).bad a ↔ w.bad a := by
  unfold Cs.bad Cs.two_
  simp only [List.mem_cons, Option.some.injEq, List.not_mem_nil, or_false, List.mem_append, List.mem_filter, mem_all, Bool.and_eq_true, decide_eq_true_eq]
  constructor
  · rintro ((h | h) | ⟨h, _⟩ | h)
    · subst h; exact .inl hp
    · subst h; exact .inl hq
    · exact .inl h
    · exact .inr h
  · rintro (h | h)
    · by_cases e : a = p
      · exact .inl (.inl e)
      · by_cases e2 : a = q
        · exact .inl (.inr e2)
        · exact .inr (.inl ⟨h, e, e2⟩)
    · exact .inr (.inr h)
theorem ArgOk.two_ {c c2 : Nat} {p q : Addr} (hp : w.cs[c]? = some (some p)) (hq : w.cs[c2]? = some (some q)) : ∀ {xs : List Sl} {vs : List V}, ArgOk g w H xs vs → (∀ j ∈ cellsIn xs, j = c ∨ j = c2) → ArgOk g (w.two_ p q) H (xs.map (ren2 c)) vs
  | [], _, h, _ => h
  | .no :: _, _, h, _ => h
  | .dat d :: xs, _, h, e => by
    obtain ⟨v, r, ev, z, y⟩ := h
    exact ⟨v, r, ev, Rep.gen (kb fun a => bad_two (List.mem_of_getElem? hp) (List.mem_of_getElem? hq)) z, ArgOk.two_ hp hq y e⟩
  | .cell j :: xs, _, h, e => by
    obtain ⟨a, r, ev, z, y⟩ := h
    have ih := ArgOk.two_ hp hq y fun j' hj' => e j' (List.mem_cons_of_mem _ hj')
    rw [List.map_cons]
    by_cases hj : j = c
    · subst hj
      rw [hp] at z; cases z
      simp only [ren2, if_pos]
      exact ⟨p, r, ev, rfl, ih⟩
    · rcases e j List.mem_cons_self with z2 | z2
      · exact absurd z2 hj
      · subst z2
        rw [hq] at z; cases z
        simp only [ren2, if_neg hj]
        exact ⟨q, r, ev, rfl, ih⟩
theorem MemOk.two_ {M : Mem} {c c2 : Nat} {p q : Addr} {x y : CC} (m : MemOk g w H M) (hp : w.cs[c]? = some (some p)) (hq : w.cs[c2]? = some (some q)) (hx : M[c]? = some (some x)) (hy : M[c2]? = some (some y)) (ne : c ≠ c2) : MemOk g (w.two_ p q) H [some x, some y] := by
  have hb : ∀ a, (w.two_ p q).bad a ↔ w.bad a := fun a => bad_two (List.mem_of_getElem? hp) (List.mem_of_getElem? hq)
  have npq : p ≠ q := fun z => ne (m.inj c c2 p hp (by rw [z]; exact hq))
  refine ⟨rfl, fun j z e => ?_, fun j a e => ?_, fun j j' a e e' => ?_, fun a ha => ⟨fun z => ?_, m.tracked ((hb a).mp (.inr ha))⟩, fun a ha => ⟨fun z => (m.tabs a ha).1 ((hb a).mp z), (m.tabs a ha).2⟩⟩
  · match j, e with
    | 0, e =>
      cases e
      obtain ⟨a, ea, z⟩ := m.at_ c x hx
      rw [hp] at ea; cases ea
      exact ⟨p, rfl, z.gen (kb hb) rfl⟩
    | 1, e =>
      cases e
      obtain ⟨a, ea, z⟩ := m.at_ c2 y hy
      rw [hq] at ea; cases ea
      exact ⟨q, rfl, z.gen (kb hb) rfl⟩
    | j + 2, e => simp at e
  · match j, e with
    | 0, e => exact ⟨x, rfl⟩
    | 1, e => exact ⟨y, rfl⟩
    | j + 2, e => simp [Cs.two_] at e
  · match j, j', e, e' with
    | 0, 0, _, _ => rfl
    | 1, 1, _, _ => rfl
    | 0, 1, e, e' => simp [Cs.two_] at e e'; exact absurd (e.trans e'.symm) npq
    | 1, 0, e, e' => simp [Cs.two_] at e e'; exact absurd (e'.trans e.symm) npq
    | j + 2, _, e, _ => simp [Cs.two_] at e
    | _, j + 2, _, e => simp [Cs.two_] at e
  · have ha : a ∈ (w.all.filter fun x => decide (x ≠ p) && decide (x ≠ q)) ++ w.av := ha
    have z : a = p ∨ a = q := by simpa [Cs.two_] using z
    rcases List.mem_append.mp ha with h | h
    · have := (List.mem_filter.mp h).2
      simp at this
      rcases z with z | z
      · exact this.1 z
      · exact this.2 z
    · rcases z with z | z
      · exact (m.av a h).1 (by rw [z]; exact List.mem_of_getElem? hp)
      · exact (m.av a h).1 (by rw [z]; exact List.mem_of_getElem? hq)
theorem RS.after_two {c c2 : Nat} {p q : Addr} {x' y' : CC} (r : RS g w H σ s) (hp : w.cs[c]? = some (some p)) (hq : w.cs[c2]? = some (some q)) (ne : c ≠ c2) (e : HExt (w.two_ p q) H H') (m : MemOk g (w.two_ p q) H' [some x', some y']) :
    HExt w H H' ∧ RS g w H' σ { s with M := (s.M.set c (some x')).set c2 (some y') } := by
  have hb : ∀ a, (w.two_ p q).bad a ↔ w.bad a := fun a => bad_two (List.mem_of_getElem? hp) (List.mem_of_getElem? hq)
  have hcl : c < s.M.length := by rw [← r.mem.len]; exact (List.getElem?_eq_some_iff.mp hp).1
  have hcl2 : c2 < s.M.length := by rw [← r.mem.len]; exact (List.getElem?_eq_some_iff.mp hq).1
  have nn : ∀ a, a ≠ p → a ≠ q → some a ∉ (w.two_ p q).cs := fun a h h2 z => by
    have z : a = p ∨ a = q := by simpa [Cs.two_] using z
    exact z.elim h h2
  have e' : HExt w H H' := e.sub fun a n => nn a (fun z => n (by rw [z]; exact List.mem_of_getElem? hp)) (fun z => n (by rw [z]; exact List.mem_of_getElem? hq))
  refine ⟨e', r.mem' e' ⟨by simp [r.mem.len], fun j y ej => ?_, fun j a ej => ?_, r.mem.inj, fun a ha => ?_, fun a ha => ⟨(r.mem.tabs a ha).1, e'.tab (fun z => (r.mem.tabs a ha).1 (.inl z)) (r.mem.tabs a ha).2⟩⟩⟩
  · have ej : ((s.M.set c (some x')).set c2 (some y'))[j]? = some (some y) := ej
    by_cases hj2 : c2 = j
    · subst hj2
      rw [List.getElem?_set_self (by simpa using hcl2)] at ej
      cases ej
      obtain ⟨a, ea, z⟩ := m.at_ 1 y' rfl
      have ea : some q = some a := by simpa [Cs.two_] using ea
      cases ea
      exact ⟨q, hq, z.gen (kb fun a => (hb a).symm) rfl⟩
    · rw [List.getElem?_set_ne hj2] at ej
      by_cases hj : c = j
      · subst hj
        rw [List.getElem?_set_self hcl] at ej
        cases ej
        obtain ⟨a, ea, z⟩ := m.at_ 0 x' rfl
        have ea : some p = some a := by simpa [Cs.two_] using ea
        cases ea
        exact ⟨p, hp, z.gen (kb fun a => (hb a).symm) rfl⟩
      · rw [List.getElem?_set_ne hj] at ej
        obtain ⟨a, ea, z⟩ := r.mem.at_ j y ej
        obtain ⟨o, eo, nt⟩ := z.trackedN
        have hap : a ≠ p := fun u => hj (r.mem.inj c j p hp (by rw [ea, u]))
        have haq : a ≠ q := fun u => hj2 (r.mem.inj c2 j q hq (by rw [ea, u]))
        exact ⟨a, ea, z.mv (.of_ext e') ((e a o (nn a hap haq) eo nt).trans eo.symm)⟩
  · obtain ⟨y, ey⟩ := r.mem.live j a ej
    by_cases hj2 : c2 = j
    · subst hj2
      exact ⟨_, List.getElem?_set_self (by simpa using hcl2)⟩
    · by_cases hj : c = j
      · subst hj
        exact ⟨x', by show ((s.M.set c _).set c2 _)[c]? = _; rw [List.getElem?_set_ne hj2]; exact List.getElem?_set_self hcl⟩
      · exact ⟨y, by show ((s.M.set c _).set c2 _)[j]? = _; rw [List.getElem?_set_ne hj2, List.getElem?_set_ne hj]; exact ey⟩
  · obtain ⟨n, o, h⟩ := r.mem.av a ha
    exact ⟨n, e'.ex n h⟩
@[simp] def dCall2 (spd : SpD) (t : TDA) : TD := fun s P X => t s (fun xs s1 => ∃ c c2, cellsIn xs = [c, c2] ∧ c ≠ c2 ∧ ∃ m m2, s1.M[c]? = some (some m) ∧ s1.M[c2]? = some (some m2) ∧
  spd (xs.map (ren2 c)) [some m, some m2] (fun d M' => ∃ m' m2', M' = [some m', some m2'] ∧ P d { s1 with M := (s1.M.set c (some m')).set c2 (some m2') }) fun k x M' => ∃ m' m2', M' = [some m', some m2'] ∧ X k x { s1 with M := (s1.M.set c (some m')).set c2 (some m2') }) X
theorem lE_call2 {spd : SpD} {t : TDA} {ta : TA} (ht : ∀ σ H Q, lA g W t σ H Q → ta σ H Q) : ∀ σ H Q, lE g W (dCall2 spd t) σ H Q → tCallS (lSp g spd) (WE W) ta σ H Q := fun σ H Q ⟨w, s, P, PX, rs, h, k, x⟩ =>
  ht _ _ _ ⟨w, s, _, PX, rs, h, fun xs s1 H1 vs q e1 rs1 ra => by
    obtain ⟨c, c2, hc, ne, m, m2, em, em2, q⟩ := q
    obtain ⟨p, hp, _⟩ := rs1.mem.at_ c m em
    obtain ⟨p2, hp2, _⟩ := rs1.mem.at_ c2 m2 em2
    have hb : ∀ a, w.bad a ↔ (w.two_ p p2).bad a := fun a => (bad_two (List.mem_of_getElem? hp) (List.mem_of_getElem? hp2)).symm
    refine ⟨w.two_ p p2, _, _, _, _, ra.two_ hp hp2 (fun j hj => by rw [hc] at hj; simpa using hj), rs1.mem.two_ hp hp2 em em2 ne, q, fun d M' H2 v pp e2 mm rp => ?_, fun cc xx M' H2 dd v pp e2 mm hd rp => ?_⟩
    · obtain ⟨m', m2', em', pp⟩ := pp
      subst em'
      obtain ⟨e3, rs3⟩ := rs1.after_two hp hp2 ne e2 mm
      exact k d _ H2 v pp (e1.trans e3) rs3 (Rep.gen (kb hb) rp)
    · obtain ⟨m', m2', em', pp⟩ := pp
      subst em'
      obtain ⟨e3, rs3⟩ := rs1.after_two hp hp2 ne e2 mm
      exact x cc xx _ H2 dd v pp (e1.trans e3) rs3 ⟨fun z => hd.1 ((hb dd).mp z), hd.2⟩ (Rep.gen (kb hb) rp), x⟩
theorem de_call2 {spd : SpD} {t : TDA} {k : Nat} {f : Addr} {fd : FuncData} {ps : List Str} {x : Str} {p : Pos} {es : List Expr} (tk : Takes X W) (F : FnOk X.prog X.w X.K X.mg X.base (L2.CX X.prog X.w) k f fd ps (lSp g spd)) (hr : Room k X.A) (hg : Gl X x) (hm : X.mg x = some (.ref f)) (hk : PySem.W.keepIn X.K (.ref f) = true) (hb : Binds X.K fd ps [])
    (ha : PA X (e :: es) (lA g W t)) (hdb : (x == ("__debug__" : Str)) = false := by decide) (he : starEach (e :: es) X.env = (false, eval e X.env) :: starEach es X.env := by rfl) (hpl : (backTo pos (starEach es X.env)).any (·.1) = false := by rfl) :
    PE X (.Call (.Name x p) (e :: es) [] pos) (lE g W (dCall2 spd t)) := pe_imp (pe_callS F hr hg hm hk hb (fun σ => passAt tk σ) ha hdb he hpl) (lE_call2 fun _ _ _ h => h)
end
end DL
namespace DL
open PySem L2 PyProof.Rows
section
variable {X : Cx} {g : G} {W : WX} {pos p : Pos} {a b c e : Expr} {ta tb tc td : TD} {w : Cs} {H H' : Hp} {σ : L2.St} {s : S} {t : TDA} {es : List Expr}
def rMaxK : List V → Hp → VK → Prop := fun vs H Q => ∃ (a : Addr) (kvs : List (Key × V)) (ns : List Int), vs = [V.ref a] ∧ H a = some (.dK kvs) ∧ kvs.map (·.1) = ns.map Sum.inl ∧ 0 < ns.length ∧ ∀ m, m ∈ ns → (∀ y, y ∈ ns → y ≤ m) → Q (.int m) H
@[simp] def rMaxKD : RCd := fun xs M P => match xs with
  | [.cell c] => ∃ ks, M[c]? = some (some (.dk ks)) ∧ 0 < ks.length ∧ ∀ m, m ∈ ks.map (·.1) → (∀ y, y ∈ ks.map (·.1) → y ≤ m) → P (.int m)
  | _ => False
end
end DL
namespace DL
open PySem L2
abbrev figD (S G : List Int) : D := .tup [tupI S, tupI G]
abbrev pairsT (ps : List (Int × Int)) : D := .tup (ps.map pairD)
def mayB (S G : List Int) (y x : Int) : Bool := decide (y ≠ x) && decide (atG G x ≤ atG S y)
def cg (ps : List (Int × Int)) (x : Int) : Int × Int := ps.getD x.toNat (0, -1)
theorem cg_get {ps : List (Int × Int)} {k : Nat} {p : Int × Int} (h : ps[k]? = some p) : cg ps k = p := by
  unfold cg
  rw [List.getD_eq_getElem?_getD]
  simp [h]
def formOk (n : Int) (k : Nat) (p : Int × Int) : Prop := (1 ≤ p.1 ∧ 0 ≤ p.2 ∧ p.2 < n ∧ p.2 ≠ k) ∨ p = (0, -1)
instance (n : Int) (k : Nat) (p : Int × Int) : Decidable (formOk n k p) := by unfold formOk; infer_instance
def formBad (n : Int) : Nat → List (Int × Int) → Option Nat
  | _, [] => none
  | k, p :: r => if formOk n k p then formBad n (k + 1) r else some k
def ranges (b : Int) : List Int := (List.range (b - 1).toNat).map fun (i : Nat) => (1 : Int) + i
def gapBad (b : Int) (rs : List Int) : Option Int := (ranges b).find? fun r => decide (r ∉ rs)
def maxL : List Int → Int
  | [] => 0
  | [x] => x
  | x :: y :: r => max x (maxL (y :: r))
def gamesBad (S G : List Int) (all : List (Int × Int)) : Nat → List (Int × Int) → Option (Nat × Int)
  | _, [] => none
  | k, p :: r => if 0 < p.1 then (if 0 < (cg all p.2).1 ∧ (cg all p.2).1 ≤ p.1 then some (k, 1) else if p ∈ all.take k then some (k, 2) else if mayB S G p.2 k = true then gamesBad S G all (k + 1) r else some (k, 3)) else gamesBad S G all (k + 1) r
def cupErr (S G : List Int) (ps : List (Int × Int)) : Option (Str × D) :=
  if ps.length = S.length then match formBad S.length 0 ps with
    | some k => some ("BadGame", .tup [.int (k : Nat), .int 0])
    | none => match gapBad (min (maxL (ps.map (·.1))) (S.length + 1)) (ps.map (·.1)) with
      | some r => some ("BadRounds", .int r)
      | none => match gamesBad S G ps 0 ps with
        | some (k, j) => some ("BadGame", .tup [.int (k : Nat), .int j])
        | none => none
  else some ("Unlike", .int ps.length)
def orE (e : Option (Str × D)) (d : D) (P : D → Mem → Prop) (PX : KXM) : Prop := match e with
  | some (c, x) => PX c x []
  | none => P d []
def spCanBeat : SpD := fun xs M P _ => ∃ (S G : List Int) (y x : Int), xs = [.dat (fldD S G), .dat (.int y), .dat (.int x)] ∧ M = [] ∧ 0 ≤ y ∧ y < S.length ∧ 0 ≤ x ∧ x < G.length ∧ P (.bl (mayB S G y x)) []
def spForm : SpD := fun xs M P PX => ∃ (n : Int) (ps : List (Int × Int)), xs = [.dat (.int n), .dat (pairsT ps)] ∧ M = [] ∧ ps.length ≤ 1000 ∧ orE (if (ps.length : Int) = n then match formBad n 0 ps with
  | some k => some ("BadGame", .tup [.int (k : Nat), .int 0])
  | none => none else some ("Unlike", .int ps.length)) .non P PX
def spGap : SpD := fun xs M P PX => ∃ (n : Int) (ps : List (Int × Int)), xs = [.dat (.int n), .dat (pairsT ps)] ∧ M = [] ∧ ps ≠ [] ∧ ps.length ≤ 1000 ∧ 0 ≤ n ∧ n ≤ 1000 ∧ (∀ p ∈ ps, 0 ≤ p.1) ∧ orE (match gapBad (min (maxL (ps.map (·.1))) (n + 1)) (ps.map (·.1)) with
  | some r => some ("BadRounds", .int r)
  | none => none) .non P PX
def spGamesC : SpD := fun xs M P PX => ∃ (S G : List Int) (ps : List (Int × Int)), xs = [.dat (fldD S G), .dat (pairsT ps)] ∧ M = [] ∧ ps.length = S.length ∧ G.length = S.length ∧ ps.length ≤ 1000 ∧ formBad S.length 0 ps = none ∧ orE (match gamesBad S G ps 0 ps with
  | some (k, j) => some ("BadGame", .tup [.int (k : Nat), .int j])
  | none => none) .non P PX
def spMadeCup : SpD := fun xs M P PX => ∃ (S G : List Int) (ps : List (Int × Int)), xs = [.dat (fldD S G), .dat (pairsT ps)] ∧ M = [] ∧ 1 ≤ S.length ∧ G.length = S.length ∧ S.length ≤ 1000 ∧ ps.length ≤ 1000 ∧ orE (cupErr S G ps) (pairsT ps) P PX
def spMay : SpD := fun xs M P _ => ∃ (S G : List Int) (y x : Int), xs = [.dat (figD S G), .dat (.int y), .dat (.int x)] ∧ M = [] ∧ 0 ≤ y ∧ y < S.length ∧ 0 ≤ x ∧ x < G.length ∧ P (.bl (mayB S G y x)) []
def spFigures : SpD := fun xs M P _ => ∃ (n a b : Int), xs = [.cell 0, .dat (.int n)] ∧ M = [src a b] ∧ Good a b ∧ 1 ≤ n ∧ n ≤ 32 ∧ ∀ (S G : List Int) a' b', S.length = n.toNat → G.length = n.toNat → (∀ v ∈ S, 0 ≤ v ∧ v ≤ 100) → (∀ v ∈ G, -1 ≤ v ∧ v ≤ 100) → Good a' b' → P (figD S G) [src a' b']
def spStairC : SpD := fun xs M P _ => ∃ (S G L : List Int), xs = [.dat (figD S G), .dat (.lst (L.map .int))] ∧ M = [] ∧ L.length ≤ 1000 ∧ (∀ x ∈ L, 0 ≤ x ∧ x < G.length) ∧ P (.lst ((stairOf G L).map .int)) []
structure FOK (S G : List Int) (left : List Int) (F : List (Int × Int)) : Prop where
  nx : (F.map (·.1)).Nodup
  ny : (F.map (·.2)).Nodup
  mem : ∀ p ∈ F, p.1 ∈ left ∧ p.2 ∈ left ∧ mayB S G p.2 p.1 = true
  dis : ∀ p ∈ F, ∀ q ∈ F, p.1 ≠ q.2
def spDrawn : SpD := fun xs M P _ => ∃ (S G left : List Int) (f : Bool) (a b : Int), xs = [.cell 0, .dat (figD S G), .cell 1, .dat (.bl f)] ∧ M = [src a b, some (.lst (left.map .int))] ∧ Good a b ∧ left.Nodup ∧ G.length = S.length ∧ (∀ x ∈ left, 0 ≤ x ∧ x < S.length) ∧ left.length ≤ 1000 ∧
  ∀ F a' b', FOK S G left F → Good a' b' → P (.lst (F.map pairD)) [src a' b', some (.lst (left.map .int))]
structure CupP (S G : List Int) (ps : List (Int × Int)) : Prop where
  len : ps.length = S.length
  form : ∀ x : Int, 0 ≤ x → x < S.length → cg ps x = (0, -1) ∨ (1 ≤ (cg ps x).1 ∧ 0 ≤ (cg ps x).2 ∧ (cg ps x).2 < S.length ∧ mayB S G (cg ps x).2 x = true ∧ ((cg ps (cg ps x).2) = (0, -1) ∨ (cg ps x).1 < (cg ps (cg ps x).2).1))
  one : ∀ x z : Int, 0 ≤ x → x < S.length → 0 ≤ z → z < S.length → cg ps x = cg ps z → 1 ≤ (cg ps x).1 → x = z
  gap : ∀ x r : Int, 0 ≤ x → x < S.length → 1 ≤ r → r ≤ (cg ps x).1 → ∃ z : Int, 0 ≤ z ∧ z < S.length ∧ (cg ps z).1 = r
  top : ∀ x : Int, 0 ≤ x → x < S.length → (cg ps x).1 < S.length
def spCupL : SpD := fun xs M P _ => ∃ (S G : List Int) (a b : Int), xs = [.cell 0, .dat (figD S G)] ∧ M = [src a b] ∧ Good a b ∧ 1 ≤ S.length ∧ S.length ≤ 1000 ∧ G.length = S.length ∧ ∀ (ps : List (Int × Int)) a' b', CupP S G ps → Good a' b' → P (pairsT ps) [src a' b']
def tdCanBeat : TSd :=
  dRet (dAndV (dOp rNeD' (dVar 1) (dVar 2)) (dOp rGeD (dOp rIxD (dFld (dVar 0) "Field" "strengths") (dVar 1)) (dOp rIxD (dFld (dVar 0) "Field" "guards") (dVar 2))))
abbrev N_cCanBeat : List Str := ["field", "y", "x"]
def tdForm : TSd :=
  dSeq (dIfS (dT (dOp rNeD' (dCB rLenD (dCons (dVar 1) (dNil))) (dVar 0))) (dRaise "Unlike" (dCB rLenD (dCons (dVar 1) (dNil)))) (dNext))
  (dFor (dEnum (dCons (dVar 1) (dNil))) (dgTup 2 (dgsCons (dgName 2) (dgsCons (dgTup 2 (dgsCons (dgName 3) (dgsCons (dgName 4) (dgsNil)))) (dgsNil)))) (dSeq (dSet 5 (dAndV (dOp rGeD (dVar 3) (dC (.int 1))) (dAndV (dChain rLeD rLtD (dC (.int 0)) (dVar 4) (dVar 0)) (dOp rNeD' (dVar 4) (dVar 2)))))
  (dIfS (dAnd (dNot (dTru (dVar 5))) (dT (dOp rNeD' (dTup (dCons (dVar 3) (dCons (dVar 4) (dNil)))) (dC (.ct (([0, -1] : List Int).map .int)))))) (dRaise "BadGame" (dTup (dCons (dVar 2) (dCons (dC (.int 0)) (dNil))))) (dNext))))
abbrev N_cForm : List Str := ["n", "pairs", "x", "r", "y", "loses"]
def tdGap : TSd :=
  dSeq (dNewD 2 (.dk []))
  (dSeq (dFor (dIter (dVar 1)) (dgTup 2 (dgsCons (dgName 3) (dgsCons (dgName 4) (dgsNil)))) (dPutK 2 (dVar 3) (dC (.bl true))))
  (dFor (dRange2 (dCons (dC (.int 1)) (dCons (dCB (r2I fun i j => if j < i then j else i) (dCons (dCB rMaxKD (dConsC 2 (dNil))) (dCons (dOp rAddD (dVar 0) (dC (.int 1))) (dNil)))) (dNil)))) (dgName 3) (dIfS (dT (dInK true 2 (dVar 3))) (dRaise "BadRounds" (dVar 3)) (dNext))))
abbrev N_cGap : List Str := ["n", "pairs", "told", "r", "_"]
def tdGamesC : TSd :=
  dSeq (dNewD 2 (.dt []))
  (dFor (dEnum (dCons (dVar 1) (dNil))) (dgTup 2 (dgsCons (dgName 3) (dgsCons (dgTup 2 (dgsCons (dgName 4) (dgsCons (dgName 5) (dgsNil)))) (dgsNil)))) (dIfS (dT (dOp rGtD (dVar 4) (dC (.int 0)))) (dSeq (dIfS (dT (dChain rLtD rLeD (dC (.int 0)) (dOp rIxD (dOp rIxD (dVar 1) (dVar 5)) (dC (.int 0))) (dVar 4))) (dRaise "BadGame" (dTup (dCons (dVar 3) (dCons (dC (.int 1)) (dNil))))) (dNext))
  (dSeq (dIfS (dT (dInK false 2 (dTup (dCons (dVar 4) (dCons (dVar 5) (dNil)))))) (dRaise "BadGame" (dTup (dCons (dVar 3) (dCons (dC (.int 2)) (dNil))))) (dNext))
  (dSeq (dIfS (dNot (dTru (dCall spCanBeat (dCons (dVar 0) (dCons (dVar 5) (dCons (dVar 3) (dNil))))))) (dRaise "BadGame" (dTup (dCons (dVar 3) (dCons (dC (.int 3)) (dNil))))) (dNext))
  (dPutK 2 (dTup (dCons (dVar 4) (dCons (dVar 5) (dNil)))) (dC (.bl true)))))) (dNext)))
abbrev N_cGamesC : List Str := ["field", "pairs", "beaten", "x", "r", "y"]
def tdMadeCup : TSd :=
  dSeq (dDrop (dCall spForm (dCons (dFld (dVar 0) "Field" "n") (dCons (dVar 1) (dNil)))))
  (dSeq (dDrop (dCall spGap (dCons (dFld (dVar 0) "Field" "n") (dCons (dVar 1) (dNil)))))
  (dSeq (dDrop (dCall spGamesC (dCons (dVar 0) (dCons (dVar 1) (dNil)))))
  (dRet (dVar 1))))
abbrev N_cMadeCup : List Str := ["field", "pairs"]
def tdFigures : TSd :=
  dSeq (dSet 2 (dCall spTake (dConsC 0 (dCons (dC (.int 3)) (dNil)))))
  (dSeq (dIfS (dT (dOp rEqD' (dVar 2) (dC (.int 0)))) (dSeq (dSet 3 (dCB rTupD (dCons (dCall spShuf (dConsC 0 (dCons (dVar 1) (dNil)))) (dNil))))
  (dRet (dTup (dCons (dVar 3) (dCons (dVar 3) (dNil)))))) (dNext))
  (dSeq (dSet 4 (dCB rTupD (dCons (dF (dLc (dRange1 (dCons (dVar 1) (dNil))) (dgName 5) (dYes) (dCall spTake (dConsC 0 (dCons (dC (.int 4)) (dNil)))) [5])) (dNil))))
  (dSeq (dIfS (dT (dOp rEqD' (dVar 2) (dC (.int 1)))) (dRet (dTup (dCons (dVar 4) (dCons (dVar 4) (dNil))))) (dNext))
  (dRet (dTup (dCons (dVar 4) (dCons (dCB rTupD (dCons (dF (dLc (dRange1 (dCons (dVar 1) (dNil))) (dgName 5) (dYes) (dOp rSubD (dCall spTake (dConsC 0 (dCons (dC (.int 5)) (dNil)))) (dC (.int 1))) [5])) (dNil))) (dNil))))))))
abbrev N_cFigures : List Str := ["_law_source", "_law_n", "_law_kind", "_law_row", "_law_ranks", "_law_x"]
def tdMay : TSd :=
  dRet (dAndV (dOp rNeD' (dVar 1) (dVar 2)) (dOp rGeD (dOp rIxD (dOp rIxD (dVar 0) (dC (.int 0))) (dVar 1)) (dOp rIxD (dOp rIxD (dVar 0) (dC (.int 1))) (dVar 2))))
abbrev N_cMay : List Str := ["_law_figures_here", "_law_y", "_law_x"]
def tdStairC : TSd :=
  dRet (dF (dLc (dIter (dCB rSortD (dCons (dF (dLc (dIter (dVar 1)) (dgName 3) (dYes) (dTup (dCons (dUn rNegD (dOp rIxD (dOp rIxD (dVar 0) (dC (.int 1))) (dVar 3))) (dCons (dVar 3) (dNil)))) [3])) (dNil)))) (dgTup 2 (dgsCons (dgName 2) (dgsCons (dgName 3) (dgsNil)))) (dYes) (dVar 3) [2, 3]))
abbrev N_cStairC : List Str := ["_law_figures_here", "_law_sides", "_law_guard", "_law_x"]
def tdDrawn : TSd :=
  dSeq (dSet 4 (dF (dLc (dIter (dCall spShuf (dConsC 0 (dCons (dCB rLenD (dConsC 2 (dNil))) (dNil))))) (dgName 5) (dYes) (dIxC 2 (dVar 5)) [5])))
  (dSeq (dSet 6 (dOp rDivD (dCB rLenD (dConsC 2 (dNil))) (dC (.int 2))))
  (dSeq (dIfS (dNot (dTru (dVar 3))) (dSet 6 (dCall spTake (dConsC 0 (dCons (dOp rAddD (dVar 6) (dC (.int 1))) (dNil))))) (dNext))
  (dSeq (dPar 7 8 (dConsF (dSlL (dVar 4) (dPart (dVar 6)) (dNoPart)) (dConsF (dLst (dNil)) (dNil))))
  (dSeq (dFor (dIter (dCall spStairC (dCons (dVar 1) (dCons (dSl (dVar 4) (dNoPart) (dPart (dVar 6))) (dNil))))) (dgName 9) (dSeq (dSet 10 (dF (dLendF 7 (dLc (dIter (dVar 7)) (dgName 11) (dTru (dCall spMay (dCons (dVar 1) (dCons (dVar 11) (dCons (dVar 9) (dNil)))))) (dVar 11) [11]))))
  (dIfS (dTru (dVar 10)) (dSeq (dSet 11 (dCall spOne (dConsC 0 (dCons (dVar 10) (dNil)))))
  (dSeq (dDrop (dMeth1 7 fRemI (dVar 11)))
  (dDrop (dMeth1 8 fAppend (dTup (dCons (dVar 9) (dCons (dVar 11) (dNil)))))))) (dNext))))
  (dFreeze 8 (dRet (dVar 8)))))))
abbrev N_cDrawn : List Str := ["_law_source", "_law_figures_here", "_law_left", "_law_is_full", "_law_names", "_law_k", "_law_many", "_law_seats", "_law_found", "_law_x", "_law_may_here", "_law_y"]
def tdCupL : TSd :=
  dSeq (dSet 2 (dCB rLenD (dCons (dOp rIxD (dVar 1) (dC (.int 0))) (dNil))))
  (dSeq (dPar3 3 4 5 (dConsF (dOpF rRepF (dF (dLst (dCons (dTup (dCons (dC (.int 0)) (dCons (dUn rNegD (dC (.int 1))) (dNil)))) (dNil)))) (dVar 2)) (dConsF (dLc (dRange1 (dCons (dVar 2) (dNil))) (dgName 6) (dYes) (dVar 6) [6]) (dCons (dOp rEqD' (dCall spTake (dConsC 0 (dCons (dC (.int 3)) (dNil)))) (dC (.int 0))) (dNil)))))
  (dSeq (dFor (dRange2 (dCons (dC (.int 1)) (dCons (dVar 2) (dNil)))) (dgName 7) (dSeq (dSet 8 (dCall2 spDrawn (dConsC 0 (dCons (dVar 1) (dConsC 4 (dCons (dOrV (dVar 5) (dOp rGtD (dCall spTake (dConsC 0 (dCons (dC (.int 4)) (dNil)))) (dC (.int 0)))) (dNil)))))))
  (dSeq (dIfS (dNot (dTru (dVar 8))) (dBreak) (dNext))
  (dFor (dIter (dVar 8)) (dgTup 2 (dgsCons (dgName 6) (dgsCons (dgName 9) (dgsNil)))) (dSeq (dSetIx 3 (dVar 6) (dTup (dCons (dVar 7) (dCons (dVar 9) (dNil)))))
  (dDrop (dMeth1 4 fRemI (dVar 6))))))))
  (dFreeze 3 (dRet (dCB rTupD (dCons (dVar 3) (dNil)))))))
abbrev N_cCupL : List Str := ["_law_source", "_law_figures_here", "_law_n", "_law_row", "_law_left", "_law_is_full", "_law_x", "_law_r", "_law_found", "_law_y"]
theorem maxL_mem : ∀ {l : List Int}, l ≠ [] → maxL l ∈ l ∧ ∀ y ∈ l, y ≤ maxL l
  | [], h => absurd rfl h
  | [x], _ => by simp [maxL]
  | x :: y :: r, _ => by
    obtain ⟨h1, h2⟩ := maxL_mem (l := y :: r) (by simp)
    unfold maxL
    constructor
    · by_cases c : x ≤ maxL (y :: r)
      · rw [Int.max_eq_right c]; exact List.mem_cons_of_mem _ h1
      · rw [Int.max_eq_left (by omega)]; exact List.mem_cons_self
    · intro z hz
      rcases List.mem_cons.mp hz with e | hz
      · omega
      · have := h2 z hz; omega
end DL
namespace DL
open PySem L2
theorem rangeI_atG (l : List Int) : (rangeI l.length).map (atG l) = l := by
  apply List.ext_getElem?
  intro i
  unfold rangeI
  rw [List.map_map, List.getElem?_map]
  by_cases h : i < l.length
  · rw [List.getElem?_range h, List.getElem?_eq_getElem h]
    simp [atG, List.getD_eq_getElem?_getD, h]
  · rw [List.getElem?_eq_none (by simpa using h), List.getElem?_eq_none (by omega)]
    rfl
theorem stairOf_perm (G L : List Int) : (stairOf G L).Perm L := by
  unfold stairOf
  have h := (sortP_perm (L.map (keyP G))).map (·.2)
  rw [List.map_map] at h
  have e : ((fun x : Int × Int => x.2) ∘ keyP G) = id := rfl
  rw [e, List.map_id] at h
  exact h
end DL
namespace DL
open PySem L2
theorem nodup_map_inj {α β : Type} {f : α → β} : ∀ {l : List α}, (l.map f).Nodup → ∀ p ∈ l, ∀ q ∈ l, f p = f q → p = q
  | [], _, p, hp, _, _, _ => nomatch hp
  | x :: l, nd, p, hp, q, hq, e => by
    rw [List.map_cons, List.nodup_cons] at nd
    rcases List.mem_cons.mp hp with h1 | h1 <;> rcases List.mem_cons.mp hq with h2 | h2
    · rw [h1, h2]
    · exact absurd (List.mem_map.mpr ⟨q, h2, by rw [← e, h1]⟩) nd.1
    · exact absurd (List.mem_map.mpr ⟨p, h1, by rw [e, h2]⟩) nd.1
    · exact nodup_map_inj nd.2 p h1 q h2 e
theorem cg_set {ps : List (Int × Int)} {x z : Int} {p : Int × Int} (x0 : 0 ≤ x) (x1 : x < ps.length) (z0 : 0 ≤ z) : cg (ps.set x.toNat p) z = if z = x then p else cg ps z := by
  unfold cg
  rw [List.getD_eq_getElem?_getD, List.getD_eq_getElem?_getD]
  by_cases h : z = x
  · subst h
    rw [if_pos rfl, List.getElem?_set_self (by omega)]
    rfl
  · rw [if_neg h, List.getElem?_set_ne (by omega)]
structure CInv (S G : List Int) (r : Int) (row : List (Int × Int)) (left : List Int) : Prop where
  len : row.length = S.length
  nd : left.Nodup
  rng : ∀ x ∈ left, 0 ≤ x ∧ x < S.length
  iff : ∀ x : Int, 0 ≤ x → x < S.length → (x ∈ left ↔ cg row x = (0, -1))
  form : ∀ x : Int, 0 ≤ x → x < S.length → cg row x = (0, -1) ∨ (1 ≤ (cg row x).1 ∧ (cg row x).1 < r ∧ 0 ≤ (cg row x).2 ∧ (cg row x).2 < S.length ∧ mayB S G (cg row x).2 x = true ∧ ((cg row (cg row x).2) = (0, -1) ∨ (cg row x).1 < (cg row (cg row x).2).1))
  one : ∀ x z : Int, 0 ≤ x → x < S.length → 0 ≤ z → z < S.length → cg row x = cg row z → 1 ≤ (cg row x).1 → x = z
  gap : ∀ q : Int, 1 ≤ q → q < r → ∃ z : Int, 0 ≤ z ∧ z < S.length ∧ (cg row z).1 = q
theorem CInv.cup {S G : List Int} {r : Int} {row : List (Int × Int)} {left : List Int} (h : CInv S G r row left) (hr : r ≤ S.length) (n1 : 1 ≤ S.length) : CupP S G row := by
  refine ⟨h.len, fun x x0 x1 => ?_, h.one, fun x q x0 x1 q1 q2 => ?_, fun x x0 x1 => ?_⟩
  · rcases h.form x x0 x1 with e | ⟨a, b, c, d, e, f⟩
    · exact .inl e
    · exact .inr ⟨a, c, d, e, f⟩
  · rcases h.form x x0 x1 with e | ⟨a, b, c, d, e, f⟩
    · rw [e] at q2; simp at q2; omega
    · exact h.gap q q1 (by omega)
  · rcases h.form x x0 x1 with e | ⟨a, b, c, d, e, f⟩
    · rw [e]; simp; omega
    · omega
theorem CInv.next {S G : List Int} {r : Int} {row row' : List (Int × Int)} {left left' : List Int} {F : List (Int × Int)} (h : CInv S G r row left) (r1 : 1 ≤ r) (hF : FOK S G left F) (ne : F ≠ [])
    (len : row'.length = S.length) (nd : left'.Nodup) (hl : ∀ x, x ∈ left' ↔ x ∈ left ∧ x ∉ F.map (·.1)) (h1 : ∀ p ∈ F, cg row' p.1 = (r, p.2)) (h2 : ∀ x : Int, 0 ≤ x → x < S.length → x ∉ F.map (·.1) → cg row' x = cg row x) : CInv S G (r + 1) row' left' := by
  have old : ∀ x : Int, 0 ≤ x → x < S.length → x ∉ left → cg row' x = cg row x := fun x x0 x1 hx => h2 x x0 x1 fun c => by
    obtain ⟨p, hp, e⟩ := List.mem_map.mp c
    exact hx (by rw [← e]; exact (hF.mem p hp).1)
  refine ⟨len, nd, fun x hx => h.rng x ((hl x).mp hx).1, fun x x0 x1 => ?_, fun x x0 x1 => ?_, fun x z x0 x1 z0 z1 e e1 => ?_, fun q q1 q2 => ?_⟩
  · by_cases c : x ∈ F.map (·.1)
    · obtain ⟨p, hp, e⟩ := List.mem_map.mp c
      constructor
      · intro hx; exact absurd c ((hl x).mp hx).2
      · intro hx
        rw [← e, h1 p hp] at hx
        have : r = 0 := congrArg Prod.fst hx
        omega
    · rw [hl, h2 x x0 x1 c, ← h.iff x x0 x1]
      exact ⟨fun a => a.1, fun a => ⟨a, c⟩⟩
  · by_cases c : x ∈ F.map (·.1)
    · obtain ⟨p, hp, e⟩ := List.mem_map.mp c
      obtain ⟨m1, m2, m3⟩ := hF.mem p hp
      have ey := h.rng p.2 m2
      have e2 : cg row' x = (r, p.2) := by rw [← e]; exact h1 p hp
      have e3 : cg row' p.2 = (0, -1) := by
        rw [h2 p.2 ey.1 ey.2 fun c => by
          obtain ⟨p', hp', e'⟩ := List.mem_map.mp c
          exact hF.dis p' hp' p hp e']
        exact (h.iff _ ey.1 ey.2).mp m2
      right
      rw [e2]
      exact ⟨r1, by show r < r + 1; omega, ey.1, ey.2, by rw [← e]; exact m3, .inl e3⟩
    · rw [h2 x x0 x1 c]
      rcases h.form x x0 x1 with e | ⟨a, b, cc, d, e, f⟩
      · exact .inl e
      · refine .inr ⟨a, by omega, cc, d, e, ?_⟩
        by_cases c2 : (cg row x).2 ∈ F.map (·.1)
        · obtain ⟨p, hp, e'⟩ := List.mem_map.mp c2
          right
          rw [← e', h1 p hp]
          exact b
        · rw [h2 _ cc d c2]
          exact f
  · by_cases c : x ∈ F.map (·.1) <;> by_cases c2 : z ∈ F.map (·.1)
    · obtain ⟨p, hp, ep⟩ := List.mem_map.mp c
      obtain ⟨p', hp', ep'⟩ := List.mem_map.mp c2
      rw [← ep, ← ep', h1 p hp, h1 p' hp'] at e
      have e4 : p.2 = p'.2 := (Prod.mk.inj e).2
      have := nodup_map_inj hF.ny p hp p' hp' e4
      rw [← ep, ← ep', this]
    · obtain ⟨p, hp, ep⟩ := List.mem_map.mp c
      rw [← ep, h1 p hp, h2 z z0 z1 c2] at e
      rcases h.form z z0 z1 with e' | ⟨a, b, _⟩
      · rw [e'] at e
        have : r = 0 := congrArg Prod.fst e
        omega
      · rw [← e] at b
        exact absurd b (Int.lt_irrefl _)
    · obtain ⟨p', hp', ep'⟩ := List.mem_map.mp c2
      rw [← ep', h1 p' hp', h2 x x0 x1 c] at e
      rcases h.form x x0 x1 with e' | ⟨a, b, _⟩
      · rw [e'] at e
        have : 0 = r := congrArg Prod.fst e
        omega
      · rw [e] at b
        exact absurd b (Int.lt_irrefl _)
    · rw [h2 x x0 x1 c] at e e1
      rw [h2 z z0 z1 c2] at e
      exact h.one x z x0 x1 z0 z1 e e1
  · by_cases c : q < r
    · obtain ⟨z, z0, z1, e⟩ := h.gap q q1 c
      refine ⟨z, z0, z1, ?_⟩
      rw [old z z0 z1 fun m => by
        rw [(h.iff z z0 z1).mp m] at e
        simp at e
        omega]
      exact e
    · have : q = r := by omega
      subst this
      cases F with
      | nil => exact absurd rfl ne
      | cons p F =>
        obtain ⟨m1, _⟩ := hF.mem p List.mem_cons_self
        have := h.rng _ m1
        exact ⟨p.1, this.1, this.2, by rw [h1 p List.mem_cons_self]⟩
theorem CInv.start (S G : List Int) : CInv S G 1 (List.replicate S.length (0, -1)) (rangeI S.length) := by
  have e : ∀ x, cg (List.replicate S.length (0, -1)) x = (0, -1) := fun x => by
    unfold cg
    rw [List.getD_eq_getElem?_getD, List.getElem?_replicate]
    split <;> rfl
  refine ⟨by simp, (rangeI_asc _).imp fun h => by omega, fun x hx => by have := rangeI_mem.mp hx; omega, fun x x0 x1 => ?_, fun x _ _ => .inl (e x), fun x z _ _ _ _ _ h => ?_, fun q q1 q2 => by omega⟩
  · rw [e, rangeI_mem]
    simp
    omega
  · rw [e] at h; simp at h
end DL
namespace DL
open PySem L2
end DL
namespace DL
open PySem L2 PyProof.Rows
section
variable {X : Cx} {g : G} {W : WX} {pos p : Pos} {a b c e : Expr} {ta tb tc td : TD} {w : Cs} {H H' : Hp} {σ : L2.St} {s : S} {t : TDA} {es : List Expr}
def rAllL (K : PySem.W.Frag) : List V → Hp → VK → Prop := fun vs H Q => ∃ (a : Addr) (bs : List Bool), vs = [V.ref a] ∧ SqL K H a (bs.map V.bl) ∧ Q (.bl (bs.all id)) H
@[simp] def rAllD : RCd := fun xs M P => match xs with
  | [.dat (.lst ds)] => ∃ bs : List Bool, ds = bs.map .bl ∧ P (.bl (bs.all id))
  | _ => False
end
end DL
namespace DL
open PySem L2
theorem formBad_of {n : Int} : ∀ {ps : List (Int × Int)} {k : Nat}, (∀ (j : Nat) p, ps[j]? = some p → formOk n (k + j) p) → formBad n k ps = none
  | [], _, _ => rfl
  | q :: r, k, h => by
    unfold formBad
    have h0 : formOk n k q := h 0 q rfl
    rw [if_pos h0]
    refine formBad_of fun j p hj => ?_
    rw [show k + 1 + j = k + (j + 1) by omega]
    exact h (j + 1) p (by simpa using hj)
theorem gamesBad_of {S G : List Int} {all : List (Int × Int)} : ∀ {r : List (Int × Int)} {k : Nat}, (∀ (j : Nat) p, r[j]? = some p → 0 < p.1 → ¬ (0 < (cg all p.2).1 ∧ (cg all p.2).1 ≤ p.1) ∧ p ∉ all.take (k + j) ∧ mayB S G p.2 (k + j : Nat) = true) → gamesBad S G all k r = none
  | [], _, _ => rfl
  | q :: r, k, h => by
    unfold gamesBad
    have ih : gamesBad S G all (k + 1) r = none := gamesBad_of fun j p hj => by
      rw [show k + 1 + j = k + (j + 1) by omega]
      exact h (j + 1) p (by simpa using hj)
    by_cases c : 0 < q.1
    · obtain ⟨h1, h2, h3⟩ := h 0 q rfl c
      have h2 : q ∉ all.take k := h2
      have h3 : mayB S G q.2 k = true := h3
      rw [if_pos c, if_neg h1, if_neg h2, if_pos h3, ih]
    · rw [if_neg c, ih]
theorem mayB_ne {S G : List Int} {y x : Int} (h : mayB S G y x = true) : y ≠ x := by
  unfold mayB at h
  simp at h
  exact h.1
theorem ranges_mem {b r : Int} : r ∈ ranges b ↔ 1 ≤ r ∧ r < b := by
  unfold ranges
  rw [List.mem_map]
  constructor
  · rintro ⟨i, hi, rfl⟩
    have := List.mem_range.mp hi
    omega
  · rintro ⟨h1, h2⟩
    exact ⟨(r - 1).toNat, List.mem_range.mpr (by omega), by omega⟩
theorem CupP.get {S G : List Int} {ps : List (Int × Int)} (h : CupP S G ps) {j : Nat} {p : Int × Int} (e : ps[j]? = some p) : (j : Int) < S.length ∧ cg ps j = p := by
  have := (List.getElem?_eq_some_iff.mp e).1
  have := h.len
  exact ⟨by omega, cg_get e⟩
theorem cg_mem {ps : List (Int × Int)} {z : Int} (h0 : 0 ≤ z) (h1 : z < ps.length) : cg ps z ∈ ps := by
  obtain ⟨i, rfl⟩ : ∃ i : Nat, z = i := ⟨z.toNat, by omega⟩
  have hi : ps[i]? = some (ps[i]'(by omega)) := List.getElem?_eq_getElem (by omega)
  rw [cg_get hi]
  exact List.mem_of_getElem? hi
theorem CupP.err {S G : List Int} {ps : List (Int × Int)} (h : CupP S G ps) (n1 : 1 ≤ S.length) : cupErr S G ps = none := by
  have hne : ps ≠ [] := by intro z; have := h.len; rw [z] at this; simp at this; omega
  unfold cupErr
  rw [if_pos h.len]
  have e1 : formBad S.length 0 ps = none := formBad_of fun j p hj => by
    obtain ⟨j1, e⟩ := h.get hj
    rw [Nat.zero_add]
    rcases h.form j (by omega) j1 with c | ⟨a, b, c, d, _⟩
    · exact .inr (by rw [← e, c])
    · rw [e] at a b c d
      exact .inl ⟨a, b, c, mayB_ne d⟩
  have e2 : gapBad (min (maxL (ps.map (·.1))) (S.length + 1)) (ps.map (·.1)) = none := by
    unfold gapBad
    rw [List.find?_eq_none]
    intro r hr
    have hr2 := ranges_mem.mp hr
    obtain ⟨m1, m2⟩ := maxL_mem (l := ps.map (·.1)) (by simpa using hne)
    obtain ⟨p, hp, ep⟩ := List.mem_map.mp m1
    obtain ⟨j, hj⟩ := List.getElem?_of_mem hp
    obtain ⟨j1, e⟩ := h.get hj
    obtain ⟨z, z0, z1, ez⟩ := h.gap j r (by omega) j1 hr2.1 (by rw [e, ep]; omega)
    simp only [decide_not, Bool.not_eq_true', decide_eq_false_iff_not, Classical.not_not]
    exact List.mem_map.mpr ⟨_, cg_mem z0 (by rw [h.len]; exact z1), ez⟩
  have e3 : gamesBad S G ps 0 ps = none := gamesBad_of fun j p hj hp => by
    obtain ⟨j1, e⟩ := h.get hj
    rw [Nat.zero_add]
    rcases h.form j (by omega) j1 with c | ⟨a, b, c, d, f⟩
    · rw [e] at c; rw [c] at hp; exact absurd hp (by decide)
    · rw [e] at a b c d f
      refine ⟨fun z => ?_, fun z => ?_, d⟩
      · rcases f with f | f
        · rw [f] at z; exact absurd z.1 (by decide)
        · omega
      · obtain ⟨i, hi⟩ := List.getElem?_of_mem z
        have hij : i < j := by
          have := (List.getElem?_eq_some_iff.mp hi).1
          simp at this
          omega
        rw [List.getElem?_take_of_lt hij] at hi
        obtain ⟨i1, e'⟩ := h.get hi
        have := h.one i j (by omega) i1 (by omega) j1 (by rw [e, e']) (by rw [e']; exact a)
        omega
  simp only [e1, e2, e3]
def thruB (ps : List (Int × Int)) (x r : Int) : Bool := decide ((cg ps x).1 = 0) || decide (r < (cg ps x).1)
def stepH (ps : List (Int × Int)) (r x : Int) : Int := if thruB ps x r = true then x else (cg ps x).2
def heldF (ps : List (Int × Int)) (r : Int) : Nat → Int → Int
  | 0, x => x
  | k + 1, x => heldF ps r k (stepH ps r x)
theorem CupP.pos {S G : List Int} {ps : List (Int × Int)} (h : CupP S G ps) {x : Int} (x0 : 0 ≤ x) (x1 : x < S.length) : 0 ≤ (cg ps x).1 := by
  rcases h.form x x0 x1 with c | c
  · rw [c]; decide
  · omega
theorem CupP.step {S G : List Int} {ps : List (Int × Int)} (h : CupP S G ps) {r x : Int} (x0 : 0 ≤ x) (x1 : x < S.length) (n : thruB ps x r = false) : 1 ≤ (cg ps x).1 ∧ (cg ps x).1 ≤ r ∧ 0 ≤ (cg ps x).2 ∧ (cg ps x).2 < S.length ∧ (thruB ps (cg ps x).2 r = true ∨ (cg ps x).1 < (cg ps (cg ps x).2).1) := by
  unfold thruB at n
  simp at n
  rcases h.form x x0 x1 with c | ⟨a, b, c, d, f⟩
  · rw [c] at n; simp at n
  · refine ⟨a, n.2, b, c, ?_⟩
    rcases f with f | f
    · left; unfold thruB; rw [f]; simp
    · exact .inr f
theorem CupP.ne {S G : List Int} {ps : List (Int × Int)} (h : CupP S G ps) (n1 : 1 ≤ S.length) : ps ≠ [] := by
  intro z; have := h.len; rw [z] at this; simp at this; omega
theorem CupP.max {S G : List Int} {ps : List (Int × Int)} (h : CupP S G ps) (n1 : 1 ≤ S.length) : 0 ≤ maxL (ps.map (·.1)) ∧ maxL (ps.map (·.1)) < S.length := by
  obtain ⟨m1, m2⟩ := maxL_mem (l := ps.map (·.1)) (by simpa using h.ne n1)
  obtain ⟨p, hp, ep⟩ := List.mem_map.mp m1
  obtain ⟨j, hj⟩ := List.getElem?_of_mem hp
  obtain ⟨j1, e⟩ := h.get hj
  have := h.pos (by omega) j1
  have := h.top j (by omega) j1
  rw [← ep]
  rw [e] at *
  omega
def spRound : SpD := fun xs M P PX => ∃ (r l m : Int), xs = [.dat (.int r), .dat (.int l), .dat (.int m)] ∧ M = [] ∧ (if l ≤ r ∧ r ≤ m then P .non [] else PX "BadRound" (.int r) [])
def spLastR : SpD := fun xs M P _ => ∃ (ps : List (Int × Int)), xs = [.dat (pairsT ps)] ∧ M = [] ∧ ps ≠ [] ∧ ps.length ≤ 1000 ∧ P (.int (maxL (ps.map (·.1)))) []
def spRounds : SpD := fun xs M P _ => ∃ (ps : List (Int × Int)), xs = [.dat (pairsT ps)] ∧ M = [] ∧ ps ≠ [] ∧ ps.length ≤ 1000 ∧ P (.int (maxL (ps.map (·.1)))) []
def spThru : SpD := fun xs M P _ => ∃ (ps : List (Int × Int)) (x r : Int), xs = [.dat (pairsT ps), .dat (.int x), .dat (.int r)] ∧ M = [] ∧ 0 ≤ x ∧ x < ps.length ∧ P (.bl (thruB ps x r)) []
def spHeld : SpD := fun xs M P _ => ∃ (S G : List Int) (ps : List (Int × Int)) (x r : Int), xs = [.dat (pairsT ps), .dat (.int x), .dat (.int r)] ∧ M = [] ∧ CupP S G ps ∧ 0 ≤ x ∧ x < S.length ∧ P (.int (heldF ps r S.length x)) []
def spRowC : SpD := fun xs M P _ => ∃ (us vs : List Int), xs = [.dat (tupI us), .dat (.lst (vs.map .int))] ∧ M = [] ∧ us.length ≤ 1000 ∧ us = vs ∧ P (.bl true) []
def tdRound : TSd :=
  dIfS (dNot (dT (dChain rLeD rLeD (dVar 1) (dVar 0) (dVar 2)))) (dRaise "BadRound" (dVar 0)) (dNext)
abbrev N_cRound : List Str := ["r", "least", "most"]
def tdLastR : TSd :=
  dRet (dCB rMax1D (dCons (dF (dLc (dIter (dVar 0)) (dgTup 2 (dgsCons (dgName 1) (dgsCons (dgName 2) (dgsNil)))) (dYes) (dVar 1) [1, 2])) (dNil)))
abbrev N_cLastR : List Str := ["cup", "r", "_"]
def tdThru : TSd :=
  dRet (dOrV (dOp rEqD' (dOp rIxD (dOp rIxD (dVar 0) (dVar 1)) (dC (.int 0))) (dC (.int 0))) (dOp rGtD (dOp rIxD (dOp rIxD (dVar 0) (dVar 1)) (dC (.int 0))) (dVar 2)))
abbrev N_cThru : List Str := ["cup", "x", "r"]
def tdHeld : TSd :=
  dSeq (dSet 3 (dVar 1))
  (dSeq (dWhile (dNot (dTru (dCall spThru (dCons (dVar 0) (dCons (dVar 3) (dCons (dVar 2) (dNil))))))) (dSet 3 (dOp rIxD (dOp rIxD (dVar 0) (dVar 3)) (dC (.int 1)))))
  (dRet (dVar 3)))
abbrev N_cHeld : List Str := ["cup", "x", "r", "found"]
def tdRounds : TSd :=
  dRet (dCB rMax1D (dCons (dF (dLc (dIter (dVar 0)) (dgName 1) (dYes) (dOp rIxD (dVar 1) (dC (.int 0))) [1])) (dNil)))
abbrev N_cRounds : List Str := ["_law_cup_here", "_law_pair"]
def tdRowC : TSd :=
  dSeq (dIfS (dOr (dNot (dTru (dIsT "tuple" (dVar 0)))) (dT (dOp rNeD' (dVar 0) (dCB rTupD (dCons (dVar 1) (dNil)))))) (dRet (dC (.bl false))) (dNext))
  (dRet (dCB rAllD (dCons (dF (dLc (dIter (dVar 0)) (dgName 2) (dYes) (dAndV (dIsT "int" (dVar 2)) (dNotV (dIsT "bool" (dVar 2)))) [2])) (dNil))))
abbrev N_cRowC : List Str := ["_law_told", "_law_due", "_law_entry"]
end DL
namespace DL
open PySem L2 PySem.Spec PyProof.Rows
section
variable {X : Cx} {g : G} {W : WX} {pos pos' p p' : Pos} {e : Expr} {te : TE} {ta : TD} {w : Cs} {H H' : Hp} {σ : L2.St} {s : S}
def rSetJ (K : PySem.W.Frag) : List V → Hp → VK → Prop := fun xs H Q => ∃ (p : Addr) (ns : List Int), xs = [.ref p] ∧ SqL K H p (ns.map V.int) ∧ ns.length + 1 < scanBound ∧
  ∀ (l : Addr) (S : Int → Bool), H l = none → Q (.ref l) (upd H l (.set S (dedupI ns).length))
@[simp] def dLenSetL (ta : TD) : TD := fun s P X => ta s (fun d s1 => ∃ ns : List Int, d = .lst (ns.map .int) ∧ ns.length ≤ 1000 ∧ P (.int (dedupI ns).length) s1) X
end
end DL
namespace DL
open PySem L2
section
variable {X : Cx} {g : G} {W : WX}
def rInU (K : PySem.W.Frag) (neg : Bool) : R2 := fun x y H Q => ∃ d ds, Dp K H x d ∧ Dp K H y (.tuple ds) ∧ SeqAt.shaped d = true ∧ SeqAt.shaped (.tuple ds) = true ∧ Q (.bl (if neg then !ds.any fun z => PyData.eqv z d else ds.any fun z => PyData.eqv z d)) H
@[simp] def rInT (neg : Bool) : RD := fun x y P => match y with
  | .lst ds => okD x = true ∧ okD (.lst ds) = true ∧ P (.bl (if neg then !inD x ds else inD x ds))
  | .tup ds => okD x = true ∧ okD (.tup ds) = true ∧ P (.bl (if neg then !inD x ds else inD x ds))
  | _ => False
end
end DL
namespace DL
open PySem L2 PyProof.Rows
def stepL {α : Type} (b : Nat) (l : List α) : List α := (List.range ((l.length + 1 - b) / 2)).filterMap fun k => l[b + 2 * k]?
section
variable {X : Cx} {g : G} {W : WX} {pos p2 : Pos} {e st : Expr} {lo : Option Expr} {te : TE} {tl ts : TO} {ta : TD} {w : Cs} {H : Hp}
def tStep (K : PySem.W.Frag) (b : Nat) (te : TE) (tl ts : TO) : TE := fun σ H Q => te σ H fun x H1 => tl σ H1 fun l H2 => ts σ H2 fun o H3 => (l = some (b : Int) ∨ (l = none ∧ b = 0)) ∧ o = some 2 ∧ ∃ a xs, x = .ref a ∧ SqL K H3 a xs ∧ ∀ p, H3 p = none → Q (.ref p) (upd H3 p (.lst (stepL b xs)))
theorem Vals.pick {vs : List V} {us : List Value} (h : Vals vs us) (is : List Nat) : Vals (is.filterMap (vs[·]?)) (is.filterMap (us[·]?)) := by
  induction is with
  | nil => exact .nil
  | cons i is ih =>
    have key : ∀ {vs : List V} {us : List Value} {i : Nat}, Vals vs us → (vs[i]? = none ∧ us[i]? = none) ∨ ∃ v u, vs[i]? = some v ∧ us[i]? = some u ∧ RelV v u := by
      intro vs us i h
      induction h generalizing i with
      | nil => left; simp
      | cons r rs ih2 =>
        cases i with
        | zero => right; exact ⟨_, _, rfl, rfl, r⟩
        | succ i => simpa using ih2 (i := i)
    rcases key (i := i) h with ⟨e1, e2⟩ | ⟨v, u, e1, e2, r⟩
    · rw [List.filterMap_cons_none e1, List.filterMap_cons_none e2]; exact ih
    · rw [List.filterMap_cons_some e1, List.filterMap_cons_some e2]; exact .cons r ih
theorem stepL_pick {α : Type} (b : Nat) (l : List α) : stepL b l = ((List.range ((l.length + 1 - b) / 2)).map fun k => b + 2 * k).filterMap (l[·]?) := by
  unfold stepL
  rw [List.filterMap_map]
  rfl
@[simp] def dStepF (b : Nat) (ta : TD) : TDF := fun s P X => ta s (fun x s1 => ∃ ds, x = .lst ds ∧ P (stepL b ds) s1) X
theorem Reps.pick {ds : List D} {vs : List V} (h : Reps g w H ds vs) (is : List Nat) : Reps g w H (is.filterMap (ds[·]?)) (is.filterMap (vs[·]?)) := by
  induction is with
  | nil => exact Reps.nil
  | cons i is ih =>
    cases e : ds[i]? with
    | none =>
      have e2 : vs[i]? = none := by
        rw [List.getElem?_eq_none_iff] at e ⊢
        rw [h.len]; exact e
      rw [List.filterMap_cons_none e, List.filterMap_cons_none e2]; exact ih
    | some d =>
      obtain ⟨v, e2, r⟩ := h.get' e
      rw [List.filterMap_cons_some e, List.filterMap_cons_some e2]; exact Reps.cons r ih
theorem Reps.step (b : Nat) {ds : List D} {vs : List V} (h : Reps g w H ds vs) : Reps g w H (stepL b ds) (stepL b vs) := by
  rw [stepL_pick, stepL_pick, h.len]
  exact h.pick _
@[simp] def dAlias (i j : Nat) : TSd := fun s E _ => ∃ c, s.r[j]? = some (.cell c) ∧ E.nx { s with r := s.r.set i (.cell c) }
end
end DL
namespace HT
open PySem PySem.Spec PyProof.Rows
section
variable {prog : Program} {w : World} {A : Around} {E : Value → Shared → Prop} {s : Shared}
end
end HT
namespace DL
open PySem L2 PyProof.Rows
section
variable {X : Cx} {g : G} {W : WX} {pos p2 : Pos} {e st : Expr} {te : TE} {ts : TO} {ta : TD} {w : Cs} {H : Hp}
def tBackT (K : PySem.W.Frag) (te : TE) (ts : TO) : TE := fun σ H Q => te σ H fun x H1 => ts σ H1 fun o H2 => o = some (-1) ∧ ∃ a xs, x = .ref a ∧ SqT K H2 a xs ∧ ∀ p, H2 p = none → Q (.ref p) (upd H2 p (.tup xs.reverse))
variable {i : Int} {j : Nat} {cp up : Pos}
@[simp] def dBackT (ta : TD) : TD := fun s P X => ta s (fun x s1 => ∃ ds, x = .tup ds ∧ P (.tup ds.reverse) s1) X
end
end DL
namespace DLE
open PySem L2
theorem SqT.ne {X : Cx} {pins : List (Addr × Obj)} {σ : L2.St} {H : Hp} {s : Shared} {a b : Addr} {xs : List V} (I : Inv X pins σ H s) (h : SqT X.K H a xs) (f : FpOk X pins H b) : a ≠ b := fun z => by
  subst z
  obtain ⟨f0, f1, f2, f3, f4, f5⟩ := f
  rcases h with (h | ⟨o, h⟩) | ⟨o, its, n, h, _⟩
  · rw [h] at f0; cases f0
  · rw [h] at f0; cases f0
  · have hb := I.ok.mod.kin _ _ h
    rcases f3 with f3 | f3
    · exact I.ok.noex _ _ hb f3
    · exact absurd (Nat.lt_of_lt_of_le (Heap.lt_size hb) (Nat.le_trans I.ok.bsz f3)) (Nat.lt_irrefl _)
def IteS (K : PySem.W.Frag) (a : Addr) (xs : List V) : It :=
  ⟨fun i H => SqT K H a xs ∧ i < xs.length, fun i H v H' => ∃ T x, v = .ref T ∧ H T = none ∧ H' = upd H T (.tup [.int (i : Nat), x]) ∧ xs[i]? = some x, fun i H => SqT K H a xs ∧ xs.length = i⟩
def iEnumS (K : PySem.W.Frag) (ta : TA) : TI := fun σ H R => ta σ H fun vs H1 => ∃ a xs, vs = [.ref a] ∧ ((SqL K H1 a xs ∧ R (Ite K a) H1) ∨ (SqT K H1 a xs ∧ R (IteS K a xs) H1))
end DLE
namespace DL
open PySem L2
section
variable {X : Cx} {g : G} {W : WX} {pos : Pos} {a b c e : Expr} {ta tb tc : TD} {w : Cs} {H H' : Hp} {σ : L2.St} {s : S} {t : TDA}
@[simp] def seqC : D → Option (List D)
  | .lst ds => some ds
  | .tup ds => some ds
  | .ct ds => some ds
  | _ => none
@[simp] def dEnumC (t : TDA) : TDI := fun s P X => t s (fun xs s1 => ∃ d ds, xs = [.dat d] ∧ seqC d = some ds ∧ P (enumD ds) s1) X
@[simp] def rInX (neg : Bool) : RD := fun x y P => match y with
  | .ct ds => flatD x = true ∧ ds.all flatD = true ∧ P (.bl (if neg then !inD x ds else inD x ds))
  | .tup ds => flatD x = true ∧ ds.all flatD = true ∧ P (.bl (if neg then !inD x ds else inD x ds))
  | _ => False
@[simp] def dWith0 (t : TDA) : TDA := fun s P X => t s (fun xs s1 => P (xs ++ [.dat (.ct [])]) s1) X
theorem ArgOk.snoc {x : D} {v : V} (hx : Rep g w H x v) : ∀ {xs : List Sl} {vs : List V}, ArgOk g w H xs vs → ArgOk g w H (xs ++ [.dat x]) (vs ++ [v])
  | [], vs, h => by
    have h : vs = [] := h
    subst h
    exact ⟨v, [], rfl, hx, rfl⟩
  | .no :: _, _, h => h.elim
  | .dat d :: xs, _, h => by
    obtain ⟨v', r, e, h1, z⟩ := h
    subst e
    exact ⟨v', _, rfl, h1, ArgOk.snoc hx z⟩
  | .cell d :: xs, _, h => by
    obtain ⟨v', r, e, h1, z⟩ := h
    subst e
    exact ⟨v', _, rfl, h1, ArgOk.snoc hx z⟩
def Dfl0 (K : PySem.W.Frag) (fd : FuncData) (ps : List Str) : Prop := ∃ (ad : Addr) (ds : List Value), CtAt K ad [] ∧ Vals [V.ref ad] ds ∧ Binds K fd ps ds
end
end DL
namespace DL
open PySem L2
theorem wipe_idem {σ : L2.St} {vs : List Nat} : ∀ us : List Nat, (∀ i ∈ us, i ∈ vs) → L2.wipe (L2.wipe σ vs) us = L2.wipe σ vs := by
  intro us
  induction us with
  | nil => intro _; rfl
  | cons u us ih =>
    intro hu
    show (L2.wipe (L2.wipe σ vs) us).set u none = _
    rw [ih fun i hi => hu i (List.mem_cons_of_mem _ hi)]
    have hm : u ∈ vs := hu u List.mem_cons_self
    have key : ∀ ws : List Nat, u ∈ ws → (L2.wipe σ ws).set u none = L2.wipe σ ws := by
      intro ws
      induction ws with
      | nil => intro h; cases h
      | cons v ws ih2 =>
        intro h
        show ((L2.wipe σ ws).set v none).set u none = (L2.wipe σ ws).set v none
        by_cases e : u = v
        · subst e
          rw [List.set_set]
        · rw [List.set_comm _ _ (Ne.symm e)]
          rcases List.mem_cons.mp h with z | z
          · exact absurd z e
          · rw [ih2 z]
    exact key vs hm
section
variable {X : Cx} {g : G} {W : WX} {pos : Pos} {w : Cs} {H : Hp} {σ : L2.St} {s : S}
structure WalkT (g : G) (w : Cs) (H : Hp) (J : It) (ds : List D) : Prop where
  ex : ∃ (Gd : Hp → Prop) (Y : Nat → Hp → V → Hp → Prop), Walk J ds.length Gd Y ∧ (∀ H', (∀ a o, ¬ w.bad a → H a = some o → NT o → H' a = some o) → Gd H') ∧
    ∀ i H1 x H2, i < ds.length → (∀ a o, ¬ w.bad a → H a = some o → NT o → H1 a = some o) → Y i H1 x H2 → Same H1 H2 ∧ ∃ d, ds[i]? = some d ∧ Rep g w H2 d x
def lIt (g : G) (W : WX) (td : TDI) : TI := fun σ H R => ∃ w s P PX, RS g w H σ s ∧ td s P PX ∧ (∀ ds s' H' J, P ds s' → HExt w H H' → RS g w H' σ s' → WalkT g w H' J ds → R J H') ∧ XOk g w H σ PX W
def lc2D (gt : TGd) (tt : TDB) (wd1 : TDI) (gt1 : TGd) (tt1 : TDB) (te : TD) (vs vs1 : List Nat) (P : List D → S → Prop) : List D → List D → S → Prop
  | [], acc, s => P acc s
  | d :: ds, acc, s => gt d { s with r := wipeS s.r vs } fun s2 => tt s2 (fun b s3 => if b = true then wd1 s3 (fun ds1 s4 => lcD gt1 tt1 te vs1 (fun acc' s5 => lc2D gt tt wd1 gt1 tt1 te vs vs1 P ds acc' { s5 with r := s.r }) ds1 acc s4) noX else lc2D gt tt wd1 gt1 tt1 te vs vs1 P ds acc { s3 with r := s.r }) noX
@[simp] def dLc2 (wd : TDI) (gt : TGd) (tt : TDB) (wd1 : TDI) (gt1 : TGd) (tt1 : TDB) (te : TD) (vs vs1 : List Nat) : TDF := fun s P X => wd s (fun ds s1 => lc2D gt tt wd1 gt1 tt1 te vs vs1 P ds [] s1) X
end
end DL
namespace DL
open PySem L2
section
variable {X : Cx} {g : G} {W : WX} {pos p : Pos} {e : Expr} {es : List Expr} {t : TDA}
@[simp] def rReprD : RCd := fun xs M P => match xs with
  | [.dat (.bl b)] => P (.str (Str.ofString (if b = true then "True" else "False")))
  | _ => False
end
end DL
namespace DL
open PySem L2
section
variable {X : Cx} {g : G} {W : WX} {pos p : Pos} {c a b e : Expr} {es : List Expr} {t : TDA} {tc : TDB} {ta tb : TDF}
theorem FOk.ext {w : Cs} {H H1 : Hp} {σ : L2.St} {P : List D → S → Prop} {Q : VK} (k : FOk g w H σ P Q) (e : HExt w H H1) : FOk g w H1 σ P Q := fun ds s' H' p vs pp x n nb => k ds s' H' p vs pp (e.trans x) (fresh0 e nb n) nb
@[simp] def dIfE (t : TDB) (ta tb : TDF) : TDF := fun s P X => t s (fun b s1 => if b = true then ta s1 P X else tb s1 P X) X
@[simp] def dSortF (t : TDA) : TDF := fun s P X => t s (fun xs s1 => ∃ ns : List Int, xs = [.dat (.lst (ns.map .int))] ∧ P ((sortI ns).map .int) s1) X
end
end DL
namespace DL
open PySem L2 PySem.Spec PyProof.Rows
structure RecC (K : PySem.W.Frag) (C fI : Addr) (ns : List Str) : Prop where
  cl : L2.Cls K C
  na : ∀ f ∈ ns, NoAttr K C f
  mks : Mk K C fI
section
variable {X : Cx} {g : G} {W : WX} {pos : Pos} {e : Expr} {es : List Expr} {w : Cs} {H H' : Hp} {σ : L2.St} {s : S}
def spR (K : PySem.W.Frag) (ns : List Str) : Sp := fun vs H Q _ => ∃ (a C dx fI : Addr) (ws : List V), vs = .ref a :: ws ∧ ws.length = ns.length ∧ RecC K C fI ns ∧ H a = some (.ins C dx []) ∧ Q .non (upd H a (.ins C dx (ns.zip ws)))
theorem RepF.zip : ∀ {ns : List Str} {ds : List D} {vs : List V}, Reps g w H ds vs → RepF g w H (ns.zip ds) (ns.zip vs)
  | [], _, _, _ => by simp [RepF]
  | n :: ns, [], vs, h => by simp only [Reps] at h; subst h; simp [RepF]
  | n :: ns, d :: ds, vs, h => by
    simp only [Reps] at h
    obtain ⟨v, r, e, q, z⟩ := h
    subst e
    simp only [List.zip_cons_cons, RepF]
    exact ⟨v, _, rfl, q, RepF.zip z⟩
@[simp] def dMkR (c : Str) (ns : List Str) (t : TDA) : TD := fun s P X => t s (fun xs s1 => ∃ ds, xs = List.map Sl.dat ds ∧ ds.length = ns.length ∧ P (.ins c (ns.zip ds)) s1) X
end
end DL
namespace DL
open PySem L2 PyProof.Rows
section
variable {prog : Program} {w : World} {A : Around} {E : Value → Shared → Prop} {s : Shared}
end
def ltI : List Int → List Int → Bool := fun a b => HT.lexLt a b
def minRow : List (List Int) → List Int
  | [] => []
  | x :: xs => xs.foldl (fun a y => if ltI y a then y else a) x
section
variable {X : Cx} {g : G} {W : WX} {pos p : Pos} {e : Expr} {es : List Expr} {t : TDA}
def rMin2T (K : PySem.W.Frag) : List V → Hp → VK → Prop := fun vs H Q => ∃ a b ns ms, vs = [.ref a, .ref b] ∧ SqT K H a (ns.map V.int) ∧ SqT K H b (ms.map V.int) ∧ Q (if ltI ms ns then .ref b else .ref a) H
def rMinLT (K : PySem.W.Frag) : List V → Hp → VK → Prop := fun vs H Q => ∃ (a : Addr) (xs : List V) (nss : List (List Int)), vs = [.ref a] ∧ SqL K H a xs ∧ xs.length = nss.length ∧ 0 < nss.length ∧
  (∀ (i : Nat) (x : V), xs[i]? = some x → ∃ b, x = .ref b ∧ SqT K H b ((nss.getD i []).map V.int)) ∧ ∀ (i : Nat) (x : V), xs[i]? = some x → nss[i]? = some (minRow nss) → Q x H
@[simp] def rMin2TD : RCd := fun xs M P => match xs with
  | [.dat (.tup a), .dat (.tup b)] => ∃ ns ms : List Int, a = ns.map .int ∧ b = ms.map .int ∧ P (.tup ((if ltI ms ns then ms else ns).map .int))
  | _ => False
@[simp] def rMinLTD : RCd := fun xs M P => match xs with
  | [.dat (.lst ds)] => ∃ nss : List (List Int), ds = nss.map (fun ns => D.tup (ns.map .int)) ∧ 0 < nss.length ∧ P (.tup ((minRow nss).map .int))
  | _ => False
end
section
variable {P : Program} {wd : World} {K : PySem.W.Frag} {mg : Str → Option Value} {base : Heap}
end
end DL
namespace DL
open PySem L2
section
variable {X : Cx} {g : G} {W : WX} {pos : Pos} {a b c e i o : Expr} {ta tb tc tk tv td ty : TD} {w : Cs} {H H' : Hp} {σ : L2.St} {s : S}
theorem RepD.toK : ∀ {ks : List (Int × D)} {ws : List (Key × V)}, RepD g w H ks ws → RepK g w H encI ks ws
  | [], _, h => by simp only [RepD] at h; exact h
  | p :: ks, _, h => by
    simp only [RepD] at h
    obtain ⟨v, r, e, q, z⟩ := h
    exact ⟨v, r, e, q, RepD.toK z⟩
def dcD (gt : TGd) (tk tv : TD) (vs : List Nat) (P : List (Int × D) → S → Prop) : List D → List (Int × D) → S → Prop
  | [], acc, s => P acc s
  | d :: ds, acc, s => gt d { s with r := wipeS s.r vs } fun s2 => tk s2 (fun y s3 => ∃ k, y = .int k ∧ tv s3 (fun z s4 => acc.length < sizeLine ∧ dcD gt tk tv vs P ds (putD acc k z) { s4 with r := s.r }) noX) noX
@[simp] def dDc (wd : TDI) (gt : TGd) (tk tv : TD) (vs : List Nat) : TD := fun s P X => wd s (fun ds s1 => dcD gt tk tv vs (fun ks s2 => P (.dk ks) s2) ds [] s1) X
@[simp] def rIxDk (x y : D) (P : D → Prop) : Prop := match x, y with
  | .dk ks, .int k => ∃ d, valD ks k = some d ∧ P d
  | _, _ => False
@[simp] def dIxDk (ta tb : TD) : TD := fun s P X => ta s (fun x s1 => tb s1 (fun y s2 => rIxDk x y fun z => P z s2) X) X
theorem RepD.key : ∀ {ks : List (Int × D)} {ws : List (Key × V)}, RepD g w H ks ws → ∀ {i : Nat} {k : Key} {v : V}, ws[i]? = some (k, v) → ∃ j d, k = .inl j ∧ ks[i]? = some (j, d) ∧ Rep g w H d v
  | [], _, h, i, k, v, e => by simp only [RepD] at h; subst h; cases e
  | p :: ks, _, h, i, k, v, e => by
    simp only [RepD] at h
    obtain ⟨u, r, e1, q, z⟩ := h
    subst e1
    cases i with
    | zero => cases e; exact ⟨_, _, rfl, rfl, q⟩
    | succ i => exact RepD.key z e
theorem RepD.len {ks : List (Int × D)} {ws : List (Key × V)} (h : RepD g w H ks ws) : ws.length = ks.length := h.toK.len
@[simp] def dKeys (td : TD) : TDI := fun s P X => td s (fun d s1 => ∃ ks, d = .dk ks ∧ P (ks.map fun p => .int p.1) s1) X
def rValsL : V → Hp → VK → Prop := fun x H Q => ∃ (d : Addr) (kvs : List (Key × V)), x = .ref d ∧ Rd H d (.dK kvs) ∧ ∀ p, H p = none → Q (.ref p) (upd H p (.lst (kvs.map (·.2))))
def tListVals (te : TE) : TE := fun σ H Q => te σ H fun x H1 => rValsL x H1 Q
@[simp] def dListV (td : TD) : TDF := fun s P X => td s (fun d s1 => ∃ ks, d = .dk ks ∧ P (ks.map (·.2)) s1) X
end
end DL
namespace DL
open PySem L2
section
variable {X : Cx} {g : G} {W : WX} {w : Cs} {H : Hp} {σ : L2.St} {s : S} {t : TDA}
@[simp] def dLendB (n : Nat) (t : TDB) : TDB := fun s P _ => ∃ c ds, s.r[n]? = some (.cell c) ∧ s.M[c]? = some (some (.lst ds)) ∧
  t { r := s.r.map (thaw c ds), M := s.M.set c none } (fun b s1 => memNoL s1.M = true ∧ P b { r := s.r, M := s1.M.set c (some (.lst ds)) }) fun _ _ _ => False
end
end DL
namespace DL
open PySem L2 PyProof.Rows
section
variable {X : Cx} {g : G} {W : WX} {pos p : Pos} {e : Expr} {es : List Expr} {t : TDA}
abbrev leN : V × PyData → V × PyData → Bool := PySem.W.dataLe false (fun p : V × PyData => p.2)
def rSortN (K : PySem.W.Frag) : List V → Hp → VK → Prop := fun vs H Q => ∃ (a : Addr) (ps : List (V × PyData)), vs = [.ref a] ∧ SqL K H a (ps.map (·.1)) ∧ (∀ p ∈ ps, Dp K H p.1 p.2 ∧ SeqAt.shaped p.2 = true) ∧
  PySem.W.AllAlike (ps.map (·.2)) ∧ PySem.W.Sortable (ps.map (·.2)) ∧ ∀ q, H q = none → Q (.ref q) (upd H q (.lst ((ps.mergeSort leN).map (·.1))))
abbrev leD : D → D → Bool := PySem.W.dataLe false toPy
@[simp] def rSortND : RCd := fun xs M P => match xs with
  | [.dat (.lst ds)] => (∀ d ∈ ds, okD d = true) ∧ PySem.W.AllAlike (ds.map toPy) ∧ PySem.W.Sortable (ds.map toPy) ∧ P (.lst (ds.mergeSort leD))
  | _ => False
end
end DL
namespace DL
open PySem PySem.AutoSeq1
end DL
namespace DL
open PySem L2 PyProof.Rows
section
variable {X : Cx} {g : G} {W : WX} {e : Expr} {td : TD}
def rExtendT (K : PySem.W.Frag) : V → List V → Hp → VK → Prop := fun x vs H Q => ∃ l b xs zs, x = .ref l ∧ vs = [.ref b] ∧ H l = some (.lst xs) ∧ SqT K H b zs ∧ xs.length + zs.length ≤ sizeLine ∧ Q .non (upd H l (.lst (xs ++ zs)))
@[simp] def fExtendT : List D → D → (D → List D → Prop) → Prop := fun ds d P => ∃ es, d = .tup es ∧ ds.length + es.length ≤ sizeLine ∧ P .non (ds ++ es)
end
end DL
namespace DL
open PySem L2 PyProof.Rows
section
variable {X : Cx} {g : G} {W : WX} {pos p : Pos} {e : Expr} {es : List Expr} {t : TDA}
def rMinTI (K : PySem.W.Frag) : List V → Hp → VK → Prop := fun vs H Q => ∃ (a : Addr) (n : Int) (ns : List Int), vs = [.ref a] ∧ SqT K H a ((n :: ns).map V.int) ∧ Q (.int (ns.foldl min n)) H
@[simp] def rMin1TD : RCd := fun xs M P => match xs with
  | [.dat (.tup ds)] => ∃ (n : Int) (ns : List Int), ds = (n :: ns).map .int ∧ P (.int (ns.foldl min n))
  | _ => False
end
end DL
namespace DL
open PySem PySem.Spec PyProof.Rows L2
section
variable {X : Cx}
def rCombV : List V → Hp → VK → Prop := fun vs H Q => ∃ a b : Int, vs = [.int a, .int b] ∧ (0 ≤ a ∧ 0 ≤ b ∧ a < 2 ^ 64 ∧ a ≤ 18000) ∧ Q (.int (PySem.W.mcComb a b)) H
variable {g : G} {W : WX} {pos p : Pos} {e : Expr} {es : List Expr} {t : TDA}
@[simp] def rCombD : RCd := fun xs M P => match xs with
  | [.dat (.int a), .dat (.int b)] => (0 ≤ a ∧ 0 ≤ b ∧ a < 2 ^ 64 ∧ a ≤ 18000) ∧ P (.int (PySem.W.mcComb a b))
  | _ => False
end
end DL
namespace DL
open PySem L2
section
variable {X : Cx} {g : G} {W : WX} {pos : Pos} {a b c e i o : Expr} {ta tb tc tk tv td ty : TD} {w : Cs} {H H' : Hp} {σ : L2.St} {s : S}
def KOk (g : G) (w : Cs) (H : Hp) (σ : L2.St) (P : List (Int × D) → S → Prop) (Q : VK) : Prop := ∀ ks s' H' p kvs, P ks s' → HExt w H H' → H p = none → ¬ w.bad p → RS g (w.out p) H' σ s' → H' p = some (.dK kvs) → RepK g (w.out p) H' encI ks kvs → Q (.ref p) H'
abbrev TDK := S → (List (Int × D) → S → Prop) → KX → Prop
def lK (g : G) (W : WX) (td : TDK) : TE := fun σ H Q => ∃ w s P PX, RS g w H σ s ∧ td s P PX ∧ KOk g w H σ P Q ∧ XOk g w H σ PX W
def dcT (gt : TGd) (tt : TDB) (tk tv : TD) (vs : List Nat) (P : List (Int × D) → S → Prop) : List D → List (Int × D) → S → Prop
  | [], acc, s => P acc s
  | d :: ds, acc, s => gt d { s with r := wipeS s.r vs } fun s2 => tt s2 (fun b s3 => if b = true then tk s3 (fun y s4 => ∃ k, y = .int k ∧ tv s4 (fun z s5 => acc.length < sizeLine ∧ dcT gt tt tk tv vs P ds (putD acc k z) { s5 with r := s.r }) noX) noX else dcT gt tt tk tv vs P ds acc { s3 with r := s.r }) noX
@[simp] def dDcK (wd : TDI) (gt : TGd) (tt : TDB) (tk tv : TD) (vs : List Nat) : TDK := fun s P X => wd s (fun ds s1 => dcT gt tt tk tv vs P ds [] s1) X
@[simp] def dFrzK (t : TDK) : TD := fun s P X => t s (fun ks s1 => P (.dk ks) s1) X
@[simp] def dSetK (i : Nat) (t : TDK) : TSd := fun s E X => t s (fun ks s1 => E.nx { r := s1.r.set i (.cell s1.M.length), M := s1.M ++ [some (.dk ks)] }) X
@[simp] def dSetDc (i : Nat) (wd : TDI) (gt : TGd) (tk tv : TD) (vs : List Nat) : TSd := fun s E X => wd s (fun ds s1 => dcD gt tk tv vs (fun ks s2 => E.nx { r := s2.r.set i (.cell s2.M.length), M := s2.M ++ [some (.dk ks)] }) ds [] s1) X
end
section
variable {X : Cx}
end
section
variable {X : Cx} {g : G} {W : WX} {tk tv : TD}
end
end DL
namespace DL
open PySem PySem.Spec PyProof.Rows L2
section
variable {prog : Program} {w : World} {A : Around} {E : Value → Shared → Prop} {s : Shared}
end
section
variable {X : Cx} {g : G} {W : WX} {pos p : Pos} {e : Expr} {es : List Expr} {t : TDA}
def rSortTI (K : PySem.W.Frag) : List V → Hp → VK → Prop := fun vs H Q => ∃ (a : Addr) (ns : List Int), vs = [V.ref a] ∧ SqT K H a (ns.map V.int) ∧ ∀ (ns' : List Int) (p : Addr), ns'.Perm ns → ns'.Pairwise (· ≤ ·) → H p = none → Q (.ref p) (upd H p (.lst (ns'.map V.int)))
@[simp] def rSortTD : RCd := fun xs M P => match xs with
  | [.dat (.tup ds)] => ∃ ns : List Int, ds = ns.map D.int ∧ P (.lst ((sortI ns).map D.int))
  | _ => False
end
end DL
namespace DL
open PySem L2 PyProof.Rows GxR
section
variable {X : Cx} {g : G} {W : WX} {pos p gpos : Pos} {w : Cs} {H H' : Hp} {σ : L2.St} {s : S}
def allD (gt : TGd) (te : TD) (vs : List Nat) (P : D → S → Prop) : List D → S → Prop
  | [], s => P (.bl true) s
  | d :: ds, s => gt d { s with r := wipeS s.r vs } fun s2 => te s2 (fun y s3 => ∃ b, y = .bl b ∧ (b = true → allD gt te vs P ds { s3 with r := s.r }) ∧ (b = false → P (.bl false) { s3 with r := s.r })) noX
@[simp] def dAllG (wd : TDI) (gt : TGd) (te : TD) (vs : List Nat) : TD := fun s P X => wd s (fun ds s1 => allD gt te vs P ds s1) X
theorem tabbed_ext {T : Addr} {H1 H2 : Hp} (t : TabG H1 T) (h : Tabbed T H1 H2) : HExtC [] H1 H2 := by
  obtain ⟨⟨qs, hq, tq⟩, kp⟩ := h
  obtain ⟨ps, hp, tp⟩ := t
  refine ⟨fun a o _ e nt => ?_, fun a us _ e => ?_⟩
  · have ne : a ≠ T := fun z => by
      rw [z, hp] at e
      cases e
      exact nt
    rw [kp a ne]; exact e
  · by_cases z : a = T
    · exact ⟨qs, by rw [z]; exact hq, fun _ => tq⟩
    · exact ⟨us, by rw [kp a z]; exact e, id⟩
theorem lE_all {T : Addr} {wd : TDI} {gt : TGd} {te : TD} {vs ix : List Nat} (hT : T ∈ g.TA) (hix : ∀ i ∈ ix, i ∈ vs) :
    ∀ σ H Q, lE g W (dAllG wd gt te vs) σ H Q → tAllG T (lI g W wd) (lG g ix gt) (lE g W0 te) vs σ H Q := fun σ H Q ⟨w, s, P, PX, rs, h, k, x⟩ =>
  ⟨w, s, _, PX, rs, h, fun ds s1 H1 J q e1 rs1 wk => by
    obtain ⟨Gd, Y, wk, hG, hY⟩ := wk.ex
    have tb := rs1.mem.tabs T hT
    refine ⟨tb.2, fun H2 tab => ?_⟩
    have g2 := tabbed_ext tb.2 tab
    have rs2 := rs1.grown g2
    refine ⟨ds.length, fun H' => ∃ s', HExt w H H' ∧ RS g w H' σ s' ∧ P (.bl false) s', fun i H' => ∃ M, HExt w H1 H' ∧ RS g w H' σ { s1 with M := M } ∧ allD gt te vs P (ds.drop i) { s1 with M := M }, ⟨s1.M, g2.all_, rs2, q⟩, ?_, ?_, ?_⟩
    · rintro i H' hi ⟨M, e', rs', q'⟩
      have m' : Mv w H1 w H' := .of_ext e'
      by_cases hlt : i < ds.length
      · refine .inr ⟨hlt, wk.goes i H' hlt (hG w H' m'), fun x1 H3 y => ?_⟩
        obtain ⟨sm, d, ed, rp⟩ := hY i w H' x1 H3 hlt m' (fun a n => rs'.mem.fresh n) (wk.yields i H' x1 H3 hlt (hG w H' m') y)
        have ed2 : ds.drop i = d :: ds.drop (i + 1) := by
          rw [List.drop_eq_getElem_cons hlt]
          rw [List.getElem?_eq_getElem hlt] at ed
          cases ed
          rfl
        rw [ed2] at q'
        have rs3 := rs'.same sm
        have e3 : HExt w H1 H3 := e'.trans (.of_same sm)
        refine ⟨w, _, d, _, rs3.wipe vs, rp, q', fun s4 σ4 q4 rs4 hw => ?_⟩
        refine ⟨by rw [hw vs hix]; exact wipe_idem vs fun _ h => h, w, s4, _, noX, rs4, q4, fun y5 s5 H5 v5 q5 e5 rs5 r5 => ?_, xok0⟩
        obtain ⟨b, ey, yes, no⟩ := q5
        subst ey
        have ev : v5 = .bl b := by simpa only [Rep] using r5
        exact ⟨b, ev, fun hb => ⟨s5.M, e3.trans e5, rs3.mem' e5 rs5.mem, yes hb⟩, fun hb => ⟨_, e1.trans (e3.trans e5), rs3.mem' e5 rs5.mem, no hb⟩⟩
      · have e : i = ds.length := by omega
        subst e
        exact .inl ⟨rfl, wk.stops H' (hG w H' m')⟩
    · rintro H' ⟨M, e', rs', q'⟩
      rw [List.drop_length] at q'
      exact k _ _ H' _ q' (e1.trans e') rs' (by simp only [Rep])
    · rintro H' ⟨s', e', rs', q'⟩
      exact k _ _ H' _ q' e' rs' (by simp only [Rep]), x⟩
theorem de_allG {T c : Addr} {k : Nat} {elt tg iter : Expr} {scope : Scope} {own : List (Str × Nat)} {ix : List Nat} {wd : TDI} {gt : TGd} {te : TD} (hT : T ∈ g.TA) (hr : Room (k + 4) X.A) (hc : X.calm = true) (hN : X.N.Nodup) (hg : Gl X "all") (hm : X.mg "all" = none) (TB : TabB X.base X.mg c T) (hcode : X.env.code = .ref c)
    (hco : scope.isCoroutine = false) (hcell : ∀ y ∈ scope.names, y.2 ≠ .cell) (h0 : scope.names.lookup (".0" : Str) = some NameKind.local) (ok : BlkOk X.N X.env.scope scope own) (hi : PI X tg iter (lI g W wd))
    (hpg : ∀ (s : Shared) (H : Hp) (cl : List (Str × Addr)) (C : Addr) (code : Value) (fp : List Addr) (pn : List (Addr × Obj)), PG (X.gen s H scope (genEnv scope cl C code builtinsNs X.env) fp pn) tg (lG g ix gt))
    (hpe : ∀ (s : Shared) (H : Hp) (cl : List (Str × Addr)) (C : Addr) (code : Value) (fp : List Addr) (pn : List (Addr × Obj)), PE (X.gen s H scope (genEnv scope cl C code builtinsNs X.env) fp pn) elt (lE g W0 te))
    (hix : ∀ i ∈ ix, i ∈ own.map (·.2) := by decide) (hb : bootBuiltins "all" = some (.builtin "all") := by rfl) (hs : ∀ v, genFold iter X.env v = pure v := by intro _; rfl)
    (he : starEach [.GeneratorExp elt [⟨tg, iter, [], 0⟩] scope gpos] X.env = (false, eval (.GeneratorExp elt [⟨tg, iter, [], 0⟩] scope gpos) X.env) :: starEach [] X.env := by rfl) :
    PE X (.Call (.Name "all" p) [.GeneratorExp elt [⟨tg, iter, [], 0⟩] scope gpos] [] pos) (lE g W (dAllG wd gt te (own.map (·.2)))) :=
  pe_imp (pe_allG hr hc hN hg hm hb TB hcode hco hcell h0 ok hi hpg hpe hs he) (lE_all hT hix)
end
end DL
namespace DL
open PySem L2 PyProof.Rows GxR
structure FunC (K : PySem.W.Frag) (x qual : Str) (st : Stmt) (f : Addr) (fd : FuncData) (c : Addr) : Prop where
  ex : ∃ (oc : Value) (od : Option Addr) (kV doc pm : Value) (an : Option Addr) (ct : Value) (osl : Array (Option Value)),
    fd = PySem.W.fnOf x qual (defArgs st) (defBody st) (defScope st) .none kV doc pm an (.ref c) ct ∧ K.lookup f = some ⟨oc, od, .func fd, osl⟩ ∧ PySem.W.codeIn K (.ref c) qual = true
theorem funC_mk {K : PySem.W.Frag} {x qual : Str} {st : Stmt} {f c : Addr} {oc : Value} {od an : Option Addr} {osl : Array (Option Value)} {kV doc pm ct : Value} (l : K.lookup f = some ⟨oc, od, .func (PySem.W.fnOf x qual (defArgs st) (defBody st) (defScope st) .none kV doc pm an (.ref c) ct), osl⟩)
    (h : PySem.W.codeIn K (.ref c) qual = true) : FunC K x qual st f (PySem.W.fnOf x qual (defArgs st) (defBody st) (defScope st) .none kV doc pm an (.ref c) ct) c := ⟨oc, od, kV, doc, pm, an, ct, osl, rfl, l, h⟩
section
variable {P : Program} {wd : World} {K : PySem.W.Frag} {mg : Str → Option Value} {base : Heap}
theorem FunC.okX {x qual : Str} {st : Stmt} {f c : Addr} {fd : FuncData} {N ps : List Str} {k : Nat} {sp : Sp} (F : FunC K x qual st f fd c) (S : FnScope N ps (defScope st)) (len : ∀ vs H Q E, sp vs H Q E → vs.length = ps.length)
    (hbody : ∀ (A : Around) (outer : List Env) (s : Shared) (H : Hp) (vs : List V) (Q : VK) (E : XK), Room k (A.deeper (envOfC qual (defScope st) s.heap.objs.size f (.ref c))) → sp vs H Q E →
      ∃ t, PSs (cxOf (L2.CX P wd) P wd K mg base N qual (defScope st) f (.ref c) A outer s H E) (defBody st) t ∧ t { nx := fun _ H' => Q .non H', rt := Q } (start N vs) H) : FnOk P wd K mg base (L2.CX P wd) (k + 1) f fd ps sp := by
  obtain ⟨oc, od, kV, doc, pm, an, ct, osl, rfl, lk, hcd⟩ := F.ex
  exact fn_of lk hcd S len fun A outer s H vs Q E hr hsp => hbody A outer s H vs Q E hr hsp
theorem fn_okC {x qual : Str} {st : Stmt} {f c : Addr} {fd : FuncData} {N ps : List Str} {k : Nat} {spd : SpD} {td : TSd} (F : FunC K x qual st f fd c) (S : FnScope N ps (defScope st)) (g : G)
    (len : ∀ xs M P PX, spd xs M P PX → xs.length = ps.length) (hN : ps.length ≤ N.length)
    (body : ∀ (A : Around) (outer : List Env) (s : Shared) (H : Hp) (E : XK), Room k (A.deeper (PyProof.Rows.envOfC qual (defScope st) s.heap.objs.size f (.ref c))) →
      PSs (cxOf (L2.CX P wd) P wd K mg base N qual (defScope st) f (.ref c) A outer s H E) (defBody st) (lS g (fun cls d _ H => E cls d H) td))
    (math : ∀ xs M P PX, spd xs M P PX → td (startS N xs M) (endE M.length P) (endX M.length PX)) : FnOk P wd K mg base (L2.CX P wd) (k + 1) f fd ps (lSp g spd) := by
  refine F.okX S (fun vs H Q E ⟨w, xs, M, P, PX, ra, m, h, _⟩ => (ra.len).trans (len xs M P PX h)) fun A outer s H vs Q E hr ⟨w, xs, M, P, PX, ra, m, h, kq, kx⟩ => ?_
  refine ⟨_, body A outer s H E hr, w, startS N xs M, endE M.length P, endX M.length PX, rs_start (by rw [len xs M P PX h]; exact hN) ra m, math xs M P PX h, ⟨?_, fun _ _ _ _ h => h.elim, fun _ _ _ _ h => h.elim, ?_⟩, ?_⟩
  · rintro s' w' H' σ' ⟨al, p⟩ mv rs'
    obtain ⟨mb, kk⟩ := m.back mv rs'.mem al
    exact kq _ _ H' _ p mv.ext mb (by simp only [Rep])
  · rintro d s' w' H' σ' v ⟨al, p⟩ mv rs' rp
    obtain ⟨mb, kk⟩ := m.back mv rs'.mem al
    exact kq _ _ H' _ p mv.ext mb (Rep.gen kk rp)
  · rintro c x s' w' H' σ' dd v ⟨al, p⟩ mv rs' hd rp
    obtain ⟨mb, kk⟩ := m.back mv rs'.mem al
    exact kx _ _ _ H' _ _ p mv.ext mb ⟨(kk _ _ hd.1 hd.2).2, hd.2⟩ (Rep.gen kk rp)
end
end DL
namespace DL
open PySem PySem.Spec PyProof.Rows L2 LamX GxR
theorem walk_gen {l : PySem.W.OpenLaw} {n k : Nat} {q : Program} {loose : List Str} {XP : (Str → Option Value) → Heap → Prop} {YP : World → Heap → Prop} {d : DefRec} {K : Params → PySem.W.Frag} {CX : World → CXT} {x : Str}
    (hn : l.most = some n) (hn2 : n ≤ sizeLine) (hdf : d.params.defaults = []) (hr : Room k callerA) (hY : ∀ (w : World) (h : Heap), YP w h → (K w.params).In h)
    (F : ∀ (w : World) (mg mb : Str → Option Value) (fa : Addr) (h : Heap), (∃ lo mean, Top q lo mean mg mb h) → YP w h → (K w.params).In h → h.Ns mainGlobals mg → mg d.name = some (.ref fa) → LawAtS l w (K w.params) (CX w) k n x mg fa h)
    (hCX : ∀ (w : World) (H : Hp) (s : Shared) (e : Value) (s' : Shared), CX w [] H s (fun _ _ _ => False) e s' → False) :
    PySem.W.WalkO q loose XP YP l.row.toRowW d [] (fun f vs => PySem.call f vs) := by
  refine Att.attach_callB hn hdf fun w s₀ s₁ mg mb fa o pm cd doc a vs ns G Y ho hd hcd hmg hobj hints hlen hbits hg => ?_
  have KX := hY w _ Y
  obtain ⟨fd, cs, sp, hT, nT, C, hb, hsp, hF⟩ := F w mg mb fa _ ⟨_, _, G.T⟩ Y KX G.T.g hmg
  exact law_callTs KX G.T.g G.T.b G.T.builtins G.T.nolimit hg hT nT C G.T.bmain hobj hints (Nat.le_trans hlen hn2) hr hF hb (fun H hH hS => hsp H a ns hlen hbits hH hS) fun H e s' => hCX w H s₁ e s'
end DL
namespace DL
open PySem PySem.Spec PyProof.Rows L2 GxR
theorem tabs_empty {H : Hp} {cs : List (Addr × Addr)} (hT : ∀ p ∈ cs, H p.2 = some (.tbl #[])) : ∀ b, b ∈ cs.map (·.2) → TabG H b := fun b hb => by
  obtain ⟨p, hp, e⟩ := List.mem_map.mp hb
  subst e
  exact ⟨#[], hT p hp, trivial⟩
theorem notab {K : PySem.W.Frag} {h : Heap} {P : Addr} (X : K.In h) (nt : PySem.W.noTabs K = true) (e : h.get? P = some (PySem.W.tabObj #[])) : K.lookup P = none := by
  cases q : K.lookup P with
  | none => rfl
  | some o =>
    have e2 := X _ _ q
    rw [e] at e2
    cases e2
    have z := List.all_eq_true.mp nt _ (PySem.W.mem_of_lookupK q)
    exact absurd (show false = true from z) Bool.false_ne_true
theorem tabB_of {base : Heap} {mg : Str → Option Value} {c P : Addr} (t : LamX.TabB base mg c P) : TabB base mg c P := ⟨t.code, t.bm, t.gP⟩
end DL
namespace DL
open PySem L2 PyProof.Rows
section
variable {X : Cx} {g : G} {W : WX} {pos : Pos} {a b e : Expr} {ta tb : TD}
def rCountD : RD := fun x y P => ∃ (ns : List Int) (k : Int), x = .lst (ns.map .int) ∧ y = .int k ∧ P (.int (ns.count k : Nat))
theorem de_count (h : PE X e (tBM X.K "list" (rCntI X.K) (lE g W ta) (tCons (lE g W tb) tNil))) : PE X e (lE g W (dBM1 rCountD ta tb)) := pe_imp h (l_bm1 fun x y H Q ⟨w, d, e, P, rd, re, r, nb, q⟩ => by
  obtain ⟨ns, k, rfl, rfl, pz⟩ := r
  simp only [Rep] at rd re
  obtain ⟨a, vs, ea, n, hp, rv⟩ := rd
  have := rv.ints
  subst this re
  exact ⟨a, ns, k, ea, rfl, SqL.of hp, q _ _ H pz Same0 (by simp only [Rep])⟩)
def rIsB (neg : Bool) : RD := fun x y P => ∃ a b, x = .bl a ∧ y = .bl b ∧ P (.bl (neg ^^ decide (a = b)))
theorem op_notB : OpR X (compareOp .IsNot) (fun x y H Q => ∃ a b, x = V.bl a ∧ y = V.bl b ∧ Q (.bl (true ^^ decide (a = b))) H) := by
  intro pins s σ H x y v u Q I rx ry h
  obtain ⟨a, b, rfl, rfl, q⟩ := h
  cases rx; cases ry
  refine wpAny_isNot_plain rfl (fin_bl I q ?_)
  cases a <;> cases b <;> rfl
theorem l_isB {neg : Bool} : ∀ (x y : V) (H : Hp) (Q : VK), lR g (rIsB neg) x y H Q → ∃ a b, x = V.bl a ∧ y = V.bl b ∧ Q (.bl (neg ^^ decide (a = b))) H := fun x y H Q ⟨w, d, e, P, rd, re, r, nb, q⟩ => by
  obtain ⟨a, b, rfl, rfl, pz⟩ := r
  simp only [Rep] at rd re
  exact ⟨a, b, rd, re, q _ _ H pz Same0 (by simp only [Rep])⟩
end
end DL
namespace MR
open PySem L2 DL
inductive Res (α : Type) where
  | ok (a : α) | er (c : Str) (x : D) | no
section
variable {α β γ : Type}
def Res.bnd (r : Res α) (f : α → Res β) : Res β := match r with
  | .ok a => f a
  | .er c x => .er c x
  | .no => .no
@[simp] theorem ok_bnd {a : α} {f : α → Res β} : (Res.ok a).bnd f = f a := of_eq_true (eq_self _)
@[simp] theorem er_bnd {c : Str} {x : D} {f : α → Res β} : (Res.er c x : Res α).bnd f = .er c x := rfl
@[simp] theorem no_bnd {f : α → Res β} : (Res.no : Res α).bnd f = .no := rfl
theorem bnd_bnd {r : Res α} {f : α → Res β} {g : β → Res γ} : (r.bnd f).bnd g = r.bnd fun a => (f a).bnd g := by cases r <;> rfl
@[simp] theorem bnd_ok {r : Res α} : (r.bnd fun a => .ok a) = r := by cases r <;> rfl
def Res.tr (r : Res α) (h : Str → D → Res α) : Res α := match r with
  | .ok a => .ok a
  | .er c x => h c x
  | .no => .no
@[simp] theorem ok_tr {a : α} {h : Str → D → Res α} : (Res.ok a).tr h = .ok a := rfl
@[simp] theorem er_tr {c : Str} {x : D} {h : Str → D → Res α} : (Res.er c x : Res α).tr h = h c x := rfl
@[simp] theorem no_tr {h : Str → D → Res α} : (Res.no : Res α).tr h = .no := rfl
def wp (r : Res α) (Q : α → Prop) (X : Str → D → Prop) : Prop := match r with
  | .ok a => Q a
  | .er c x => X c x
  | .no => False
variable {r : Res α} {f : α → Res β} {Q Q' : α → Prop} {X X' : Str → D → Prop}
@[simp] theorem wp_ok {a : α} : wp (.ok a) Q X = Q a := rfl
@[simp] theorem wp_er {c : Str} {x : D} : wp (.er c x : Res α) Q X = X c x := rfl
theorem wp_bnd {Q : β → Prop} : wp (r.bnd f) Q X = wp r (fun a => wp (f a) Q X) X := by cases r <;> rfl
theorem wp_tr {h : Str → D → Res α} : wp (r.tr h) Q X = wp r Q (fun c x => wp (h c x) Q X) := by cases r <;> rfl
theorem wp_o {a : α} (h : wp (.ok a) Q X) : Q a := h
theorem wp_e {c : Str} {x : D} (h : wp (.er c x : Res α) Q X) : X c x := h
theorem wp_mono (h : wp r Q X) (k : ∀ a, Q a → Q' a) (kx : ∀ c x, X c x → X' c x) : wp r Q' X' := by
  cases r with
  | ok a => exact k a h
  | er c x => exact kx c x h
  | no => exact h
end
inductive VC where
  | no | dat (d : D) | own (x : CC)
abbrev AS := List VC
def SatV (s : S) (i : Nat) : VC → Prop
  | .no => True
  | .dat d => s.r[i]? = some (.dat d)
  | .own x => ∃ c, s.r[i]? = some (.cell c) ∧ s.M[c]? = some (some x)
structure Kt where
  nl : Bool
  pin : List (Nat × Nat)
abbrev Kt.off (κ : Kt) : Kt := ⟨false, κ.pin⟩
def Kt.free (κ : Kt) (i : Nat) : Bool := κ.pin.all fun p => p.1 != i
structure Sat (κ : Kt) (s : S) (A : AS) : Prop where
  len : s.r.length = A.length
  at_ : ∀ (i : Nat) (v : VC), A[i]? = some v → SatV s i v
  ne : ∀ (i j c : Nat) (x : CC) (v : VC), A[i]? = some (.own x) → s.r[i]? = some (.cell c) → s.r[j]? = some (.cell c) → A[j]? = some v → (v ≠ .no ∨ κ.free j = false) → i = j
  lt : ∀ (i c : Nat), s.r[i]? = some (.cell c) → c < s.M.length
  nl : κ.nl = true → memNoL s.M = true
  pin : ∀ p, p ∈ κ.pin → s.r[p.1]? = some (.cell p.2)
structure Fr (s s' : S) : Prop where
  r : s'.r = s.r
  len : s.M.length ≤ s'.M.length
  at_ : ∀ c, c < s.M.length → (∀ i : Nat, s.r[i]? ≠ some (.cell c)) → s'.M[c]? = s.M[c]?
theorem Fr.refl (s : S) : Fr s s := ⟨rfl, Nat.le_refl _, fun _ _ _ => rfl⟩
theorem Fr.trans {s s1 s2 : S} (a : Fr s s1) (b : Fr s1 s2) : Fr s s2 :=
  ⟨b.r.trans a.r, Nat.le_trans a.len b.len, fun c hc hn => (b.at_ c (Nat.lt_of_lt_of_le hc a.len) (fun i => by rw [a.r]; exact hn i)).trans (a.at_ c hc hn)⟩
abbrev CT (α : Type) := S → (α → S → Prop) → KX → Prop
abbrev AX := Str → D → AS → Prop
section
variable {κ : Kt} {α β γ : Type}
def J (κ : Kt) {α : Type} (t : CT α) (A : AS) (P : α → AS → Prop) (X : AX) : Prop := ∀ s P' PX', Sat κ s A → (∀ a A' s', P a A' → Sat κ s' A' → Fr s s' → P' a s') → (∀ c x A' s', X c x A' → Sat κ.off s' A' → PX' c x s') → t s P' PX'
def Pv {α : Type} (t : CT α) (A : AS) (a : α) : Prop := ∀ κ P X, P a A → J κ t A P X
def Rv {τ α : Type} (t : CT α) (A : AS) (e : τ → α) (r : Res τ) : Prop := ∀ κ P X, wp r (fun v => P (e v) A) (fun c x => X c x A) → J κ t A P X
theorem J.pv {t : CT α} {A : AS} {a : α} {P : α → AS → Prop} {X : AX} (h : Pv t A a) (k : P a A) : J κ t A P X := h κ P X k
theorem J.rv {τ : Type} {t : CT α} {A : AS} {e : τ → α} {r : Res τ} {P : α → AS → Prop} {X : AX} (h : Rv t A e r) (k : wp r (fun v => P (e v) A) (fun c x => X c x A)) : J κ t A P X := h κ P X k
theorem Pv.rv {τ : Type} {t : CT α} {A : AS} {e : τ → α} {v : τ} (h : Pv t A (e v)) : Rv t A e (.ok v) := fun κ P X k => h κ P X k
theorem Rv.eq {τ : Type} {t : CT α} {A : AS} {e : τ → α} {r r' : Res τ} (h : Rv t A e r) (q : r = r') : Rv t A e r' := q ▸ h
theorem J.mono {t : CT α} {A : AS} {P P1 : α → AS → Prop} {X X1 : AX} (h : J κ t A P X) (k : ∀ a A', P a A' → P1 a A') (kx : ∀ c x A', X c x A' → X1 c x A') : J κ t A P1 X1 :=
  fun s P' PX' hs hp hx => h s P' PX' hs (fun a A' s' p => hp a A' s' (k a A' p)) (fun c x A' s' p => hx c x A' s' (kx c x A' p))
theorem J.cut {τ : Type} {t : CT α} {A : AS} {P : α → AS → Prop} {X : AX} (I : τ → AS) (f : τ → α) (Q : τ → Prop) (h : J κ t A (fun a A1 => ∃ v, a = f v ∧ A1 = I v ∧ Q v) X) (k : ∀ v, Q v → P (f v) (I v)) : J κ t A P X :=
  h.mono (fun a A1 ⟨v, ea, eA, q⟩ => by subst ea; subst eA; exact k v q) fun _ _ _ h => h
theorem J.ret {A : AS} {P : α → AS → Prop} {X : AX} {a : α} (h : P a A) : J κ (fun s P _ => P a s) A P X := fun s P' PX' hs hp hx => hp a A s h hs (Fr.refl s)
def Ev2 (r : RD) (x y : D) (P : D → Prop) : Prop := ∃ z, (∀ P, P z → r x y P) ∧ P z
def Ev1 (r : RU) (x : D) (P : D → Prop) : Prop := ∃ z, (∀ P, P z → r x P) ∧ P z
variable {ta tb tc : TD} {A : AS} {P : D → AS → Prop} {PB : Bool → AS → Prop} {X : AX}
theorem pv_var (i : Nat) {d : D} (h : A[i]? = some (.dat d)) : Pv (dVar i) A d := fun κ P X k s P' PX' hs hp hx => ⟨d, hs.at_ i _ h, hp d A s k hs (Fr.refl s)⟩
theorem pv_c (d : D) : Pv (dC d) A d := fun κ P X k s P' PX' hs hp hx => hp d A s k hs (Fr.refl s)
theorem j_op {r : RD} (h : J κ ta A (fun x A1 => J κ tb A1 (fun y A2 => Ev2 r x y fun z => P z A2) X) X) : J κ (dOp r ta tb) A P X :=
  fun s P' PX' hs hp hx => h s _ _ hs (fun x A1 s1 h1 hs1 f1 => h1 s1 _ _ hs1 (fun y A2 s2 ⟨z, hz, p⟩ hs2 f2 => hz _ (hp _ _ _ p hs2 (f1.trans f2))) hx) hx
theorem j_un {r : RU} (h : J κ ta A (fun x A1 => Ev1 r x fun z => P z A1) X) : J κ (dUn r ta) A P X :=
  fun s P' PX' hs hp hx => h s _ _ hs (fun x A1 s1 ⟨z, hz, p⟩ hs1 f1 => hz _ (hp _ _ _ p hs1 f1)) hx
theorem pv_op {r : RD} {x y z : D} (ha : Pv ta A x) (hb : Pv tb A y) (hr : ∀ P, P z → r x y P) : Pv (dOp r ta tb) A z := fun κ P X k => j_op (ha κ _ _ (hb κ _ _ ⟨z, hr, k⟩))
theorem pv_un {r : RU} {x z : D} (ha : Pv ta A x) (hr : ∀ P, P z → r x P) : Pv (dUn r ta) A z := fun κ P X k => j_un (ha κ _ _ ⟨z, hr, k⟩)
def OpR (r : RD) {τ : Type} (e : τ → D) (x y : D) (m : Res τ) : Prop := ∀ P X, wp m (fun v => P (e v)) X → Ev2 r x y P
theorem OpR.j {r : RD} {τ : Type} {e : τ → D} {x y : D} {m : Res τ} (h : OpR r e x y m) {P : D → Prop} {X : Str → D → Prop} (k : wp m (fun v => P (e v)) X) : Ev2 r x y P := h P X k
theorem rv_op {r : RD} {σ1 σ2 τ : Type} {e1 : σ1 → D} {e2 : σ2 → D} {e : τ → D} {ra : Res σ1} {rb : Res σ2} {rc : σ1 → σ2 → Res τ} (ha : Rv ta A e1 ra) (hb : Rv tb A e2 rb) (hr : ∀ a b, OpR r e (e1 a) (e2 b) (rc a b)) :
    Rv (dOp r ta tb) A e (ra.bnd fun a => rb.bnd fun b => rc a b) := fun κ P X k => by
  rw [wp_bnd] at k
  refine j_op (ha κ _ _ (wp_mono k (fun a k => ?_) fun _ _ h => h))
  rw [wp_bnd] at k
  exact hb κ _ _ (wp_mono k (fun b k => (hr a b).j k) fun _ _ h => h)
theorem rv_un {r : RU} {σ1 τ : Type} {e1 : σ1 → D} {e : τ → D} {ra : Res σ1} {f : σ1 → τ} (ha : Rv ta A e1 ra) (hr : ∀ a P, P (e (f a)) → r (e1 a) P) : Rv (dUn r ta) A e (ra.bnd fun a => .ok (f a)) := fun κ P X k => by
  rw [wp_bnd] at k
  exact j_un (ha κ _ _ (wp_mono k (fun a k => ⟨_, hr a, k⟩) fun _ _ h => h))
theorem jb_t (h : J κ ta A (fun x A1 => ∃ k, x = .bl k ∧ PB k A1) X) : J κ (dT ta) A PB X := fun s P' PX' hs hp hx => h s _ _ hs (fun a A1 s1 ⟨k, e, p⟩ hs1 f1 => ⟨k, e, hp k A1 s1 p hs1 f1⟩) hx
theorem jb_tru (h : J κ ta A (fun x A1 => ∃ k, truD x = some k ∧ PB k A1) X) : J κ (dTru ta) A PB X := fun s P' PX' hs hp hx => h s _ _ hs (fun a A1 s1 ⟨k, e, p⟩ hs1 f1 => ⟨k, e, hp k A1 s1 p hs1 f1⟩) hx
theorem pb_t {b : Bool} (h : Pv ta A (.bl b)) : Pv (dT ta) A b := fun κ P X k => jb_t (h κ _ _ ⟨b, rfl, k⟩)
theorem pb_tru {d : D} {b : Bool} (h : Pv ta A d) (e : truD d = some b) : Pv (dTru ta) A b := fun κ P X k => jb_tru (h κ _ _ ⟨b, e, k⟩)
theorem rb_t {r : Res Bool} (h : Rv ta A D.bl r) : Rv (dT ta) A id r := fun κ P X k => jb_t (h κ _ _ (wp_mono k (fun v k => ⟨v, rfl, k⟩) fun _ _ h => h))
theorem rb_tru {σ : Type} {e : σ → D} {f : σ → Bool} {r : Res σ} (h : Rv ta A e r) (q : ∀ v, truD (e v) = some (f v)) : Rv (dTru ta) A id (r.bnd fun v => .ok (f v)) := fun κ P X k => by
  rw [wp_bnd] at k
  exact jb_tru (h κ _ _ (wp_mono k (fun v k => ⟨_, q v, k⟩) fun _ _ h => h))
variable {t u : TDB}
theorem jb_and (h : J κ t A (fun b A1 => if b = true then J κ u A1 PB X else PB false A1) X) : J κ (dAnd t u) A PB X :=
  fun s P' PX' hs hp hx => h s _ _ hs (fun b A1 s1 h1 hs1 f1 => by
    cases b with
    | true => exact (if_pos rfl).mpr ((if_pos rfl).mp h1 s1 _ _ hs1 (fun d A2 s2 p hs2 f2 => hp d A2 s2 p hs2 (f1.trans f2)) hx)
    | false => exact (if_neg Bool.false_ne_true).mpr (hp _ _ _ ((if_neg Bool.false_ne_true).mp h1) hs1 f1)) hx
theorem jb_or (h : J κ t A (fun b A1 => if b = true then PB true A1 else J κ u A1 PB X) X) : J κ (dOr t u) A PB X :=
  fun s P' PX' hs hp hx => h s _ _ hs (fun b A1 s1 h1 hs1 f1 => by
    cases b with
    | false => exact (if_neg Bool.false_ne_true).mpr ((if_neg Bool.false_ne_true).mp h1 s1 _ _ hs1 (fun d A2 s2 p hs2 f2 => hp d A2 s2 p hs2 (f1.trans f2)) hx)
    | true => exact (if_pos rfl).mpr (hp _ _ _ ((if_pos rfl).mp h1) hs1 f1)) hx
theorem jb_not (h : J κ t A (fun b A1 => PB (!b) A1) X) : J κ (dNot t) A PB X := fun s P' PX' hs hp hx => h s _ _ hs (fun b A1 s1 h1 hs1 f1 => hp _ _ _ h1 hs1 f1) hx
theorem pb_and {b c : Bool} (ht : Pv t A b) (hu : Pv u A c) : Pv (dAnd t u) A (b && c) := fun κ P X k => jb_and (ht κ _ _ (by cases b with
  | true => rw [if_pos rfl]; exact hu κ _ _ k
  | false => rw [if_neg Bool.false_ne_true]; exact k))
theorem pb_or {b c : Bool} (ht : Pv t A b) (hu : Pv u A c) : Pv (dOr t u) A (b || c) := fun κ P X k => jb_or (ht κ _ _ (by cases b with
  | true => rw [if_pos rfl]; exact k
  | false => rw [if_neg Bool.false_ne_true]; exact hu κ _ _ k))
theorem pb_not {b : Bool} (ht : Pv t A b) : Pv (dNot t) A (!b) := fun κ P X k => jb_not (ht κ _ _ k)
abbrev andR (a b : Res Bool) : Res Bool := a.bnd fun x => cond x b (.ok false)
abbrev orR (a b : Res Bool) : Res Bool := a.bnd fun x => cond x (.ok true) b
abbrev notR (a : Res Bool) : Res Bool := a.bnd fun x => .ok (!x)
theorem rb_and {a b : Res Bool} (ht : Rv t A id a) (hu : Rv u A id b) : Rv (dAnd t u) A id (andR a b) := fun κ P X k => by
  rw [wp_bnd] at k
  refine jb_and (ht κ _ _ (wp_mono k (fun x k => ?_) fun _ _ h => h))
  cases x with
  | true => exact (if_pos rfl).mpr (hu κ _ _ k)
  | false => exact (if_neg Bool.false_ne_true).mpr k
theorem rb_or {a b : Res Bool} (ht : Rv t A id a) (hu : Rv u A id b) : Rv (dOr t u) A id (orR a b) := fun κ P X k => by
  rw [wp_bnd] at k
  refine jb_or (ht κ _ _ (wp_mono k (fun x k => ?_) fun _ _ h => h))
  cases x with
  | true => exact (if_pos rfl).mpr k
  | false => exact (if_neg Bool.false_ne_true).mpr (hu κ _ _ k)
theorem rb_not {a : Res Bool} (ht : Rv t A id a) : Rv (dNot t) A id (notR a) := fun κ P X k => by
  rw [wp_bnd] at k
  exact jb_not (ht κ _ _ k)
theorem j_andV (h : J κ ta A (fun x A1 => ∃ k, x = .bl k ∧ if k = true then J κ tb A1 P X else P (.bl false) A1) X) : J κ (dAndV ta tb) A P X := fun s P' PX' hs hp hx => h s _ _ hs (fun x A1 s1 ⟨k, e, h⟩ hs1 f1 => ⟨k, e, by
    cases k with
    | true => rw [if_pos rfl] at h ⊢; exact h s1 _ _ hs1 (fun d A2 s2 p hs2 f2 => hp d A2 s2 p hs2 (f1.trans f2)) hx
    | false => rw [if_neg Bool.false_ne_true] at h ⊢; exact hp _ _ _ h hs1 f1⟩) hx
theorem j_orV (h : J κ ta A (fun x A1 => ∃ k, x = .bl k ∧ if k = true then P (.bl true) A1 else J κ tb A1 P X) X) : J κ (dOrV ta tb) A P X := fun s P' PX' hs hp hx => h s _ _ hs (fun x A1 s1 ⟨k, e, h⟩ hs1 f1 => ⟨k, e, by
    cases k with
    | false => rw [if_neg Bool.false_ne_true] at h ⊢; exact h s1 _ _ hs1 (fun d A2 s2 p hs2 f2 => hp d A2 s2 p hs2 (f1.trans f2)) hx
    | true => rw [if_pos rfl] at h ⊢; exact hp _ _ _ h hs1 f1⟩) hx
theorem j_notV (h : J κ ta A (fun x A1 => ∃ k, x = .bl k ∧ P (.bl (!k)) A1) X) : J κ (dNotV ta) A P X := fun s P' PX' hs hp hx => h s _ _ hs (fun x A1 s1 ⟨k, e, h⟩ hs1 f1 => ⟨k, e, hp _ _ _ h hs1 f1⟩) hx
theorem rv_andV {a b : Res Bool} (ha : Rv ta A D.bl a) (hb : Rv tb A D.bl b) : Rv (dAndV ta tb) A D.bl (andR a b) := fun κ P X k => by
  rw [wp_bnd] at k
  refine j_andV (ha κ _ _ (wp_mono k (fun x k => ⟨x, rfl, ?_⟩) fun _ _ h => h))
  cases x with
  | true => exact (if_pos rfl).mpr (hb κ _ _ k)
  | false => exact (if_neg Bool.false_ne_true).mpr k
theorem rv_notV {a : Res Bool} (ha : Rv ta A D.bl a) : Rv (dNotV ta) A D.bl (notR a) := fun κ P X k => by
  rw [wp_bnd] at k
  exact j_notV (ha κ _ _ (wp_mono k (fun x k => ⟨x, rfl, k⟩) fun _ _ h => h))
theorem j_if (h : J κ t A (fun b A1 => if b = true then J κ ta A1 P X else J κ tb A1 P X) X) : J κ (dIf t ta tb) A P X :=
  fun s P' PX' hs hp hx => h s _ _ hs (fun b A1 s1 h1 hs1 f1 => by
    cases b with
    | true => exact (if_pos rfl).mpr ((if_pos rfl).mp h1 s1 _ _ hs1 (fun d A2 s2 p hs2 f2 => hp d A2 s2 p hs2 (f1.trans f2)) hx)
    | false => exact (if_neg Bool.false_ne_true).mpr ((if_neg Bool.false_ne_true).mp h1 s1 _ _ hs1 (fun d A2 s2 p hs2 f2 => hp d A2 s2 p hs2 (f1.trans f2)) hx)) hx
theorem rv_if {τ : Type} {e : τ → D} {c : Res Bool} {x y : Res τ} (ht : Rv t A id c) (ha : Rv ta A e x) (hb : Rv tb A e y) : Rv (dIf t ta tb) A e (c.bnd fun b => cond b x y) := fun κ P X k => by
  rw [wp_bnd] at k
  refine j_if (ht κ _ _ (wp_mono k (fun b k => ?_) fun _ _ h => h))
  cases b with
  | true => exact (if_pos rfl).mpr (ha κ _ _ k)
  | false => exact (if_neg Bool.false_ne_true).mpr (hb κ _ _ k)
theorem j_chain {r r' : RD} (h : J κ ta A (fun x A1 => J κ tb A1 (fun y A2 => Ev2 r x y fun z => ∃ k, z = .bl k ∧ if k = true then J κ tc A2 (fun u A3 => Ev2 r' y u fun z' => P z' A3) X else P (.bl false) A2) X) X) : J κ (dChain r r' ta tb tc) A P X := fun s P' PX' hs hp hx =>
  h s _ _ hs (fun x A1 s1 h1 hs1 f1 => h1 s1 _ _ hs1 (fun y A2 s2 ⟨z, hz, k, e, h2⟩ hs2 f2 => hz _ ⟨k, e, by
    cases k with
    | true =>
      rw [if_pos rfl] at h2 ⊢
      exact h2 s2 _ _ hs2 (fun u A3 s3 ⟨z', hz', p⟩ hs3 f3 => hz' _ (hp _ _ _ p hs3 ((f1.trans f2).trans f3))) hx
    | false => rw [if_neg Bool.false_ne_true] at h2 ⊢; exact hp _ _ _ h2 hs2 (f1.trans f2)⟩) hx) hx
theorem pv_chain {r r' : RD} {x y u : D} {b c : Bool} (ha : Pv ta A x) (hb : Pv tb A y) (hc : Pv tc A u) (h1 : ∀ P, P (.bl b) → r x y P) (h2 : ∀ P, P (.bl c) → r' y u P) : Pv (dChain r r' ta tb tc) A (.bl (b && c)) := fun κ P X k =>
  j_chain (ha κ _ _ (hb κ _ _ ⟨_, h1, b, rfl, by
    cases b with
    | true => rw [if_pos rfl]; exact hc κ _ _ ⟨_, h2, k⟩
    | false => rw [if_neg Bool.false_ne_true]; exact k⟩))
theorem rv_chain {r r' : RD} {σ1 σ2 σ3 : Type} {e1 : σ1 → D} {e2 : σ2 → D} {e3 : σ3 → D} {ra : Res σ1} {rb : Res σ2} {rc : Res σ3} {f : σ1 → σ2 → Bool} {g : σ2 → σ3 → Bool} (ha : Rv ta A e1 ra) (hb : Rv tb A e2 rb) (hc : Rv tc A e3 rc) (h1 : ∀ a b P, P (.bl (f a b)) → r (e1 a) (e2 b) P) (h2 : ∀ a b P, P (.bl (g a b)) → r' (e2 a) (e3 b) P) :
    Rv (dChain r r' ta tb tc) A D.bl (ra.bnd fun a => rb.bnd fun b => cond (f a b) (rc.bnd fun c => .ok (g b c)) (.ok false)) := fun κ P X k => by
  rw [wp_bnd] at k
  refine j_chain (ha κ _ _ (wp_mono k (fun a k => ?_) fun _ _ h => h))
  rw [wp_bnd] at k
  refine hb κ _ _ (wp_mono k (fun b k => ⟨_, h1 a b, _, rfl, ?_⟩) fun _ _ h => h)
  cases e : f a b with
  | true =>
    rw [e] at k
    simp only [cond_true] at k
    rw [wp_bnd] at k
    exact (if_pos rfl).mpr (hc κ _ _ (wp_mono k (fun c k => ⟨_, h2 b c, k⟩) fun _ _ h => h))
  | false =>
    rw [e] at k
    exact (if_neg Bool.false_ne_true).mpr k
end
end MR
namespace MR
open PySem L2 DL
theorem set_get {α : Type} {l : List α} {i j : Nat} {x y : α} (h : (l.set i x)[j]? = some y) : (i = j ∧ y = x) ∨ (i ≠ j ∧ l[j]? = some y) := by
  by_cases e : i = j
  · subst e
    rw [List.getElem?_set] at h
    simp at h
    exact .inl ⟨rfl, h.2.symm⟩
  · rw [List.getElem?_set_ne e] at h
    exact .inr ⟨e, h⟩
theorem memNoL_set {M : Mem} {c : Nat} {x : Option CC} (h : memNoL M = true) (hx : (match x with | some y => ccNoL y | none => true) = true) : memNoL (M.set c x) = true := by
  induction M generalizing c with
  | nil => simp
  | cons a M ih =>
    cases c with
    | zero =>
      cases x with
      | none => cases a <;> simp_all
      | some y => cases a <;> simp_all
    | succ c => cases a <;> simp_all
theorem memNoL_app {M : Mem} {x : CC} (h : memNoL M = true) (hx : ccNoL x = true) : memNoL (M ++ [some x]) = true := by
  induction M with
  | nil => simp_all
  | cons a M ih => cases a <;> simp_all
theorem memNoL_at {M : Mem} {c : Nat} {x : CC} (h : memNoL M = true) (e : M[c]? = some (some x)) : ccNoL x = true := by
  induction M generalizing c with
  | nil => simp at e
  | cons a M ih =>
    cases c with
    | zero => simp at e; subst e; simp at h; exact h.1
    | succ c => cases a <;> simp at h e <;> first | exact ih h e | exact ih h.2 e
theorem Kt.free_ne {κ : Kt} {i : Nat} (h : κ.free i = true) {p : Nat × Nat} (hp : p ∈ κ.pin) : i ≠ p.1 := by
  unfold Kt.free at h
  have := List.all_eq_true.mp h p hp
  simp at this
  exact fun e => this e.symm
section
variable {κ : Kt} {s : S} {A : AS}
theorem Sat.off (h : Sat κ s A) : Sat κ.off s A := ⟨h.len, h.at_, h.ne, h.lt, fun e => (Bool.false_ne_true e).elim, h.pin⟩
theorem Sat.own (h : Sat κ s A) {i : Nat} {x : CC} (e : A[i]? = some (.own x)) : ∃ c, s.r[i]? = some (.cell c) ∧ s.M[c]? = some (some x) := h.at_ i _ e
theorem Sat.setOwn (h : Sat κ s A) {i c : Nat} {x x' : CC} (e : A[i]? = some (.own x)) (ec : s.r[i]? = some (.cell c)) (hx : κ.nl = true → ccNoL x' = true) :
    Sat κ { s with M := s.M.set c (some x') } (A.set i (.own x')) := by
  have hc : c < s.M.length := h.lt i c ec
  refine ⟨by simp [h.len], fun j v ev => ?_, fun j k c' y v ej ec1 ec2 ev hv => ?_, fun j c' e' => by simpa using h.lt j c' e', fun q => memNoL_set (h.nl q) (hx q), h.pin⟩
  · rcases set_get ev with ⟨ej, e2⟩ | ⟨ej, e2⟩
    · subst ej; subst e2
      exact ⟨c, ec, List.getElem?_set_self hc⟩
    · have z := h.at_ j v e2
      cases v with
      | no => trivial
      | dat d => exact z
      | own y =>
        obtain ⟨c', z1, z2⟩ := z
        refine ⟨c', z1, ?_⟩
        have : c ≠ c' := fun q => ej (h.ne i j c x _ e ec (by rw [q]; exact z1) e2 (.inl (by simp)))
        show (s.M.set c _)[c']? = _
        rw [List.getElem?_set_ne this]
        exact z2
  · have hj : ∃ y', A[j]? = some (.own y') := by
      rcases set_get ej with ⟨q, _⟩ | ⟨_, q⟩
      · subst q; exact ⟨x, e⟩
      · exact ⟨y, q⟩
    obtain ⟨y', ej'⟩ := hj
    rcases set_get ev with ⟨q, _⟩ | ⟨_, q⟩
    · subst q
      exact h.ne j i c' y' _ ej' ec1 ec2 e (.inl (by simp))
    · exact h.ne j k c' y' v ej' ec1 ec2 q hv
theorem Sat.setSl (h : Sat κ s A) {i : Nat} {sl : Sl} {v0 : VC} (hf : κ.free i = true) (hv : (∃ d, sl = .dat d ∧ v0 = .dat d) ∨ (sl = .no ∧ v0 = .no)) : Sat κ { s with r := s.r.set i sl } (A.set i v0) := by
  have nc : ∀ j c, (s.r.set i sl)[j]? = some (.cell c) → i ≠ j ∧ s.r[j]? = some (.cell c) := fun j c e => by
    rcases set_get e with ⟨_, q⟩ | q
    · rcases hv with ⟨d, hd, _⟩ | ⟨hd, _⟩ <;> rw [hd] at q <;> cases q
    · exact q
  refine ⟨by simp [h.len], fun j v ev => ?_, fun j k c y v ej ec1 ec2 ev hv2 => ?_, fun j c e => h.lt j c (nc j c e).2, h.nl, fun p hp => ?_⟩
  · rcases set_get ev with ⟨q, e2⟩ | ⟨q, e2⟩
    · subst q; subst e2
      rcases hv with ⟨d, hd, hv⟩ | ⟨hd, hv⟩
      · rw [hd, hv]
        show (s.r.set i _)[i]? = _
        have : i < s.r.length := by
          have z := (List.getElem?_eq_some_iff.mp ev).1
          rw [h.len]; simpa using z
        exact List.getElem?_set_self this
      · rw [hv]; trivial
    · have z := h.at_ j v e2
      cases v with
      | no => trivial
      | dat d => show (s.r.set i _)[j]? = _; rw [List.getElem?_set_ne q]; exact z
      | own y =>
        obtain ⟨c, z1, z2⟩ := z
        exact ⟨c, by show (s.r.set i _)[j]? = _; rw [List.getElem?_set_ne q]; exact z1, z2⟩
  · have a := nc j c ec1
    have b := nc k c ec2
    rcases set_get ej with ⟨q, _⟩ | ⟨_, q⟩
    · exact (a.1 q).elim
    · rcases set_get ev with ⟨q2, _⟩ | ⟨_, q2⟩
      · exact (b.1 q2).elim
      · exact h.ne j k c y v q a.2 b.2 q2 hv2
  · show (s.r.set i _)[p.1]? = _
    rw [List.getElem?_set_ne (Kt.free_ne hf hp)]
    exact h.pin p hp
theorem Sat.setDat (h : Sat κ s A) {i : Nat} {d : D} (hf : κ.free i = true) : Sat κ { s with r := s.r.set i (.dat d) } (A.set i (.dat d)) := h.setSl hf (.inl ⟨d, rfl, rfl⟩)
theorem Sat.setNo (h : Sat κ s A) {i : Nat} (hf : κ.free i = true) : Sat κ { s with r := s.r.set i .no } (A.set i .no) := h.setSl hf (.inr ⟨rfl, rfl⟩)
theorem Sat.putCell (h : Sat κ s A) {i c : Nat} {x : CC} (hf : κ.free i = true) (hn : ∀ j : Nat, s.r[j]? ≠ some (Sl.cell c)) (hc : s.M[c]? = some (some x)) : Sat κ { s with r := s.r.set i (.cell c) } (A.set i (.own x)) := by
  refine ⟨by simp [h.len], fun j v ev => ?_, fun j k c' y v ej ec1 ec2 ev hv2 => ?_, fun j c' e => ?_, h.nl, fun p hp => ?_⟩
  · rcases set_get ev with ⟨q, e2⟩ | ⟨q, e2⟩
    · subst q; subst e2
      have : i < s.r.length := by
        have z := (List.getElem?_eq_some_iff.mp ev).1
        rw [h.len]; simpa using z
      exact ⟨c, List.getElem?_set_self this, hc⟩
    · have z := h.at_ j v e2
      cases v with
      | no => trivial
      | dat d => show (s.r.set i _)[j]? = _; rw [List.getElem?_set_ne q]; exact z
      | own y =>
        obtain ⟨c', z1, z2⟩ := z
        exact ⟨c', by show (s.r.set i _)[j]? = _; rw [List.getElem?_set_ne q]; exact z1, z2⟩
  · rcases set_get ec1 with ⟨q1, e1⟩ | ⟨q1, e1⟩
    · cases e1
      rcases set_get ec2 with ⟨q2, e2⟩ | ⟨q2, e2⟩
      · exact q1.symm.trans q2
      · exact (hn k e2).elim
    · rcases set_get ec2 with ⟨q2, e2⟩ | ⟨q2, e2⟩
      · cases e2
        exact (hn j e1).elim
      · rcases set_get ej with ⟨q, _⟩ | ⟨_, q⟩
        · exact (q1 q).elim
        · rcases set_get ev with ⟨q3, _⟩ | ⟨_, q3⟩
          · exact (q2 q3).elim
          · exact h.ne j k c' y v q e1 e2 q3 hv2
  · rcases set_get e with ⟨_, q⟩ | ⟨_, q⟩
    · cases q; exact (List.getElem?_eq_some_iff.mp hc).1
    · exact h.lt j c' q
  · show (s.r.set i _)[p.1]? = _
    rw [List.getElem?_set_ne (Kt.free_ne hf hp)]
    exact h.pin p hp
theorem Sat.app (h : Sat κ s A) {x : CC} (hx : κ.nl = true → ccNoL x = true) : Sat κ { s with M := s.M ++ [some x] } A := by
  refine ⟨h.len, fun j v ev => ?_, h.ne, fun j c e => by have := h.lt j c e; simp; omega, fun q => memNoL_app (h.nl q) (hx q), h.pin⟩
  have z := h.at_ j v ev
  cases v with
  | no => trivial
  | dat d => exact z
  | own y =>
    obtain ⟨c', z1, z2⟩ := z
    exact ⟨c', z1, by show (s.M ++ _)[c']? = _; rw [List.getElem?_append_left (h.lt j c' z1)]; exact z2⟩
theorem Sat.fresh (h : Sat κ s A) : ∀ j : Nat, s.r[j]? ≠ some (.cell s.M.length) := fun j e => Nat.lt_irrefl _ (h.lt j _ e)
theorem Sat.newOwn (h : Sat κ s A) {i : Nat} {x : CC} (hf : κ.free i = true) (hx : κ.nl = true → ccNoL x = true) : Sat κ { r := s.r.set i (.cell s.M.length), M := s.M ++ [some x] } (A.set i (.own x)) :=
  (h.app hx).putCell hf h.fresh (by show (s.M ++ _)[s.M.length]? = _; rw [List.getElem?_append_right (Nat.le_refl _), Nat.sub_self]; rfl)
inductive Le : AS → AS → Prop where
  | nil : Le [] []
  | keep {v : VC} {A B : AS} (h : Le A B) : Le (v :: A) (v :: B)
  | drop {v : VC} {A B : AS} (h : Le A B) : Le (v :: A) (.no :: B)
theorem Le.at_ : ∀ {A B : AS}, Le A B → A.length = B.length ∧ ∀ (i : Nat) (v : VC), B[i]? = some v → A[i]? = some v ∨ (v = .no ∧ ∃ u, A[i]? = some u)
  | _, _, .nil => ⟨rfl, fun i v e => by simp at e⟩
  | _, _, .keep h => by
    obtain ⟨l, z⟩ := h.at_
    refine ⟨by simp [l], fun i v e => ?_⟩
    cases i with
    | zero => exact .inl e
    | succ i => exact z i v e
  | _, _, .drop (v := u) h => by
    obtain ⟨l, z⟩ := h.at_
    refine ⟨by simp [l], fun i v e => ?_⟩
    cases i with
    | zero => simp at e; exact .inr ⟨e.symm, u, rfl⟩
    | succ i => exact z i v e
theorem Le.refl : ∀ A : AS, Le A A
  | [] => .nil
  | _ :: A => .keep (Le.refl A)
theorem Sat.le {B : AS} (h : Sat κ s A) (l : Le A B) : Sat κ s B := by
  obtain ⟨ll, z⟩ := l.at_
  refine ⟨h.len.trans ll, fun j v ev => ?_, fun j k c y v ej ec1 ec2 ev hv => ?_, h.lt, h.nl, h.pin⟩
  · rcases z j v ev with q | ⟨q, _⟩
    · exact h.at_ j v q
    · subst q; trivial
  · rcases z j _ ej with q | ⟨q, _⟩
    · rcases z k v ev with q2 | ⟨q2, _⟩
      · exact h.ne j k c y v q ec1 ec2 q2 hv
      · subst q2
        have hu : ∃ u, A[k]? = some u := (z k .no ev).elim (fun q => ⟨_, q⟩) (fun q => q.2)
        obtain ⟨u, hu⟩ := hu
        exact h.ne j k c y u q ec1 ec2 hu (hv.elim (fun q => absurd rfl q) .inr)
    · cases q
theorem Sat.thaw (h : Sat κ s A) {i c : Nat} {ds : List D} (hf : κ.free i = true) (e : A[i]? = some (.own (.lst ds))) (ec : s.r[i]? = some (.cell c)) : Sat κ { r := s.r.map (DL.thaw c ds), M := s.M.set c none } (A.set i (.dat (.lst ds))) := by
  have hc := h.lt i c ec
  have tc : ∀ (j c' : Nat), (s.r.map (DL.thaw c ds))[j]? = some (.cell c') → c' ≠ c ∧ s.r[j]? = some (.cell c') := fun j c' q => by
    rw [List.getElem?_map] at q
    cases z : s.r[j]? with
    | none => rw [z] at q; cases q
    | some y =>
      rw [z] at q
      cases y with
      | no => simp at q
      | dat d => simp at q
      | cell k =>
        simp at q
        by_cases b : k = c
        · rw [if_pos b] at q; simp at q
        · rw [if_neg b] at q; simp at q; subst q; exact ⟨b, rfl⟩
  refine ⟨by simp [h.len], fun j v ev => ?_, fun j k c' y v ej ec1 ec2 ev hv => ?_, fun j c' q => ?_, fun q => memNoL_set (h.nl q) rfl, fun p hp => ?_⟩
  · rcases set_get ev with ⟨q, e2⟩ | ⟨q, e2⟩
    · subst q; subst e2
      show (s.r.map _)[i]? = _
      rw [List.getElem?_map, ec]
      simp
    · have z := h.at_ j v e2
      cases v with
      | no => trivial
      | dat d =>
        show (s.r.map _)[j]? = _
        have z : s.r[j]? = some (.dat d) := z
        rw [List.getElem?_map, z]; rfl
      | own y =>
        obtain ⟨c', z1, z2⟩ := z
        have ne : c ≠ c' := fun q2 => q (h.ne i j c _ _ e ec (by rw [q2]; exact z1) e2 (.inl (by simp)))
        refine ⟨c', ?_, ?_⟩
        · show (s.r.map _)[j]? = _
          rw [List.getElem?_map, z1]
          simp [Ne.symm ne]
        · show (s.M.set c none)[c']? = _
          rw [List.getElem?_set_ne ne]; exact z2
  · have a := tc j c' ec1
    have b := tc k c' ec2
    rcases set_get ej with ⟨_, q⟩ | ⟨_, q⟩
    · cases q
    · rcases set_get ev with ⟨q2, _⟩ | ⟨_, q2⟩
      · subst q2
        rw [ec] at b
        exact absurd (by simpa using b.2.symm) b.1
      · exact h.ne j k c' y v q a.2 b.2 q2 hv
  · have := h.lt j c' (tc j c' q).2
    simpa using this
  · show (s.r.map _)[p.1]? = _
    have z := h.pin p hp
    rw [List.getElem?_map, z]
    have : p.2 ≠ c := fun q => by
      have hl : p.1 < A.length := by rw [← h.len]; exact (List.getElem?_eq_some_iff.mp z).1
      obtain ⟨v, hv⟩ : ∃ v, A[p.1]? = some v := ⟨_, List.getElem?_eq_getElem hl⟩
      exact Kt.free_ne hf hp (h.ne i p.1 c _ v e ec (by rw [← q]; exact z) hv (.inr (by
        cases z : κ.free p.1 with
        | false => rfl
        | true => exact absurd rfl (Kt.free_ne z hp))))
    simp [this]
end
end MR
namespace MR
open PySem L2 DL
inductive AA where
  | dat (d : D) | cell (i : Nat) | new (x : CC)
def ArgsOk (m : Nat) (s : S) : List AA → List Sl → Prop
  | [], xs => xs = []
  | .dat d :: as, xs => ∃ r, xs = .dat d :: r ∧ ArgsOk m s as r
  | .cell i :: as, xs => ∃ c r, xs = .cell c :: r ∧ s.r[i]? = some (.cell c) ∧ ArgsOk m s as r
  | .new x :: as, xs => ∃ c r, xs = .cell c :: r ∧ s.M[c]? = some (some x) ∧ m ≤ c ∧ (∀ j : Nat, s.r[j]? ≠ some (Sl.cell c)) ∧ Sl.cell c ∉ r ∧ ArgsOk m s as r
def JA (κ : Kt) (t : TDA) (A : AS) (P : List AA → AS → Prop) (X : AX) : Prop := ∀ s P' PX', Sat κ s A → (∀ as xs A' s', P as A' → Sat κ s' A' → Fr s s' → ArgsOk s.M.length s' as xs → P' xs s') → (∀ c x A' s', X c x A' → Sat κ.off s' A' → PX' c x s') → t s P' PX'
def Pva (t : TDA) (A : AS) (as : List AA) : Prop := ∀ κ P X, P as A → JA κ t A P X
section
variable {κ : Kt} {A : AS} {ta tb tc : TD} {tr : TDA} {P : List AA → AS → Prop} {X : AX}
theorem ja_nil (h : P [] A) : JA κ dNil A P X := fun s P' PX' hs hp hx => hp [] [] A s h hs (Fr.refl s) rfl
theorem ArgsOk.mono {s : S} {m m' : Nat} (hm : m ≤ m') : ∀ {as : List AA} {xs : List Sl}, ArgsOk m' s as xs → ArgsOk m s as xs
  | [], _, h => h
  | .dat _ :: _, _, ⟨r, e, h⟩ => ⟨r, e, h.mono hm⟩
  | .cell _ :: _, _, ⟨c, r, e, q, h⟩ => ⟨c, r, e, q, h.mono hm⟩
  | .new _ :: _, _, ⟨c, r, e, q, l, n, ni, h⟩ => ⟨c, r, e, q, Nat.le_trans hm l, n, ni, h.mono hm⟩
theorem ja_cons (h : J κ ta A (fun d A1 => JA κ tr A1 (fun as A2 => P (.dat d :: as) A2) X) X) : JA κ (dCons ta tr) A P X := fun s P' PX' hs hp hx =>
  h s _ _ hs (fun d A1 s1 h1 hs1 f1 => h1 s1 _ _ hs1 (fun as xs A2 s2 p hs2 f2 ok => hp _ _ A2 s2 p hs2 (f1.trans f2) ⟨xs, rfl, ok.mono f1.len⟩) hx) hx
theorem ja_consC (i : Nat) {x : CC} (e : A[i]? = some (.own x)) (h : JA κ tr A (fun as A2 => P (.cell i :: as) A2) X) : JA κ (dConsC i tr) A P X := fun s P' PX' hs hp hx => by
  obtain ⟨c, ec, em⟩ := hs.own e
  exact ⟨c, ec, h s _ _ hs (fun as xs A2 s2 p hs2 f2 ok => hp _ _ A2 s2 p hs2 f2 ⟨c, xs, rfl, by rw [f2.r]; exact ec, ok⟩) hx⟩
theorem ja_consF {tf : TDF} (h : J κ tf A (fun ds A1 => (κ.nl = true → noLs ds = true) ∧ JA κ tr A1 (fun as A2 => P (.new (.lst ds) :: as) A2) X) X) : JA κ (dConsF tf tr) A P X := fun s P' PX' hs hp hx =>
  h s _ _ hs (fun ds A1 s1 ⟨hn, h1⟩ hs1 f1 => h1 { s1 with M := s1.M ++ [some (.lst ds)] } _ _ (hs1.app hn) (fun as xs A2 s2 p hs2 f2 ok => by
    have fresh := hs1.fresh
    have nf : ∀ j : Nat, s2.r[j]? ≠ some (Sl.cell s1.M.length) := fun j q => fresh j (by rw [← f2.r]; exact q)
    have ml : s1.M.length < (s1.M ++ [some (CC.lst ds)]).length := by simp
    have mc : s2.M[s1.M.length]? = some (some (.lst ds)) := by
      rw [f2.at_ s1.M.length ml fresh]
      show (s1.M ++ _)[s1.M.length]? = _
      rw [List.getElem?_append_right (Nat.le_refl _), Nat.sub_self]; rfl
    have nx : ∀ {as : List AA} {xs : List Sl}, ArgsOk (s1.M ++ [some (CC.lst ds)]).length s2 as xs → Sl.cell s1.M.length ∉ xs := by
      intro as
      induction as with
      | nil => intro xs h; have h : xs = [] := h; subst h; simp
      | cons a as ih =>
        intro xs h
        cases a with
        | dat d => obtain ⟨r, e, h⟩ := h; subst e; simp; exact ih h
        | cell i => obtain ⟨c, r, e, q, h⟩ := h; subst e; simp; exact ⟨fun z => nf i (by rw [z]; exact q), ih h⟩
        | new x => obtain ⟨c, r, e, q, l, n, ni, h⟩ := h; subst e; simp at l ⊢; exact ⟨by omega, ih h⟩
    refine hp _ _ A2 s2 p hs2 ⟨f2.r.trans f1.r, by have := f1.len; have := f2.len; simp at this; omega, fun c hc hn2 => ?_⟩ ⟨s1.M.length, xs, rfl, mc, f1.len, nf, nx ok, ok.mono (by have := f1.len; simp; omega)⟩
    have h1 : c < s1.M.length := Nat.lt_of_lt_of_le hc f1.len
    rw [f2.at_ c (by simp; omega) (fun i => by show s1.r[i]? ≠ _; rw [f1.r]; exact hn2 i)]
    show (s1.M ++ _)[c]? = _
    rw [List.getElem?_append_left h1]
    exact f1.at_ c hc hn2) hx) hx
@[simp] def datsA : List AA → Option (List D)
  | [] => some []
  | .dat d :: r => (datsA r).map (d :: ·)
  | _ :: _ => none
theorem ArgsOk.dats {m : Nat} {s : S} : ∀ {as : List AA} {xs : List Sl} {ds : List D}, ArgsOk m s as xs → datsA as = some ds → xs = ds.map .dat
  | [], xs, ds, h, e => by have h : xs = [] := h; cases e; exact h
  | .dat d :: as, xs, ds, h, e => by
    obtain ⟨r, ex, h⟩ := h
    simp only [datsA] at e
    cases z : datsA as with
    | none => rw [z] at e; cases e
    | some es => rw [z] at e; cases e; rw [ex, h.dats z]; rfl
  | .cell _ :: _, _, _, _, e => nomatch e
  | .new _ :: _, _, _, _, e => nomatch e
theorem cellsIn_map (ds : List D) : cellsIn (ds.map Sl.dat) = [] := by
  induction ds with
  | nil => rfl
  | cons d ds ih => exact ih
theorem j_tup {P : D → AS → Prop} (h : JA κ tr A (fun as A1 => ∃ ds, datsA as = some ds ∧ ds.length ≤ sizeLine ∧ P (.tup ds) A1) X) : J κ (dTup tr) A P X := fun s P' PX' hs hp hx =>
  h s _ _ hs (fun as xs A1 s1 ⟨ds, e, hl, p⟩ hs1 f1 ok => ⟨ds, by rw [ok.dats e]; exact dats_map ds, hl, hp _ _ _ p hs1 f1⟩) hx
theorem j_lst {P : List D → AS → Prop} (h : JA κ tr A (fun as A1 => ∃ ds, datsA as = some ds ∧ ds.length ≤ sizeLine ∧ P ds A1) X) : J κ (dLst tr) A P X := fun s P' PX' hs hp hx =>
  h s _ _ hs (fun as xs A1 s1 ⟨ds, e, hl, p⟩ hs1 f1 ok => ⟨ds, by rw [ok.dats e]; exact dats_map ds, hl, hp _ _ _ p hs1 f1⟩) hx
theorem j_f {P : D → AS → Prop} {tf : TDF} (h : J κ tf A (fun ds A1 => P (.lst ds) A1) X) : J κ (dF tf) A P X := fun s P' PX' hs hp hx => h s _ _ hs (fun ds A1 s1 p hs1 f1 => hp _ _ _ p hs1 f1) hx
def Call0 (sp : SpD) (ds : List D) {τ : Type} (e : τ → D) (m : Res τ) : Prop := ∀ P PX, wp m (fun v => P (e v) []) (fun c x => PX c x []) → sp (ds.map .dat) [] P PX
theorem j_call0 {sp : SpD} {P : D → AS → Prop} (h : JA κ tr A (fun as A1 => ∃ ds, datsA as = some ds ∧ ∃ (τ : Type) (e : τ → D) (m : Res τ), Call0 sp ds e m ∧ wp m (fun v => P (e v) A1) (fun c x => X c x A1)) X) : J κ (dCall sp tr) A P X := fun s P' PX' hs hp hx =>
  h s _ _ hs (fun as xs A1 s1 ⟨ds, e, τ, en, m, hc, hw⟩ hs1 f1 ok => by
    rw [ok.dats e]
    unfold callM
    rw [cellsIn_map]
    exact hc _ _ (wp_mono hw (fun v p => hp _ _ _ p hs1 f1) fun c x q => hx _ _ _ _ q hs1.off)) hx
def Call1 (sp : SpD) (xs : List Sl) (x : CC) {τ : Type} (e : τ → D) (x' : τ → CC) (m : Res τ) : Prop := ∀ P PX, wp m (fun v => P (e v) [some (x' v)]) (fun c d => ∀ y, PX c d [some y]) → sp xs [some x] P PX
def sl1 : List AA → List Sl
  | [] => []
  | .dat d :: r => .dat d :: sl1 r
  | _ :: r => .cell 0 :: sl1 r
def cells1 : List AA → List Nat
  | [] => []
  | .cell i :: r => i :: cells1 r
  | _ :: r => cells1 r
def plainA : List AA → Bool
  | [] => true
  | .new _ :: _ => false
  | _ :: r => plainA r
theorem ArgsOk.ren {m : Nat} {s : S} : ∀ {as : List AA} {xs : List Sl}, ArgsOk m s as xs → plainA as = true → xs.map ren0 = sl1 as
  | [], xs, h, _ => by have h : xs = [] := h; subst h; rfl
  | .dat d :: as, xs, ⟨r, ex, h⟩, n => by subst ex; simp [sl1, h.ren n]
  | .cell i :: as, xs, ⟨c, r, ex, q, h⟩, n => by subst ex; simp [sl1, h.ren n]
  | .new _ :: _, _, _, n => nomatch n
theorem ArgsOk.cells {m : Nat} {s : S} : ∀ {as : List AA} {xs : List Sl}, ArgsOk m s as xs → plainA as = true → (cells1 as = [] → cellsIn xs = []) ∧ (∀ i, cells1 as = [i] → ∃ c, s.r[i]? = some (.cell c) ∧ cellsIn xs = [c]) ∧ (∀ i j, cells1 as = [i, j] → ∃ c c2, s.r[i]? = some (.cell c) ∧ s.r[j]? = some (.cell c2) ∧ cellsIn xs = [c, c2])
  | [], xs, h, _ => by have h : xs = [] := h; subst h; exact ⟨fun _ => rfl, fun i e => (by cases e), fun i j e => (by cases e)⟩
  | .dat d :: as, xs, ⟨r, ex, h⟩, n => by subst ex; exact h.cells n
  | .cell i :: as, xs, ⟨c, r, ex, q, h⟩, n => by
    subst ex
    obtain ⟨a, b, z⟩ := h.cells n
    refine ⟨fun e => (by cases e), fun j e => ?_, fun j k e => ?_⟩
    · cases e2 : cells1 as with
      | nil => simp [cells1, e2] at e; subst e; exact ⟨c, q, by simp [a e2]⟩
      | cons k ks => simp [cells1, e2] at e
    · simp [cells1] at e
      obtain ⟨e1, e2⟩ := e
      subst e1
      obtain ⟨c2, q2, z2⟩ := b k e2
      exact ⟨c, c2, q, q2, by simp [z2]⟩
  | .new _ :: _, _, _, n => nomatch n
theorem j_call1 {sp : SpD} {P : D → AS → Prop} (h : JA κ tr A (fun as A1 => ∃ i x, plainA as = true ∧ cells1 as = [i] ∧ A1[i]? = some (.own x) ∧ ∃ (τ : Type) (e : τ → D) (x' : τ → CC) (m : Res τ), Call1 sp (sl1 as) x e x' m ∧
    wp m (fun v => (κ.nl = true → ccNoL (x' v) = true) ∧ P (e v) (A1.set i (.own (x' v)))) (fun c d => ∀ y, X c d (A1.set i (.own y)))) X) : J κ (dCall sp tr) A P X := fun s P' PX' hs hp hx =>
  h s _ _ hs (fun as xs A1 s1 ⟨i, x, pl, ci, ei, τ, en, x', m, hc, hw⟩ hs1 f1 ok => by
    obtain ⟨c, ec, z⟩ := (ok.cells pl).2.1 i ci
    obtain ⟨c', ec', em⟩ := hs1.own ei
    rw [ec] at ec'; cases ec'
    unfold callM
    rw [z]
    refine ⟨x, em, ?_⟩
    rw [ok.ren pl]
    refine hc _ _ (wp_mono hw (fun v ⟨hn, p⟩ => ⟨_, rfl, hp _ _ _ p (hs1.setOwn ei ec hn) ?_⟩) fun k d q y => ⟨_, rfl, hx _ _ _ _ (q y) (hs1.off.setOwn ei ec fun e => (Bool.false_ne_true e).elim)⟩)
    exact ⟨f1.r, by simpa using f1.len, fun k hk hn2 => by
      show (s1.M.set c _)[k]? = _
      rw [List.getElem?_set_ne (fun q => hn2 i (by rw [← q, ← f1.r]; exact ec))]
      exact f1.at_ k hk hn2⟩) hx
def Call2 (sp : SpD) (xs : List Sl) (x y : CC) {τ : Type} (e : τ → D) (x' y' : τ → CC) (m : Res τ) : Prop := ∀ P PX, wp m (fun v => P (e v) [some (x' v), some (y' v)]) (fun c d => ∀ u v, PX c d [some u, some v]) → sp xs [some x, some y] P PX
def sl2 : Bool → List AA → List Sl
  | _, [] => []
  | b, .dat d :: r => .dat d :: sl2 b r
  | false, _ :: r => .cell 0 :: sl2 true r
  | true, _ :: r => .cell 1 :: sl2 true r
theorem ArgsOk.ren2 {m : Nat} {s : S} {c : Nat} : ∀ {as : List AA} {xs : List Sl}, ArgsOk m s as xs → plainA as = true → (∀ k, k ∈ cellsIn xs → k ≠ c) → xs.map (DL.ren2 c) = sl2 true as
  | [], xs, h, _, _ => by have h : xs = [] := h; subst h; rfl
  | .dat d :: as, xs, ⟨r, ex, h⟩, n, q => by subst ex; simp [sl2, h.ren2 n q]
  | .cell i :: as, xs, ⟨k, r, ex, _, h⟩, n, q => by
    subst ex
    have := q k (by simp)
    simp [sl2, this, h.ren2 n (fun k' hk => q k' (by simp [hk]))]
  | .new _ :: _, _, _, n, _ => nomatch n
theorem ArgsOk.ren20 {m : Nat} {s : S} {c c2 : Nat} (hne : c ≠ c2) : ∀ {as : List AA} {xs : List Sl}, ArgsOk m s as xs → plainA as = true → cellsIn xs = [c, c2] → xs.map (DL.ren2 c) = sl2 false as
  | [], xs, h, _, e => by have h : xs = [] := h; subst h; cases e
  | .dat d :: as, xs, ⟨r, ex, h⟩, n, q => by subst ex; simp [sl2, ArgsOk.ren20 hne h n q]
  | .cell i :: as, xs, ⟨k, r, ex, _, h⟩, n, q => by
    subst ex
    simp at q
    obtain ⟨q1, q2⟩ := q
    subst q1
    simp [sl2, h.ren2 n (c := k) (fun k' hk => by rw [q2] at hk; simp at hk; rw [hk]; exact Ne.symm hne)]
  | .new _ :: _, _, _, n, _ => nomatch n
theorem j_call2 {sp : SpD} {P : D → AS → Prop} (h : JA κ tr A (fun as A1 => ∃ i j x y, plainA as = true ∧ cells1 as = [i, j] ∧ i ≠ j ∧ A1[i]? = some (.own x) ∧ A1[j]? = some (.own y) ∧ ∃ (τ : Type) (e : τ → D) (x' y' : τ → CC) (m : Res τ), Call2 sp (sl2 false as) x y e x' y' m ∧
    wp m (fun v => (κ.nl = true → ccNoL (x' v) = true ∧ ccNoL (y' v) = true) ∧ P (e v) ((A1.set i (.own (x' v))).set j (.own (y' v)))) (fun c d => ∀ u v, X c d ((A1.set i (.own u)).set j (.own v)))) X) : J κ (dCall2 sp tr) A P X := fun s P' PX' hs hp hx =>
  h s _ _ hs (fun as xs A1 s1 ⟨i, j, x, y, pl, ci, hij, ei, ej, τ, en, x', y', m, hc, hw⟩ hs1 f1 ok => by
    obtain ⟨c, c2, ec, ec2, z⟩ := (ok.cells pl).2.2 i j ci
    obtain ⟨k, ek, em⟩ := hs1.own ei
    rw [ec] at ek; cases ek
    obtain ⟨k, ek, em2⟩ := hs1.own ej
    rw [ec2] at ek; cases ek
    have hne : c ≠ c2 := fun q => hij (hs1.ne i j c _ _ ei ec (by rw [q]; exact ec2) ej (.inl (by simp)))
    refine ⟨c, c2, z, hne, x, y, em, em2, ?_⟩
    rw [ArgsOk.ren20 hne ok pl z]
    have ej' : ∀ u, (A1.set i (.own u))[j]? = some (.own y) := fun u => by rw [List.getElem?_set_ne hij]; exact ej
    refine hc _ _ (wp_mono hw (fun v ⟨hn, p⟩ => ⟨_, _, rfl, hp _ _ _ p ((hs1.setOwn ei ec fun q => (hn q).1).setOwn (ej' _) ec2 fun q => (hn q).2) ?_⟩) fun k d q u v => ⟨_, _, rfl, hx _ _ _ _ (q u v) ((hs1.off.setOwn ei ec fun e => (Bool.false_ne_true e).elim).setOwn (ej' _) ec2 fun e => (Bool.false_ne_true e).elim)⟩)
    exact ⟨f1.r, by simpa using f1.len, fun k hk hn2 => by
      show ((s1.M.set c _).set c2 _)[k]? = _
      rw [List.getElem?_set_ne (fun q => hn2 j (by rw [← q, ← f1.r]; exact ec2)), List.getElem?_set_ne (fun q => hn2 i (by rw [← q, ← f1.r]; exact ec))]
      exact f1.at_ k hk hn2⟩) hx
theorem j_cb {r : RCd} {P : D → AS → Prop} (h : JA κ tr A (fun as A1 => ∃ ds z, datsA as = some ds ∧ (∀ M (P : D → Prop), P z → r (ds.map .dat) M P) ∧ P z A1) X) : J κ (dCB r tr) A P X := fun s P' PX' hs hp hx =>
  h s _ _ hs (fun as xs A1 s1 ⟨ds, z, e, hr, p⟩ hs1 f1 ok => by rw [ok.dats e]; exact hr _ _ (hp _ _ _ p hs1 f1)) hx
theorem pv_cbC {r : RCd} (i : Nat) {x : CC} {z : D} (e : A[i]? = some (.own x)) (hr : ∀ M c (P : D → Prop), M[c]? = some (some x) → P z → r [.cell c] M P) : Pv (dCB r (dConsC i dNil)) A z := fun κ P X k s P' PX' hs hp hx => by
  obtain ⟨c, ec, em⟩ := hs.own e
  exact ⟨c, ec, hr _ _ _ em (hp _ _ _ k hs (Fr.refl s))⟩
end
end MR
namespace MR
open PySem L2 DL
def EvM (f : List D → D → (D → List D → Prop) → Prop) (ds : List D) (d : D) (K : D → List D → Prop) : Prop := ∃ z ds', (∀ P, P z ds' → f ds d P) ∧ K z ds'
section
variable {κ : Kt} {A : AS} {ta tb tc td : TD} {P : D → AS → Prop} {X : AX}
theorem Fr.setM {s s1 : S} (f1 : Fr s s1) {i c : Nat} {x : Option CC} (ec : s1.r[i]? = some (.cell c)) : Fr s { s1 with M := s1.M.set c x } :=
  ⟨f1.r, by simpa using f1.len, fun k hk hn2 => by
    show (s1.M.set c _)[k]? = _
    rw [List.getElem?_set_ne (fun q => hn2 i (by rw [← q, ← f1.r]; exact ec))]
    exact f1.at_ k hk hn2⟩
theorem j_meth1 (i : Nat) {f : List D → D → (D → List D → Prop) → Prop} {ds0 : List D} (e : A[i]? = some (.own (.lst ds0))) (h : J κ td A (fun d A1 => ∃ ds, A1[i]? = some (.own (.lst ds)) ∧ EvM f ds d fun z ds' => (κ.nl = true → noLs ds' = true) ∧ P z (A1.set i (.own (.lst ds')))) X) : J κ (dMeth1 i f td) A P X := fun s P' PX' hs hp hx => by
  obtain ⟨c, ec, em⟩ := hs.own e
  refine ⟨c, ec, by rw [em]; trivial, h s _ _ hs (fun d A1 s1 ⟨ds, ei, z, ds', hf, hn, p⟩ hs1 f1 => ?_) hx⟩
  obtain ⟨c', ec', em'⟩ := hs1.own ei
  have : c' = c := by rw [f1.r, ec] at ec'; cases ec'; rfl
  subst this
  exact ⟨ds, em', hf _ (hp _ _ _ p (hs1.setOwn ei ec' hn) (f1.setM ec'))⟩
theorem j_ixC (i : Nat) {ds0 : List D} (e : A[i]? = some (.own (.lst ds0))) (h : J κ tb A (fun y A1 => ∃ ds j d, A1[i]? = some (.own (.lst ds)) ∧ y = .int j ∧ atI ds j = some d ∧ P d A1) X) : J κ (dIxC i tb) A P X := fun s P' PX' hs hp hx => by
  obtain ⟨c, ec, em⟩ := hs.own e
  refine ⟨c, ec, h s _ _ hs (fun y A1 s1 ⟨ds, j, d, ei, ey, ed, p⟩ hs1 f1 => ?_) hx⟩
  obtain ⟨c', ec', em'⟩ := hs1.own ei
  have : c' = c := by rw [f1.r, ec] at ec'; cases ec'; rfl
  subst this
  exact ⟨ds, j, d, em', ey, ed, hp _ _ _ p hs1 f1⟩
theorem thaw_of {s s1 : S} {c : Nat} {ds : List D} (f : s1.r = s.r.map (DL.thaw c ds)) {j k : Nat} (h : s1.r[j]? = some (.cell k)) : s.r[j]? = some (.cell k) := by
  rw [f, List.getElem?_map] at h
  cases z : s.r[j]? with
  | none => rw [z] at h; cases h
  | some y =>
    rw [z] at h
    cases y with
    | no => simp at h
    | dat d => simp at h
    | cell q =>
      simp at h
      by_cases b : q = c
      · rw [if_pos b] at h; simp at h
      · rw [if_neg b] at h; simp at h; rw [h]
structure Back (A A1 A2 : AS) (i : Nat) (ds : List D) : Prop where
  len : A2.length = A.length
  at_ : ∀ (j : Nat) (v : VC), A2[j]? = some v → (j = i ∧ v = .own (.lst ds)) ∨ (j ≠ i ∧ ((∃ d, v = .dat d ∧ A[j]? = some (.dat d)) ∨ v = .no ∨ ∃ x y, v = .own x ∧ A1[j]? = some (.own x) ∧ A[j]? = some (.own y)))
theorem Sat.back {s s1 : S} {A1 A2 : AS} {i c : Nat} {ds : List D} (hs : Sat κ s A) (e : A[i]? = some (.own (.lst ds))) (ec : s.r[i]? = some (.cell c)) (hs1 : Sat κ s1 A1) (f : Fr { r := s.r.map (DL.thaw c ds), M := s.M.set c none } s1) (b : Back A A1 A2 i ds) (hn : κ.nl = true → noLs ds = true) :
    Sat κ { r := s.r, M := s1.M.set c (some (.lst ds)) } A2 := by
  have hc : c < s1.M.length := by have := f.len; simp at this; have := hs.lt i c ec; omega
  refine ⟨hs.len.trans b.len.symm, fun j v ev => ?_, fun j k c' y v ej ec1 ec2 ev hv => ?_, fun j k q => ?_, fun q => memNoL_set (hs1.nl q) (hn q), hs.pin⟩
  · rcases b.at_ j v ev with ⟨rfl, rfl⟩ | ⟨hj, ⟨d, rfl, h⟩ | rfl | ⟨x, y, rfl, h, h2⟩⟩
    · exact ⟨c, ec, List.getElem?_set_self hc⟩
    · exact hs.at_ j _ h
    · trivial
    · obtain ⟨k, z1, z2⟩ := hs1.own h
      have z1' := thaw_of (s := s) f.r z1
      have ne : c ≠ k := fun q => hj (hs.ne i j c _ _ e ec (by rw [q]; exact z1') h2 (.inl (by simp))).symm
      exact ⟨k, z1', by show (s1.M.set c _)[k]? = _; rw [List.getElem?_set_ne ne]; exact z2⟩
  · have oj : ∃ y', A[j]? = some (.own y') := by
      rcases b.at_ j _ ej with ⟨rfl, _⟩ | ⟨hj, ⟨d, h, _⟩ | h | ⟨x, y, _, _, h2⟩⟩
      · exact ⟨_, e⟩
      · cases h
      · cases h
      · exact ⟨_, h2⟩
    obtain ⟨y', oj⟩ := oj
    have hk : k < A.length := by rw [← hs.len]; exact (List.getElem?_eq_some_iff.mp ec2).1
    obtain ⟨u, hu⟩ : ∃ u, A[k]? = some u := ⟨_, List.getElem?_eq_getElem hk⟩
    refine hs.ne j k c' y' u oj ec1 ec2 hu ?_
    rcases b.at_ k v ev with ⟨rfl, _⟩ | ⟨hj, ⟨d, h, h2⟩ | h | ⟨x, y, _, _, h2⟩⟩
    · rw [e] at hu; cases hu; exact .inl (by simp)
    · rw [h2] at hu; cases hu; exact .inl (by simp)
    · exact hv.elim (fun q => absurd h q) .inr
    · rw [h2] at hu; cases hu; exact .inl (by simp)
  · have := hs.lt j k q
    have := f.len
    simp at this ⊢
    omega
theorem Fr.back {s s1 : S} {i c : Nat} {ds : List D} (ec : s.r[i]? = some (.cell c)) (f : Fr { r := s.r.map (DL.thaw c ds), M := s.M.set c none } s1) : Fr s { r := s.r, M := s1.M.set c (some (.lst ds)) } := by
  refine ⟨rfl, by have := f.len; simp at this ⊢; omega, fun k hk hn => ?_⟩
  have ne : c ≠ k := fun q => hn i (by rw [ec, q])
  show (s1.M.set c _)[k]? = _
  rw [List.getElem?_set_ne ne, f.at_ k (by simpa using hk) (fun j q => hn j (thaw_of (s1 := { r := s.r.map (DL.thaw c ds), M := s.M.set c none }) rfl q))]
  show (s.M.set c _)[k]? = _
  rw [List.getElem?_set_ne ne]
theorem j_lendF (i : Nat) {tf : TDF} {P : List D → AS → Prop} {ds : List D} (hf : κ.free i = true) (hn : κ.nl = true) (e : A[i]? = some (.own (.lst ds))) (h : J κ tf (A.set i (.dat (.lst ds))) (fun es A1 => noLs es = true ∧ ∃ A2, Back A A1 A2 i ds ∧ P es A2) (fun _ _ _ => False)) : J κ (dLendF i tf) A P X := fun s P' PX' hs hp hx => by
  obtain ⟨c, ec, em⟩ := hs.own e
  have nd : noLs ds = true := memNoL_at (hs.nl hn) em
  exact ⟨c, ds, ec, em, h _ _ _ (hs.thaw hf e ec) (fun es A1 s1 ⟨ne, A2, b, p⟩ hs1 f1 => ⟨hs1.nl hn, ne, hp _ _ _ p (hs.back e ec hs1 f1 b fun _ => nd) (f1.back ec)⟩) (fun _ _ _ _ q _ => q)⟩
theorem j_lend (i : Nat) {t : TD} {ds : List D} (hf : κ.free i = true) (hn : κ.nl = true) (e : A[i]? = some (.own (.lst ds))) (h : J κ t (A.set i (.dat (.lst ds))) (fun d A1 => noL d = true ∧ ∃ A2, Back A A1 A2 i ds ∧ P d A2) (fun _ _ _ => False)) : J κ (dLend i t) A P X := fun s P' PX' hs hp hx => by
  obtain ⟨c, ec, em⟩ := hs.own e
  have nd : noLs ds = true := memNoL_at (hs.nl hn) em
  exact ⟨c, ds, ec, em, h _ _ _ (hs.thaw hf e ec) (fun es A1 s1 ⟨ne, A2, b, p⟩ hs1 f1 => ⟨hs1.nl hn, ne, hp _ _ _ p (hs.back e ec hs1 f1 b fun _ => nd) (f1.back ec)⟩) (fun _ _ _ _ q _ => q)⟩
theorem Back.same {i : Nat} {ds : List D} (e : A[i]? = some (.own (.lst ds))) : Back A (A.set i (.dat (.lst ds))) A i ds := ⟨rfl, fun j v ev => by
  by_cases h : j = i
  · subst h; rw [e] at ev; cases ev; exact .inl ⟨rfl, rfl⟩
  · refine .inr ⟨h, ?_⟩
    cases v with
    | no => exact .inr (.inl rfl)
    | dat d => exact .inl ⟨d, rfl, ev⟩
    | own x => exact .inr (.inr ⟨x, x, rfl, by rw [List.getElem?_set_ne (Ne.symm h)]; exact ev, ev⟩)⟩
theorem Back.one {i k : Nat} {ds : List D} {x y : CC} (e : A[i]? = some (.own (.lst ds))) (hk : A[k]? = some (.own y)) (hne : i ≠ k) : Back A ((A.set i (.dat (.lst ds))).set k (.own x)) (A.set k (.own x)) i ds := ⟨by simp, fun j v ev => by
  have hkl : k < A.length := (List.getElem?_eq_some_iff.mp hk).1
  by_cases h : j = i
  · subst h; rw [List.getElem?_set_ne (Ne.symm hne), e] at ev; cases ev; exact .inl ⟨rfl, rfl⟩
  · refine .inr ⟨h, ?_⟩
    by_cases h2 : j = k
    · subst h2
      rw [List.getElem?_set_self hkl] at ev; cases ev
      exact .inr (.inr ⟨x, y, rfl, List.getElem?_set_self (by simpa using hkl), hk⟩)
    · rw [List.getElem?_set_ne (Ne.symm h2)] at ev
      cases v with
      | no => exact .inr (.inl rfl)
      | dat d => exact .inl ⟨d, rfl, ev⟩
      | own z => exact .inr (.inr ⟨z, z, rfl, by rw [List.getElem?_set_ne (Ne.symm h2), List.getElem?_set_ne (Ne.symm h)]; exact ev, ev⟩)⟩
end
end MR
namespace MR
open PySem L2 DL
structure AN where
  nx : AS → Prop
  rt : D → AS → Prop
  bk : AS → Prop
  ct : AS → Prop
structure EndsOk (κ : Kt) (N : AN) (E : EK) : Prop where
  nx : ∀ A' s', N.nx A' → Sat κ s' A' → E.nx s'
  rt : ∀ d A' s', N.rt d A' → Sat κ s' A' → E.rt d s'
  bk : ∀ A' s', N.bk A' → Sat κ s' A' → E.bk s'
  ct : ∀ A' s', N.ct A' → Sat κ s' A' → E.ct s'
def JS (κ : Kt) (t : TSd) (A : AS) (N : AN) (X : AX) : Prop := ∀ s E PX', Sat κ s A → EndsOk κ N E → (∀ c x A' s', X c x A' → Sat κ.off s' A' → PX' c x s') → t s E PX'
def JG (κ : Kt) (g : TGd) (d : D) (A : AS) (P : AS → Prop) : Prop := ∀ s P', Sat κ s A → (∀ A' s', P A' → Sat κ s' A' → P' s') → g d s P'
def JGs (κ : Kt) (g : TGds) (ds : List D) (A : AS) (P : AS → Prop) : Prop := ∀ s P', Sat κ s A → (∀ A' s', P A' → Sat κ s' A' → P' s') → g ds s P'
def JM (κ : Kt) (g : TGm) (d : D) (A : AS) (P : AS → Prop) (X : AX) : Prop := ∀ s P' PX', Sat κ s A → (∀ A' s', P A' → Sat κ s' A' → P' s') → (∀ c x A' s', X c x A' → Sat κ.off s' A' → PX' c x s') → g d s P' PX'
def JMs (κ : Kt) (g : TGms) (ds : List D) (A : AS) (P : AS → Prop) (X : AX) : Prop := ∀ s P' PX', Sat κ s A → (∀ A' s', P A' → Sat κ s' A' → P' s') → (∀ c x A' s', X c x A' → Sat κ.off s' A' → PX' c x s') → g ds s P' PX'
def nxA (f : AS → Prop) (N : AN) : AN := { N with nx := f }
section
variable {κ : Kt} {A : AS} {N : AN} {X : AX} {t u : TSd} {ta tb td : TD} {tf : TDF}
theorem EndsOk.nxA {E : EK} (h : EndsOk κ N E) {f : AS → Prop} {f' : S → Prop} (k : ∀ A' s', f A' → Sat κ s' A' → f' s') : EndsOk κ (nxA f N) { E with nx := f' } := ⟨k, h.rt, h.bk, h.ct⟩
theorem js_next (h : N.nx A) : JS κ dNext A N X := fun s E PX hs he hx => he.nx _ _ h hs
theorem js_seq (h : JS κ t A (nxA (fun A1 => JS κ u A1 N X) N) X) : JS κ (dSeq t u) A N X := fun s E PX hs he hx => h s _ _ hs (he.nxA fun A1 s1 h1 hs1 => h1 s1 _ _ hs1 he hx) hx
theorem js_mid {β : Type} (I : β → AS) (Q : β → Prop) (h : JS κ t A (nxA (fun A1 => ∃ b, Le A1 (I b) ∧ Q b) N) X) (k : ∀ b, Q b → JS κ u (I b) N X) : JS κ (dSeq t u) A N X := fun s E PX hs he hx =>
  h s _ _ hs (he.nxA fun A1 s1 ⟨b, l, q⟩ hs1 => k b q s1 _ _ (hs1.le l) he hx) hx
theorem js_ret (h : J κ td A (fun d A1 => N.rt d A1) X) : JS κ (dRet td) A N X := fun s E PX hs he hx => h s _ _ hs (fun d A1 s1 p hs1 _ => he.rt d A1 s1 p hs1) hx
theorem js_drop (h : J κ td A (fun _ A1 => N.nx A1) X) : JS κ (dDrop td) A N X := fun s E PX hs he hx => h s _ _ hs (fun d A1 s1 p hs1 _ => he.nx A1 s1 p hs1) hx
theorem js_if {c : TDB} (h : J κ c A (fun b A1 => if b = true then JS κ t A1 N X else JS κ u A1 N X) X) : JS κ (dIfS c t u) A N X := fun s E PX hs he hx => h s _ _ hs (fun b A1 s1 h1 hs1 _ => by
  cases b with
  | true => exact (if_pos rfl).mpr ((if_pos rfl).mp h1 s1 _ _ hs1 he hx)
  | false => exact (if_neg Bool.false_ne_true).mpr ((if_neg Bool.false_ne_true).mp h1 s1 _ _ hs1 he hx)) hx
theorem js_break (h : N.bk A) : JS κ dBreak A N X := fun s E PX hs he hx => he.bk _ _ h hs
theorem js_set {i : Nat} (hf : κ.free i = true) (h : J κ td A (fun d A1 => N.nx (A1.set i (.dat d))) X) : JS κ (dSet i td) A N X := fun s E PX hs he hx => h s _ _ hs (fun d A1 s1 p hs1 _ => he.nx _ _ p (hs1.setDat hf)) hx
theorem js_setF {i : Nat} (hf : κ.free i = true) (h : J κ tf A (fun ds A1 => (κ.nl = true → noLs ds = true) ∧ N.nx (A1.set i (.own (.lst ds)))) X) : JS κ (dSetF i tf) A N X := fun s E PX hs he hx => h s _ _ hs (fun d A1 s1 p hs1 _ => he.nx _ _ p.2 (hs1.newOwn hf p.1)) hx
theorem js_freeze {i : Nat} {ds : List D} (hf : κ.free i = true) (e : A[i]? = some (.own (.lst ds))) (h : JS κ t (A.set i (.dat (.lst ds))) N X) : JS κ (dFreeze i t) A N X := fun s E PX hs he hx => by
  obtain ⟨c, ec, em⟩ := hs.own e
  exact ⟨c, ds, ec, em, h _ _ _ (hs.thaw hf e ec) he hx⟩
theorem js_raise {c : Str} (h : J κ td A (fun d A1 => X c d A1) X) : JS κ (dRaise c td) A N X := fun s E PX hs he hx => h s _ _ hs (fun d A1 s1 p hs1 _ => hx c d A1 s1 p hs1.off) hx
theorem js_setIx {i : Nat} {te : TD} (h : J κ te A (fun d A1 => ∃ ds0, A1[i]? = some (.own (.lst ds0)) ∧ J κ tb A1 (fun y A2 => ∃ ds k j, A2[i]? = some (.own (.lst ds)) ∧ y = .int k ∧ ixN ds.length k = some j ∧ (κ.nl = true → noLs (ds.set j d) = true) ∧ N.nx (A2.set i (.own (.lst (ds.set j d))))) X) X) : JS κ (dSetIx i tb te) A N X := fun s E PX hs he hx =>
  h s _ _ hs (fun d A1 s1 ⟨ds0, e0, h1⟩ hs1 f1 => by
    obtain ⟨c, ec, em⟩ := hs1.own e0
    refine ⟨c, ec, h1 s1 _ _ hs1 (fun y A2 s2 ⟨ds, k, j, ei, ey, ek, hn, p⟩ hs2 f2 => ?_) hx⟩
    obtain ⟨c', ec', em'⟩ := hs2.own ei
    have : c' = c := by rw [f2.r, ec] at ec'; cases ec'; rfl
    subst this
    exact ⟨ds, k, j, em', ey, ek, he.nx _ _ p (hs2.setOwn ei ec' hn)⟩) hx
theorem jg_name {i : Nat} {d : D} {P : AS → Prop} (hf : κ.free i = true) (h : P (A.set i (.dat d))) : JG κ (dgName i) d A P := fun s P' hs hp => hp _ _ h (hs.setDat hf)
theorem jgs_nil {P : AS → Prop} (h : P A) : JGs κ dgsNil [] A P := fun s P' hs hp => ⟨rfl, hp _ _ h hs⟩
theorem jgs_cons {g : TGd} {gs : TGds} {d : D} {ds : List D} {P : AS → Prop} (h : JG κ g d A fun A1 => JGs κ gs ds A1 P) : JGs κ (dgsCons g gs) (d :: ds) A P := fun s P' hs hp => h s _ hs fun A1 s1 h1 hs1 => h1 s1 _ hs1 hp
theorem jg_tup {n : Nat} {gs : TGds} {ds : List D} {P : AS → Prop} (hn : ds.length = n) (h : JGs κ gs ds A P) : JG κ (dgTup n gs) (.tup ds) A P := fun s P' hs hp => ⟨hn, h s _ hs hp⟩
theorem jms_nil {P : AS → Prop} (h : P A) : JMs κ dmsNil [] A P X := fun s P' PX hs hp hx => ⟨rfl, hp _ _ h hs⟩
theorem jms_cons {g : TGm} {gs : TGms} {d : D} {ds : List D} {P : AS → Prop} (h : JM κ g d A (fun A1 => JMs κ gs ds A1 P X) X) : JMs κ (dmsCons g gs) (d :: ds) A P X := fun s P' PX hs hp hx => h s _ _ hs (fun A1 s1 h1 hs1 => h1 s1 _ _ hs1 hp hx) hx
theorem jm_tup {n : Nat} {gs : TGms} {ds : List D} {P : AS → Prop} (hn : ds.length = n) (h : JMs κ gs ds A P X) : JM κ (dmTup n gs) (.tup ds) A P X := fun s P' PX hs hp hx => ⟨hn, h s _ _ hs hp hx⟩
theorem jm_sub {i : Nat} {d : D} {P : AS → Prop} {ds0 : List D} (e : A[i]? = some (.own (.lst ds0))) (h : J κ tb A (fun y A2 => ∃ ds k j, A2[i]? = some (.own (.lst ds)) ∧ y = .int k ∧ ixN ds.length k = some j ∧ (κ.nl = true → noLs (ds.set j d) = true) ∧ P (A2.set i (.own (.lst (ds.set j d))))) X) : JM κ (dmSub i tb) d A P X := fun s P' PX hs hp hx => by
  obtain ⟨c, ec, em⟩ := hs.own e
  refine ⟨c, ec, h s _ _ hs (fun y A2 s2 ⟨ds, k, j, ei, ey, ek, hn, p⟩ hs2 f2 => ?_) hx⟩
  obtain ⟨c', ec', em'⟩ := hs2.own ei
  have : c' = c := by rw [f2.r, ec] at ec'; cases ec'; rfl
  subst this
  exact ⟨ds, k, j, em', ey, ek, hp _ _ p (hs2.setOwn ei ec' hn)⟩
theorem js_asgM {g : TGm} (h : J κ td A (fun d A1 => JM κ g d A1 N.nx X) X) : JS κ (dAsgM td g) A N X := fun s E PX hs he hx => h s _ _ hs (fun d A1 s1 h1 hs1 _ => h1 s1 _ _ hs1 he.nx hx) hx
def vcA : AA → Option VC
  | .dat d => some (.dat d)
  | .new x => some (.own x)
  | .cell _ => none
def plainAN : List AA → Bool
  | [] => true
  | .cell _ :: _ => false
  | _ :: r => plainAN r
theorem Sat.putA {m : Nat} {s : S} {i : Nat} {a : AA} {v : VC} {as : List AA} {xs : List Sl} (hs : Sat κ s A) (hf : κ.free i = true) (ok : ArgsOk m s (a :: as) xs) (hv : vcA a = some v) :
    ∃ x r, xs = x :: r ∧ x ≠ .no ∧ Sat κ { s with r := s.r.set i x } (A.set i v) ∧ (plainAN as = true → ArgsOk m { s with r := s.r.set i x } as r) := by
  cases a with
  | cell k => cases hv
  | dat d =>
    obtain ⟨r, e, ok⟩ := ok
    cases hv
    refine ⟨_, r, e, (by simp), hs.setDat hf, fun pl => ?_⟩
    clear e
    induction as generalizing r with
    | nil => exact ok
    | cons b as ih =>
      cases b with
      | dat d => obtain ⟨r2, e, ok⟩ := ok; exact ⟨r2, e, ih r2 ok pl⟩
      | cell k => cases pl
      | new x =>
        obtain ⟨c, r2, e, em, l, n, ni, ok⟩ := ok
        refine ⟨c, r2, e, em, l, fun j q => ?_, ni, ih r2 ok pl⟩
        rcases set_get q with ⟨_, q⟩ | ⟨_, q⟩
        · cases q
        · exact n j q
  | new y =>
    obtain ⟨c, r, e, em, l, n, ni, ok⟩ := ok
    cases hv
    refine ⟨_, r, e, (by simp), hs.putCell hf n em, fun pl => ?_⟩
    clear e
    induction as generalizing r with
    | nil => exact ok
    | cons b as ih =>
      cases b with
      | dat d => obtain ⟨r2, e, ok⟩ := ok; subst e; exact ⟨r2, rfl, ih r2 (fun q => ni (List.mem_cons_of_mem _ q)) ok pl⟩
      | cell k => cases pl
      | new x =>
        obtain ⟨c2, r2, e, em2, l2, n2, ni2, ok⟩ := ok
        subst e
        refine ⟨c2, r2, rfl, em2, l2, fun j q => ?_, ni2, ih r2 (fun q => ni (List.mem_cons_of_mem _ q)) ok pl⟩
        rcases set_get q with ⟨_, q⟩ | ⟨_, q⟩
        · cases q; exact ni List.mem_cons_self
        · exact n2 j q
theorem js_par {i j : Nat} {tr : TDA} (hi : κ.free i = true) (hj : κ.free j = true) (h : JA κ tr A (fun as A1 => ∃ a b u v, as = [a, b] ∧ vcA a = some u ∧ vcA b = some v ∧ N.nx ((A1.set i u).set j v)) X) : JS κ (dPar i j tr) A N X := fun s E PX hs he hx =>
  h s _ _ hs (fun as xs A1 s1 ⟨a, b, u, v, e, hu, hv, p⟩ hs1 f1 ok => by
    subst e
    obtain ⟨x, r, ex, nx, h1, ok1⟩ := hs1.putA hi ok hu
    subst ex
    have pb : plainAN [b] = true := by cases b <;> first | rfl | cases hv
    obtain ⟨y, r2, ey, ny, h2, _⟩ := h1.putA hj (ok1 pb) hv
    subst ey
    have er : r2 = [] := by
      cases b with
      | dat d => obtain ⟨_, e, q⟩ := ok1 pb; cases e; exact q
      | new z => obtain ⟨_, _, e, _, _, _, _, q⟩ := ok1 pb; cases e; exact q
      | cell z => cases hv
    subst er
    exact ⟨x, y, rfl, nx, ny, he.nx _ _ p h2⟩) hx
theorem js_par3 {i j l : Nat} {tr : TDA} (hi : κ.free i = true) (hj : κ.free j = true) (hl : κ.free l = true) (h : JA κ tr A (fun as A1 => ∃ a b c u v w, as = [a, b, c] ∧ vcA a = some u ∧ vcA b = some v ∧ vcA c = some w ∧ N.nx (((A1.set i u).set j v).set l w)) X) : JS κ (dPar3 i j l tr) A N X := fun s E PX hs he hx =>
  h s _ _ hs (fun as xs A1 s1 ⟨a, b, c, u, v, w, e, hu, hv, hw, p⟩ hs1 f1 ok => by
    subst e
    have pc : plainAN [c] = true := by cases c <;> first | rfl | cases hw
    have pb : plainAN [b, c] = true := by cases b <;> first | exact pc | cases hv
    obtain ⟨x, r, ex, nx, h1, ok1⟩ := hs1.putA hi ok hu
    subst ex
    obtain ⟨y, r2, ey, ny, h2, ok2⟩ := h1.putA hj (ok1 pb) hv
    subst ey
    obtain ⟨z, r3, ez, nz, h3, _⟩ := h2.putA hl (ok2 pc) hw
    subst ez
    have er : r3 = [] := by
      cases c with
      | dat d => obtain ⟨_, e, q⟩ := ok2 pc; cases e; exact q
      | new z => obtain ⟨_, _, e, _, _, _, _, q⟩ := ok2 pc; cases e; exact q
      | cell z => cases hw
    subst er
    exact ⟨x, y, z, rfl, nx, ny, nz, he.nx _ _ p h3⟩) hx
end
end MR
namespace MR
open PySem L2 DL
section
variable {α β ρ γ σ τ : Type}
inductive Stp (β ρ : Type) where
  | nx (b : β) | bk (b : β) | rt (v : ρ)
def Stp.on (st : Stp β ρ) (k : β → Res γ) (r : ρ → Res γ) : Res γ := match st with
  | .nx b => k b
  | .bk b => k b
  | .rt v => r v
@[simp] theorem on_nx {b : β} {k : β → Res γ} {r : ρ → Res γ} : (Stp.nx b : Stp β ρ).on k r = k b := rfl
@[simp] theorem on_bk {b : β} {k : β → Res γ} {r : ρ → Res γ} : (Stp.bk b : Stp β ρ).on k r = k b := rfl
@[simp] theorem on_rt {v : ρ} {k : β → Res γ} {r : ρ → Res γ} : (Stp.rt v : Stp β ρ).on k r = r v := rfl
def forR (f : β → α → Res β) : List α → β → Res β
  | [], b => .ok b
  | x :: xs, b => (f b x).bnd fun b' => forR f xs b'
def forS (f : β → α → Res (Stp β ρ)) : List α → β → Res (Stp β ρ)
  | [], b => .ok (.nx b)
  | x :: xs, b => (f b x).bnd fun st => match st with
    | .nx b' => forS f xs b'
    | .bk b' => .ok (.nx b')
    | .rt v => .ok (.rt v)
@[simp] theorem forR_nil {f : β → α → Res β} {b : β} : forR f [] b = .ok b := rfl
theorem forR_cons {f : β → α → Res β} {x : α} {xs : List α} {b : β} : forR f (x :: xs) b = (f b x).bnd fun b' => forR f xs b' := rfl
@[simp] theorem forS_nil {f : β → α → Res (Stp β ρ)} {b : β} : forS f [] b = .ok (.nx b) := rfl
theorem forS_cons {f : β → α → Res (Stp β ρ)} {x : α} {xs : List α} {b : β} : forS f (x :: xs) b = (f b x).bnd fun st => match st with
    | .nx b' => forS f xs b'
    | .bk b' => .ok (.nx b')
    | .rt v => .ok (.rt v) := rfl
def whileR (c : β → Res Bool) (f : β → Res β) : Nat → β → Res β
  | 0, _ => .no
  | n + 1, b => (c b).bnd fun k => cond k ((f b).bnd fun b' => whileR c f n b') (.ok b)
def whileS (c : β → Res Bool) (f : β → Res (Stp β ρ)) : Nat → β → Res (Stp β ρ)
  | 0, _ => .no
  | n + 1, b => (c b).bnd fun k => cond k ((f b).bnd fun st => match st with
    | .nx b' => whileS c f n b'
    | .bk b' => .ok (.nx b')
    | .rt v => .ok (.rt v)) (.ok (.nx b))
variable {κ : Kt} {A : AS} {N : AN} {X : AX}
def aLoop (κ : Kt) (g : TGd) (tb : TSd) (N : AN) (X : AX) (ds : List D) (A : AS) : Prop := ∀ s E PX', Sat κ s A → EndsOk κ N E → (∀ c x A' s', X c x A' → Sat κ.off s' A' → PX' c x s') → loopD g tb E PX' ds s
theorem js_for {wd : TDI} {g : TGd} {tb : TSd} (h : J κ wd A (fun ds A1 => aLoop κ g tb N X ds A1) X) : JS κ (dFor wd g tb) A N X := fun s E PX hs he hx =>
  h s _ _ hs (fun ds A1 s1 h1 hs1 _ => h1 s1 _ _ hs1 he hx) hx
abbrev turnN (I : β → AS) (Q : β → Prop) (N : AN) : AN := { nx := fun A' => ∃ b, Le A' (I b) ∧ Q b, ct := fun A' => ∃ b, Le A' (I b) ∧ Q b, bk := fun _ => False, rt := fun _ _ => False }
theorem a_forR {g : TGd} {tb : TSd} {XQ : Str → D → Prop} (enc : α → D) (I : β → AS) {f : β → α → Res β} {Q : β → Prop} (hb : ∀ b x (Q : β → Prop), wp (f b x) Q XQ → JG κ g (enc x) (I b) fun A1 => JS κ tb A1 (turnN I Q N) X) (hn : ∀ b, Q b → N.nx (I b)) :
    ∀ (xs : List α) (b : β) (A : AS), Le A (I b) → wp (forR f xs b) Q XQ → aLoop κ g tb N X (xs.map enc) A
  | [], b, A, l, h => fun s E PX hs he hx => he.nx _ _ (hn b h) (hs.le l)
  | x :: xs, b, A, l, h => fun s E PX hs he hx => by
    rw [forR_cons, wp_bnd] at h
    have ih : ∀ s1 A1, (∃ b', Le A1 (I b') ∧ wp (forR f xs b') Q XQ) → Sat κ s1 A1 → loopD g tb E PX (xs.map enc) s1 := fun s1 A1 ⟨b', l', q⟩ hs1 => a_forR enc I hb hn xs b' A1 l' q s1 E PX hs1 he hx
    exact hb b x _ h s _ (hs.le l) fun A1 s1 h1 hs1 => h1 s1 _ _ hs1 ⟨fun A' s' q hs' => ih s' A' q hs', fun _ _ _ q => q.elim, fun _ _ q => q.elim, fun A' s' q hs' => ih s' A' q hs'⟩ hx
abbrev turnS (I : β → AS) (Q : Stp β ρ → Prop) (Rt : ρ → D → AS → Prop) : AN := { nx := fun A' => ∃ b, Le A' (I b) ∧ Q (.nx b), ct := fun A' => ∃ b, Le A' (I b) ∧ Q (.nx b), bk := fun A' => ∃ b, Le A' (I b) ∧ Q (.bk b), rt := fun d A' => ∃ v, Rt v d A' ∧ Q (.rt v) }
theorem a_forS {g : TGd} {tb : TSd} {XQ : Str → D → Prop} (enc : α → D) (I : β → AS) (Rt : ρ → D → AS → Prop) {f : β → α → Res (Stp β ρ)} {Q : Stp β ρ → Prop} (hb : ∀ b x (Q : Stp β ρ → Prop), wp (f b x) Q XQ → JG κ g (enc x) (I b) fun A1 => JS κ tb A1 (turnS I Q Rt) X) (hn : ∀ b, Q (.nx b) → N.nx (I b)) (hr : ∀ v d A', Rt v d A' → Q (.rt v) → N.rt d A') :
    ∀ (xs : List α) (b : β) (A : AS), Le A (I b) → wp (forS f xs b) Q XQ → aLoop κ g tb N X (xs.map enc) A
  | [], b, A, l, h => fun s E PX hs he hx => he.nx _ _ (hn b h) (hs.le l)
  | x :: xs, b, A, l, h => fun s E PX hs he hx => by
    rw [forS_cons, wp_bnd] at h
    have ih : ∀ s1 A1, (∃ b', Le A1 (I b') ∧ wp (forS f xs b') Q XQ) → Sat κ s1 A1 → loopD g tb E PX (xs.map enc) s1 := fun s1 A1 ⟨b', l', q⟩ hs1 => a_forS enc I Rt hb hn hr xs b' A1 l' q s1 E PX hs1 he hx
    exact hb b x _ h s _ (hs.le l) fun A1 s1 h1 hs1 => h1 s1 _ _ hs1 ⟨fun A' s' q hs' => ih s' A' q hs', fun d A' s' ⟨v, q, q2⟩ hs' => he.rt _ _ _ (hr v d A' q q2) hs', fun A' s' ⟨b', l', q⟩ hs' => he.nx _ _ (hn b' q) (hs'.le l'), fun A' s' q hs' => ih s' A' q hs'⟩ hx
def Res.ne (r : Res α) : Res α := match r with
  | .ok a => .ok a
  | _ => .no
@[simp] theorem ok_ne {a : α} : (Res.ok a).ne = .ok a := rfl
@[simp] theorem er_ne {c : Str} {x : D} : (Res.er c x : Res α).ne = .no := rfl
@[simp] theorem no_ne : (Res.no : Res α).ne = .no := rfl
theorem wp_ne {r : Res α} {Q : α → Prop} {X : Str → D → Prop} : wp r.ne Q X = wp r Q (fun _ _ => False) := by cases r <;> rfl
def lcE (t : σ → α → Res (Bool × σ)) (f : σ → α → Res (β × σ)) : List α → List β → σ → Res (List β × σ)
  | [], acc, s => .ok (acc, s)
  | x :: xs, acc, s => (t s x).ne.bnd fun b => cond b.1 ((f b.2 x).ne.bnd fun z => if acc.length < sizeLine then lcE t f xs (acc ++ [z.1]) z.2 else .no) (lcE t f xs acc b.2)
def lcR (t : α → Res Bool) (f : α → Res β) : List α → List β → Res (List β)
  | [], acc => .ok acc
  | x :: xs, acc => (t x).ne.bnd fun b => cond b ((f x).ne.bnd fun z => if acc.length < sizeLine then lcR t f xs (acc ++ [z]) else .no) (lcR t f xs acc)
@[simp] def wipeA : AS → List Nat → AS
  | A, [] => A
  | A, v :: vs => (wipeA A vs).set v .no
theorem Sat.wipe {s : S} (h : Sat κ s A) : ∀ vs : List Nat, (vs.all κ.free) = true → Sat κ { s with r := wipeS s.r vs } (wipeA A vs)
  | [], _ => h
  | v :: vs, q => by
    simp at q
    exact (h.wipe vs (by simpa using q.2)).setNo q.1
theorem Sat.unwipe {s s1 : S} {A1 : AS} {I : AS} (h : Sat κ s A) (h1 : Sat κ s1 A1) (hM : s.M.length ≤ s1.M.length) (hl : I.length = A.length) (hI : ∀ (j : Nat) (v : VC), I[j]? = some v → v = .no ∨ (∃ d, v = .dat d ∧ A[j]? = some (.dat d)) ∨ ∃ x y, v = .own x ∧ A1[j]? = some (.own x) ∧ A[j]? = some (.own y) ∧ s1.r[j]? = s.r[j]?) : Sat κ { s1 with r := s.r } I := by
  refine ⟨h.len.trans hl.symm, fun j v ev => ?_, fun j k c y v ej ec1 ec2 ev hv => ?_, fun j c q => Nat.lt_of_lt_of_le (h.lt j c q) hM, h1.nl, h.pin⟩
  · rcases hI j v ev with rfl | ⟨d, rfl, q⟩ | ⟨x, y, rfl, q, q2, q3⟩
    · trivial
    · exact h.at_ j _ q
    · obtain ⟨c, z1, z2⟩ := h1.own q
      exact ⟨c, by show s.r[j]? = _; rw [← q3]; exact z1, z2⟩
  · rcases hI j _ ej with q | ⟨d, q, _⟩ | ⟨x, y', _, q, q2, q3⟩
    · cases q
    · cases q
    · have hk : k < A.length := by rw [← h.len]; exact (List.getElem?_eq_some_iff.mp ec2).1
      obtain ⟨u, hu⟩ : ∃ u, A[k]? = some u := ⟨_, List.getElem?_eq_getElem hk⟩
      refine h.ne j k c y' u q2 ec1 ec2 hu ?_
      rcases hI k v ev with q | ⟨d, q, q5⟩ | ⟨x, y', _, q, q5, q6⟩
      · exact hv.elim (fun z => absurd q z) .inr
      · rw [hu] at q5; cases q5; exact .inl (by simp)
      · rw [hu] at q5; cases q5; exact .inl (by simp)
end
end MR
namespace MR
open PySem L2 DL
def Touch (vs : List Nat) (g : TGd) : Prop := ∀ d s P, g d s P → g d s fun s' => P s' ∧ (∀ j : Nat, j ∉ vs → s'.r[j]? = s.r[j]?) ∧ (∀ (j c : Nat), s'.r[j]? = some (Sl.cell c) → s.r[j]? = some (Sl.cell c)) ∧ s'.M = s.M
def Touchs (vs : List Nat) (g : TGds) : Prop := ∀ d s P, g d s P → g d s fun s' => P s' ∧ (∀ j : Nat, j ∉ vs → s'.r[j]? = s.r[j]?) ∧ (∀ (j c : Nat), s'.r[j]? = some (Sl.cell c) → s.r[j]? = some (Sl.cell c)) ∧ s'.M = s.M
theorem tc_name {vs : List Nat} {i : Nat} (h : i ∈ vs) : Touch vs (dgName i) := fun d s P p => ⟨p, fun j hj => List.getElem?_set_ne fun q => hj (by rw [← q]; exact h), fun j c q => (by rcases set_get q with ⟨_, q⟩ | ⟨_, q⟩; exact (nomatch q); exact q), rfl⟩
theorem tcs_nil {vs : List Nat} : Touchs vs dgsNil := fun d s P p => ⟨p.1, p.2, fun _ _ => rfl, fun _ _ q => q, rfl⟩
def MonoG (g : TGd) : Prop := ∀ d s P P', (∀ s', P s' → P' s') → g d s P → g d s P'
def MonoGs (g : TGds) : Prop := ∀ d s P P', (∀ s', P s' → P' s') → g d s P → g d s P'
structure Tc (vs : List Nat) (g : TGd) : Prop where
  t : Touch vs g
  m : MonoG g
structure Tcs (vs : List Nat) (g : TGds) : Prop where
  t : Touchs vs g
  m : MonoGs g
theorem Tc.name {vs : List Nat} {i : Nat} (h : i ∈ vs) : Tc vs (dgName i) := ⟨tc_name h, fun d s P P' k p => k _ p⟩
theorem Tcs.nil {vs : List Nat} : Tcs vs dgsNil := ⟨tcs_nil, fun d s P P' k p => ⟨p.1, k _ p.2⟩⟩
theorem Tcs.cons {vs : List Nat} {g : TGd} {gs : TGds} (h : Tc vs g) (hs : Tcs vs gs) : Tcs vs (dgsCons g gs) := ⟨fun d s P p => by
  cases d with
  | nil => exact p.elim
  | cons d r => exact h.m d s _ _ (fun s1 ⟨p1, e1, c1, m1⟩ => hs.m r s1 _ _ (fun s2 ⟨p2, e2, c2, m2⟩ => ⟨p2, fun j hj => (e2 j hj).trans (e1 j hj), fun j c q => c1 j c (c2 j c q), m2.trans m1⟩) (hs.t r s1 _ p1)) (h.t d s _ p), fun d s P P' k p => by
  cases d with
  | nil => exact p.elim
  | cons d r => exact h.m d s _ _ (fun s1 p1 => hs.m r s1 _ _ k p1) p⟩
theorem Tc.tup {vs : List Nat} {n : Nat} {gs : TGds} (h : Tcs vs gs) : Tc vs (dgTup n gs) := ⟨fun d s P p => by
  cases d <;> first | exact p.elim | exact ⟨p.1, h.t _ _ _ p.2⟩, fun d s P P' k p => by
  cases d <;> first | exact p.elim | exact ⟨p.1, h.m _ _ _ _ k p.2⟩⟩
inductive Keep : AS → AS → Prop where
  | nil : Keep [] []
  | own {x : CC} {A B : AS} (h : Keep A B) : Keep (.own x :: A) (.own x :: B)
  | dat {d : D} {v : VC} {A B : AS} (h : Keep A B) : Keep (.dat d :: A) (v :: B)
  | no {v : VC} {A B : AS} (h : Keep A B) : Keep (.no :: A) (v :: B)
theorem Keep.at_ : ∀ {A B : AS}, Keep A B → A.length = B.length ∧ ∀ (i : Nat) (x : CC), A[i]? = some (.own x) → B[i]? = some (.own x)
  | _, _, .nil => ⟨rfl, fun i v e => by simp at e⟩
  | _, _, .own h => by
    obtain ⟨l, z⟩ := h.at_
    refine ⟨by simp [l], fun i v e => ?_⟩
    cases i with
    | zero => exact e
    | succ i => exact z i v e
  | _, _, .dat h => by
    obtain ⟨l, z⟩ := h.at_
    refine ⟨by simp [l], fun i v e => ?_⟩
    cases i with
    | zero => simp at e
    | succ i => exact z i v e
  | _, _, .no h => by
    obtain ⟨l, z⟩ := h.at_
    refine ⟨by simp [l], fun i v e => ?_⟩
    cases i with
    | zero => simp at e
    | succ i => exact z i v e
inductive SameD : AS → AS → Prop where
  | nil : SameD [] []
  | own {x y : CC} {A B : AS} (h : SameD A B) : SameD (.own x :: A) (.own y :: B)
  | same {v : VC} {A B : AS} (h : SameD A B) : SameD (v :: A) (v :: B)
theorem SameD.at_ : ∀ {A B : AS}, SameD A B → A.length = B.length ∧ (∀ (i : Nat) (d : D), A[i]? = some (.dat d) → B[i]? = some (.dat d)) ∧ (∀ (i : Nat) (x : CC), A[i]? = some (.own x) → ∃ y, B[i]? = some (.own y)) ∧ ∀ (i : Nat), A[i]? = some .no → B[i]? = some .no
  | _, _, .nil => ⟨rfl, fun i v e => by simp at e, fun i v e => by simp at e, fun i e => by simp at e⟩
  | _, _, .own h => by
    obtain ⟨l, z, w, u⟩ := h.at_
    refine ⟨by simp [l], fun i v e => ?_, fun i v e => ?_, fun i e => ?_⟩ <;> cases i with
    | zero => simp at e ⊢
    | succ i => first | exact z i v e | exact w i v e | exact u i e
  | _, _, .same h => by
    obtain ⟨l, z, w, u⟩ := h.at_
    refine ⟨by simp [l], fun i v e => ?_, fun i v e => ?_, fun i e => ?_⟩ <;> cases i with
    | zero => first | exact e | exact ⟨_, e⟩
    | succ i => first | exact z i v e | exact w i v e | exact u i e
section
variable {α β σ τ : Type} {κ : Kt} {A : AS} {X : AX} {wd : TDI} {g : TGd} {tt : TDB} {te : TD} {vs : List Nat}
theorem JG.to {d : D} {P : AS → Prop} {s : S} (h : JG κ g d A P) (hs : Sat κ s A) : g d s fun s2 => ∃ A1, P A1 ∧ Sat κ s2 A1 := h s _ hs fun A1 s2 q hs2 => ⟨A1, q, hs2⟩
theorem wipeS_at : ∀ (r : List Sl) (vs : List Nat) (j : Nat), j ∉ vs → (wipeS r vs)[j]? = r[j]?
  | _, [], _, _ => rfl
  | r, v :: vs, j, h => by
    simp at h
    show ((wipeS r vs).set v .no)[j]? = _
    rw [List.getElem?_set_ne (Ne.symm h.1)]
    exact wipeS_at r vs j h.2
theorem wipeS_no {r : List Sl} {c : Nat} : ∀ (vs : List Nat), (∀ i : Nat, r[i]? ≠ some (Sl.cell c)) → ∀ i : Nat, (wipeS r vs)[i]? ≠ some (Sl.cell c)
  | [], h, i => h i
  | v :: vs, h, i => fun q => by
    rcases set_get q with ⟨_, q⟩ | ⟨_, q⟩
    · cases q
    · exact wipeS_no vs h i q
def ownsOut (A : AS) (vs : List Nat) : Bool := vs.all fun v => match A[v]? with
  | some (.own _) => false
  | _ => true
theorem ownsOut_at {A : AS} {vs : List Nat} (h : ownsOut A vs = true) {j : Nat} {x : CC} (e : A[j]? = some (.own x)) : j ∉ vs := fun q => by
  have := List.all_eq_true.mp h j q
  rw [e] at this
  exact Bool.false_ne_true this
def lcB (f : σ → α → Res (Option β × σ)) : List α → List β → σ → Res (List β × σ)
  | [], acc, s => .ok (acc, s)
  | x :: xs, acc, s => (f s x).ne.bnd fun r => match r.1 with
    | some z => if acc.length < sizeLine then lcB f xs (acc ++ [z]) r.2 else .no
    | none => lcB f xs acc r.2
theorem lcB_nil {f : σ → α → Res (Option β × σ)} {acc : List β} {s : σ} : lcB f [] acc s = .ok (acc, s) := rfl
theorem lcB_cons {f : σ → α → Res (Option β × σ)} {x : α} {xs : List α} {acc : List β} {s : σ} : lcB f (x :: xs) acc s = (f s x).ne.bnd fun r => match r.1 with
    | some z => if acc.length < sizeLine then lcB f xs (acc ++ [z]) r.2 else .no
    | none => lcB f xs acc r.2 := rfl
theorem a_lcB (enc : α → D) (e : β → D) (I : σ → AS) {f : σ → α → Res (Option β × σ)} {P : List D → AS → Prop} (hv : vs.all κ.free = true) (tc : Tc vs g) (hI : ∀ a b, SameD (I a) (I b)) (ho : ∀ a, ownsOut (I a) vs = true)
    (hb : ∀ st x (Q : Option β × σ → Prop), wp (f st x) Q (fun _ _ => False) → JG κ g (enc x) (wipeA (I st) vs) fun A1 => J κ tt A1 (fun b A2 => if b = true then J κ te A2 (fun z A3 => ∃ v st', z = e v ∧ Keep (I st') A3 ∧ Q (some v, st')) (fun _ _ _ => False) else ∃ st', Keep (I st') A2 ∧ Q (none, st')) fun _ _ _ => False) :
    ∀ (xs : List α) (acc : List β) (st : σ) (s0 s : S) (P' : List D → S → Prop), Sat κ s (I st) → Fr s0 s → (∀ l A' s', P l A' → Sat κ s' A' → Fr s0 s' → P' l s') → wp (lcB f xs acc st) (fun r => P (r.1.map e) (I r.2)) (fun _ _ => False) → lcD g tt te vs P' (xs.map enc) (acc.map e) s
  | [], acc, st, s0, s, P', hs, fr, hp, h => hp _ _ _ h hs fr
  | x :: xs, acc, st, s0, s, P', hs, fr, hp, h => by
    rw [lcB_cons, wp_bnd, wp_ne] at h
    have h1 := JG.to (hb st x _ h) (hs.wipe vs hv)
    have back : ∀ (s2 s3 : S) (A3 : AS) (st' : σ), (∀ j : Nat, j ∉ vs → s2.r[j]? = (wipeS s.r vs)[j]?) → (∀ (j c : Nat), s2.r[j]? = some (Sl.cell c) → (wipeS s.r vs)[j]? = some (Sl.cell c)) → s2.M = s.M → Fr s2 s3 → Sat κ s3 A3 → Keep (I st') A3 → Sat κ { s3 with r := s.r } (I st') ∧ Fr s0 { s3 with r := s.r } := fun s2 s3 A3 st' e2 c2 m2 f3 hs3 hk => by
      obtain ⟨kl, ka⟩ := hk.at_
      obtain ⟨sl, sd, so, sn⟩ := (hI st' st).at_
      refine ⟨hs.unwipe hs3 (by have := f3.len; rw [m2] at this; exact this) sl fun j v ev => ?_, ?_⟩
      · cases v with
        | no => exact .inl rfl
        | dat d => exact .inr (.inl ⟨d, rfl, sd j d ev⟩)
        | own y =>
          obtain ⟨y2, q⟩ := so j y ev
          have hj := ownsOut_at (ho st) q
          refine .inr (.inr ⟨y, y2, rfl, ka j y ev, q, ?_⟩)
          rw [f3.r, e2 j hj, wipeS_at _ _ _ hj]
      · refine fr.trans ⟨rfl, by have := f3.len; rw [m2] at this; exact this, fun c hc hn => ?_⟩
        have hn2 : ∀ i : Nat, s2.r[i]? ≠ some (Sl.cell c) := fun i q => wipeS_no vs hn i (c2 i c q)
        show s3.M[c]? = _
        rw [f3.at_ c (by rw [m2]; exact hc) hn2, m2]
    refine tc.m _ _ _ _ ?_ (tc.t _ _ _ h1)
    rintro s2 ⟨⟨A1, q, hs2⟩, e2, c2, m2⟩
    refine q s2 _ _ hs2 (fun b A2 s3 q hs3 f3 => ?_) (fun _ _ _ _ q _ => q.elim)
    cases b with
    | true =>
      have q := (if_pos rfl).mp q
      refine (if_pos rfl).mpr (q s3 _ _ hs3 (fun z A3 s4 ⟨v, st', ez, hk, hq⟩ hs4 f4 => ?_) (fun _ _ _ _ q _ => q.elim))
      subst ez
      obtain ⟨b1, b2⟩ := back s2 s4 A3 st' e2 c2 m2 (f3.trans f4) hs4 hk
      have hq : wp (if acc.length < sizeLine then lcB f xs (acc ++ [v]) st' else .no) _ _ := hq
      by_cases hl : acc.length < sizeLine
      · rw [if_pos hl] at hq
        refine ⟨by simpa using hl, ?_⟩
        have := a_lcB enc e I hv tc hI ho hb xs (acc ++ [v]) st' s0 _ P' b1 b2 hp hq
        simpa using this
      · rw [if_neg hl] at hq; exact hq.elim
    | false =>
      obtain ⟨st', hk, hq⟩ := (if_neg Bool.false_ne_true).mp q
      obtain ⟨b1, b2⟩ := back s2 s3 A2 st' e2 c2 m2 f3 hs3 hk
      exact (if_neg Bool.false_ne_true).mpr (a_lcB enc e I hv tc hI ho hb xs acc st' s0 _ P' b1 b2 hp hq)
theorem lcB_R {t : α → Res Bool} {f : α → Res β} : ∀ (xs : List α) (acc : List β), lcB (fun (_ : Unit) x => (t x).bnd fun b => cond b ((f x).bnd fun z => .ok (some z, ())) (.ok (none, ()))) xs acc () = (lcR t f xs acc).bnd fun l => .ok (l, ())
  | [], acc => rfl
  | x :: xs, acc => by
    rw [lcB_cons, lcR]
    cases t x with
    | ok b =>
      cases b with
      | true =>
        simp only [ok_bnd, cond_true, ok_ne]
        cases f x with
        | ok z =>
          simp only [ok_bnd, ok_ne]
          by_cases hl : acc.length < sizeLine
          · rw [if_pos hl, if_pos hl]; exact lcB_R xs _
          · rw [if_neg hl, if_neg hl]; rfl
        | er c d => rfl
        | no => rfl
      | false => exact lcB_R xs acc
    | er c d => rfl
    | no => rfl
theorem ne_wp {r : Res α} {f : α → Res β} {Q : β → Prop} {X X' : Str → D → Prop} (h : wp (r.ne.bnd f) Q X) (k : ∀ a, wp (f a) Q X → wp (f a) Q X') : wp (r.ne.bnd f) Q X' := by
  cases r with
  | ok a => exact k a h
  | er c x => exact h
  | no => exact h
theorem lcR_wp {t : α → Res Bool} {f : α → Res β} {Q : List β → Prop} {X X' : Str → D → Prop} : ∀ {xs : List α} {acc : List β}, wp (lcR t f xs acc) Q X → wp (lcR t f xs acc) Q X'
  | [], acc, h => h
  | x :: xs, acc, h => by
    rw [lcR] at h ⊢
    refine ne_wp h fun b h => ?_
    cases b with
    | true =>
      rw [cond_true] at h ⊢
      refine ne_wp h fun z h => ?_
      by_cases hl : acc.length < sizeLine
      · rw [if_pos hl] at h ⊢; exact lcR_wp h
      · rw [if_neg hl] at h; exact h.elim
    | false => exact lcR_wp (xs := xs) h
theorem lcB_wp {f : σ → α → Res (Option β × σ)} {Q : List β × σ → Prop} {X X' : Str → D → Prop} : ∀ {xs : List α} {acc : List β} {s : σ}, wp (lcB f xs acc s) Q X → wp (lcB f xs acc s) Q X'
  | [], acc, s, h => h
  | x :: xs, acc, s, h => by
    rw [lcB_cons] at h ⊢
    refine ne_wp h fun b h => ?_
    obtain ⟨o, s'⟩ := b
    cases o with
    | some z =>
      by_cases hl : acc.length < sizeLine
      · simp only [if_pos hl] at h ⊢; exact lcB_wp h
      · simp only [if_neg hl] at h; exact h.elim
    | none => exact lcB_wp (xs := xs) h
theorem SameD.refl : ∀ A : AS, SameD A A
  | [] => .nil
  | v :: A => .same (SameD.refl A)
theorem j_lcR (enc : α → D) (e : β → D) {t : α → Res Bool} {f : α → Res β} {r : Res (List α)} {P : List D → AS → Prop} {XQ : Str → D → Prop} (hv : vs.all κ.free = true) (tc : Tc vs g) (ho : ownsOut A vs = true)
    (hw : Rv wd A (List.map enc) r) (h : wp (r.bnd fun xs => lcR t f xs []) (fun l => P (l.map e) A) XQ) (hX : ∀ c d, XQ c d → X c d A)
    (hb : ∀ x, JG κ g (enc x) (wipeA A vs) fun A1 => Keep A A1 ∧ Rv tt A1 id (t x) ∧ Rv te A1 e (f x)) : J κ (dLc wd g tt te vs) A P X := fun s P' PX hs hp hx => by
  rw [wp_bnd] at h
  refine hw κ (fun ds A1 => ∃ xs, ds = xs.map enc ∧ A1 = A ∧ wp (lcR t f xs []) (fun l => P (l.map e) A) XQ) X (wp_mono h (fun xs q => ⟨xs, rfl, rfl, q⟩) hX) s _ _ hs (fun ds A1 s1 ⟨xs, ed, eA, q⟩ hs1 f1 => ?_) hx
  subst ed; subst eA
  refine a_lcB (κ := κ) enc e (fun _ : Unit => A1) (f := fun (_ : Unit) x => (t x).bnd fun b => cond b ((f x).bnd fun z => .ok (some z, ())) (.ok (none, ()))) hv tc (fun _ _ => SameD.refl _) (fun _ => ho) (fun _ x Q hq => ?_) xs [] () s s1 P' hs1 f1 hp ?_
  · intro s2 P2 hs2 hp2
    refine hb x s2 P2 hs2 fun A2 s3 ⟨hk, ht, he⟩ hs3 => hp2 A2 s3 ?_ hs3
    rw [wp_bnd] at hq
    refine ht κ _ _ (wp_mono hq (fun b hq => ?_) fun _ _ q => q)
    cases b with
    | true =>
      refine (if_pos rfl).mpr (he κ _ _ ?_)
      rw [cond_true, wp_bnd] at hq
      exact wp_mono hq (fun v q => ⟨v, (), rfl, hk, q⟩) fun _ _ q => q
    | false => exact (if_neg Bool.false_ne_true).mpr ⟨(), hk, hq⟩
  · rw [lcB_R, wp_bnd]
    exact lcR_wp q
def szR (l : List α) : Res (List α) := if l.length ≤ sizeLine then .ok l else .no
theorem lcR_go {t : α → Bool} {f : α → β} : ∀ (xs : List α) (acc : List β), acc.length ≤ sizeLine → lcR (fun x => .ok (t x)) (fun x => .ok (f x)) xs acc = szR (acc ++ (xs.filter t).map f)
  | [], acc, h => by simp [lcR, szR, h]
  | x :: xs, acc, h => by
    rw [lcR]
    simp only [ok_ne, ok_bnd]
    cases e : t x with
    | true =>
      rw [List.filter_cons_of_pos e, cond_true]
      by_cases hl : acc.length < sizeLine
      · rw [if_pos hl, lcR_go xs _ (by simp; omega)]; simp
      · rw [if_neg hl, szR, if_neg (by simp; omega)]
    | false =>
      rw [List.filter_cons_of_neg (by rw [e]; decide), cond_false]
      exact lcR_go xs acc h
theorem lcR_pure {t : α → Bool} {f : α → β} {xs : List α} : lcR (fun x => .ok (t x)) (fun x => .ok (f x)) xs [] = szR ((xs.filter t).map f) := by rw [lcR_go _ _ (Nat.zero_le _), List.nil_append]
theorem pv_yes : Pv dYes A true := fun κ P X k s P' PX hs hp hx => hp _ _ _ k hs (Fr.refl s)
end
section
variable {κ : Kt} {A : AS} {N : AN} {X : AX}
@[simp] def putXA : Option Nat → Addr → Addr → D → AS → AS
  | none, _, _, _, A => A
  | some i, a, dd, x, A => A.set i (.dat (.xc a dd x))
@[simp] def goneA : Option Nat → AN → AN
  | none, N => N
  | some i, N => { nx := fun A => N.nx (A.set i .no), rt := N.rt, bk := fun A => N.bk (A.set i .no), ct := fun A => N.ct (A.set i .no) }
def freeO (κ : Kt) : Option Nat → Bool
  | none => true
  | some i => κ.free i
def aSel (κ : Kt) (N : AN) (X : AX) : List HdD → Str → D → AS → Prop
  | [], c, x, A => X c x A
  | q :: r, c, x, A => (subE c q.2.1 = true → freeO κ q.1 = true ∧ ∀ a dd, JS κ (q.2.2 a dd) (putXA q.1 a dd x A) (goneA q.1 N) fun _ _ _ => False) ∧ (subE c q.2.1 = false → aSel κ N X r c x A)
theorem aSel_ok {E : EK} {PX : KX} {c : Str} {x : D} {s : S} (hs : Sat κ s A) (he : EndsOk κ N E) (hx : ∀ c x A' s', X c x A' → Sat κ.off s' A' → PX c x s') : ∀ hd : List HdD, aSel κ N X hd c x A → selD E PX hd c x s
  | [], h => hx _ _ _ _ h hs.off
  | q :: r, h => by
    obtain ⟨i, C, u⟩ := q
    unfold selD
    cases e : subE c C with
    | true =>
      obtain ⟨hf, h⟩ := h.1 e
      refine (if_pos rfl).mpr fun a dd => ?_
      cases i with
      | none => exact h a dd s _ _ hs he (fun _ _ _ _ q _ => q.elim)
      | some i => exact h a dd _ _ _ (hs.setDat hf) ⟨fun A' s' p hs' => he.nx _ _ p (hs'.setNo hf), he.rt, fun A' s' p hs' => he.bk _ _ p (hs'.setNo hf), fun A' s' p hs' => he.ct _ _ p (hs'.setNo hf)⟩ (fun _ _ _ _ q _ => q.elim)
    | false => exact (if_neg Bool.false_ne_true).mpr (aSel_ok hs he hx r (h.2 e))
theorem j_what (i : Nat) {a dd : Addr} {x : D} (h : A[i]? = some (.dat (.xc a dd x))) : Pv (dWhat i a dd) A x := fun κ P X k s P' PX' hs hp hx => ⟨x, hs.at_ i _ h, hp _ _ _ k hs (Fr.refl s)⟩
theorem sat0 (N : List Str) (ds : List D) (A : AS) (h : A = ds.map .dat ++ List.replicate (N.length - ds.length) .no) : Sat ⟨false, []⟩ (startS N (ds.map .dat) []) A := by
  subst h
  refine ⟨by simp, fun i v ev => ?_, fun i j c x v ei ec => ?_, fun i c q => ?_, fun q => (Bool.false_ne_true q).elim, fun p hp => nomatch hp⟩
  · by_cases hi : i < ds.length
    · rw [List.getElem?_append_left (by simpa using hi), List.getElem?_map] at ev
      obtain ⟨d, hd⟩ : ∃ d, ds[i]? = some d := ⟨_, List.getElem?_eq_getElem hi⟩
      rw [hd] at ev
      cases ev
      show (ds.map Sl.dat ++ _)[i]? = _
      rw [List.getElem?_append_left (by simpa using hi), List.getElem?_map, hd]; rfl
    · rw [List.getElem?_append_right (by simpa using hi)] at ev
      have := List.mem_of_getElem? ev
      rw [List.eq_of_mem_replicate this]; trivial
  · have := List.mem_of_getElem? ec
    simp [startS] at this
  · have := List.mem_of_getElem? q
    simp [startS] at this
theorem start0 {N : List Str} {ds : List D} {td : TSd} {P : D → Mem → Prop} {PX : KXM} (A : AS) (hA : A = ds.map .dat ++ List.replicate (N.length - ds.length) .no) (h : JS ⟨false, []⟩ td A { nx := fun _ => P .non [], rt := fun d _ => P d [], bk := fun _ => False, ct := fun _ => False } (fun c x _ => PX c x [])) : td (startS N (ds.map .dat) []) (endE 0 P) (endX 0 PX) :=
  h _ _ _ (sat0 N ds A hA) ⟨fun _ _ q _ => ⟨rfl, q⟩, fun _ _ _ q _ => ⟨rfl, q⟩, fun _ _ q _ => q, fun _ _ q _ => q⟩ fun _ _ _ _ q _ => ⟨rfl, q⟩
end
end MR
namespace MR
open PySem L2 DL
section
variable {κ : Kt} {A : AS}
def cellOf : Sl → Option Nat
  | .cell c => some c
  | _ => none
def vcSl (M : Mem) : Sl → VC
  | .no => .no
  | .dat d => .dat d
  | .cell c => match M[c]? with
    | some (some x) => .own x
    | _ => .no
def difC (a b : Option Nat) : Bool := match a, b with
  | some x, some y => x != y
  | _, _ => true
theorem pw_inj {cs : List (Option Nat)} (h : cs.Pairwise fun a b => difC a b = true) : ∀ (i j c : Nat), cs[i]? = some (some c) → cs[j]? = some (some c) → i = j := by
  have key : ∀ (i j c : Nat), i < j → cs[i]? = some (some c) → cs[j]? = some (some c) → False := fun i j c hij ei ej => by
    have hi := (List.getElem?_eq_some_iff.mp ei)
    have hj := (List.getElem?_eq_some_iff.mp ej)
    have := List.pairwise_iff_getElem.mp h i j hi.1 hj.1 hij
    rw [hi.2, hj.2] at this
    simp [difC] at this
  intro i j c ei ej
  rcases Nat.lt_trichotomy i j with q | q | q
  · exact (key i j c q ei ej).elim
  · exact q
  · exact (key j i c q ej ei).elim
theorem satG (N : List Str) (xs : List Sl) (M : Mem) (A : AS) (cs : List (Option Nat)) (hc : xs.map cellOf = cs) (hp : cs.Pairwise fun a b => difC a b = true) (hlt : cs.all (fun o => match o with | some c => decide (c < M.length) | none => true) = true) (ha : M.all Option.isSome = true)
    (hA : A = xs.map (vcSl M) ++ List.replicate (N.length - xs.length) .no) (hpin : ∀ p, p ∈ κ.pin → cs[p.1]? = some (some p.2)) (hnl : κ.nl = true → memNoL M = true) : Sat κ (startS N xs M) A := by
  subst hA
  have at_ : ∀ (i c : Nat), (startS N xs M).r[i]? = some (.cell c) → cs[i]? = some (some c) ∧ i < xs.length := fun i c q => by
    have q : (xs ++ List.replicate (N.length - xs.length) Sl.no)[i]? = some (.cell c) := q
    by_cases hi : i < xs.length
    · rw [List.getElem?_append_left hi] at q
      rw [← hc, List.getElem?_map, q]
      exact ⟨rfl, hi⟩
    · rw [List.getElem?_append_right (by simpa using hi)] at q
      have := List.mem_of_getElem? q
      exact nomatch List.eq_of_mem_replicate this
  have to : ∀ (i c : Nat), cs[i]? = some (some c) → (startS N xs M).r[i]? = some (.cell c) := fun i c q => by
    rw [← hc, List.getElem?_map] at q
    cases e : xs[i]? with
    | none => rw [e] at q; cases q
    | some y =>
      rw [e] at q
      cases y with
      | no => simp [cellOf] at q
      | dat d => simp [cellOf] at q
      | cell k =>
        simp [cellOf] at q
        subst q
        show (xs ++ _)[i]? = _
        rw [List.getElem?_append_left (List.getElem?_eq_some_iff.mp e).1]; exact e
  have lt : ∀ (i c : Nat), cs[i]? = some (some c) → c < M.length := fun i c q => by
    have := List.all_eq_true.mp hlt _ (List.mem_of_getElem? q)
    simpa using this
  refine ⟨by simp, fun i v ev => ?_, fun i j c x v ei ec ec2 _ _ => pw_inj hp i j c (at_ i c ec).1 (at_ j c ec2).1, fun i c q => lt i c (at_ i c q).1, hnl, fun p q => to _ _ (hpin p q)⟩
  by_cases hi : i < xs.length
  · rw [List.getElem?_append_left (by simpa using hi), List.getElem?_map] at ev
    obtain ⟨y, hy⟩ : ∃ y, xs[i]? = some y := ⟨_, List.getElem?_eq_getElem hi⟩
    rw [hy] at ev
    have hr : (startS N xs M).r[i]? = some y := by
      show (xs ++ _)[i]? = _
      rw [List.getElem?_append_left hi]; exact hy
    cases y with
    | no => cases ev; trivial
    | dat d => cases ev; exact hr
    | cell c =>
      cases ev
      have hl := lt i c (at_ i c hr).1
      have hs := List.all_eq_true.mp ha _ (List.getElem_mem hl)
      have e2 : M[c]? = some M[c] := List.getElem?_eq_getElem hl
      cases z : M[c] with
      | none => rw [z] at hs; cases hs
      | some x =>
        rw [z] at e2
        show SatV _ i (match M[c]? with
          | some (some x) => VC.own x
          | _ => VC.no)
        rw [e2]
        exact ⟨c, hr, e2⟩
  · rw [List.getElem?_append_right (by simpa using hi)] at ev
    have := List.mem_of_getElem? ev
    rw [List.eq_of_mem_replicate this]; trivial
theorem take1 {M : Mem} {x : CC} (h : M[0]? = some (some x)) : M.take 1 = [some x] := by
  cases M with
  | nil => simp at h
  | cons a M => simp at h ⊢; exact h
theorem take2 {M : Mem} {x y : CC} (h : M[0]? = some (some x)) (h2 : M[1]? = some (some y)) : M.take 2 = [some x, some y] := by
  cases M with
  | nil => simp at h
  | cons a M =>
    cases M with
    | nil => simp at h2
    | cons b M => simp at h h2 ⊢; exact ⟨h, h2⟩
theorem Sat.pinned {s : S} (h : Sat κ s A) {i c : Nat} {x : CC} (hp : (i, c) ∈ κ.pin) (e : A[i]? = some (.own x)) : s.M[c]? = some (some x) := by
  obtain ⟨k, e1, e2⟩ := h.own e
  have := h.pin _ hp
  rw [this] at e1
  cases e1
  exact e2
theorem start1 {N : List Str} {xs : List Sl} {x : CC} {td : TSd} {P : D → Mem → Prop} {PX : KXM} (nl : Bool) (i : Nat) (A : AS) (cs : List (Option Nat)) (hc : xs.map cellOf = cs) (hp : (cs.Pairwise fun a b => difC a b = true) ∧ cs.all (fun o => match o with | some c => decide (c < 1) | none => true) = true ∧ cs[i]? = some (some 0))
    (hA : A = xs.map (vcSl [some x]) ++ List.replicate (N.length - xs.length) .no) (hnl : nl = true → ccNoL x = true)
    (h : JS ⟨nl, [(i, 0)]⟩ td A { nx := fun A' => ∃ x, A'[i]? = some (.own x) ∧ P .non [some x], rt := fun d A' => ∃ x, A'[i]? = some (.own x) ∧ P d [some x], bk := fun _ => False, ct := fun _ => False } (fun c d A' => ∃ x, A'[i]? = some (.own x) ∧ PX c d [some x])) : td (startS N xs [some x]) (endE 1 P) (endX 1 PX) :=
  h _ _ _ (satG N xs [some x] A cs hc hp.1 (by simpa using hp.2.1) rfl hA (fun p q => by simp at q; subst q; exact hp.2.2) (fun q => by simpa using hnl q))
    ⟨fun A' s' ⟨y, e, q⟩ hs => by
      have := take1 (hs.pinned (c := 0) (by simp) e)
      exact ⟨by show (List.take 1 s'.M).all _ = true; rw [this]; rfl, by show P _ (List.take 1 s'.M); rw [this]; exact q⟩, fun d A' s' ⟨y, e, q⟩ hs => by
      have := take1 (hs.pinned (c := 0) (by simp) e)
      exact ⟨by show (List.take 1 s'.M).all _ = true; rw [this]; rfl, by show P _ (List.take 1 s'.M); rw [this]; exact q⟩, fun _ _ q _ => q, fun _ _ q _ => q⟩
    fun c d A' s' ⟨y, e, q⟩ hs => by
      have := take1 (hs.pinned (c := 0) (by simp) e)
      exact ⟨by show (List.take 1 s'.M).all _ = true; rw [this]; rfl, by show PX _ _ (List.take 1 s'.M); rw [this]; exact q⟩
theorem start2 {N : List Str} {xs : List Sl} {x y : CC} {td : TSd} {P : D → Mem → Prop} {PX : KXM} (nl : Bool) (i j : Nat) (A : AS) (cs : List (Option Nat)) (hc : xs.map cellOf = cs) (hp : (cs.Pairwise fun a b => difC a b = true) ∧ cs.all (fun o => match o with | some c => decide (c < 2) | none => true) = true ∧ cs[i]? = some (some 0) ∧ cs[j]? = some (some 1))
    (hA : A = xs.map (vcSl [some x, some y]) ++ List.replicate (N.length - xs.length) .no) (hnl : nl = true → ccNoL x = true ∧ ccNoL y = true)
    (h : JS ⟨nl, [(i, 0), (j, 1)]⟩ td A { nx := fun A' => ∃ x y, A'[i]? = some (.own x) ∧ A'[j]? = some (.own y) ∧ P .non [some x, some y], rt := fun d A' => ∃ x y, A'[i]? = some (.own x) ∧ A'[j]? = some (.own y) ∧ P d [some x, some y], bk := fun _ => False, ct := fun _ => False } (fun c d A' => ∃ x y, A'[i]? = some (.own x) ∧ A'[j]? = some (.own y) ∧ PX c d [some x, some y])) : td (startS N xs [some x, some y]) (endE 2 P) (endX 2 PX) :=
  h _ _ _ (satG N xs [some x, some y] A cs hc hp.1 (by simpa using hp.2.1) rfl hA (fun p q => by
      simp at q
      rcases q with q | q
      · subst q; exact hp.2.2.1
      · subst q; exact hp.2.2.2) (fun q => by simpa using hnl q))
    ⟨fun A' s' ⟨u, v, e, e2, q⟩ hs => by
      have := take2 (hs.pinned (c := 0) (by simp) e) (hs.pinned (c := 1) (by simp) e2)
      exact ⟨by show (List.take 2 s'.M).all _ = true; rw [this]; rfl, by show P _ (List.take 2 s'.M); rw [this]; exact q⟩, fun d A' s' ⟨u, v, e, e2, q⟩ hs => by
      have := take2 (hs.pinned (c := 0) (by simp) e) (hs.pinned (c := 1) (by simp) e2)
      exact ⟨by show (List.take 2 s'.M).all _ = true; rw [this]; rfl, by show P _ (List.take 2 s'.M); rw [this]; exact q⟩, fun _ _ q _ => q, fun _ _ q _ => q⟩
    fun c d A' s' ⟨u, v, e, e2, q⟩ hs => by
      have := take2 (hs.pinned (c := 0) (by simp) e) (hs.pinned (c := 1) (by simp) e2)
      exact ⟨by show (List.take 2 s'.M).all _ = true; rw [this]; rfl, by show PX _ _ (List.take 2 s'.M); rw [this]; exact q⟩
end
end MR
namespace MR
open PySem L2 DL
abbrev Wd := { s : Str // PyData.strOk s = true }
theorem ofString_ok (s : String) : PyData.strOk (Str.ofString s) = true := by
  unfold PyData.strOk
  rw [Str.ofString_eq_toList, ← Array.all_toList, List.all_eq_true]
  intro x hx
  obtain ⟨c, _, rfl⟩ := List.mem_map.mp hx
  have h : c.val.toNat < 0x110000 := by
    rcases c.valid with h | h
    · exact Nat.lt_trans h (by decide)
    · exact h.2
  exact decide_eq_true h
def wd (s : String) : Wd := ⟨Str.ofString s, ofString_ok s⟩
@[simp] theorem wd_inj {a b : String} : wd a = wd b ↔ a = b := by
  unfold wd
  rw [Subtype.mk.injEq, ofString_inj]
section
variable {α β γ δ ε : Type}
def eW (w : Wd) : D := .str w.1
def eT (e : α → D) (xs : List α) : D := .tup (xs.map e)
def eL (e : α → D) (xs : List α) : D := .lst (xs.map e)
def eFL (e : α → D) (xs : List α) : D := .fl (xs.map e)
def eCT (e : α → D) (xs : List α) : D := .ct (xs.map e)
def eP1 (a : α → D) (p : α) : D := .tup [a p]
def eP2 (a : α → D) (b : β → D) (p : α × β) : D := .tup [a p.1, b p.2]
def eP3 (a : α → D) (b : β → D) (c : γ → D) (p : α × β × γ) : D := .tup [a p.1, b p.2.1, c p.2.2]
def eP4 (a : α → D) (b : β → D) (c : γ → D) (d : δ → D) (p : α × β × γ × δ) : D := .tup [a p.1, b p.2.1, c p.2.2.1, d p.2.2.2]
def eP5 (a : α → D) (b : β → D) (c : γ → D) (d : δ → D) (f : ε → D) (p : α × β × γ × δ × ε) : D := .tup [a p.1, b p.2.1, c p.2.2.1, d p.2.2.2.1, f p.2.2.2.2]
def eQ1 (a : α → D) (p : α) : D := .lst [a p]
def eQ2 (a : α → D) (b : β → D) (p : α × β) : D := .lst [a p.1, b p.2]
def eQ3 (a : α → D) (b : β → D) (c : γ → D) (p : α × β × γ) : D := .lst [a p.1, b p.2.1, c p.2.2]
def eO (e : α → D) : Option α → D
  | none => .non
  | some v => e v
def eN (_ : Unit) : D := .non
structure Fld where
  s : List Int
  g : List Int
  deriving DecidableEq
def eF (f : Fld) : D := fldD f.s f.g
structure Ls where
  c : Bool
  l : List Int
def eX (x : Ls) : D := if x.c then .ct (x.l.map .int) else .tup (x.l.map .int)
abbrev cL (e : α → D) (xs : List α) : CC := .lst (xs.map e)
abbrev cK (e : α → D) (ks : List (Int × α)) : CC := .dk (ks.map fun p => (p.1, e p.2))
abbrev cT (enc : β → List Int) (e : α → D) (ks : List (β × α)) : CC := .dt (ks.map fun p => (enc p.1, e p.2))
structure EqE [DecidableEq α] (e : α → D) (k : Nat) : Prop where
  ok : ∀ v, OkN k (e v)
  eq : ∀ a b, eqD (e a) (e b) = decide (a = b)
theorem EqE.okD [DecidableEq α] {e : α → D} {k : Nat} (h : EqE e k) (hk : k ≤ 64 := by decide) (v : α) : okD (e v) = true := (h.ok v).ok hk
theorem eq_I (k : Nat := 0) : EqE D.int k := ⟨fun v => OkN.int k v, eqD_int⟩
theorem eq_B (k : Nat := 0) : EqE D.bl k := ⟨fun v => OkN.bl k v, fun a b => by rw [eqD_bl]; cases a <;> cases b <;> rfl⟩
theorem okN_str (k : Nat) (w : Wd) : OkN k (eW w) := ⟨by simp [eW, toPy, PyData.canLay0, w.2], by simp [eW, toPy, PyData.depth]⟩
theorem eq_W (k : Nat := 0) : EqE eW k := ⟨fun v => okN_str k v, fun a b => by
  simp only [eW, eqD, toPy, PyData.eqv]
  by_cases h : a = b
  · subst h; simp
  · have : a.1 ≠ b.1 := fun q => h (Subtype.ext q)
    simp [h, this]⟩
theorem okN_le {k l : Nat} {d : D} (h : OkN k d) (q : k ≤ l) : OkN l d := ⟨h.1, Nat.le_trans h.2 q⟩
theorem EqE.le [DecidableEq α] {e : α → D} {k l : Nat} (h : EqE e k) (q : k ≤ l) : EqE e l := ⟨fun v => okN_le (h.ok v) q, h.eq⟩
theorem eqDs_map [DecidableEq α] {e : α → D} {k : Nat} (h : EqE e k) : ∀ a b : List α, eqDs (a.map e) (b.map e) = decide (a = b)
  | [], [] => rfl
  | [], _ :: _ => rfl
  | _ :: _, [] => rfl
  | x :: a, y :: b => by
    simp only [List.map_cons, eqDs, h.eq, eqDs_map h a b]
    by_cases p : x = y <;> by_cases q : a = b <;> simp [p, q]
theorem eq_L [DecidableEq α] {e : α → D} {k : Nat} (h : EqE e k) : EqE (eL e) (k + 1) := ⟨fun v => OkN.lst fun d hd => by
  obtain ⟨x, _, rfl⟩ := List.mem_map.mp hd
  exact h.ok x, fun a b => by rw [eL, eL, eqD_lst, eqDs_map h]⟩
theorem eq_P2 [DecidableEq α] [DecidableEq β] {a : α → D} {b : β → D} {k l : Nat} (ha : EqE a k) (hb : EqE b l) : EqE (eP2 a b) (max k l + 1) := ⟨fun v => OkN.tup fun d hd => by
  simp at hd
  rcases hd with rfl | rfl
  · exact okN_le (ha.ok _) (by omega)
  · exact okN_le (hb.ok _) (by omega), fun x y => by
  simp only [eP2, eqD_tup, eqDs, ha.eq, hb.eq, Bool.and_true]
  rw [← Bool.decide_and]
  exact decide_eq_decide.mpr (by rw [Prod.ext_iff])⟩
theorem ev_eq [DecidableEq α] {e : α → D} {k : Nat} (h : EqE e k) (hk : k ≤ 64 := by decide) (a b : α) : ∀ P, P (.bl (decide (a = b))) → rEqD' (e a) (e b) P := fun P p => ⟨h.okD hk a, h.okD hk b, by rw [h.eq]; exact p⟩
theorem ev_ne [DecidableEq α] {e : α → D} {k : Nat} (h : EqE e k) (hk : k ≤ 64 := by decide) (a b : α) : ∀ P, P (.bl (!decide (a = b))) → rNeD' (e a) (e b) P := fun P p => ⟨h.okD hk a, h.okD hk b, by rw [h.eq]; exact p⟩
def eqR (x y : D) : Res Bool := cond (okD x && okD y) (.ok (eqD x y)) .no
theorem op_eqR (x y : D) : OpR rEqD' D.bl x y (eqR x y) := fun P X h => by
  unfold eqR at h
  cases e : okD x && okD y with
  | false => rw [e] at h; exact h.elim
  | true =>
    rw [e] at h
    simp at e
    exact ⟨_, fun P p => ⟨e.1, e.2, p⟩, h⟩
theorem op_neR (x y : D) : OpR rNeD' D.bl x y (notR (eqR x y)) := fun P X h => by
  unfold eqR at h
  cases e : okD x && okD y with
  | false => rw [e] at h; exact h.elim
  | true =>
    rw [e] at h
    simp at e
    exact ⟨_, fun P p => ⟨e.1, e.2, p⟩, h⟩
theorem ev_add (i j : Int) : ∀ P, P (.int (i + j)) → rAddD (.int i) (.int j) P := fun _ h => h
theorem ev_sub (i j : Int) : ∀ P, P (.int (i - j)) → rSubD (.int i) (.int j) P := fun _ h => h
theorem ev_neg (i : Int) : ∀ P, P (.int (-i)) → rNegD (.int i) P := fun _ h => h
theorem ev_lt (i j : Int) : ∀ P, P (.bl (decide (i < j))) → rLtD (.int i) (.int j) P := fun _ h => h
theorem ev_le (i j : Int) : ∀ P, P (.bl (decide (i ≤ j))) → rLeD (.int i) (.int j) P := fun _ h => h
theorem ev_gt (i j : Int) : ∀ P, P (.bl (decide (j < i))) → rGtD (.int i) (.int j) P := fun _ h => h
theorem ev_ge (i j : Int) : ∀ P, P (.bl (decide (j ≤ i))) → rGeD (.int i) (.int j) P := fun _ h => h
@[irreducible] def grd (p : Prop) [Decidable p] (v : α) : Res α := if p then .ok v else .no
theorem grd_ok {p : Prop} [Decidable p] {v : α} (h : p) : grd p v = .ok v := by unfold grd; exact if_pos h
theorem wp_grd {p : Prop} [Decidable p] {v : α} {Q : α → Prop} {X : Str → D → Prop} (h : wp (grd p v) Q X) : p ∧ Q v := by
  unfold grd at h
  by_cases c : p
  · rw [if_pos c] at h; exact ⟨c, h⟩
  · rw [if_neg c] at h; exact h.elim
instance (i j : Int) : Decidable (CMul i j) := by unfold CMul; infer_instance
instance (i j : Int) : Decidable (CMulW i j) := by unfold CMulW; infer_instance
instance (i j : Int) : Decidable (CDivW i j) := by unfold CDivW; infer_instance
instance (i j : Int) : Decidable (CPow i j) := by unfold CPow; infer_instance
instance (i : Int) : Decidable (small i) := by unfold small; infer_instance
def mulR (i j : Int) : Res Int := grd (CMul i j ∨ CMulW i j) (i * j)
def divR (i j : Int) : Res Int := grd (CDivW i j) (i / j)
def modR (i j : Int) : Res Int := grd (0 < j) (i % j)
def powR (i j : Int) : Res Int := grd (CPow i j) (i ^ j.toNat)
def shlR (i j : Int) : Res Int := grd (CPow i j) (i * 2 ^ j.toNat)
def shrR (i j : Int) : Res Int := grd (0 ≤ j) (i / 2 ^ j.toNat)
theorem op_mul (i j : Int) : OpR rMultD D.int (.int i) (.int j) (mulR i j) := fun P X h => ⟨_, fun P p => ⟨(wp_grd h).1, p⟩, (wp_grd h).2⟩
theorem op_div (i j : Int) : OpR rDivD D.int (.int i) (.int j) (divR i j) := fun P X h => ⟨_, fun P p => ⟨(wp_grd h).1, p⟩, (wp_grd h).2⟩
theorem op_mod (i j : Int) : OpR rModD D.int (.int i) (.int j) (modR i j) := fun P X h => ⟨_, fun P p => ⟨(wp_grd h).1, p⟩, (wp_grd h).2⟩
theorem op_pow (i j : Int) : OpR rPowD D.int (.int i) (.int j) (powR i j) := fun P X h => ⟨_, fun P p => ⟨(wp_grd h).1, p⟩, (wp_grd h).2⟩
theorem ev_mulc (i j : Int) (h : (decide (-(2 ^ 64) < j) && decide (j < 2 ^ 64)) = true) : ∀ P, P (.int (i * j)) → rMultD (.int i) (.int j) P := fun _ p => ⟨.inl (.inr (by simpa using h)), p⟩
theorem ev_mulc' (i j : Int) (h : (decide (-(2 ^ 64) < i) && decide (i < 2 ^ 64)) = true) : ∀ P, P (.int (i * j)) → rMultD (.int i) (.int j) P := fun _ p => ⟨.inl (.inl (by simpa using h)), p⟩
theorem ev_divc (i j : Int) (h : (decide (0 < j) && decide (j < 2 ^ 200)) = true) : ∀ P, P (.int (i / j)) → rDivD (.int i) (.int j) P := fun _ p => ⟨by
  simp at h
  refine ⟨h.1, ?_⟩
  have h1 : j.natAbs ≠ 0 := by omega
  have h2 : j.natAbs < 2 ^ 200 := by omega
  have := (Nat.log2_lt h1).mpr h2
  omega, p⟩
theorem ev_modc (i j : Int) (h : decide (0 < j) = true) : ∀ P, P (.int (i % j)) → rModD (.int i) (.int j) P := fun _ p => ⟨by simpa using h, p⟩
theorem ev_powc (i j : Int) (h : decide (CPow i j) = true) : ∀ P, P (.int (i ^ j.toNat)) → rPowD (.int i) (.int j) P := fun _ p => ⟨by simpa using h, p⟩
theorem atI_map {e : α → β} {xs : List α} {i : Int} : atI (xs.map e) i = (atI xs i).map e := by
  unfold atI
  rw [List.length_map]
  cases ixN xs.length i with
  | none => rfl
  | some j => simp
def ixR (xs : List α) (i : Int) : Res α := match atI xs i with
  | some v => .ok v
  | none => .no
theorem ixR_ok {xs : List α} {i : Int} {v : α} (h : atI xs i = some v) : ixR xs i = .ok v := by unfold ixR; rw [h]
theorem wp_ixR {xs : List α} {i : Int} {Q : α → Prop} {X : Str → D → Prop} (h : wp (ixR xs i) Q X) : ∃ v, atI xs i = some v ∧ Q v := by
  unfold ixR at h
  cases e : atI xs i with
  | none => rw [e] at h; exact h.elim
  | some v => rw [e] at h; exact ⟨v, rfl, h⟩
theorem op_ixT (e : α → D) (xs : List α) (i : Int) : OpR rIxD e (eT e xs) (.int i) (ixR xs i) := fun P X h => by
  obtain ⟨v, q, p⟩ := wp_ixR h
  exact ⟨e v, fun P p => ⟨_, by rw [atI_map, q]; rfl, p⟩, p⟩
theorem op_ixFL (e : α → D) (xs : List α) (i : Int) : OpR rIxD e (eFL e xs) (.int i) (ixR xs i) := fun P X h => by
  obtain ⟨v, q, p⟩ := wp_ixR h
  exact ⟨e v, fun P p => ⟨_, by rw [atI_map, q]; rfl, p⟩, p⟩
theorem ev_p20 (a : α → D) (b : β → D) (p : α × β) : ∀ P, P (a p.1) → rIxD (eP2 a b p) (.int 0) P := fun P k => ⟨_, rfl, k⟩
theorem ev_p21 (a : α → D) (b : β → D) (p : α × β) : ∀ P, P (b p.2) → rIxD (eP2 a b p) (.int 1) P := fun P k => ⟨_, rfl, k⟩
def catR (a b : List α) : Res (List α) := grd (a.length + b.length ≤ sizeLine) (a ++ b)
theorem op_catT (e : α → D) (a b : List α) : OpR rAddD (eT e) (eT e a) (eT e b) (catR a b) := fun P X h => ⟨_, fun P p => ⟨by simpa using (wp_grd h).1, by rw [← List.map_append]; exact p⟩, (wp_grd h).2⟩
theorem map_rep {e : α → β} (k : Nat) (a : List α) : (List.replicate k (a.map e)).flatten = ((List.replicate k a).flatten).map e := by
  induction k with
  | zero => rfl
  | succ k ih => simp only [List.replicate_succ, List.flatten_cons, List.map_append, ih]
def repR (a : List α) (k : Int) : Res (List α) := grd (-(2 ^ 63) ≤ k ∧ k < 2 ^ 63 ∧ a.length * k.toNat ≤ sizeLine) (List.replicate k.toNat a).flatten
def repTR (a : List α) (k : Int) : Res (List α) := grd ((a.isEmpty = false ∧ 2 ≤ k ∧ k ≤ 1000 ∧ a.length ≤ 1000)) (List.replicate k.toNat a).flatten
def repTR' (a : List α) (k : Int) : Res (List α) := grd ((a.isEmpty = false ∧ -1000 ≤ k ∧ k ≤ 2000 ∧ a.length ≤ 1000)) (List.replicate k.toNat a).flatten
theorem ne_of_emp {e : α → β} {a : List α} (h : a.isEmpty = false) : a.map e ≠ [] := by cases a <;> simp_all
theorem op_repT (e : α → D) (a : List α) (k : Int) : OpR rMultD (eT e) (eT e a) (.int k) (repTR a k) := fun P X h => ⟨_, fun P p => ⟨by have := (wp_grd h).1; exact ⟨ne_of_emp this.1, by simpa using this.2⟩, by rw [map_rep]; exact p⟩, (wp_grd h).2⟩
theorem op_repT' (e : α → D) (a : List α) (k : Int) : OpR rRepTD (eT e) (eT e a) (.int k) (repTR' a k) := fun P X h => ⟨_, fun P p => ⟨by have := (wp_grd h).1; exact ⟨ne_of_emp this.1, by simpa using this.2⟩, by rw [map_rep]; exact p⟩, (wp_grd h).2⟩
def mem [DecidableEq α] (x : α) (xs : List α) : Bool := decide (x ∈ xs)
theorem mem_iff [DecidableEq α] {x : α} {xs : List α} : mem x xs = true ↔ x ∈ xs := by simp [mem]
@[simp] theorem mem_eq [DecidableEq α] (x : α) (xs : List α) : mem x xs = decide (x ∈ xs) := rfl
theorem inD_map [DecidableEq α] {e : α → D} {k : Nat} (h : EqE e k) (x : α) (xs : List α) : inD (e x) (xs.map e) = decide (x ∈ xs) := by
  unfold inD
  rw [List.any_map]
  induction xs with
  | nil => rfl
  | cons y ys ih =>
    rw [List.any_cons, ih]
    simp only [Function.comp, h.eq, List.mem_cons]
    by_cases c : x = y
    · simp [c]
    · simp [c, Ne.symm c]
structure Flat (e : α → D) : Prop where
  f : ∀ v, flatD (e v) = true
theorem flat_I : Flat D.int := ⟨fun _ => rfl⟩
theorem flat_all {e : α → D} (h : Flat e) (xs : List α) : (xs.map e).all flatD = true := by rw [List.all_map]; exact List.all_eq_true.mpr fun v _ => h.f v
theorem ev_inT [DecidableEq α] {e : α → D} {k : Nat} (h : EqE e k) (hf : Flat e) (neg : Bool) (x : α) (xs : List α) : ∀ P, P (.bl (neg ^^ mem x xs)) → rInD' neg (e x) (eT e xs) P := fun P p => ⟨hf.f x, flat_all hf xs, by
  rw [inD_map h]; cases neg <;> simpa using p⟩
theorem ev_inL [DecidableEq α] {e : α → D} {k : Nat} (h : EqE e k) (hk : k + 1 ≤ 64) (neg : Bool) (x : α) (xs : List α) : ∀ P, P (.bl (neg ^^ mem x xs)) → rInD' neg (e x) (eL e xs) P := fun P p => ⟨h.okD (by omega) x, (eq_L h).okD hk xs, by
  rw [inD_map h]; cases neg <;> simpa using p⟩
end
end MR
namespace MR
open PySem L2 DL
section
variable {α β γ δ ε σ τ : Type} {κ : Kt} {A : AS} {ta tb tc td te : TD} {X : AX}
theorem ite_c {b : Bool} {m1 m2 : Res α} {Q : α → Prop} {XQ : Str → D → Prop} {p q : Prop} (h : wp (cond b m1 m2) Q XQ) (k1 : wp m1 Q XQ → p) (k2 : wp m2 Q XQ → q) : if b = true then p else q := by
  cases b with
  | true => exact (if_pos rfl).mpr (k1 h)
  | false => exact (if_neg Bool.false_ne_true).mpr (k2 h)
theorem Rv.pv {t : CT α} {e : τ → α} {v : τ} (h : Rv t A e (.ok v)) : Pv t A (e v) := fun κ P X k => h κ P X k
theorem Rv.map {t : CT α} {e : τ → α} {e' : σ → α} {r : Res τ} {f : τ → σ} (h : Rv t A e r) (k : ∀ v, e v = e' (f v)) : Rv t A e' (r.bnd fun v => .ok (f v)) := fun κ P X q => by
  rw [wp_bnd] at q
  exact h κ P X (wp_mono q (fun v q => by rw [k]; exact q) fun _ _ q => q)
theorem z1 : 1 ≤ sizeLine := by decide
theorem z2 : 2 ≤ sizeLine := by decide
theorem z3 : 3 ≤ sizeLine := by decide
theorem z5 : 5 ≤ sizeLine := by decide
theorem zle {n : Nat} (h : n ≤ 1000 := by first | decide | simp) : n ≤ sizeLine := Nat.le_trans h (by decide)
theorem rv_t0 {e : α → D} : Rv (dTup dNil) A (eT e) (.ok []) := fun κ P X k => j_tup (ja_nil ⟨[], rfl, Nat.zero_le _, k⟩)
theorem rv_t1 {a : α → D} {ra : Res α} (ha : Rv ta A a ra) : Rv (dTup (dCons ta dNil)) A (eP1 a) ra := fun κ P X k => j_tup (ja_cons (ha κ _ _ (wp_mono k (fun x k => ja_nil ⟨_, rfl, z1, k⟩) fun _ _ q => q)))
theorem rv_t2 {a : α → D} {b : β → D} {ra : Res α} {rb : Res β} (ha : Rv ta A a ra) (hb : Rv tb A b rb) : Rv (dTup (dCons ta (dCons tb dNil))) A (eP2 a b) (ra.bnd fun x => rb.bnd fun y => .ok (x, y)) := fun κ P X k => by
  rw [wp_bnd] at k
  refine j_tup (ja_cons (ha κ _ _ (wp_mono k (fun x k => ?_) fun _ _ q => q)))
  rw [wp_bnd] at k
  exact ja_cons (hb κ _ _ (wp_mono k (fun y k => ja_nil ⟨_, rfl, z2, k⟩) fun _ _ q => q))
theorem rv_t3 {a : α → D} {b : β → D} {c : γ → D} {ra : Res α} {rb : Res β} {rc : Res γ} (ha : Rv ta A a ra) (hb : Rv tb A b rb) (hc : Rv tc A c rc) : Rv (dTup (dCons ta (dCons tb (dCons tc dNil)))) A (eP3 a b c) (ra.bnd fun x => rb.bnd fun y => rc.bnd fun z => .ok (x, y, z)) := fun κ P X k => by
  rw [wp_bnd] at k
  refine j_tup (ja_cons (ha κ _ _ (wp_mono k (fun x k => ?_) fun _ _ q => q)))
  rw [wp_bnd] at k
  refine ja_cons (hb κ _ _ (wp_mono k (fun y k => ?_) fun _ _ q => q))
  rw [wp_bnd] at k
  exact ja_cons (hc κ _ _ (wp_mono k (fun z k => ja_nil ⟨_, rfl, z3, k⟩) fun _ _ q => q))
theorem rv_l0 {e : α → D} : Rv (dLst dNil) A (List.map e) (.ok []) := fun κ P X k => j_lst (ja_nil ⟨[], rfl, Nat.zero_le _, k⟩)
def RvL (t : TDA) (A : AS) (e : α → D) (r : Res (List α)) : Prop := ∀ κ (P : List AA → AS → Prop) X, wp r (fun l => P (l.map fun v => .dat (e v)) A) (fun c x => X c x A) → JA κ t A P X
theorem rl_nil {e : α → D} : RvL dNil A e (.ok []) := fun κ P X k => ja_nil k
theorem rl_cons {tr : TDA} {e : α → D} {ra : Res α} {rr : Res (List α)} (ha : Rv ta A e ra) (hr : RvL tr A e rr) : RvL (dCons ta tr) A e (ra.bnd fun x => rr.bnd fun l => .ok (x :: l)) := fun κ P X k => by
  rw [wp_bnd] at k
  refine ja_cons (ha κ _ _ (wp_mono k (fun x k => ?_) fun _ _ q => q))
  rw [wp_bnd] at k
  exact hr κ _ _ (wp_mono k (fun l k => k) fun _ _ q => q)
theorem datsA_map (e : α → D) (l : List α) : datsA (l.map fun v => AA.dat (e v)) = some (l.map e) := by
  induction l with
  | nil => rfl
  | cons x l ih => simp only [List.map_cons, datsA, ih, Option.map_some]
theorem rv_lst {tr : TDA} {e : α → D} {r : Res (List α)} (h : RvL tr A e r) : Rv (dLst tr) A (List.map e) (r.bnd szR) := fun κ P X k => by
  rw [wp_bnd] at k
  refine j_lst (h κ _ _ (wp_mono k (fun l k => ⟨_, datsA_map e l, ?_⟩) fun _ _ q => q))
  unfold szR at k
  by_cases c : l.length ≤ sizeLine
  · rw [if_pos c] at k; exact ⟨by simpa using c, k⟩
  · rw [if_neg c] at k; exact k.elim
theorem rv_f {tf : TDF} {e : α → D} {r : Res (List α)} (h : Rv tf A (List.map e) r) : Rv (dF tf) A (eL e) r := fun κ P X k => j_f (h κ _ _ k)
def CbR (r : RCd) (x : D) {τ : Type} (e : τ → D) (m : Res τ) : Prop := ∀ (P : D → Prop) (X : Str → D → Prop), wp m (fun v => P (e v)) X → ∃ z, (∀ M (Q : D → Prop), Q z → r [.dat x] M Q) ∧ P z
theorem rv_cb1 {r : RCd} {a : α → D} {e : τ → D} {ra : Res α} {m : α → Res τ} (ha : Rv ta A a ra) (h : ∀ v, CbR r (a v) e (m v)) : Rv (dCB r (dCons ta dNil)) A e (ra.bnd m) := fun κ P X k => by
  rw [wp_bnd] at k
  exact j_cb (ja_cons (ha κ _ _ (wp_mono k (fun x k => ja_nil (by
    obtain ⟨z, q, p⟩ := h x (fun d => P d A) _ k
    exact ⟨_, z, rfl, fun M Q hq => q M Q hq, p⟩)) fun _ _ q => q)))
theorem CbR.one {r : RCd} {x : D} {e : τ → D} {v : τ} (h : ∀ M (Q : D → Prop), Q (e v) → r [.dat x] M Q) : CbR r x e (.ok v) := fun P X k => ⟨_, h, k⟩
theorem cb_lenT (e : α → D) (l : List α) : CbR rLenD (eT e l) D.int (.ok (l.length : Int)) := .one fun M Q q => by simpa [rLenD, eT] using q
theorem cb_lenL (e : α → D) (l : List α) : CbR rLenD (eL e l) D.int (.ok (l.length : Int)) := .one fun M Q q => by simpa [rLenD, eL] using q
theorem cb_lenFL (e : α → D) (l : List α) : CbR rLenD (eFL e l) D.int (.ok (l.length : Int)) := .one fun M Q q => by simpa [rLenD, eFL] using q
def lenDR : D → Res Int
  | .lst ds => .ok ds.length
  | .tup ds => .ok ds.length
  | .fl ds => .ok ds.length
  | _ => .no
theorem cb_intI (i : Int) : CbR rIntD (.int i) D.int (.ok i) := .one fun M Q q => q
theorem cb_intB (b : Bool) : CbR rIntD (.bl b) D.int (.ok (cond b 1 0)) := .one fun M Q q => by cases b <;> exact q
theorem cb_tupL (e : α → D) (l : List α) : CbR rTupD (eL e l) (eT e) (.ok l) := .one fun M Q q => q
theorem cb_sortP (l : List (Int × Int)) : CbR rSortD (eL (eP2 D.int D.int) l) (eL (eP2 D.int D.int)) (.ok (sortP l)) := .one fun M Q q => .inr ⟨l, rfl, q⟩
def maxI : List Int → Int
  | [] => 0
  | [x] => x
  | x :: y :: r => max x (maxI (y :: r))
def minI : List Int → Int
  | [] => 0
  | [x] => x
  | x :: y :: r => min x (minI (y :: r))
theorem maxI_mem : ∀ {l : List Int}, l ≠ [] → maxI l ∈ l ∧ ∀ y ∈ l, y ≤ maxI l
  | [x], _ => ⟨by simp [maxI], fun y hy => by simp at hy; subst hy; exact Int.le_refl _⟩
  | x :: y :: r, _ => by
    have ih := maxI_mem (l := y :: r) (by simp)
    simp only [maxI]
    refine ⟨?_, fun z hz => ?_⟩
    · by_cases c : x ≤ maxI (y :: r)
      · rw [Int.max_eq_right c]; exact List.mem_cons_of_mem _ ih.1
      · rw [Int.max_eq_left (by omega)]; exact List.mem_cons_self
    · rcases List.mem_cons.mp hz with rfl | hz
      · exact Int.le_max_left _ _
      · exact Int.le_trans (ih.2 z hz) (Int.le_max_right _ _)
def maxR (l : List Int) : Res Int := grd (l ≠ []) (maxI l)
def minR (l : List Int) : Res Int := grd (l ≠ []) (minI l)
theorem max_uniq {l : List Int} {m : Int} (hm : m ∈ l) (h : ∀ y ∈ l, y ≤ m) : m = maxI l := by
  have := maxI_mem (l := l) (by intro e; rw [e] at hm; simp at hm)
  have a := h _ this.1
  have b := this.2 _ hm
  omega
theorem cb_max (l : List Int) : CbR rMax1D (eL D.int l) D.int (maxR l) := fun P X k => by
  obtain ⟨hl, p⟩ := wp_grd k
  exact ⟨_, fun M Q q => ⟨l, rfl, List.length_pos_iff.mpr hl, fun m hm h => by rw [max_uniq hm h]; exact q⟩, p⟩
theorem rv_2I {f : Int → Int → Int} {ra rb : Res Int} (ha : Rv ta A D.int ra) (hb : Rv tb A D.int rb) : Rv (dCB (r2I f) (dCons ta (dCons tb dNil))) A D.int (ra.bnd fun x => rb.bnd fun y => .ok (f x y)) := fun κ P X k => by
  rw [wp_bnd] at k
  refine j_cb (ja_cons (ha κ _ _ (wp_mono k (fun x k => ?_) fun _ _ q => q)))
  rw [wp_bnd] at k
  exact ja_cons (hb κ _ _ (wp_mono k (fun y k => ja_nil ⟨_, _, rfl, fun M Q q => q, k⟩) fun _ _ q => q))
theorem pv_lenC (i : Nat) {e : α → D} {l : List α} (h : A[i]? = some (.own (cL e l))) : Pv (dCB rLenD (dConsC i dNil)) A (.int (l.length : Int)) := pv_cbC i h fun M c P hm p => ⟨_, hm, by simpa using p⟩
def isTR (T : String) (d : D) : Res Bool := match isT T d with
  | some b => .ok b
  | none => .no
theorem rv_isT {T : String} {ea : α → D} {r : Res α} (h : Rv ta A ea r) : Rv (dIsT T ta) A D.bl (r.bnd fun v => isTR T (ea v)) := fun κ P X k s P' PX hs hp hx => by
  rw [wp_bnd] at k
  exact h κ (fun d A1 => ∃ b, isT T d = some b ∧ P (.bl b) A1) X (wp_mono k (fun v k => by
    unfold isTR at k
    cases e : isT T (ea v) with
    | none => rw [e] at k; exact k.elim
    | some b => rw [e] at k; exact ⟨b, rfl, k⟩) fun _ _ q => q) s _ _ hs (fun d A1 s1 ⟨b, e, p⟩ hs1 f1 => ⟨b, e, hp _ _ _ p hs1 f1⟩) hx
def rng (a b : Int) : List Int := (List.range (b - a).toNat).map fun (i : Nat) => a + (i : Int)
def rngR (a b : Int) : Res (List Int) := grd (small a ∧ small b) (rng a b)
theorem rangeD_rng (a b : Int) : rangeD a (b - a).toNat = (rng a b).map D.int := by unfold rangeD rng; rw [List.map_map]; rfl
theorem ri_range1 {r : Res Int} (h : Rv ta A D.int r) : Rv (dRange1 (dCons ta dNil)) A (List.map D.int) (r.bnd fun n => rngR 0 n) := fun κ P X k s P' PX hs hp hx => by
  rw [wp_bnd] at k
  have : JA κ (dCons ta dNil) A (fun as A1 => ∃ n, as = [.dat (.int n)] ∧ small n ∧ P ((rng 0 n).map D.int) A1) X := ja_cons (h κ _ _ (wp_mono k (fun n k => ja_nil ⟨n, rfl, (wp_grd k).1.2, (wp_grd k).2⟩) fun _ _ q => q))
  refine this s _ _ hs (fun as xs A1 s1 ⟨n, e, hn, p⟩ hs1 f1 ok => ?_) hx
  subst e
  have := ok.dats (ds := [D.int n]) rfl
  subst this
  exact ⟨n, rfl, hn, by have e := rangeD_rng 0 n; rw [Int.sub_zero] at e; rw [e]; exact hp _ _ _ p hs1 f1⟩
theorem ri_range2 {ra rb : Res Int} (ha : Rv ta A D.int ra) (hb : Rv tb A D.int rb) : Rv (dRange2 (dCons ta (dCons tb dNil))) A (List.map D.int) (ra.bnd fun m => rb.bnd fun n => rngR m n) := fun κ P X k s P' PX hs hp hx => by
  rw [wp_bnd] at k
  have : JA κ (dCons ta (dCons tb dNil)) A (fun as A1 => ∃ m n, as = [.dat (.int m), .dat (.int n)] ∧ small m ∧ small n ∧ P ((rng m n).map D.int) A1) X := by
    refine ja_cons (ha κ _ _ (wp_mono k (fun m k => ?_) fun _ _ q => q))
    rw [wp_bnd] at k
    exact ja_cons (hb κ _ _ (wp_mono k (fun n k => ja_nil ⟨m, n, rfl, (wp_grd k).1.1, (wp_grd k).1.2, (wp_grd k).2⟩) fun _ _ q => q))
  refine this s _ _ hs (fun as xs A1 s1 ⟨m, n, e, hm, hn, p⟩ hs1 f1 ok => ?_) hx
  subst e
  have := ok.dats (ds := [D.int m, D.int n]) rfl
  subst this
  exact ⟨m, n, rfl, hm, hn, by rw [rangeD_rng]; exact hp _ _ _ p hs1 f1⟩
theorem ri_iter {ea : α → D} {e : τ → D} {r : Res α} {f : α → List τ} (q : ∀ v, seqD (ea v) = some ((f v).map e)) (h : Rv ta A ea r) : Rv (dIter ta) A (List.map e) (r.bnd fun v => .ok (f v)) := fun κ P X k s P' PX hs hp hx => by
  rw [wp_bnd] at k
  exact h κ (fun d A1 => ∃ v, d = ea v ∧ P ((f v).map e) A1) X (wp_mono k (fun v k => ⟨v, rfl, k⟩) fun _ _ q => q) s _ _ hs (fun d A1 s1 ⟨v, ed, p⟩ hs1 f1 => ⟨_, by rw [ed]; exact q v, hp _ _ _ p hs1 f1⟩) hx
theorem sq_T (e : α → D) (v : List α) : seqD (eT e v) = some (v.map e) := rfl
theorem sq_L (e : α → D) (v : List α) : seqD (eL e v) = some (v.map e) := rfl
def enumL (l : List α) : List (Int × α) := l.zipIdx.map fun p => ((p.2 : Int), p.1)
theorem enumD_map (e : α → D) (l : List α) : enumD (l.map e) = (enumL l).map (eP2 D.int e) := by
  unfold enumD enumL
  rw [List.map_map]
  have : ∀ k, ((l.map e).zipIdx k).map (fun p => D.tup [.int (p.2 : Nat), p.1]) = (l.zipIdx k).map (eP2 D.int e ∘ fun p => ((p.2 : Int), p.1)) := by
    induction l with
    | nil => intro k; rfl
    | cons x l ih => intro k; simp only [List.map_cons, List.zipIdx_cons, ih]; rfl
  exact this 0
theorem ri_enum {ea : α → D} {e : τ → D} {r : Res α} {f : α → List τ} (q : ∀ v, seqD (ea v) = some ((f v).map e)) (h : Rv ta A ea r) : Rv (dEnum (dCons ta dNil)) A (List.map (eP2 D.int e)) (r.bnd fun v => .ok (enumL (f v))) := fun κ P X k s P' PX hs hp hx => by
  rw [wp_bnd] at k
  have : JA κ (dCons ta dNil) A (fun as A1 => ∃ v, as = [.dat (ea v)] ∧ P ((enumL (f v)).map (eP2 D.int e)) A1) X := ja_cons (h κ _ _ (wp_mono k (fun v k => ja_nil ⟨v, rfl, k⟩) fun _ _ q => q))
  refine this s _ _ hs (fun as xs A1 s1 ⟨v, ee, p⟩ hs1 f1 ok => ?_) hx
  subst ee
  have := ok.dats (ds := [ea v]) rfl
  subst this
  exact ⟨_, _, rfl, q v, by rw [enumD_map]; exact hp _ _ _ p hs1 f1⟩
def zipL : List α → List β → List (α × β)
  | x :: xs, y :: ys => (x, y) :: zipL xs ys
  | _, _ => []
def RvO (t : TDO) (A : AS) (r : Res (Option Int)) : Prop := Rv t A id r
theorem ro_none : Rv dNoPart A id (.ok (none : Option Int)) := fun κ P X k s P' PX hs hp hx => hp _ _ _ k hs (Fr.refl s)
theorem ro_some {r : Res Int} (h : Rv ta A D.int r) : Rv (dPart ta) A id (r.bnd fun i => .ok (some i)) := fun κ P X k s P' PX hs hp hx => by
  rw [wp_bnd] at k
  exact h κ (fun d A1 => ∃ i, d = .int i ∧ P (some i) A1) X (wp_mono k (fun i k => ⟨i, rfl, k⟩) fun _ _ q => q) s _ _ hs (fun d A1 s1 ⟨i, ed, p⟩ hs1 f1 => ⟨i, ed, hp _ _ _ p hs1 f1⟩) hx
def cutL (xs : List α) (lo hi : Option Int) : List α := (xs.drop (HT.sIx xs.length 0 lo)).take (HT.sIx xs.length xs.length hi - HT.sIx xs.length 0 lo)
theorem cutD_map (e : α → D) (xs : List α) (lo hi : Option Int) : cutD (xs.map e) lo hi = (cutL xs lo hi).map e := by unfold cutD cutL; simp
theorem rv_sl {ea : List α → D} {tl th : TDO} {r : Res (List α)} {rl rh : Res (Option Int)} (q : ∀ v l u (P : D → Prop), P (ea (cutL v l u)) → rCutD (ea v) l u P) (h : Rv ta A ea r) (hl : Rv tl A id rl) (hh : Rv th A id rh) : Rv (dSl ta tl th) A ea (r.bnd fun v => rl.bnd fun l => rh.bnd fun u => .ok (cutL v l u)) := fun κ P X k s P' PX hs hp hx => by
  rw [wp_bnd] at k
  refine h κ (fun d A1 => ∃ v, d = ea v ∧ A1 = A ∧ wp (rl.bnd fun l => rh.bnd fun u => .ok (cutL v l u)) (fun v => P (ea v) A) (fun c x => X c x A)) X (wp_mono k (fun v k => ⟨v, rfl, rfl, k⟩) fun _ _ q => q) s _ _ hs (fun d A1 s1 ⟨v, ed, eA, k⟩ hs1 f1 => ?_) hx
  subst ed; subst eA
  rw [wp_bnd] at k
  refine hl κ (fun l A2 => A2 = A1 ∧ wp (rh.bnd fun u => .ok (cutL v l u)) (fun v => P (ea v) A1) (fun c x => X c x A1)) X (wp_mono k (fun v k => ⟨rfl, k⟩) fun _ _ q => q) s1 _ _ hs1 (fun l A2 s2 ⟨eA, k⟩ hs2 f2 => ?_) hx
  subst eA
  rw [wp_bnd] at k
  exact hh κ (fun u A3 => A3 = A2 ∧ P (ea (cutL v l u)) A2) X (wp_mono k (fun v k => ⟨rfl, k⟩) fun _ _ q => q) s2 _ _ hs2 (fun u A3 s3 ⟨eA, k⟩ hs3 f3 => by subst eA; exact q v l u _ (hp _ _ _ k hs3 ((f1.trans f2).trans f3))) hx
theorem ct_T (e : α → D) (v : List α) (l u : Option Int) (P : D → Prop) (h : P (eT e (cutL v l u))) : rCutD (eT e v) l u P := by
  show P (.tup (cutD (v.map e) l u)); rw [cutD_map]; exact h
theorem ct_L (e : α → D) (v : List α) (l u : Option Int) (P : D → Prop) (h : P (eL e (cutL v l u))) : rCutD (eL e v) l u P := by
  show P (.lst (cutD (v.map e) l u)); rw [cutD_map]; exact h
theorem rv_slL {e : α → D} {tl th : TDO} {r : Res (List α)} {rl rh : Res (Option Int)} (h : Rv ta A (eL e) r) (hl : Rv tl A id rl) (hh : Rv th A id rh) : Rv (dSlL ta tl th) A (List.map e) (r.bnd fun v => rl.bnd fun l => rh.bnd fun u => .ok (cutL v l u)) := fun κ P X k s P' PX hs hp hx => by
  rw [wp_bnd] at k
  refine h κ (fun d A1 => ∃ v, d = eL e v ∧ A1 = A ∧ wp (rl.bnd fun l => rh.bnd fun u => .ok (cutL v l u)) (fun v => P (v.map e) A) (fun c x => X c x A)) X (wp_mono k (fun v k => ⟨v, rfl, rfl, k⟩) fun _ _ q => q) s _ _ hs (fun d A1 s1 ⟨v, ed, eA, k⟩ hs1 f1 => ?_) hx
  subst ed; subst eA
  rw [wp_bnd] at k
  refine hl κ (fun l A2 => A2 = A1 ∧ wp (rh.bnd fun u => .ok (cutL v l u)) (fun v => P (v.map e) A1) (fun c x => X c x A1)) X (wp_mono k (fun v k => ⟨rfl, k⟩) fun _ _ q => q) s1 _ _ hs1 (fun l A2 s2 ⟨eA, k⟩ hs2 f2 => ?_) hx
  subst eA
  rw [wp_bnd] at k
  exact hh κ (fun u A3 => A3 = A2 ∧ P ((cutL v l u).map e) A2) X (wp_mono k (fun v k => ⟨rfl, k⟩) fun _ _ q => q) s2 _ _ hs2 (fun u A3 s3 ⟨eA, k⟩ hs3 f3 => by subst eA; exact ⟨_, rfl, by rw [cutD_map]; exact hp _ _ _ k hs3 ((f1.trans f2).trans f3)⟩) hx
theorem rv_opF {r : D → D → (List D → Prop) → Prop} {σ1 σ2 : Type} {e1 : σ1 → D} {e2 : σ2 → D} {e : τ → D} {ra : Res σ1} {rb : Res σ2} {m : σ1 → σ2 → Res (List τ)} (ha : Rv ta A e1 ra) (hb : Rv tb A e2 rb) (hne : ∀ a b c x, m a b ≠ .er c x) (hr : ∀ a b (P : List D → Prop) (X : Str → D → Prop), wp (m a b) (fun l => P (l.map e)) X → r (e1 a) (e2 b) P) : Rv (dOpF r ta tb) A (List.map e) (ra.bnd fun a => rb.bnd fun b => m a b) := fun κ P X k s P' PX hs hp hx => by
  rw [wp_bnd] at k
  refine ha κ (fun d A1 => ∃ v, d = e1 v ∧ A1 = A ∧ wp (rb.bnd fun b => m v b) (fun v => P (v.map e) A) (fun c x => X c x A)) X (wp_mono k (fun v k => ⟨v, rfl, rfl, k⟩) fun _ _ q => q) s _ _ hs (fun d A1 s1 ⟨v, ed, eA, k⟩ hs1 f1 => ?_) hx
  subst ed; subst eA
  rw [wp_bnd] at k
  exact hb κ (fun d A2 => ∃ u, d = e2 u ∧ A2 = A1 ∧ wp (m v u) (fun v => P (v.map e) A1) (fun c x => X c x A1)) X (wp_mono k (fun v k => ⟨v, rfl, rfl, k⟩) fun _ _ q => q) s1 _ _ hs1 (fun d A2 s2 ⟨u, ed, eA, k⟩ hs2 f2 => by
    subst ed; subst eA
    exact hr v u _ (fun _ _ => False) (by
      cases e : m v u with
      | ok l => rw [e] at k; exact hp _ _ _ k hs2 (f1.trans f2)
      | er c x => exact (hne _ _ _ _ e).elim
      | no => rw [e] at k; exact k.elim)) hx
theorem grd_ne {p : Prop} [Decidable p] {v : α} (c : Str) (x : D) : grd p v ≠ .er c x := by
  unfold grd
  by_cases q : p
  · rw [if_pos q]; exact fun h => nomatch h
  · rw [if_neg q]; exact fun h => nomatch h
theorem repR_ne {a : List α} {k : Int} (c : Str) (x : D) : repR a k ≠ .er c x := grd_ne c x
theorem maxR_ne {l : List Int} (c : Str) (x : D) : maxR l ≠ .er c x := grd_ne c x
theorem minR_ne {l : List Int} (c : Str) (x : D) : minR l ≠ .er c x := grd_ne c x
theorem opf_rep (e : τ → D) (a : List τ) (k : Int) (P : List D → Prop) (X : Str → D → Prop) (h : wp (repR a k) (fun l => P (l.map e)) X) : rRepF (eL e a) (.int k) P := ⟨by simpa using (wp_grd h).1, by rw [map_rep]; exact (wp_grd h).2⟩
end
end MR
namespace MR
open PySem L2 DL
section
variable {τ : Type} {κ : Kt} {A : AS} {X : AX} {sp : SpD} {e : τ → D}
theorem rv_call1 {s0 : Type} {t0 : TD} {e0 : s0 → D} {r0 : Res s0} {m : s0 → Res τ} (h0 : Rv t0 A e0 r0) (hc : ∀ a0, Call0 sp [e0 a0] e (m a0)) : Rv (dCall sp (dCons t0 (dNil))) A e (r0.bnd fun a0 => m a0) := fun κ P X k => by
  refine j_call0 ?_
  rw [wp_bnd] at k
  refine ja_cons (h0 κ _ _ (wp_mono k (fun a0 k => ?_) fun _ _ q => q))
  exact ja_nil ⟨_, rfl, τ, e, _, hc a0, k⟩
theorem rv_call2 {s0 : Type} {s1 : Type} {t0 : TD} {e0 : s0 → D} {t1 : TD} {e1 : s1 → D} {r0 : Res s0} {r1 : Res s1} {m : s0 → s1 → Res τ} (h0 : Rv t0 A e0 r0) (h1 : Rv t1 A e1 r1) (hc : ∀ a0 a1, Call0 sp [e0 a0, e1 a1] e (m a0 a1)) : Rv (dCall sp (dCons t0 (dCons t1 (dNil)))) A e (r0.bnd fun a0 => r1.bnd fun a1 => m a0 a1) := fun κ P X k => by
  refine j_call0 ?_
  rw [wp_bnd] at k
  refine ja_cons (h0 κ _ _ (wp_mono k (fun a0 k => ?_) fun _ _ q => q))
  rw [wp_bnd] at k
  refine ja_cons (h1 κ _ _ (wp_mono k (fun a1 k => ?_) fun _ _ q => q))
  exact ja_nil ⟨_, rfl, τ, e, _, hc a0 a1, k⟩
theorem rv_call3 {s0 : Type} {s1 : Type} {s2 : Type} {t0 : TD} {e0 : s0 → D} {t1 : TD} {e1 : s1 → D} {t2 : TD} {e2 : s2 → D} {r0 : Res s0} {r1 : Res s1} {r2 : Res s2} {m : s0 → s1 → s2 → Res τ} (h0 : Rv t0 A e0 r0) (h1 : Rv t1 A e1 r1) (h2 : Rv t2 A e2 r2) (hc : ∀ a0 a1 a2, Call0 sp [e0 a0, e1 a1, e2 a2] e (m a0 a1 a2)) : Rv (dCall sp (dCons t0 (dCons t1 (dCons t2 (dNil))))) A e (r0.bnd fun a0 => r1.bnd fun a1 => r2.bnd fun a2 => m a0 a1 a2) := fun κ P X k => by
  refine j_call0 ?_
  rw [wp_bnd] at k
  refine ja_cons (h0 κ _ _ (wp_mono k (fun a0 k => ?_) fun _ _ q => q))
  rw [wp_bnd] at k
  refine ja_cons (h1 κ _ _ (wp_mono k (fun a1 k => ?_) fun _ _ q => q))
  rw [wp_bnd] at k
  refine ja_cons (h2 κ _ _ (wp_mono k (fun a2 k => ?_) fun _ _ q => q))
  exact ja_nil ⟨_, rfl, τ, e, _, hc a0 a1 a2, k⟩
variable {α β : Type} {ea : α → D}
def appR (l : List α) (x : α) : Res (List α) := grd (l.length < sizeLine) (l ++ [x])
theorem m_append {l : List α} {x : α} {K : D → List D → Prop} {XQ : Str → D → Prop} (h : wp (appR l x) (fun l => K .non (l.map ea)) XQ) : EvM fAppend (l.map ea) (ea x) K := ⟨.non, (l ++ [x]).map ea, fun P p => ⟨by simpa using (wp_grd h).1, by simpa using p⟩, (wp_grd h).2⟩
def popAtR (l : List α) (k : Int) : Res (α × List α) := if 0 ≤ k ∧ k < 2 ^ 63 then match l[k.toNat]? with
  | some z => .ok (z, l.eraseIdx k.toNat)
  | none => .no else .no
theorem map_erase (e : α → β) : ∀ (l : List α) (k : Nat), (l.map e).eraseIdx k = (l.eraseIdx k).map e
  | [], _ => rfl
  | x :: l, 0 => rfl
  | x :: l, k + 1 => by simp only [List.map_cons, List.eraseIdx_cons_succ, map_erase e l k]
theorem m_popAt {l : List α} {k : Int} {K : D → List D → Prop} {XQ : Str → D → Prop} (h : wp (popAtR l k) (fun q => K (ea q.1) (q.2.map ea)) XQ) : EvM fPopAt (l.map ea) (.int k) K := by
  unfold popAtR at h
  by_cases c : 0 ≤ k ∧ k < 2 ^ 63
  · rw [if_pos c] at h
    cases z : l[k.toNat]? with
    | none => rw [z] at h; exact h.elim
    | some v =>
      rw [z] at h
      exact ⟨ea v, _, fun P p => ⟨k.toNat, ea v, by rw [Int.toNat_of_nonneg c.1], by rw [Int.toNat_of_nonneg c.1]; exact c.2, by rw [List.getElem?_map, z]; rfl, by rw [map_erase]; exact p⟩, h⟩
  · rw [if_neg c] at h; exact h.elim
def popR (l : List α) : Res (α × List α) := match l[l.length - 1]? with
  | some z => .ok (z, l.dropLast)
  | none => .no
def remR (l : List Int) (x : Int) : Res (List Int) := grd (x ∈ l) (l.erase x)
theorem erase_first (x : Int) : ∀ l : List Int, x ∈ l → ∃ j : Nat, l[j]? = some x ∧ (∀ m : Nat, m < j → l[m]? ≠ some x) ∧ l.eraseIdx j = l.erase x
  | y :: l, h => by
    by_cases c : y = x
    · subst c
      exact ⟨0, rfl, fun m hm => absurd hm (Nat.not_lt_zero m), by simp⟩
    · have hl : x ∈ l := by
        rcases List.mem_cons.mp h with q | q
        · exact absurd q.symm c
        · exact q
      obtain ⟨j, a, b, d⟩ := erase_first x l hl
      refine ⟨j + 1, a, fun m hm => ?_, ?_⟩
      · cases m with
        | zero => simp [c]
        | succ m => exact b m (by omega)
      · rw [List.eraseIdx_cons_succ, d, List.erase_cons_tail (by simpa using c)]
theorem m_remove {l : List Int} {x : Int} {K : D → List D → Prop} {XQ : Str → D → Prop} (h : wp (remR l x) (fun l => K .non (l.map D.int)) XQ) : EvM fRemI (l.map D.int) (.int x) K := by
  obtain ⟨j, a, b, d⟩ := erase_first x l (wp_grd h).1
  exact ⟨.non, (l.erase x).map D.int, fun P p => ⟨l, x, j, rfl, rfl, a, b, by rw [d]; exact p⟩, (wp_grd h).2⟩
def setR (l : List α) (i : Int) (x : α) : Res (List α) := match ixN l.length i with
  | some j => .ok (l.set j x)
  | none => .no
theorem wp_setR {l : List α} {i : Int} {x : α} {Q : List α → Prop} {XQ : Str → D → Prop} (h : wp (setR l i x) Q XQ) : ∃ j, ixN l.length i = some j ∧ Q (l.set j x) := by
  unfold setR at h
  cases e : ixN l.length i with
  | none => rw [e] at h; exact h.elim
  | some j => rw [e] at h; exact ⟨j, rfl, h⟩
def ixR0 (l : List α) (i : Int) : Res α := if 0 ≤ i then ixR l i else .no
def valK [DecidableEq β] (ks : List (β × α)) (k : β) : Option α := (ks.find? fun p => decide (p.1 = k)).map (·.2)
def putK [DecidableEq β] (ks : List (β × α)) (k : β) (d : α) : List (β × α) := if (ks.any fun p => decide (p.1 = k)) = true then ks.map (fun p => if p.1 = k then (p.1, d) else p) else ks ++ [(k, d)]
structure KeyE [DecidableEq β] (ek : β → D) (enc : β → List Int) : Prop where
  k : ∀ a, ∃ ds, ek a = .tup ds ∧ intsD ds = some (enc a)
  i : ∀ a b, enc a = enc b → a = b
abbrev enc2 (p : Int × Int) : List Int := [p.1, p.2]
abbrev enc3 (p : Int × Int × Int) : List Int := [p.1, p.2.1, p.2.2]
theorem intsD_map (xs : List Int) : intsD (xs.map D.int) = some xs := by induction xs with
  | nil => rfl
  | cons x xs ih => simp [intsD, ih]
def putR [DecidableEq β] (ks : List (β × α)) (k : β) (d : α) : Res (List (β × α)) := grd (ks.length < sizeLine) (putK ks k d)
def getR [DecidableEq β] (ks : List (β × α)) (k : β) : Res α := match valK ks k with
  | some v => .ok v
  | none => .no
variable {ta tb : TD}
theorem rv_ixC (i : Nat) {l : List α} {r : Res Int} (e : A[i]? = some (.own (cL ea l))) (h : Rv ta A D.int r) : Rv (dIxC i ta) A ea (r.bnd fun k => ixR l k) := fun κ P X k => by
  rw [wp_bnd] at k
  exact j_ixC i e (h κ _ _ (wp_mono k (fun j k => by
    obtain ⟨v, q, p⟩ := wp_ixR k
    exact ⟨_, j, ea v, e, rfl, by rw [atI_map, q]; rfl, p⟩) fun _ _ q => q))
end
end MR
namespace MR
open PySem L2 DL
section
variable {α β σ τ : Type} {κ : Kt} {A : AS} {N : AN} {X : AX} {ta tb tc : TD}
theorem opr_ok {r : RD} {x y : D} {e : τ → D} {z : τ} (h : ∀ P, P (e z) → r x y P) : OpR r e x y (.ok z) := fun P X k => ⟨_, h, k⟩
theorem rv_pp {r : RD} {e : τ → D} {x y : D} {m : Res τ} (ha : Pv ta A x) (hb : Pv tb A y) (hr : OpR r e x y m) : Rv (dOp r ta tb) A e m := fun κ P X k => j_op (ha κ _ _ (hb κ _ _ (hr.j k)))
theorem rv_rp {r : RD} {e1 : σ → D} {e : τ → D} {y : D} {ra : Res σ} {m : σ → Res τ} (ha : Rv ta A e1 ra) (hb : Pv tb A y) (hr : ∀ a, OpR r e (e1 a) y (m a)) : Rv (dOp r ta tb) A e (ra.bnd m) := fun κ P X k => by
  rw [wp_bnd] at k
  exact j_op (ha κ _ _ (wp_mono k (fun a k => hb κ _ _ ((hr a).j k)) fun _ _ h => h))
theorem rv_pr {r : RD} {e1 : σ → D} {e : τ → D} {x : D} {rb : Res σ} {m : σ → Res τ} (ha : Pv ta A x) (hb : Rv tb A e1 rb) (hr : ∀ b, OpR r e x (e1 b) (m b)) : Rv (dOp r ta tb) A e (rb.bnd m) := fun κ P X k => by
  rw [wp_bnd] at k
  exact j_op (ha κ _ _ (hb κ _ _ (wp_mono k (fun a k => (hr a).j k) fun _ _ h => h)))
theorem J.use {t : CT α} {e : τ → α} {r r' : Res τ} {f : τ → Res β} {P : α → AS → Prop} {Q : β → Prop} {XQ : Str → D → Prop} (h : wp (r'.bnd f) Q XQ) (p : Rv t A e r) (q : r = r') (k : ∀ v, wp (f v) Q XQ → P (e v) A) (kx : ∀ c x, XQ c x → X c x A) : J κ t A P X := by
  subst q
  rw [wp_bnd] at h
  exact p κ P X (wp_mono h k kx)
theorem J.useT {t : CT α} {e : τ → α} {r r' : Res τ} {P : α → AS → Prop} {Q : τ → Prop} {XQ : Str → D → Prop} (h : wp r' Q XQ) (p : Rv t A e r) (q : r = r') (k : ∀ v, Q v → P (e v) A) (kx : ∀ c x, XQ c x → X c x A) : J κ t A P X := by
  subst q
  exact p κ P X (wp_mono h k kx)
theorem wp_use {r' : Res τ} {f : τ → Res β} {Q : β → Prop} {XQ X' : Str → D → Prop} {P : τ → Prop} (h : wp (r'.bnd f) Q XQ) (k : ∀ v, wp (f v) Q XQ → P v) (kx : ∀ c x, XQ c x → X' c x) : wp r' P X' := by
  rw [wp_bnd] at h
  exact wp_mono h k kx
theorem js_tryX {L : List Str} {t : TSd} {hd : List HdD} {Xq : Str → D → Prop} (hn : κ = κ.off) (hh : ∀ c x, Xq c x → c ∈ L ∧ aSel κ N X hd c x A) (h : JS κ t A N (fun c x A' => Xq c x ∧ Le A' A)) : JS κ (dTry L t hd) A N X := fun s E PX hs he hx =>
  h s _ _ hs he (fun c x A' s' ⟨q, l⟩ hs' => ⟨(hh c x q).1, aSel_ok (by rw [hn]; exact hs'.le l) he hx hd (hh c x q).2⟩)
structure NoLs (e : α → D) : Prop where
  f : ∀ v, noL (e v) = true
theorem noLs_map {e : α → D} (h : NoLs e) (l : List α) : noLs (l.map e) = true := by
  induction l with
  | nil => rfl
  | cons x l ih => simp [h.f, ih]
theorem nl_I : NoLs D.int := ⟨fun _ => rfl⟩
theorem nl_T {e : α → D} (h : NoLs e) : NoLs (eT e) := ⟨fun v => by simpa [eT] using noLs_map h v⟩
theorem nl_P2 {a : α → D} {b : β → D} (ha : NoLs a) (hb : NoLs b) : NoLs (eP2 a b) := ⟨fun v => by simp [eP2, ha.f, hb.f]⟩
theorem tr_L (e : α → D) (l : List α) : truD (eL e l) = some (!l.isEmpty) := by simp [eL]
theorem tr_FL (e : α → D) (l : List α) : truD (eFL e l) = some (!l.isEmpty) := by simp [eFL]
theorem rv_lstO {tr : TDA} {e : α → D} {r : Res (List α)} {l : List α} (h : RvL tr A e r) (q : r = .ok l) (hl : l.length ≤ sizeLine) : Rv (dLst tr) A (List.map e) (.ok l) := fun κ P X k => by
  subst q
  exact j_lst (h κ _ _ ⟨_, datsA_map e l, by simpa using hl, k⟩)
def un2 (l : List α) : Res (α × α) := match l with
  | [a, b] => .ok (a, b)
  | _ => .no
def un3 (l : List α) : Res (α × α × α) := match l with
  | [a, b, c] => .ok (a, b, c)
  | _ => .no
def unD2 : D → Res (D × D)
  | .tup [a, b] => .ok (a, b)
  | _ => .no
def unD3 : D → Res (D × D × D)
  | .tup [a, b, c] => .ok (a, b, c)
  | _ => .no
def ixDR (x : D) (i : Int) : Res D := match x with
  | .lst ds => ixR ds i
  | .tup ds => ixR ds i
  | .fl ds => ixR ds i
  | _ => .no
def asI : D → Res Int
  | .int i => .ok i
  | _ => .no
def asB : D → Res Bool
  | .bl b => .ok b
  | _ => .no
end
end MR
namespace MR
open PySem L2 DL
section
variable {α β γ σ τ : Type} {κ : Kt} {A : AS} {N : AN} {X : AX} {ta tb tc : TD} {wd : TDI} {g : TGd} {tt : TDB} {te : TD} {vs : List Nat}
def aLc (κ : Kt) (g : TGd) (tt : TDB) (te : TD) (vs : List Nat) (ds : List D) (A : AS) (P : List D → AS → Prop) : Prop := ∀ s P', Sat κ s A → (∀ l A' s', P l A' → Sat κ s' A' → Fr s s' → P' l s') → lcD g tt te vs P' ds [] s
theorem j_lc {P : List D → AS → Prop} (h : J κ wd A (fun ds A1 => aLc κ g tt te vs ds A1 P) X) : J κ (dLc wd g tt te vs) A P X := fun s P' PX hs hp hx =>
  h s _ _ hs (fun ds A1 s1 q hs1 f1 => q s1 P' hs1 fun l A' s' p hs' f' => hp l A' s' p hs' (f1.trans f')) hx
theorem al_B (enc : α → D) (e : β → D) (I : σ → AS) {f : σ → α → Res (Option β × σ)} {xs : List α} {st : σ} {P : List D → AS → Prop} {XQ : Str → D → Prop} (hA : A = I st) (hv : vs.all κ.free = true) (tc : Tc vs g) (hI : ∀ a b, SameD (I a) (I b)) (ho : ∀ a, ownsOut (I a) vs = true)
    (h : wp (lcB f xs [] st) (fun r => P (r.1.map e) (I r.2)) XQ)
    (hb : ∀ st x (Q : Option β × σ → Prop), wp (f st x) Q (fun _ _ => False) → JG κ g (enc x) (wipeA (I st) vs) fun A1 => J κ tt A1 (fun b A2 => if b = true then J κ te A2 (fun z A3 => ∃ v st', z = e v ∧ Keep (I st') A3 ∧ Q (some v, st')) (fun _ _ _ => False) else ∃ st', Keep (I st') A2 ∧ Q (none, st')) fun _ _ _ => False) : aLc κ g tt te vs (xs.map enc) A P := fun s P' hs hp => by
  subst hA
  exact a_lcB enc e I hv tc hI ho hb xs [] st s s P' hs (Fr.refl s) hp (lcB_wp h)
theorem al_R (enc : α → D) (e : β → D) {t : α → Res Bool} {f : α → Res β} {xs : List α} {P : List D → AS → Prop} {XQ : Str → D → Prop} (hv : vs.all κ.free = true) (tc : Tc vs g) (ho : ownsOut A vs = true)
    (h : wp (lcR t f xs []) (fun l => P (l.map e) A) XQ) (hb : ∀ x, JG κ g (enc x) (wipeA A vs) fun A1 => Keep A A1 ∧ Rv tt A1 id (t x) ∧ Rv te A1 e (f x)) : aLc κ g tt te vs (xs.map enc) A P := fun s P' hs hp => by
  have hw : Rv (fun (s : S) (P : List D → S → Prop) (_ : KX) => P (xs.map enc) s) A (List.map enc) (.ok xs) := fun κ P X k s P' PX hs hp hx => hp _ _ _ k hs (Fr.refl s)
  exact j_lcR (κ := κ) (A := A) (X := fun _ _ _ => False) (wd := fun s P _ => P (xs.map enc) s) (P := P) (XQ := fun _ _ => False) enc e hv tc ho hw (by rw [ok_bnd]; exact lcR_wp h) (fun _ _ q => q) hb s P' noX hs hp (fun _ _ _ _ q _ => q.elim)
theorem al_P (enc : α → D) (e : β → D) {t : α → Bool} {f : α → β} {xs : List α} {P : List D → AS → Prop} {XQ : Str → D → Prop} (hv : vs.all κ.free = true) (tc : Tc vs g) (ho : ownsOut A vs = true)
    (h : wp (szR ((xs.filter t).map f)) (fun l => P (l.map e) A) XQ) (hb : ∀ x, JG κ g (enc x) (wipeA A vs) fun A1 => Keep A A1 ∧ Pv tt A1 (t x) ∧ Pv te A1 (e (f x))) : aLc κ g tt te vs (xs.map enc) A P :=
  al_R (t := fun x => .ok (t x)) (f := fun x => .ok (f x)) enc e hv tc ho (by rw [lcR_pure]; exact h) fun x s P2 hs hp => hb x s P2 hs fun A1 s1 ⟨hk, ht, he⟩ hs1 => hp A1 s1 ⟨hk, fun κ P X k => ht κ P X k, fun κ P X k => he κ P X k⟩ hs1
theorem al_M (enc : α → D) (e : β → D) {f : α → β} {xs : List α} {P : List D → AS → Prop} {XQ : Str → D → Prop} (hv : vs.all κ.free = true) (tc : Tc vs g) (ho : ownsOut A vs = true)
    (h : wp (szR (xs.map f)) (fun l => P (l.map e) A) XQ) (hb : ∀ x, JG κ g (enc x) (wipeA A vs) fun A1 => Keep A A1 ∧ Pv tt A1 true ∧ Pv te A1 (e (f x))) : aLc κ g tt te vs (xs.map enc) A P :=
  al_P (t := fun _ => true) enc e hv tc ho (by rw [List.filter_eq_self.mpr (fun _ _ => rfl)]; exact h) hb
theorem ji_iter {t : TD} {P : List D → AS → Prop} (h : J κ t A (fun d A1 => ∃ ds, seqD d = some ds ∧ P ds A1) X) : J κ (dIter t) A P X := fun s P' PX hs hp hx => h s _ _ hs (fun d A1 s1 ⟨ds, e, p⟩ hs1 f1 => ⟨ds, e, hp _ _ _ p hs1 f1⟩) hx
theorem ji_range1 {t : TDA} {P : List D → AS → Prop} (h : JA κ t A (fun as A1 => ∃ n, as = [.dat (.int n)] ∧ wp (rngR 0 n) (fun l => P (l.map D.int) A1) (fun _ _ => False)) X) : J κ (dRange1 t) A P X := fun s P' PX hs hp hx => h s _ _ hs (fun as xs A1 s1 ⟨n, e, p⟩ hs1 f1 ok => by
  subst e
  have := ok.dats (ds := [D.int n]) rfl
  subst this
  exact ⟨n, rfl, (wp_grd p).1.2, by have e := rangeD_rng 0 n; rw [Int.sub_zero] at e; rw [e]; exact hp _ _ _ (wp_grd p).2 hs1 f1⟩) hx
theorem grd_wp {p : Prop} [Decidable p] {v : α} {f : α → Res β} {Q : β → Prop} {XQ X' : Str → D → Prop} {P : α → Prop} (h : wp ((grd p v).bnd f) Q XQ) (k : ∀ v, wp (f v) Q XQ → P v) : wp (grd p v) P X' := by
  unfold grd at *
  by_cases c : p
  · rw [if_pos c] at *; exact k _ h
  · rw [if_neg c] at h; exact h.elim
theorem rngR_wp {a b : Int} {f : List Int → Res β} {Q : β → Prop} {XQ X' : Str → D → Prop} {P : List Int → Prop} (h : wp ((rngR a b).bnd f) Q XQ) (k : ∀ v, wp (f v) Q XQ → P v) : wp (rngR a b) P X' := grd_wp h k
theorem CbR.ev {r : RCd} {x : D} {e : τ → D} {v : τ} (c : CbR r x e (.ok v)) (M : Mem) (P : D → Prop) (p : P (e v)) : r ([x].map .dat) M P := by
  obtain ⟨z, q, hz⟩ := c (fun z => z = e v) (fun _ _ => False) rfl
  subst hz
  exact q M P p
theorem CbR.use {r : RCd} {x : D} {e : τ → D} {m : Res τ} {f : τ → Res β} {Q : β → Prop} {XQ : Str → D → Prop} (c : CbR r x e m) (h : wp (m.bnd f) Q XQ) (hne : ∀ c x, m ≠ .er c x) : ∃ v, (∀ (M : Mem) (P : D → Prop), P (e v) → r ([x].map .dat) M P) ∧ wp (f v) Q XQ := by
  rw [wp_bnd] at h
  cases q : m with
  | ok v => rw [q] at h c; exact ⟨v, fun M P p => c.ev M P p, h⟩
  | er c x => exact (hne c x q).elim
  | no => rw [q] at h; exact h.elim
theorem lenDR_ne (d : D) (c : Str) (x : D) : lenDR d ≠ .er c x := by cases d <;> exact fun h => (by cases h)
theorem setR_use {ea : α → D} {l : List α} {i : Int} {x : α} {f : List α → Res β} {Q : β → Prop} {XQ : Str → D → Prop} (h : wp ((setR l i x).bnd f) Q XQ) : ∃ y j, ixN (l.map ea).length i = some j ∧ (l.map ea).set j (ea x) = y.map ea ∧ wp (f y) Q XQ := by
  rw [wp_bnd] at h
  obtain ⟨j, q, p⟩ := wp_setR h
  exact ⟨_, j, by simpa using q, by rw [List.map_set], p⟩
theorem hdl_c {c C : Str} {m1 m2 : Res α} {Q : α → Prop} {XQ : Str → D → Prop} {p q : Prop} (h : wp (cond (subE c C) m1 m2) Q XQ) (k1 : wp m1 Q XQ → p) (k2 : wp m2 Q XQ → q) : (subE c C = true → p) ∧ (subE c C = false → q) := by
  cases e : subE c C with
  | true => rw [e] at h; exact ⟨fun _ => k1 h, fun q => Bool.noConfusion q⟩
  | false => rw [e] at h; exact ⟨fun q => Bool.noConfusion q, fun _ => k2 h⟩
theorem hdl_in {L : List Str} {c : Str} {m : Res α} {Q : α → Prop} {XQ : Str → D → Prop} {p : Prop} (h : wp (cond (decide (c ∈ L)) m .no) Q XQ) (k : wp m Q XQ → p) : c ∈ L ∧ p := by
  by_cases q : c ∈ L
  · rw [decide_eq_true q] at h; exact ⟨q, k h⟩
  · rw [decide_eq_false q] at h; exact h.elim
def CallF (sp : SpF) (ds : List D) {τ : Type} (e : τ → D) (m : Res (List τ)) : Prop := ∀ P, wp m (fun l => P (l.map e)) (fun _ _ => False) → sp (ds.map .dat) [] P
theorem rv_callF2 {s1 s2 : Type} {e1 : s1 → D} {e2 : s2 → D} {e : τ → D} {sp : SpF} {r1 : Res s1} {r2 : Res s2} {m : s1 → s2 → Res (List τ)} (h1 : Rv ta A e1 r1) (h2 : Rv tb A e2 r2) (hc : ∀ a b, CallF sp [e1 a, e2 b] e (m a b)) (hne : ∀ a b c x, m a b ≠ .er c x) : Rv (dCallF sp (dCons ta (dCons tb dNil))) A (List.map e) (r1.bnd fun a => r2.bnd fun b => m a b) := fun κ P X k s P' PX hs hp hx => by
  rw [wp_bnd] at k
  have : JA κ (dCons ta (dCons tb dNil)) A (fun as A1 => ∃ a b, as = [.dat (e1 a), .dat (e2 b)] ∧ wp (m a b) (fun l => P (l.map e) A1) (fun c x => X c x A1)) X := by
    refine ja_cons (h1 κ _ _ (wp_mono k (fun a k => ?_) fun _ _ q => q))
    rw [wp_bnd] at k
    exact ja_cons (h2 κ _ _ (wp_mono k (fun b k => ja_nil ⟨a, b, rfl, k⟩) fun _ _ q => q))
  refine this s _ _ hs (fun as xs A1 s1 ⟨a, b, ee, w⟩ hs1 f1 ok => ?_) hx
  subst ee
  have := ok.dats (ds := [e1 a, e2 b]) rfl
  subst this
  refine ⟨rfl, hc a b _ ?_⟩
  cases e : m a b with
  | ok l => rw [e] at w; exact hp _ _ _ w hs1 f1
  | er c x => exact (hne _ _ _ _ e).elim
  | no => rw [e] at w; exact w
def FUEL : Nat := 1000000000000
end
end MR
namespace MR
open PySem L2 DL
section
variable {α β γ δ σ τ : Type} {κ : Kt} {A : AS} {N : AN} {X : AX} {ta tb tc : TD}
structure Nar (n : D → Res α) (e : α → D) : Prop where
  ok : ∀ d v, n d = .ok v → d = e v
  ne : ∀ d c x, n d ≠ .er c x
theorem rv_nar {n : D → Res α} {e : α → D} {t : TD} {r : Res D} (hn : Nar n e) (h : Rv t A id r) : Rv t A e (r.bnd n) := fun κ P X k => by
  rw [wp_bnd] at k
  refine h κ _ _ (wp_mono k (fun d k => ?_) fun _ _ q => q)
  cases q : n d with
  | ok v => rw [q] at k; rw [hn.ok d v q]; exact k
  | er c x => exact (hn.ne _ _ _ q).elim
  | no => rw [q] at k; exact k.elim
def nD : D → Res D := fun d => .ok d
def nN : D → Res Unit
  | .non => .ok ()
  | _ => .no
def nW : D → Res Wd
  | .str s => if h : PyData.strOk s = true then .ok ⟨s, h⟩ else .no
  | _ => .no
def nP1 (a : D → Res α) : D → Res α
  | .tup [x] => a x
  | _ => .no
def nP2 (a : D → Res α) (b : D → Res β) : D → Res (α × β)
  | .tup [x, y] => (a x).bnd fun u => (b y).bnd fun v => .ok (u, v)
  | _ => .no
def nP3 (a : D → Res α) (b : D → Res β) (c : D → Res γ) : D → Res (α × β × γ)
  | .tup [x, y, z] => (a x).bnd fun u => (b y).bnd fun v => (c z).bnd fun w => .ok (u, v, w)
  | _ => .no
def nP4 (a : D → Res α) (b : D → Res β) (c : D → Res γ) (d : D → Res δ) : D → Res (α × β × γ × δ)
  | .tup [x, y, z, t] => (a x).bnd fun u => (b y).bnd fun v => (c z).bnd fun w => (d t).bnd fun s => .ok (u, v, w, s)
  | _ => .no
def mapR (n : α → Res β) : List α → Res (List β)
  | [] => .ok []
  | x :: xs => (n x).bnd fun y => (mapR n xs).bnd fun ys => .ok (y :: ys)
def nT (n : D → Res α) : D → Res (List α)
  | .tup ds => mapR n ds
  | _ => .no
def nL (n : D → Res α) : D → Res (List α)
  | .lst ds => mapR n ds
  | _ => .no
theorem bnd_okE {r : Res α} {f : α → Res β} {v : β} (h : r.bnd f = .ok v) : ∃ a, r = .ok a ∧ f a = .ok v := by
  cases r with
  | ok a => exact ⟨a, rfl, h⟩
  | er c x => cases h
  | no => cases h
theorem ok_neer {v : α} (c : Str) (x : D) : Res.ok v ≠ .er c x := fun h => (by cases h)
theorem bnd_neE {r : Res α} {f : α → Res β} (h : ∀ c x, r ≠ .er c x) (k : ∀ a c x, f a ≠ .er c x) (c : Str) (x : D) : r.bnd f ≠ .er c x := by
  cases r with
  | ok a => exact k a c x
  | er c x => exact (h _ _ rfl).elim
  | no => exact fun h => nomatch h
theorem na_I : Nar asI D.int := ⟨fun d v h => (by cases d <;> first | (cases h; done) | (cases h; rfl)), fun d c x h => (by cases d <;> cases h)⟩
theorem mapR_ok {n : D → Res α} {e : α → D} (h : Nar n e) : ∀ ds v, mapR n ds = .ok v → ds = v.map e
  | [], v, q => by cases q; rfl
  | d :: ds, v, q => by
    obtain ⟨u, h1, q⟩ := bnd_okE q
    obtain ⟨w, h2, q⟩ := bnd_okE q
    cases q
    rw [h.ok _ _ h1, mapR_ok h ds w h2]; rfl
theorem mapR_ne {n : D → Res α} {e : α → D} (h : Nar n e) : ∀ ds c x, mapR n ds ≠ .er c x
  | [], c, x => fun q => nomatch q
  | d :: ds, c, x => bnd_neE (h.ne _) (fun _ => bnd_neE (mapR_ne h ds) fun _ => ok_neer) _ _
theorem na_T {n : D → Res α} {e : α → D} (h : Nar n e) : Nar (nT n) (eT e) where
  ok d v q := by
    cases d <;> first | (cases q; done) | exact congrArg D.tup (mapR_ok h _ _ q)
  ne d c x q := by
    cases d <;> first | (cases q; done) | exact mapR_ne h _ _ _ q
@[simp] theorem asI_int (i : Int) : asI (.int i) = .ok i := rfl
@[simp] theorem asB_bl (b : Bool) : asB (.bl b) = .ok b := rfl
@[simp] theorem nW_eW (w : Wd) : nW (eW w) = .ok w := by unfold nW eW; exact dif_pos w.2
@[simp] theorem nD_ok (d : D) : nD d = .ok d := rfl
@[simp] theorem nP2_e {a : D → Res α} {b : D → Res β} {ea : α → D} {eb : β → D} (v : α × β) : nP2 a b (eP2 ea eb v) = (a (ea v.1)).bnd fun u => (b (eb v.2)).bnd fun w => .ok (u, w) := rfl
@[simp] theorem nP3_e {a : D → Res α} {b : D → Res β} {c : D → Res γ} {ea : α → D} {eb : β → D} {ec : γ → D} (v : α × β × γ) : nP3 a b c (eP3 ea eb ec v) = (a (ea v.1)).bnd fun u => (b (eb v.2.1)).bnd fun w => (c (ec v.2.2)).bnd fun z => .ok (u, w, z) := rfl
@[simp] theorem unD3_e {ea : α → D} {eb : β → D} {ec : γ → D} (v : α × β × γ) : unD3 (eP3 ea eb ec v) = .ok (ea v.1, eb v.2.1, ec v.2.2) := rfl
@[simp] theorem unD2_e {ea : α → D} {eb : β → D} (v : α × β) : unD2 (eP2 ea eb v) = .ok (ea v.1, eb v.2) := rfl
theorem mapR_map {n : β → Res γ} {f : α → β} {g : α → γ} (h : ∀ x, n (f x) = .ok (g x)) : ∀ l : List α, mapR n (l.map f) = .ok (l.map g)
  | [] => rfl
  | x :: l => by rw [List.map_cons, mapR, h, ok_bnd, mapR_map h l]; rfl
theorem Pv.cast {t : CT α} {a b : α} (h : Pv t A a) (e : a = b) : Pv t A b := e ▸ h
theorem eT_id (e : α → D) (l : List α) : eT e l = eT id (l.map e) := by simp [eT]
def insR (l : List α) (i : Int) (x : α) : Res (List α) := grd (0 ≤ i ∧ i < 2 ^ 63 ∧ l.length < sizeLine) (l.take i.toNat ++ [x] ++ l.drop i.toNat)
end
end MR
namespace MR
open PySem L2 DL
section
variable {α β γ σ τ : Type} {κ : Kt} {A : AS} {X : AX} {ta tb tc : TD}
theorem js_midW {κ : Kt} {A : AS} {N : AN} {X : AX} {t u : TSd} {m : Res β} {f : β → Res γ} {QF : γ → Prop} {XQ : Str → D → Prop} (h : wp (m.bnd f) QF XQ) (I : β → AS) (h1 : wp m (fun b => wp (f b) QF XQ) XQ → JS κ t A (nxA (fun A1 => ∃ b, Le A1 (I b) ∧ wp (f b) QF XQ) N) X) (k : ∀ b, wp (f b) QF XQ → JS κ u (I b) N X) : JS κ (dSeq t u) A N X := by
  rw [wp_bnd] at h
  exact js_mid I _ (h1 h) k
theorem cutW {κ : Kt} {A : AS} {X : AX} {t : CT α} {P : α → AS → Prop} {m : Res β} {f : β → Res γ} {QF : γ → Prop} {XQ : Str → D → Prop} (h : wp (m.bnd f) QF XQ) (I : β → AS) (g : β → α) (h1 : wp m (fun b => wp (f b) QF XQ) XQ → J κ t A (fun a A1 => ∃ v, a = g v ∧ A1 = I v ∧ wp (f v) QF XQ) X) (k : ∀ v, wp (f v) QF XQ → P (g v) (I v)) : J κ t A P X := by
  rw [wp_bnd] at h
  exact J.cut I g _ (h1 h) k
theorem js_tryW {κ : Kt} {A : AS} {N : AN} {X : AX} {L : List Str} {t : TSd} {hds : List HdD} {m : Res β} {hd : Str → D → Res β} {QF : β → Prop} {XQ : Str → D → Prop} (h : wp (m.tr hd) QF XQ) (hn : κ = κ.off) (hh : ∀ c x, wp (hd c x) QF XQ → c ∈ L ∧ aSel κ N X hds c x A) (hb : wp m QF (fun c x => wp (hd c x) QF XQ) → JS κ t A N (fun c x A' => wp (hd c x) QF XQ ∧ Le A' A)) : JS κ (dTry L t hds) A N X := by
  rw [wp_tr] at h
  exact js_tryX hn hh (hb h)
theorem nlf {κ : Kt} {p : Prop} (h : κ.nl = false) : κ.nl = true → p := fun q => by rw [h] at q; cases q
end
end MR
namespace MR
open PySem L2 DL
section
variable {κ : Kt} {A : AS}
def JN (κ : Kt) (t : S → (List D → S → Prop) → KX → Prop) (A : AS) (P : List D → AS → Prop) : Prop := ∀ s P', Sat κ s A → (∀ l A' s', P l A' → Sat κ s' A' → P' l s') → t s P' noX
theorem jn_seq {t : TSd} {u : S → (List D → S → Prop) → KX → Prop} {P : List D → AS → Prop} (h : JS κ t A ⟨fun A1 => JN κ u A1 P, fun _ _ => False, fun _ => False, fun _ => False⟩ (fun _ _ _ => False)) : JN κ (dSeqF t u) A P := fun s P' hs hp =>
  h s _ _ hs ⟨fun A1 s1 q hs1 => q s1 P' hs1 hp, fun _ _ _ q _ => q, fun _ _ q _ => q, fun _ _ q _ => q⟩ (fun _ _ _ _ q _ => q)
theorem jn_midW {β γ : Type} {t : TSd} {u : S → (List D → S → Prop) → KX → Prop} {P : List D → AS → Prop} {m : Res β} {f : β → Res γ} {QF : γ → Prop} {XQ : Str → D → Prop} (h : wp (m.bnd f) QF XQ) (I : β → AS) (h1 : wp m (fun b => wp (f b) QF XQ) XQ → JS κ t A (nxA (fun A1 => ∃ b, Le A1 (I b) ∧ wp (f b) QF XQ) ⟨fun _ => False, fun _ _ => False, fun _ => False, fun _ => False⟩) (fun _ _ _ => False)) (k : ∀ b, wp (f b) QF XQ → JN κ u (I b) P) : JN κ (dSeqF t u) A P := fun s P' hs hp => by
  rw [wp_bnd] at h
  exact h1 h s _ _ hs ⟨fun A1 s1 ⟨b, l, q⟩ hs1 => k b q s1 P' (hs1.le l) hp, fun _ _ _ q _ => q, fun _ _ q _ => q, fun _ _ q _ => q⟩ (fun _ _ _ _ q _ => q)
theorem js_midS {β ω γ : Type} {N : AN} {X : AX} {t u : TSd} {m : Res (Stp β ω)} {k : β → Res γ} {r : ω → Res γ} {QF : γ → Prop} {XQ : Str → D → Prop} (h : wp (m.bnd fun st => st.on k r) QF XQ) (I : β → AS) (h1 : wp m (fun st => wp (st.on k r) QF XQ) XQ → JS κ t A (nxA (fun A1 => ∃ b, Le A1 (I b) ∧ wp (k b) QF XQ) N) X) (k1 : ∀ b, wp (k b) QF XQ → JS κ u (I b) N X) : JS κ (dSeq t u) A N X := by
  rw [wp_bnd] at h
  exact js_mid I (fun b => wp (k b) QF XQ) (h1 h) k1
theorem js_norm {t : TSd} {N : AN} {X : AX} (B : AS) (e : A = B) (h : JS κ t B N X) : JS κ t A N X := by rw [e]; exact h
theorem jn_last {tf : TDF} {P : List D → AS → Prop} (h : J κ tf A P (fun _ _ _ => False)) : JN κ tf A P := fun s P' hs hp => h s P' noX hs (fun l A' s' q hs' _ => hp l A' s' q hs') (fun _ _ _ _ q _ => q)
theorem startF {N : List Str} {ds : List D} {td : S → (List D → S → Prop) → KX → Prop} {P : List D → Prop} (A : AS) (hA : A = ds.map .dat ++ List.replicate (N.length - ds.length) .no) (h : JN ⟨false, []⟩ td A (fun l _ => P l)) : td (startS N (ds.map .dat) []) (fun ds _ => P ds) noX :=
  h _ _ (sat0 N ds A hA) fun _ _ _ q _ => q
end
end MR
namespace MR
open PySem L2 DL
section
variable {α β γ σ τ ρ : Type}
theorem mulR_ok {i j : Int} (h : (-(2 ^ 64) < i ∧ i < 2 ^ 64) ∨ (-(2 ^ 64) < j ∧ j < 2 ^ 64)) : mulR i j = .ok (i * j) := grd_ok (.inl h)
theorem modR_ok {i j : Int} (h : 0 < j) : modR i j = .ok (i % j) := grd_ok h
theorem divR_ok {i j : Int} (h : 0 < j) (h2 : j < 2 ^ 200) : divR i j = .ok (i / j) := grd_ok ⟨h, by
  have h1 : j.natAbs ≠ 0 := by omega
  have h2 : j.natAbs < 2 ^ 200 := by omega
  have := (Nat.log2_lt h1).mpr h2
  omega⟩
theorem small_of {i : Int} (h : -1000000000000000000 ≤ i) (h2 : i ≤ 1000000000000000000) : small i := by unfold small; omega
theorem rngR_ok {a b : Int} (h1 : -1000000000000000000 ≤ a) (h2 : a ≤ 1000000000000000000) (h3 : -1000000000000000000 ≤ b) (h4 : b ≤ 1000000000000000000) : rngR a b = .ok (rng a b) := grd_ok ⟨small_of h1 h2, small_of h3 h4⟩
theorem rng_mem {a b x : Int} : x ∈ rng a b ↔ a ≤ x ∧ x < b := by
  unfold rng
  simp only [List.mem_map, List.mem_range]
  constructor
  · rintro ⟨i, h, rfl⟩; omega
  · intro h; exact ⟨(x - a).toNat, by omega, by omega⟩
theorem rng_len (a b : Int) : (rng a b).length = (b - a).toNat := by simp [rng]
theorem rng_nodup (a b : Int) : (rng a b).Nodup := by
  unfold rng
  refine List.Pairwise.map _ (fun x y h => ?_) List.nodup_range
  omega
theorem rng_nil {a b : Int} (h : b ≤ a) : rng a b = [] := by
  unfold rng; rw [show (b - a).toNat = 0 by omega]; rfl
theorem rng_cons {a b : Int} (h : a < b) : rng a b = a :: rng (a + 1) b := by
  unfold rng
  rw [show (b - a).toNat = (b - (a + 1)).toNat + 1 by omega, List.range_succ_eq_map]
  simp only [List.map_cons, List.map_map]
  congr 1
  · simp
  · apply List.map_congr_left; intro i _; simp only [Function.comp]; omega
theorem rng0 (n : Nat) : rng 0 (n : Int) = rangeI n := by unfold rng rangeI; simp
theorem rng_get {a b : Int} {i : Nat} (h : i < (b - a).toNat) : (rng a b)[i]? = some (a + i) := by unfold rng; rw [List.getElem?_map, List.getElem?_range h]; rfl
theorem szR_ok {l : List α} (h : l.length ≤ sizeLine) : szR l = .ok l := if_pos h
theorem szR_ok' {l : List α} (h : l.length ≤ 16000000) : szR l = .ok l := szR_ok (Nat.le_trans h (by decide))
theorem appR_ok {l : List α} {x : α} (h : l.length < 16000000) : appR l x = .ok (l ++ [x]) := grd_ok (Nat.lt_of_lt_of_le h (by decide))
theorem catR_ok {a b : List α} (h : a.length + b.length ≤ 16000000) : catR a b = .ok (a ++ b) := grd_ok (Nat.le_trans h (by decide))
theorem repR_ok {a : List α} {k : Int} (h : 0 ≤ k) (h2 : k ≤ 100000) (h3 : a.length ≤ 100) : repR a k = .ok (List.replicate k.toNat a).flatten := grd_ok ⟨by omega, by omega, by
  have : a.length * k.toNat ≤ 100 * 100000 := Nat.mul_le_mul h3 (by omega)
  exact Nat.le_trans this (by decide)⟩
theorem rep_one (x : α) (k : Nat) : (List.replicate k [x]).flatten = List.replicate k x := by
  induction k with
  | zero => rfl
  | succ k ih => simp [List.replicate_succ, ih]
theorem repTR'_ok {a : List α} {k : Int} (h : a.isEmpty = false) (h2 : -1000 ≤ k) (h3 : k ≤ 2000) (h4 : a.length ≤ 1000) : repTR' a k = .ok (List.replicate k.toNat a).flatten := grd_ok ⟨h, h2, h3, h4⟩
theorem maxR_ok {l : List Int} (h : l ≠ []) : maxR l = .ok (maxI l) := grd_ok h
theorem atI_pos {xs : List α} {i : Int} (h : 0 ≤ i) : atI xs i = xs[i.toNat]? := by
  unfold atI ixN
  rw [if_pos h]
  by_cases c : i < xs.length
  · rw [if_pos c]; rfl
  · rw [if_neg c, List.getElem?_eq_none (by omega)]; rfl
theorem ixR_at {xs : List α} {i : Int} (h0 : 0 ≤ i) (h : i < xs.length) : ∃ v, xs[i.toNat]? = some v ∧ ixR xs i = .ok v := by
  have hl : i.toNat < xs.length := by omega
  exact ⟨xs[i.toNat], List.getElem?_eq_getElem hl, ixR_ok (by rw [atI_pos h0]; exact List.getElem?_eq_getElem hl)⟩
theorem ixR_getD {xs : List α} {i : Int} (d : α) (h0 : 0 ≤ i) (h : i < xs.length) : ixR xs i = .ok (xs.getD i.toNat d) := by
  obtain ⟨v, e, q⟩ := ixR_at h0 h
  rw [q, List.getD_eq_getElem?_getD, e]; rfl
theorem ixR_mem {xs : List α} {i : Int} {v : α} (h : ixR xs i = .ok v) : v ∈ xs := by
  unfold ixR at h
  cases e : atI xs i with
  | none => rw [e] at h; cases h
  | some w =>
    rw [e] at h; cases h
    unfold atI at e
    cases q : ixN xs.length i with
    | none => rw [q] at e; cases e
    | some j => rw [q] at e; exact List.mem_of_getElem? e
theorem setR_ok {l : List α} {i : Int} {x : α} (h0 : 0 ≤ i) (h : i < l.length) : setR l i x = .ok (l.set i.toNat x) := by
  unfold setR ixN
  rw [if_pos h0, if_pos h]
theorem popAtR_ok {l : List α} {k : Int} (h0 : 0 ≤ k) (h : k < l.length) (hl : l.length < 2 ^ 62) : ∃ v, l[k.toNat]? = some v ∧ popAtR l k = .ok (v, l.eraseIdx k.toNat) := by
  have hk : k.toNat < l.length := by omega
  refine ⟨l[k.toNat], List.getElem?_eq_getElem hk, ?_⟩
  unfold popAtR
  rw [if_pos ⟨h0, by omega⟩, List.getElem?_eq_getElem hk]
theorem remR_ok {l : List Int} {x : Int} (h : x ∈ l) : remR l x = .ok (l.erase x) := grd_ok h
theorem forR_rec (I : List α → β → Prop) {f : β → α → Res β} (k : ∀ x xs b, I (x :: xs) b → ∃ b', f b x = .ok b' ∧ I xs b') : ∀ {xs : List α} {b : β}, I xs b → ∃ b', forR f xs b = .ok b' ∧ I [] b'
  | [], b, h => ⟨b, rfl, h⟩
  | x :: xs, b, h => by
    obtain ⟨b1, e, h1⟩ := k x xs b h
    obtain ⟨b2, e2, h2⟩ := forR_rec I k h1
    exact ⟨b2, by rw [forR_cons, e, ok_bnd, e2], h2⟩
theorem forR_app {f : List γ → α → Res (List γ)} (g : α → List γ) (n : Nat) : ∀ {xs : List α} {b : List γ}, b.length + (xs.flatMap g).length ≤ n → (∀ b x, x ∈ xs → b.length + (g x).length ≤ n → f b x = .ok (b ++ g x)) → forR f xs b = .ok (b ++ xs.flatMap g)
  | [], b, _, _ => by simp
  | x :: xs, b, h, k => by
    rw [List.flatMap_cons, List.length_append] at h
    rw [forR_cons, k b x List.mem_cons_self (by omega), ok_bnd, forR_app g n (by rw [List.length_append]; omega) fun b y hy hb => k b y (List.mem_cons_of_mem _ hy) hb, List.flatMap_cons, List.append_assoc]
theorem forR_find {f : Unit → α → Res Unit} (bad : α → Option (Str × D)) : ∀ {xs : List α}, (∀ x ∈ xs, f () x = match bad x with | some e => .er e.1 e.2 | none => .ok ()) → forR f xs () = match xs.findSome? bad with | some e => .er e.1 e.2 | none => .ok ()
  | [], _ => rfl
  | x :: xs, k => by
    rw [forR_cons, k x List.mem_cons_self, List.findSome?_cons]
    cases bad x with
    | some e => rfl
    | none => exact forR_find bad fun y hy => k y (List.mem_cons_of_mem _ hy)
theorem forS_rec (I : List α → β → Prop) (R : Stp β ρ → Prop) {f : β → α → Res (Stp β ρ)} (k : ∀ x xs b, I (x :: xs) b → (∃ b', f b x = .ok (.nx b') ∧ I xs b') ∨ (∃ b', f b x = .ok (.bk b') ∧ R (.nx b')) ∨ ∃ v, f b x = .ok (.rt v) ∧ R (.rt v)) (e : ∀ b, I [] b → R (.nx b)) : ∀ {xs : List α} {b : β}, I xs b → ∃ r, forS f xs b = .ok r ∧ R r
  | [], b, h => ⟨_, rfl, e b h⟩
  | x :: xs, b, h => by
    rcases k x xs b h with ⟨b1, q, h1⟩ | ⟨b1, q, h1⟩ | ⟨v, q, h1⟩
    · obtain ⟨r, e2, h2⟩ := forS_rec I R k e h1
      exact ⟨r, by rw [forS_cons, q, ok_bnd]; exact e2, h2⟩
    · exact ⟨_, by rw [forS_cons, q, ok_bnd], h1⟩
    · exact ⟨_, by rw [forS_cons, q, ok_bnd], h1⟩
theorem forS_inv (I : β → Prop) {f : β → α → Res (Stp β ρ)} {xs : List α} {b : β} (h : I b) (k : ∀ b x, I b → x ∈ xs → ∃ b', f b x = .ok (.nx b') ∧ I b') : ∃ b', forS f xs b = .ok (.nx b') ∧ I b' := by
  induction xs generalizing b with
  | nil => exact ⟨b, rfl, h⟩
  | cons x xs ih =>
    obtain ⟨b1, e, h1⟩ := k b x h List.mem_cons_self
    obtain ⟨b2, e2, h2⟩ := ih h1 fun b y hb hy => k b y hb (List.mem_cons_of_mem _ hy)
    exact ⟨b2, by rw [forS_cons, e, ok_bnd]; exact e2, h2⟩
theorem lcR_ok {t : α → Res Bool} {f : α → Res β} (t' : α → Bool) (f' : α → β) : ∀ {xs : List α} {acc : List β}, acc.length + (xs.filter t').length ≤ 16000000 → (∀ x ∈ xs, t x = .ok (t' x)) → (∀ x ∈ xs, t' x = true → f x = .ok (f' x)) → lcR t f xs acc = .ok (acc ++ (xs.filter t').map f')
  | [], acc, _, _, _ => by rw [lcR]; simp
  | x :: xs, acc, h, ht, hf => by
    rw [lcR, ht x List.mem_cons_self, ok_ne, ok_bnd]
    cases e : t' x with
    | true =>
      rw [List.filter_cons_of_pos e, List.length_cons] at h
      rw [cond_true, hf x List.mem_cons_self e, ok_ne, ok_bnd, if_pos (by have : (16000000 : Nat) ≤ sizeLine := by decide
                                                                          omega), lcR_ok t' f' (by simp; omega) (fun y hy => ht y (List.mem_cons_of_mem _ hy)) fun y hy => hf y (List.mem_cons_of_mem _ hy), List.filter_cons_of_pos e]
      simp
    | false =>
      rw [List.filter_cons_of_neg (by rw [e]; decide)] at h ⊢
      rw [cond_false]
      exact lcR_ok t' f' h (fun y hy => ht y (List.mem_cons_of_mem _ hy)) fun y hy => hf y (List.mem_cons_of_mem _ hy)
theorem lcR_all {f : α → Res β} (f' : α → β) {xs : List α} (h : xs.length ≤ 16000000) (hf : ∀ x ∈ xs, f x = .ok (f' x)) : lcR (fun _ => .ok true) f xs [] = .ok (xs.map f') := by
  have e : xs.filter (fun _ => true) = xs := List.filter_eq_self.mpr fun _ _ => rfl
  have := lcR_ok (t := fun _ : α => .ok true) (f := f) (fun _ => true) f' (xs := xs) (acc := []) (by rw [e]; simpa using h) (fun _ _ => rfl) fun x hx _ => hf x hx
  rw [this, e]; rfl
theorem lcB_all (I : σ → Prop) (J : α → β → Prop) {f : σ → α → Res (Option β × σ)} (n : Nat) (hn : n ≤ 16000000) : ∀ {xs : List α} {acc : List β} {s : σ}, I s → acc.length + xs.length ≤ n → (∀ s x, I s → x ∈ xs → ∃ z s', f s x = .ok (some z, s') ∧ I s' ∧ J x z) → ∃ l s', lcB f xs acc s = .ok (acc ++ l, s') ∧ I s' ∧ l.length = xs.length ∧ (∀ z ∈ l, ∃ x ∈ xs, J x z)
  | [], acc, s, h, _, _ => ⟨[], s, by rw [lcB_nil, List.append_nil], h, rfl, fun _ h => nomatch h⟩
  | x :: xs, acc, s, h, hl, k => by
    obtain ⟨z, s1, e, h1, hj⟩ := k s x h List.mem_cons_self
    rw [List.length_cons] at hl
    obtain ⟨l, s2, e2, h2, l2, j2⟩ := lcB_all I J n hn (acc := acc ++ [z]) h1 (by simp; omega) fun s y hs hy => k s y hs (List.mem_cons_of_mem _ hy)
    refine ⟨z :: l, s2, ?_, h2, by simp [l2], fun w hw => ?_⟩
    · rw [lcB_cons, e, ok_ne, ok_bnd]
      show (if acc.length < sizeLine then lcB f xs (acc ++ [z]) s1 else .no) = _
      rw [if_pos (by have : (16000000 : Nat) ≤ sizeLine := by decide
                     omega), e2]; simp
    · rcases List.mem_cons.mp hw with rfl | hw
      · exact ⟨x, List.mem_cons_self, hj⟩
      · exact (j2 w hw).imp fun y hy => ⟨List.mem_cons_of_mem _ hy.1, hy.2⟩
theorem ixR_neer {xs : List α} {i : Int} (c : Str) (x : D) : ixR xs i ≠ .er c x := by
  unfold ixR
  cases atI xs i <;> exact fun h => (by cases h)
theorem mulR_neer {i j : Int} (c : Str) (x : D) : mulR i j ≠ .er c x := grd_ne c x
theorem ixR_cons0 {x : α} {xs : List α} : ixR (x :: xs) 0 = .ok x := ixR_ok (by rw [atI_pos (by decide)]; rfl)
theorem szR_neer {xs : List α} (c : Str) (x : D) : szR xs ≠ .er c x := by
  unfold szR
  by_cases q : xs.length ≤ sizeLine
  · rw [if_pos q]; exact ok_neer c x
  · rw [if_neg q]; exact fun h => (by cases h)
theorem cutL_to {l : List α} {k : Int} (h : 0 ≤ k) : cutL l none (some k) = l.take k.toNat := by
  obtain ⟨j, rfl⟩ : ∃ j : Nat, k = j := ⟨k.toNat, by omega⟩
  unfold cutL
  rw [HT.sIx_none, HT.sIx_nat]
  simp
theorem cutL_from {l : List α} {k : Int} (h : 0 ≤ k) : cutL l (some k) none = l.drop k.toNat := by
  obtain ⟨j, rfl⟩ : ∃ j : Nat, k = j := ⟨k.toNat, by omega⟩
  unfold cutL
  rw [HT.sIx_none, HT.sIx_nat]
  by_cases hk : j ≤ l.length
  · rw [Nat.min_eq_left hk, List.take_of_length_le (by simp)]
    simp
  · rw [Nat.min_eq_right (by omega)]
    simp
    omega
theorem ixR_G {gs : List Int} {x : Int} (h0 : 0 ≤ x) (h1 : x < gs.length) : ixR gs x = .ok (atG gs x) := ixR_getD 0 h0 h1
theorem ixR_cg {ps : List (Int × Int)} {x : Int} (h0 : 0 ≤ x) (h1 : x < ps.length) : ixR ps x = .ok (cg ps x) := ixR_getD (0, -1) h0 h1
theorem erase_nd {l : List Int} {y : Int} (h : l.Nodup) : (l.erase y).Nodup ∧ ∀ z, z ∈ l.erase y ↔ z ∈ l ∧ z ≠ y := ⟨h.erase y, fun z => by rw [h.mem_erase_iff]; exact and_comm⟩
theorem lcR_filter {t : Int → Res Bool} (t' : Int → Bool) {xs : List Int} (h : xs.length ≤ 16000000) (ht : ∀ x ∈ xs, t x = .ok (t' x)) : lcR t (fun x => .ok x) xs [] = .ok (xs.filter t') := by
  rw [lcR_ok t' (fun x => x) (by have := List.length_filter_le t' xs; simp; omega) ht fun _ _ _ => rfl]; simp
theorem szR_id {l : List α} (h : l.length ≤ 16000000) : szR (l.map fun x => x) = .ok l := by rw [List.map_id'']; exact szR_ok' h; intro x; rfl
def Gs (s : List Int) : Prop := ∃ a b, s = [a, b] ∧ Good a b
theorem ix0 (a b : Int) : ixR [a, b] 0 = .ok a := ixR_ok rfl
theorem ix1 (a b : Int) : ixR [a, b] 1 = .ok b := ixR_ok rfl
theorem set0 (a b x : Int) : setR [a, b] 0 x = .ok [x, b] := rfl
theorem set1 (a b x : Int) : setR [a, b] 1 x = .ok [a, x] := rfl
end
end MR
namespace MR
theorem pop_perm {α : Type} {l : List α} {k : Nat} {w : α} (h : l[k]? = some w) : ([w] ++ l.eraseIdx k).Perm l := by
  induction l generalizing k with
  | nil => simp at h
  | cons x l ih =>
    cases k with
    | zero => simp at h; subst h; simp
    | succ k =>
      simp at h
      simp only [List.eraseIdx_cons_succ]
      exact (List.Perm.swap x w _).trans ((ih h).cons x)
end MR
namespace MR
open PySem L2 DL
theorem notR_ok {x : Bool} : notR (.ok x) = .ok (!x) := ok_bnd
theorem andR_ok {x : Bool} {b : Res Bool} : andR (.ok x) b = cond x b (.ok false) := ok_bnd
theorem orR_ok {x : Bool} {b : Res Bool} : orR (.ok x) b = cond x (.ok true) b := ok_bnd
theorem andR_oo {x y : Bool} : andR (.ok x) (.ok y) = .ok (x && y) := by rw [andR_ok]; cases x <;> rfl
theorem orR_oo {x y : Bool} : orR (.ok x) (.ok y) = .ok (x || y) := by rw [orR_ok]; cases x <;> rfl
theorem isI_int (i : Int) : isTR "int" (.int i) = .ok true := rfl
theorem isB_int (i : Int) : isTR "bool" (.int i) = .ok false := rfl
theorem isI_str (w : Wd) : isTR "int" (eW w) = .ok false := rfl
theorem asI_i (i : Int) : asI (.int i) = .ok i := rfl
structure Cp (S G : List Int) (ps : List (Int × Int)) : Prop where
  c : CupP S G ps
  n1 : 1 ≤ S.length
  n2 : S.length ≤ 100
  g : G.length = S.length
theorem Cp.len {S G : List Int} {ps : List (Int × Int)} (h : Cp S G ps) : ps.length = S.length := h.c.len
def mx (ps : List (Int × Int)) : Int := maxL (ps.map (·.1))
theorem maxI_eq : ∀ l : List Int, maxI l = maxL l
  | [] => rfl
  | [x] => rfl
  | x :: y :: r => by rw [maxI, maxL, maxI_eq (y :: r)]
def outL (ps : List (Int × Int)) (r : Int) : List Int := (rangeI ps.length).filter fun x => decide ((cg ps x).1 = r)
def thruL (ps : List (Int × Int)) (r : Int) : List Int := (rangeI ps.length).filter fun x => thruB ps x r
def restB (ps : List (Int × Int)) (r x : Int) : Bool := thruB ps x r && decide ((r, x) ∉ ps)
def restL (ps : List (Int × Int)) (r : Int) : List Int := (rangeI ps.length).filter fun x => restB ps r x
abbrev Dd := Wd × Int × Int
abbrev shW : Wd := wd "shift"
abbrev exW : Wd := wd "exchange"
theorem ex_sh : exW ≠ shW := by simp [exW, shW]
abbrev dE : Dd → D := eP3 eW D.int D.int
def formD (q : Dd) : Bool := decide (q.1 = shW) || (decide (q.1 = exW) && decide (q.2.1 < q.2.2))
def sidesD (n : Int) (q : Dd) : Bool := (decide (0 ≤ q.2.1) && decide (q.2.1 < n)) && (decide (0 ≤ q.2.2) && decide (q.2.2 < n))
def letD (S G : List Int) (ps : List (Int × Int)) (L : List Int) (q : Dd) : Bool :=
  if q.1 = shW then decide ((cg ps q.2.1).1 ∈ L) && (restB ps (cg ps q.2.1).1 q.2.2 && mayB S G q.2.2 q.2.1)
  else decide (0 < (cg ps q.2.1).1) && (decide ((cg ps q.2.2).1 = (cg ps q.2.1).1) && (mayB S G (cg ps q.2.2).2 q.2.1 && mayB S G (cg ps q.2.1).2 q.2.2))
def newD (ps : List (Int × Int)) (q : Dd) : List (Int × Int) := if q.1 = shW then ps.set q.2.1.toNat ((cg ps q.2.1).1, q.2.2) else (ps.set q.2.1.toNat (cg ps q.2.2)).set q.2.2.toNat (cg ps q.2.1)
def backD (ps : List (Int × Int)) (q : Dd) : Dd := if q.1 = shW then (shW, q.2.1, (cg ps q.2.1).2) else q
theorem sidesD_iff {n : Int} {q : Dd} : sidesD n q = true ↔ (0 ≤ q.2.1 ∧ q.2.1 < n) ∧ (0 ≤ q.2.2 ∧ q.2.2 < n) := by unfold sidesD; simp
theorem newD_len (ps : List (Int × Int)) (q : Dd) : (newD ps q).length = ps.length := by unfold newD; split <;> simp
theorem Cp.cgF {S G : List Int} {ps : List (Int × Int)} (h : Cp S G ps) {x : Int} (x0 : 0 ≤ x) (x1 : x < S.length) (hr : 0 < (cg ps x).1) : 0 ≤ (cg ps x).2 ∧ (cg ps x).2 < S.length := by
  rcases h.c.form x x0 x1 with c | ⟨a, b, c, d, e⟩
  · rw [c] at hr; exact absurd hr (by decide)
  · exact ⟨b, c⟩
theorem Cp.mx {S G : List Int} {ps : List (Int × Int)} (h : Cp S G ps) : 0 ≤ mx ps ∧ mx ps < S.length := h.c.max h.n1
def looseBad : Nat → Int → List Int → Option Nat
  | _, _, [] => none
  | k, last, r :: L => if r ≤ last then some k else looseBad (k + 1) r L
theorem letD_sh {S G : List Int} {ps : List (Int × Int)} {L : List Int} {x y : Int} : letD S G ps L (shW, x, y) = true ↔ (cg ps x).1 ∈ L ∧ (thruB ps y (cg ps x).1 = true ∧ ((cg ps x).1, y) ∉ ps) ∧ mayB S G y x = true := by
  unfold letD restB; simp [and_assoc]
theorem letD_ex {S G : List Int} {ps : List (Int × Int)} {L : List Int} {x y : Int} : letD S G ps L (exW, x, y) = true ↔ 0 < (cg ps x).1 ∧ (cg ps y).1 = (cg ps x).1 ∧ mayB S G (cg ps y).2 x = true ∧ mayB S G (cg ps x).2 y = true := by
  unfold letD; simp [ex_sh]
theorem Cp.of {S G : List Int} {ps p2 : List (Int × Int)} (h : Cp S G ps) (hl : p2.length = ps.length) (fst : ∀ z : Int, 0 ≤ z → z < S.length → (cg p2 z).1 = (cg ps z).1) (stay : ∀ z : Int, 0 ≤ z → z < S.length → cg ps z = (0, -1) → cg p2 z = (0, -1))
    (form : ∀ z : Int, 0 ≤ z → z < S.length → cg p2 z = (0, -1) ∨ (1 ≤ (cg p2 z).1 ∧ 0 ≤ (cg p2 z).2 ∧ (cg p2 z).2 < S.length ∧ mayB S G (cg p2 z).2 z = true ∧ (cg ps (cg p2 z).2 = (0, -1) ∨ (cg p2 z).1 < (cg ps (cg p2 z).2).1)))
    (one : ∀ u v : Int, 0 ≤ u → u < S.length → 0 ≤ v → v < S.length → cg p2 u = cg p2 v → 1 ≤ (cg p2 u).1 → u = v) : Cp S G p2 where
  n1 := h.n1
  n2 := h.n2
  g := h.g
  c := {
    len := by rw [hl]; exact h.len
    form := fun z z0 z1 => by
      rcases form z z0 z1 with c | ⟨a, b, c, d, e⟩
      · exact .inl c
      · refine .inr ⟨a, b, c, d, ?_⟩
        rcases e with e | e
        · exact .inl (stay _ b c e)
        · exact .inr (by rw [fst _ b c]; exact e)
    one := one
    gap := fun x r x0 x1 r1 r2 => by
      rw [fst x x0 x1] at r2
      obtain ⟨z, z0, z1, e⟩ := h.c.gap x r x0 x1 r1 r2
      exact ⟨z, z0, z1, by rw [fst z z0 z1]; exact e⟩
    top := fun x x0 x1 => by rw [fst x x0 x1]; exact h.c.top x x0 x1 }
theorem formD_cases {q : Dd} (h : formD q = true) : (∃ x y, q = (shW, x, y)) ∨ ∃ x y, q = (exW, x, y) ∧ x < y := by
  obtain ⟨w, x, y⟩ := q
  unfold formD at h
  simp at h
  rcases h with rfl | ⟨rfl, h⟩
  · exact .inl ⟨x, y, rfl⟩
  · exact .inr ⟨x, y, rfl, h⟩
theorem newD_ex {ps : List (Int × Int)} {x y z : Int} (x0 : 0 ≤ x) (x1 : x < ps.length) (y0 : 0 ≤ y) (y1 : y < ps.length) (z0 : 0 ≤ z) : cg (newD ps (exW, x, y)) z = if z = y then cg ps x else if z = x then cg ps y else cg ps z := by
  unfold newD
  simp only [ex_sh, if_false]
  rw [cg_set y0 (by simpa using y1) z0, cg_set x0 x1 z0]
theorem newD_sh {ps : List (Int × Int)} {x y z : Int} (x0 : 0 ≤ x) (x1 : x < ps.length) (z0 : 0 ≤ z) : cg (newD ps (shW, x, y)) z = if z = x then ((cg ps x).1, y) else cg ps z := by
  unfold newD
  simp only [if_true]
  rw [cg_set x0 x1 z0]
theorem Cp.newD {S G : List Int} {ps : List (Int × Int)} (h : Cp S G ps) {L : List Int} (hL : ∀ r ∈ L, 1 ≤ r) {q : Dd} (hs : sidesD S.length q = true) (hq : formD q = true) (hl : letD S G ps L q = true) : Cp S G (newD ps q) := by
  have hlen := h.len
  obtain ⟨⟨x0, x1⟩, ⟨y0, y1⟩⟩ := sidesD_iff.mp hs
  rcases formD_cases hq with ⟨x, y, rfl⟩ | ⟨x, y, rfl, hxy⟩
  · simp only at x0 x1 y0 y1
    obtain ⟨hr, ⟨ht, hn⟩, m⟩ := letD_sh.mp hl
    have r1 := hL _ hr
    have hcg : ∀ z : Int, 0 ≤ z → cg (MR.newD ps (shW, x, y)) z = if z = x then ((cg ps x).1, y) else cg ps z := fun z z0 => newD_sh x0 (by omega) z0
    have other : ∀ w : Int, 0 ≤ w → w < S.length → cg ps w = ((cg ps x).1, y) → False := fun w w0 w1 hw => by
      have := cg_mem (ps := ps) w0 (by omega)
      rw [hw] at this
      exact hn this
    refine h.of (newD_len _ _) (fun z z0 z1 => ?_) (fun z z0 z1 hz => ?_) (fun z z0 z1 => ?_) (fun u v u0 u1 v0 v1 he hu => ?_)
    · rw [hcg z z0]
      by_cases c : z = x
      · rw [if_pos c, c]
      · rw [if_neg c]
    · rw [hcg z z0]
      by_cases c : z = x
      · rw [← c] at r1; rw [hz] at r1; exact absurd r1 (by decide)
      · rw [if_neg c]; exact hz
    · rw [hcg z z0]
      by_cases c : z = x
      · rw [if_pos c, c]
        refine .inr ⟨r1, y0, y1, m, ?_⟩
        unfold thruB at ht
        simp at ht
        rcases ht with ht | ht
        · left
          rcases h.c.form y y0 y1 with f | ⟨a, _⟩
          · exact f
          · omega
        · exact .inr ht
      · rw [if_neg c]
        exact h.c.form z z0 z1
    · rw [hcg u u0, hcg v v0] at he
      rw [hcg u u0] at hu
      by_cases a1 : u = x
      · rw [if_pos a1] at he
        by_cases b1 : v = x
        · omega
        · rw [if_neg b1] at he
          exact (other v v0 v1 he.symm).elim
      · rw [if_neg a1] at he hu
        by_cases b1 : v = x
        · rw [if_pos b1] at he
          exact (other u u0 u1 he).elim
        · rw [if_neg b1] at he
          exact h.c.one u v u0 u1 v0 v1 he hu
  · simp only at x0 x1 y0 y1
    obtain ⟨r0, er, m1, m2⟩ := letD_ex.mp hl
    have hxy : x ≠ y := by omega
    have hcg : ∀ z : Int, 0 ≤ z → cg (MR.newD ps (exW, x, y)) z = if z = y then cg ps x else if z = x then cg ps y else cg ps z := fun z z0 => newD_ex x0 (by omega) y0 (by omega) z0
    have fx := h.c.form x x0 x1
    have fy := h.c.form y y0 y1
    refine h.of (newD_len _ _) (fun z z0 z1 => ?_) (fun z z0 z1 hz => ?_) (fun z z0 z1 => ?_) (fun u v u0 u1 v0 v1 he hu => ?_)
    · rw [hcg z z0]
      by_cases c : z = y
      · rw [if_pos c, c]; exact er.symm
      · rw [if_neg c]
        by_cases c' : z = x
        · rw [if_pos c', c']; exact er
        · rw [if_neg c']
    · rw [hcg z z0]
      by_cases c : z = y
      · rw [← c] at er; rw [hz] at er; have er : (0 : Int) = (cg ps x).1 := er; omega
      · rw [if_neg c]
        by_cases c' : z = x
        · rw [← c'] at r0; rw [hz] at r0; exact absurd r0 (by decide)
        · rw [if_neg c']; exact hz
    · rw [hcg z z0]
      by_cases c : z = y
      · rw [if_pos c, c]
        rcases fx with fx | ⟨a, b, c', d, e⟩
        · rw [fx] at r0; exact absurd r0 (by decide)
        · exact .inr ⟨a, b, c', m2, e⟩
      · rw [if_neg c]
        by_cases c' : z = x
        · rw [if_pos c', c']
          rcases fy with fy | ⟨a, b, c', d, e⟩
          · rw [fy] at er; have er : (0 : Int) = (cg ps x).1 := er; omega
          · exact .inr ⟨a, b, c', m1, e⟩
        · rw [if_neg c']
          exact h.c.form z z0 z1
    · rw [hcg u u0, hcg v v0] at he
      rw [hcg u u0] at hu
      have key := h.c.one
      by_cases a1 : u = y
      · rw [if_pos a1] at he hu
        by_cases b1 : v = y
        · omega
        · rw [if_neg b1] at he
          by_cases b2 : v = x
          · rw [if_pos b2] at he; exact absurd (key x y x0 x1 y0 y1 he hu) hxy
          · rw [if_neg b2] at he; exact absurd (key x v x0 x1 v0 v1 he hu).symm b2
      · rw [if_neg a1] at he hu
        by_cases a2 : u = x
        · rw [if_pos a2] at he hu
          by_cases b1 : v = y
          · rw [if_pos b1] at he; exact absurd (key y x y0 y1 x0 x1 he hu).symm hxy
          · rw [if_neg b1] at he
            by_cases b2 : v = x
            · omega
            · rw [if_neg b2] at he; exact absurd (key y v y0 y1 v0 v1 he hu).symm b1
        · rw [if_neg a2] at he hu
          by_cases b1 : v = y
          · rw [if_pos b1] at he; exact absurd (key u x u0 u1 x0 x1 he hu) a2
          · rw [if_neg b1] at he
            by_cases b2 : v = x
            · rw [if_pos b2] at he; exact absurd (key u y u0 u1 y0 y1 he hu) a1
            · rw [if_neg b2] at he; exact key u v u0 u1 v0 v1 he hu
def exL (n : Nat) (x : Int) : List Dd := (rng (x + 1) n).map fun y => (exW, x, y)
def shL (n : Nat) (x : Int) : List Dd := (rangeI n).map fun y => (shW, x, y)
def offD (S G : List Int) (ps : List (Int × Int)) (L : List Int) : List Dd := ((rangeI S.length).flatMap (exL S.length)).filter (letD S G ps L) ++ ((rangeI S.length).flatMap (shL S.length)).filter (letD S G ps L)
end MR
namespace MR
open PySem L2 DL
theorem cg_ext {a b : List (Int × Int)} (hl : a.length = b.length) (h : ∀ z : Int, 0 ≤ z → z < b.length → cg a z = cg b z) : a = b := by
  apply List.ext_getElem hl
  intro i h1 h2
  have := h i (by omega) (by omega)
  rwa [cg_get (List.getElem?_eq_getElem h1), cg_get (List.getElem?_eq_getElem h2)] at this
structure Let (S G : List Int) (ps : List (Int × Int)) (L : List Int) (q : Dd) : Prop where
  f : formD q = true
  s : sidesD S.length q = true
  l : letD S G ps L q = true
theorem Let.back {S G : List Int} {ps : List (Int × Int)} {L : List Int} {q : Dd} (h : Cp S G ps) (hL : ∀ r ∈ L, 1 ≤ r) (hq : Let S G ps L q) : Let S G (newD ps q) L (backD ps q) ∧ newD (newD ps q) (backD ps q) = ps ∧ backD (newD ps q) (backD ps q) = q := by
  obtain ⟨hf, hs, hl⟩ := hq
  have len := h.len
  have ln := newD_len ps q
  obtain ⟨⟨x0, x1⟩, y0, y1⟩ := sidesD_iff.mp hs
  rcases formD_cases hf with ⟨x, y, rfl⟩ | ⟨x, y, rfl, hxy⟩
  · simp only at x0 x1 y0 y1
    obtain ⟨l1, ⟨l2, l3⟩, l4⟩ := letD_sh.mp hl
    have r1 := hL _ l1
    have xl : x < ps.length := by omega
    obtain c | ⟨a, b, c, d, e⟩ := h.c.form x x0 x1
    · rw [c] at r1; exact absurd r1 (by decide)
    have eb : backD ps (shW, x, y) = (shW, x, (cg ps x).2) := by unfold backD; rw [if_pos rfl]
    have hn : ∀ z : Int, 0 ≤ z → cg (newD ps (shW, x, y)) z = if z = x then ((cg ps x).1, y) else cg ps z := fun z z0 => newD_sh x0 xl z0
    have hx : cg (newD ps (shW, x, y)) x = ((cg ps x).1, y) := by rw [hn x x0, if_pos rfl]
    have hne : (cg ps x).2 ≠ x := fun z => (mayB_ne d) z
    rw [eb]
    refine ⟨⟨by unfold formD; simp, sidesD_iff.mpr ⟨⟨x0, x1⟩, b, c⟩, letD_sh.mpr ⟨by rw [hx]; exact l1, ⟨?_, ?_⟩, d⟩⟩, ?_, ?_⟩
    · rw [hx]
      unfold thruB
      rw [hn _ b, if_neg hne]
      rcases e with e | e
      · rw [e]; rfl
      · rw [decide_eq_true e, Bool.or_true]
    · rw [hx]
      intro hm
      obtain ⟨j, hj⟩ := List.getElem?_of_mem hm
      have hjl := (List.getElem?_eq_some_iff.mp hj).1
      have ej := cg_get hj
      rw [hn j (by omega)] at ej
      by_cases cj : (j : Int) = x
      · rw [if_pos cj] at ej
        have : y = (cg ps x).2 := congrArg Prod.snd ej
        exact l3 (by rw [this]; exact cg_mem x0 xl)
      · rw [if_neg cj] at ej
        exact cj (h.c.one x j x0 x1 (by omega) (by omega) ej.symm a).symm
    · refine cg_ext (by rw [newD_len, newD_len]) fun z z0 z1 => ?_
      rw [newD_sh x0 (by omega) z0, hx, hn z z0]
      by_cases cz : z = x
      · rw [if_pos cz, cz]
      · rw [if_neg cz, if_neg cz]
    · unfold backD
      rw [if_pos rfl, hx]
  · simp only at x0 x1 y0 y1
    obtain ⟨l1, l2, l3, l4⟩ := letD_ex.mp hl
    have xl : x < ps.length := by omega
    have yl : y < ps.length := by omega
    have nxy : ¬ x = y := by omega
    have nyx : ¬ y = x := by omega
    have eb : backD ps (exW, x, y) = (exW, x, y) := by unfold backD; rw [if_neg ex_sh]
    have hn : ∀ z : Int, 0 ≤ z → cg (newD ps (exW, x, y)) z = if z = y then cg ps x else if z = x then cg ps y else cg ps z := fun z z0 => newD_ex x0 xl y0 yl z0
    have hx : cg (newD ps (exW, x, y)) x = cg ps y := by rw [hn x x0, if_neg nxy, if_pos rfl]
    have hy : cg (newD ps (exW, x, y)) y = cg ps x := by rw [hn y y0, if_pos rfl]
    have fx : mayB S G (cg ps x).2 x = true := by
      obtain c | ⟨a, b, c, d, e⟩ := h.c.form x x0 x1
      · rw [c] at l1; exact absurd l1 (by decide)
      · exact d
    have fy : mayB S G (cg ps y).2 y = true := by
      obtain c | ⟨a, b, c, d, e⟩ := h.c.form y y0 y1
      · rw [← l2, c] at l1; exact absurd l1 (by decide)
      · exact d
    rw [eb]
    refine ⟨⟨by unfold formD; simp [hxy], hs, letD_ex.mpr ?_⟩, ?_, ?_⟩
    · rw [hx, hy]
      exact ⟨by rw [l2]; exact l1, l2.symm, fx, fy⟩
    · refine cg_ext (by rw [newD_len, newD_len]) fun z z0 z1 => ?_
      rw [newD_ex x0 (by omega) y0 (by omega) z0, hx, hy, hn z z0]
      by_cases c1 : z = y
      · rw [if_pos c1, c1]
      · rw [if_neg c1, if_neg c1]
        by_cases c2 : z = x
        · rw [if_pos c2, c2]
        · rw [if_neg c2, if_neg c2]
    · unfold backD
      rw [if_neg ex_sh]
def runD (S G L : List Int) : List (Int × Int) → List Dd → Prop
  | _, [] => True
  | ps, q :: R => Let S G ps L q ∧ runD S G L (newD ps q) R
def endD : List (Int × Int) → List Dd → List (Int × Int)
  | ps, [] => ps
  | ps, q :: R => endD (newD ps q) R
def backsD : List (Int × Int) → List Dd → List Dd
  | _, [] => []
  | ps, q :: R => backsD (newD ps q) R ++ [backD ps q]
def cupsD : List (Int × Int) → List Dd → List (List (Int × Int))
  | ps, [] => [ps]
  | ps, q :: R => ps :: cupsD (newD ps q) R
theorem Let.cp {S G : List Int} {ps : List (Int × Int)} {L : List Int} {q : Dd} (h : Cp S G ps) (hL : ∀ r ∈ L, 1 ≤ r) (hq : Let S G ps L q) : Cp S G (newD ps q) := h.newD hL hq.s hq.f hq.l
end MR
namespace MR
open PySem L2 DL
abbrev eqB {α : Type} [DecidableEq α] (a b : α) : Bool := decide (a = b)
def rpW (b : Bool) : Wd := wd (if b = true then "True" else "False")
section
variable {κ : Kt} {A : AS} {ta tb tc : TD} {τ : Type}
def NE {α : Type} (m : Res α) : Prop := ∀ c x, m ≠ .er c x
variable {α β σ ρ : Type}
theorem NE.ok {v : α} : NE (.ok v) := fun c x => ok_neer c x
theorem NE.no : NE (.no : Res α) := fun c x h => by cases h
theorem NE.bnd {m : Res α} {f : α → Res β} (h : NE m) (k : ∀ v, NE (f v)) : NE (m.bnd f) := fun c x => bnd_neE h k c x
theorem NE.cond {c : Bool} {a b : Res α} (h1 : NE a) (h2 : NE b) : NE (cond c a b) := by cases c <;> assumption
theorem NE.grd {p : Prop} [Decidable p] {v : α} : NE (grd p v) := fun c x => grd_ne c x
theorem NE.ix {xs : List α} {i : Int} : NE (ixR xs i) := fun c x => ixR_neer c x
theorem NE.sz {xs : List α} : NE (szR xs) := fun c x => szR_neer c x
theorem NE.lc {t : α → Res Bool} {f : α → Res β} (ht : ∀ v, NE (t v)) (hf : ∀ v, NE (f v)) : ∀ {xs : List α} {acc : List β}, NE (lcR t f xs acc)
  | [], _ => by rw [lcR]; exact NE.ok
  | x :: xs, acc => by
    rw [lcR]
    intro c y h
    cases e : t x with
    | er c' x' => exact ht x c' x' e
    | no => rw [e] at h; cases h
    | ok b =>
      rw [e, ok_ne, ok_bnd] at h
      cases b with
      | false => exact NE.lc ht hf c y h
      | true =>
        rw [cond_true] at h
        cases e2 : f x with
        | er c' x' => exact hf x c' x' e2
        | no => rw [e2] at h; cases h
        | ok z =>
          rw [e2, ok_ne, ok_bnd] at h
          by_cases q : acc.length < sizeLine
          · rw [if_pos q] at h; exact NE.lc ht hf c y h
          · rw [if_neg q] at h; cases h
end
theorem eqR_ok {x y : D} (h1 : okD x = true) (h2 : okD y = true) : eqR x y = .ok (eqD x y) := by unfold eqR; rw [h1, h2]; rfl
section
variable {α β γ ρ σ : Type}
def Gd (Q : α → Prop) (m : Res α) : Prop := ∃ v, m = .ok v ∧ Q v
theorem gd_ok {Q : α → Prop} {v : α} (h : Q v) : Gd Q (.ok v) := ⟨v, rfl, h⟩
theorem gd_bnd {P : α → Prop} {Q : β → Prop} {m : Res α} {f : α → Res β} (h : Gd P m) (k : ∀ v, P v → Gd Q (f v)) : Gd Q (m.bnd f) := by
  obtain ⟨v, e, p⟩ := h
  rw [e, ok_bnd]; exact k v p
theorem gd_eq {Q : β → Prop} {m : Res α} {f : α → Res β} {v : α} (e : m = .ok v) (k : Gd Q (f v)) : Gd Q (m.bnd f) := by rw [e, ok_bnd]; exact k
theorem gd_cond {Q : α → Prop} {c : Bool} {a b : Res α} (h1 : c = true → Gd Q a) (h2 : c = false → Gd Q b) : Gd Q (cond c a b) := by
  cases c with
  | true => exact h1 rfl
  | false => exact h2 rfl
theorem gd_forR (I : List α → β → Prop) {f : β → α → Res β} (k : ∀ x xs b, I (x :: xs) b → Gd (I xs) (f b x)) {xs : List α} {b : β} (h : I xs b) : Gd (I []) (forR f xs b) := forR_rec I k h
theorem gd_forN (I : β → Prop) {f : β → α → Res (Stp β ρ)} {xs : List α} {b : β} (h : I b) (k : ∀ b x, I b → x ∈ xs → Gd (fun st => ∃ b', st = .nx b' ∧ I b') (f b x)) : Gd (fun st => ∃ b', st = .nx b' ∧ I b') (forS f xs b) := by
  obtain ⟨b', e, hb⟩ := forS_inv I h fun b x hb hx => by
    obtain ⟨_, e, b', rfl, q⟩ := k b x hb hx
    exact ⟨b', e, q⟩
  exact ⟨_, e, b', rfl, hb⟩
theorem gd_rng {a b : Int} {Q : β → Prop} {f : List Int → Res β} (h1 : -1000000000000000000 ≤ a) (h2 : a ≤ 1000000000000000000) (h3 : -1000000000000000000 ≤ b) (h4 : b ≤ 1000000000000000000) (k : Gd Q (f (rng a b))) : Gd Q ((rngR a b).bnd f) := gd_eq (rngR_ok h1 h2 h3 h4) k
end
theorem cutL_len {α : Type} (l : List α) (a b : Option Int) : (cutL l a b).length ≤ l.length := by
  unfold cutL
  rw [List.length_take, List.length_drop]; omega
end MR
namespace MR
open PySem L2 DL
theorem nodup_le : ∀ {A B : List Int}, A.Nodup → (∀ a ∈ A, a ∈ B) → A.length ≤ B.length
  | [], _, _, _ => Nat.zero_le _
  | a :: A, B, h, k => by
    obtain ⟨h1, h2⟩ := List.nodup_cons.mp h
    have ha := k a List.mem_cons_self
    have i := nodup_le (A := A) (B := B.erase a) h2 fun x hx => (List.mem_erase_of_ne fun z => h1 (by rw [← z]; exact hx)).mpr (k x (List.mem_cons_of_mem _ hx))
    have e := List.length_erase_of_mem ha
    have p : 0 < B.length := List.length_pos_of_mem ha
    rw [List.length_cons]; omega
structure Al (S G : List Int) (ps row : List (Int × Int)) : Prop where
  len : row.length = S.length
  fst : ∀ z : Int, 0 ≤ z → z < S.length → (cg row z).1 = (cg ps z).1
  stay : ∀ z : Int, 0 ≤ z → z < S.length → cg ps z = (0, -1) → cg row z = (0, -1)
  form : ∀ z : Int, 0 ≤ z → z < S.length → 1 ≤ (cg ps z).1 → 0 ≤ (cg row z).2 ∧ (cg row z).2 < S.length ∧ mayB S G (cg row z).2 z = true ∧ thruB ps (cg row z).2 (cg ps z).1 = true
  one : ∀ u v : Int, 0 ≤ u → u < S.length → 0 ≤ v → v < S.length → cg row u = cg row v → 1 ≤ (cg row u).1 → u = v
theorem thru_stay {S G : List Int} {ps : List (Int × Int)} (h : Cp S G ps) {y r : Int} (y0 : 0 ≤ y) (y1 : y < S.length) (ht : thruB ps y r = true) : cg ps y = (0, -1) ∨ r < (cg ps y).1 := by
  unfold thruB at ht
  simp at ht
  rcases ht with ht | ht
  · left
    rcases h.c.form y y0 y1 with f | ⟨a, _⟩
    · exact f
    · omega
  · exact .inr ht
theorem Al.cp {S G : List Int} {ps row : List (Int × Int)} (h : Cp S G ps) (a : Al S G ps row) : Cp S G row := by
  refine h.of (by rw [a.len, h.len]) a.fst a.stay (fun z z0 z1 => ?_) a.one
  rcases h.c.form z z0 z1 with f | ⟨r1, _⟩
  · exact .inl (a.stay z z0 z1 f)
  · obtain ⟨b, c, d, e⟩ := a.form z z0 z1 r1
    rw [a.fst z z0 z1]
    exact .inr ⟨r1, b, c, d, thru_stay h b c e⟩
theorem cup_thru {S G : List Int} {ps : List (Int × Int)} (h : Cp S G ps) {z : Int} (z0 : 0 ≤ z) (z1 : z < S.length) (r1 : 1 ≤ (cg ps z).1) : 0 ≤ (cg ps z).2 ∧ (cg ps z).2 < S.length ∧ mayB S G (cg ps z).2 z = true ∧ thruB ps (cg ps z).2 (cg ps z).1 = true := by
  rcases h.c.form z z0 z1 with f | ⟨a, b, c, d, e⟩
  · rw [f] at r1; exact absurd r1 (by decide)
  · refine ⟨b, c, d, ?_⟩
    unfold thruB
    rcases e with e | e
    · rw [e]; rfl
    · rw [decide_eq_true e, Bool.or_true]
theorem Al.refl {S G : List Int} {ps : List (Int × Int)} (h : Cp S G ps) : Al S G ps ps :=
  ⟨h.len, fun _ _ _ => rfl, fun _ _ _ e => e, fun z z0 z1 r1 => cup_thru h z0 z1 r1, h.c.one⟩
structure Fill (S G : List Int) (r : Int) (X Z : List Int) (row row' : List (Int × Int)) : Prop where
  len : row'.length = S.length
  in_ : ∀ x ∈ X, (cg row' x).1 = r ∧ (cg row' x).2 ∈ Z ∧ mayB S G (cg row' x).2 x = true
  inj : ∀ u ∈ X, ∀ v ∈ X, (cg row' u).2 = (cg row' v).2 → u = v
  out : ∀ z : Int, 0 ≤ z → z ∉ X → cg row' z = cg row z
theorem outL_in {ps : List (Int × Int)} {r x : Int} : x ∈ outL ps r ↔ (0 ≤ x ∧ x < ps.length) ∧ (cg ps x).1 = r := by
  unfold outL
  rw [List.mem_filter, ← rng0, rng_mem]; simp
theorem Al.fill {S G : List Int} {ps row row' : List (Int × Int)} {r : Int} {X Z : List Int} (h : Cp S G ps) (a : Al S G ps row) (hr : 1 ≤ r) (hX : ∀ x, x ∈ X ↔ x ∈ outL ps r) (hZ : ∀ z ∈ Z, (0 ≤ z ∧ z < S.length) ∧ thruB ps z r = true) (k : Fill S G r X Z row row') : Al S G ps row' := by
  have len := h.len
  have mX : ∀ x, x ∈ X ↔ (0 ≤ x ∧ x < S.length) ∧ (cg ps x).1 = r := fun x => by rw [hX, outL_in, len]
  refine ⟨k.len, fun z z0 z1 => ?_, fun z z0 z1 e => ?_, fun z z0 z1 r1 => ?_, fun u v u0 u1 v0 v1 e hu => ?_⟩
  · by_cases c : z ∈ X
    · rw [(k.in_ z c).1, ((mX z).mp c).2]
    · rw [k.out z z0 c, a.fst z z0 z1]
  · have c : z ∉ X := fun c => by have := ((mX z).mp c).2; rw [e] at this; have : (0 : Int) = r := this; omega
    rw [k.out z z0 c, a.stay z z0 z1 e]
  · by_cases c : z ∈ X
    · obtain ⟨k1, k2, k3⟩ := k.in_ z c
      obtain ⟨⟨a1, a2⟩, a3⟩ := hZ _ k2
      rw [((mX z).mp c).2]
      exact ⟨a1, a2, k3, a3⟩
    · rw [k.out z z0 c]
      exact a.form z z0 z1 r1
  · have fu : ∀ w : Int, 0 ≤ w → w < S.length → (w ∈ X ↔ (cg row' w).1 = r) := fun w w0 w1 => by
      rw [mX]
      by_cases c : w ∈ X
      · rw [(k.in_ w c).1, ((mX w).mp c).2]; simp [w0, w1]
      · rw [k.out w w0 c, a.fst w w0 w1]; simp [w0, w1]
    by_cases c : u ∈ X
    · have cv : v ∈ X := (fu v v0 v1).mpr (by rw [← e]; exact (fu u u0 u1).mp c)
      exact k.inj u c v cv (congrArg Prod.snd e)
    · have cv : v ∉ X := fun cv => c ((fu u u0 u1).mpr (by rw [e]; exact (fu v v0 v1).mp cv))
      rw [k.out u u0 c, k.out v v0 cv] at e
      rw [k.out u u0 c] at hu
      exact a.one u v u0 u1 v0 v1 e hu
def hallL (ps : List (Int × Int)) (r : Int) (L : List Int) : List Int := if r ∈ L then thruL ps r else sortI ((outL ps r).map fun x => (cg ps x).2)
def winL (ps : List (Int × Int)) (r : Int) : List Int := sortI ((ps.filter fun p => decide (p.1 = r)).map (·.2))
def sameB (one two : List (Int × Int)) (L : List Int) : Bool := decide (one.map (·.1) = two.map (·.1)) && (rng 1 (mx one + 1)).all fun r => decide (r ∈ L) || decide (winL one r = winL two r)
theorem forS_find {α β : Type} (g : α → Option β) {f : Unit → α → Res (Stp Unit β)} : ∀ {xs : List α}, (∀ x ∈ xs, f () x = .ok (match g x with | some d => .rt d | none => .nx ())) → forS f xs () = .ok (match xs.findSome? g with | some d => .rt d | none => .nx ())
  | [], _ => forS_nil
  | x :: xs, h => by
    rw [forS_cons, h x List.mem_cons_self, ok_bnd, List.findSome?_cons]
    cases g x with
    | some d => rfl
    | none => exact forS_find g fun y hy => h y (List.mem_cons_of_mem _ hy)
def hallsL (ps : List (Int × Int)) (L : List Int) : List (List Int) := (rng 1 (mx ps + 1)).map fun r => if r ∈ L then thruL ps r else winL ps r
end MR
namespace MR
open PySem L2 DL
structure Sq (α : Type) where
  c : Bool
  l : List α
def eY {α : Type} (e : α → D) (x : Sq α) : D := if x.c = true then .lst (x.l.map e) else .tup (x.l.map e)
structure Plr where
  field : Fld
  exits : List Int
  halls : List (List Int)
  told : List (Int × Int)
  deriving DecidableEq
def ePool (p : Plr) : D := .ins "Pool" [("field", eF p.field), ("exits", eT D.int p.exits), ("halls", eT (eT D.int) p.halls), ("told", eT (eP2 D.int D.int) p.told)]
section
variable {κ : Kt} {A : AS} {ta tb tc td : TD}
end
end MR
namespace BD
open PySem L2 DL MR
def rowOf (gs : List Int) : List Int := (sortP (gs.zipIdx.map fun p => (-p.1, ((p.2 : Nat) : Int)))).map (·.2)
def reach (ss : List Int) (g : Int) : Nat := (ss.filter fun s => decide (g ≤ s)).length
def grd (gs : List Int) (x : Int) : Int := gs.getD x.toNat 0
def chs (gs ss : List Int) : List (Int × Int) := (rowOf gs).zipIdx.map fun p => (p.1, (reach ss (grd gs p.1) : Int) - ((p.2 : Nat) : Int))
def prod (l : List (Int × Int)) : Int := l.foldl (fun t p => t * p.2) 1
def fillR (ss : List Int) (rows : List (List Int)) (g : Int) : List (List Int) := rows.flatMap fun r => ((List.range ss.length).filter fun (s : Nat) => (!r.contains (s : Int)) && decide (g ≤ ss.getD s 0)).map fun (s : Nat) => r ++ [(s : Int)]
def fill (ss : List Int) : List (List Int) → List Int → List (List Int)
  | rows, [] => rows
  | rows, g :: gs => fill ss (fillR ss rows g) gs
abbrev okS (ss : List Int) (u : List Int) (g : Int) (s : Nat) : Bool := (!u.contains (s : Int)) && decide (g ≤ ss.getD s 0)
def cnt (ss : List Int) : List Int → List Int → Nat
  | _, [] => 1
  | u, g :: gs => (((List.range ss.length).filter (okS ss u g)).map fun (s : Nat) => cnt ss (u ++ [(s : Int)]) gs).sum
def prodN (ss : List Int) : Nat → List Int → Nat
  | _, [] => 1
  | i, g :: gs => (reach ss g - i) * prodN ss (i + 1) gs
def prodI (ss : List Int) : Nat → List Int → Int
  | _, [] => 1
  | i, g :: gs => ((reach ss g : Int) - (i : Nat)) * prodI ss (i + 1) gs
end BD
namespace BD
open PySem L2 DL MR
def rest (ss u : List Int) : List Int := ((List.range ss.length).filter fun (s : Nat) => !u.contains (s : Int)).map fun (s : Nat) => ss.getD s 0
variable (p : Nat → Option Nat)
def okA (k : Nat) (s : Int) : Bool := match p k with
  | some j => decide (s = (j : Int))
  | none => true
def sat (r : List Int) : Bool := (List.range r.length).all fun k => okA p k (r.getD k 0)
def hit (ss : List Int) : Nat → List Int → List Int → Nat
  | _, _, [] => 1
  | k, u, g :: gs => (((List.range ss.length).filter fun (s : Nat) => okS ss u g s && okA p k s).map fun (s : Nat) => hit ss (k + 1) (u ++ [(s : Int)]) gs).sum
def resv : Nat → List Int → List Int
  | _, [] => []
  | k, _ :: gs => (match p k with | some j => [(j : Int)] | none => []) ++ resv (k + 1) gs
def free : Nat → List Int → List Int
  | _, [] => []
  | k, g :: gs => match p k with | some _ => free (k + 1) gs | none => g :: free (k + 1) gs
end BD
namespace BD
open PySem L2 DL MR
theorem val_put {β α : Type} [DecidableEq β] (K : List (β × α)) (k k' : β) (v : α) : valK (MR.putK K k v) k' = if k' = k then some v else valK K k' := by
  unfold valK MR.putK
  by_cases c : (K.any fun p => decide (p.1 = k)) = true
  · rw [if_pos c]
    induction K with
    | nil => simp at c
    | cons p K ih =>
      rw [List.map_cons, List.find?_cons]
      by_cases e : p.1 = k
      · subst e
        rw [if_pos rfl]
        by_cases d : k' = p.1
        · rw [if_pos d, decide_eq_true (show p.1 = k' from d.symm)]; rfl
        · have dn : decide (p.1 = k') = false := decide_eq_false fun z => d z.symm
          rw [if_neg d, dn, List.find?_cons, dn]
          simp only
          by_cases c2 : (K.any fun q => decide (q.1 = p.1)) = true
          · have := ih c2; rwa [if_neg d] at this
          · congr 1
            have : K.map (fun q => if q.1 = p.1 then (q.1, v) else q) = K := by
              rw [List.map_congr_left (g := id) fun q hq => ?_, List.map_id]
              rw [if_neg fun z => c2 (List.any_eq_true.mpr ⟨q, hq, decide_eq_true z⟩)]; rfl
            rw [this]
      · rw [if_neg e]
        have c2 : (K.any fun p => decide (p.1 = k)) = true := by simpa [e] using c
        have i := ih c2
        by_cases d : p.1 = k'
        · rw [decide_eq_true d, List.find?_cons, decide_eq_true d, if_neg fun z => e (by rw [d, z])]
        · rw [decide_eq_false d, List.find?_cons, decide_eq_false d]
          exact i
  · rw [if_neg c, List.find?_append]
    by_cases d : k' = k
    · rw [if_pos d]
      have : K.find? (fun p => decide (p.1 = k')) = none := by
        rw [List.find?_eq_none]
        intro q hq z
        exact c (List.any_eq_true.mpr ⟨q, hq, by rw [← d]; exact z⟩)
      rw [this]
      simp [d]
    · rw [if_neg d]
      cases K.find? (fun p => decide (p.1 = k')) with
      | some q => rfl
      | none => simp; exact fun z => d z.symm
structure Held (G S : List Int) (done : List (Int × Int)) (K1 K2 : List (Int × Int)) : Prop where
  one : ∀ i j : Int, valK K1 i = some j ↔ (i, j) ∈ done
  two : ∀ i j : Int, valK K2 j = some i ↔ (i, j) ∈ done
  can : ∀ q ∈ done, atG G q.1 ≤ atG S q.2
  l1 : K1.length ≤ done.length
  l2 : K2.length ≤ done.length
theorem put_le {β α : Type} [DecidableEq β] (K : List (β × α)) (k : β) (v : α) : (MR.putK K k v).length ≤ K.length + 1 := by unfold MR.putK; split <;> simp
theorem Held.next {G S : List Int} {done : List (Int × Int)} {K1 K2 : List (Int × Int)} {i j : Int} (h : Held G S done K1 K2) (hc : atG G i ≤ atG S j) (h1 : ∀ j', valK K1 i = some j' → j' = j) (h2 : ∀ i', valK K2 j = some i' → i' = i) : Held G S (done ++ [(i, j)]) (MR.putK K1 i j) (MR.putK K2 j i) where
  one := fun a b => by
    rw [val_put, List.mem_append, List.mem_singleton]
    by_cases c : a = i
    · rw [if_pos c]
      subst c
      constructor
      · intro e; exact .inr (by rw [Option.some.inj e])
      · rintro (e | e)
        · rw [h1 b ((h.one a b).mpr e)]
        · have := congrArg Prod.snd e
          simp only at this
          rw [this]
    · rw [if_neg c, h.one]
      constructor
      · exact .inl
      · rintro (e | e)
        · exact e
        · exact absurd (congrArg Prod.fst e) c
  two := fun a b => by
    rw [val_put, List.mem_append, List.mem_singleton]
    by_cases c : b = j
    · rw [if_pos c]
      subst c
      constructor
      · intro e; exact .inr (by rw [Option.some.inj e])
      · rintro (e | e)
        · rw [h2 a ((h.two a b).mpr e)]
        · have := congrArg Prod.fst e
          simp only at this
          rw [this]
    · rw [if_neg c, h.two]
      constructor
      · exact .inl
      · rintro (e | e)
        · exact e
        · exact absurd (congrArg Prod.snd e) c
  can := fun q hq => by
    rcases List.mem_append.mp hq with hq | hq
    · exact h.can q hq
    · rw [List.mem_singleton.mp hq]; exact hc
  l1 := by have := put_le K1 i j; have := h.l1; simp; omega
  l2 := by have := put_le K2 j i; have := h.l2; simp; omega
def satP (pairs : List (Int × Int)) (r : List Int) : Bool := pairs.all fun q => decide (r.getD q.1.toNat 0 = q.2)
def pOf (K : List (Int × Int)) (k : Nat) : Option Nat := (valK K (k : Int)).map Int.toNat
def eu (q : Int × Int) : Int × Int := if 0 < q.2 then (q.2, q.1 % q.2) else q
end BD
namespace MR
open PySem L2 DL
section
variable {κ : Kt} {A : AS} {ta tb : TD}
def minRowR (l : List (List Int)) : Res (List Int) := grd (l ≠ []) (minRow l)
theorem minRowR_ne {l : List (List Int)} (c : Str) (x : D) : minRowR l ≠ .er c x := grd_ne c x
def minL2 (x y : List Int) : List Int := if ltI y x then y else x
end
end MR
namespace MR
open PySem L2 DL
abbrev leI (a b : List Int) : Prop := ltI b a = false
def cmb (x y : List Int) : List Int := minL2 (x ++ y) (y ++ x)
def leastP : Nat → List Int → List Int
  | 0, r => r
  | n + 1, r => cmb (leastP n (r.take (2 ^ n))) (leastP n (r.drop (2 ^ n)))
def turn (r : List Int) (w a : Nat) : List Int := r.take a ++ ((r.drop (a + w / 2)).take (w / 2) ++ ((r.drop a).take (w / 2) ++ r.drop (a + w)))
def grow (F : List (List Int)) (s : Nat × Nat) : List (List Int) := F ++ F.map fun q => turn q s.1 s.2
def stepsN : Nat → List (Nat × Nat)
  | 1 => [(2, 0)]
  | 2 => [(2, 0), (2, 2), (4, 0)]
  | 3 => [(2, 0), (2, 2), (2, 4), (2, 6), (4, 0), (4, 4), (8, 0)]
  | _ => []
def allP (n : Nat) (r : List Int) : List (List Int) := (stepsN n).foldl grow [r]
end MR
namespace MR
open PySem L2 DL
def eM {β : Type} (e : β → D) (ks : List (Int × β)) : D := .dk (ks.map fun p => (p.1, e p.2))
section
variable {α β σ τ : Type} {κ : Kt} {A : AS} {X : AX} {wd : TDI} {g : TGd} {ta tb tk tv : TD} {vs : List Nat}
def ixK (ks : List (Int × β)) (k : Int) : Res β := match valK ks k with
  | some v => .ok v
  | none => .no
def dcR (f : α → Res (Int × β)) : List α → List (Int × β) → Res (List (Int × β))
  | [], acc => .ok acc
  | x :: xs, acc => (f x).ne.bnd fun z => if acc.length < sizeLine then dcR f xs (putK acc z.1 z.2) else .no
def lc2R {γ : Type} (rw : α → Res (List β)) (f : α → β → Res γ) : List α → List γ → Res (List γ)
  | [], acc => .ok acc
  | x :: xs, acc => (rw x).ne.bnd fun ys => (lcR (fun _ => .ok true) (f x) ys acc).bnd fun acc' => lc2R rw f xs acc'
end
end MR
namespace MR
open PySem L2 DL
section
variable {α β γ δ : Type}
def AlE (e : α → D) : Prop := ∀ a b, PySem.W.alike (toPy (e a)) (toPy (e b)) = true
def sortN (e : α → D) (l : List α) : List α := l.mergeSort fun a b => leD (e a) (e b)
def oI : Option Int → Res Int
  | some i => .ok i
  | none => .no
end
end MR
namespace MR
open PySem L2 DL
section
variable {α β γ : Type}
end
end MR
namespace MR
open PySem L2 DL
def oV {α : Type} (f : α → VC) : Option α → VC
  | none => .no
  | some v => f v
def oG {α : Type} : Option α → Res α
  | none => .no
  | some v => .ok v
end MR
namespace MR
open PySem L2 DL
variable {ta tb : TD} {A : AS}
def combR (a b : Int) : Res Int := grd (0 ≤ a ∧ 0 ≤ b ∧ a < 2 ^ 64 ∧ a ≤ 18000) (PySem.W.mcComb a b)
end MR
namespace MR
open PySem L2 DL
section
variable {α β : Type} {κ : Kt} {A : AS} {N : AN} {X : AX} {wd : TDI} {g : TGd} {tk tv : TD} {vs : List Nat}
instance : Coe (List Int) (Sq Int) := ⟨Sq.mk true⟩
end
end MR
namespace MR
open PySem L2 DL
section
variable {α β σ τ : Type} {κ : Kt} {A : AS} {X : AX} {wd : TDI} {g : TGd} {te : TD} {vs : List Nat}
def seqDR (d : D) : Res (List D) := match seqD d with
  | some ds => .ok ds
  | none => .no
theorem ri_iterD {ta : TD} {r : Res D} (h : Rv ta A id r) : Rv (dIter ta) A (List.map id) (r.bnd seqDR) := fun κ P X k s P' PX hs hp hx => by
  rw [wp_bnd] at k
  refine h κ (fun d A1 => ∃ ds, seqD d = some ds ∧ P (ds.map id) A1) X (wp_mono k (fun v k => ?_) fun _ _ q => q) s _ _ hs (fun d A1 s1 ⟨ds, ed, p⟩ hs1 f1 => ⟨ds, ed, hp _ _ _ (by simpa using p) hs1 f1⟩) hx
  unfold seqDR at k
  cases e : seqD v with
  | none => rw [e] at k; exact k.elim
  | some ds => rw [e] at k; exact ⟨ds, e, k⟩
def allR (f : α → Res Bool) : List α → Res Bool
  | [] => .ok true
  | x :: xs => (f x).ne.bnd fun b => cond b (allR f xs) (.ok false)
theorem allR_cons {f : α → Res Bool} {x : α} {xs : List α} : allR f (x :: xs) = (f x).ne.bnd fun b => cond b (allR f xs) (.ok false) := rfl
theorem allR_ok {f : α → Res Bool} {p : α → Bool} : ∀ {xs : List α}, (∀ x ∈ xs, f x = .ok (p x)) → allR f xs = .ok (xs.all p)
  | [], _ => rfl
  | x :: xs, h => by
    rw [allR_cons, h x (.head _), ok_ne, ok_bnd, List.all_cons]
    cases p x with
    | true => exact allR_ok fun y hy => h y (.tail _ hy)
    | false => rfl
theorem allR_wp {f : α → Res Bool} {Q : Bool → Prop} {X X' : Str → D → Prop} : ∀ {xs : List α}, wp (allR f xs) Q X → wp (allR f xs) Q X'
  | [], h => h
  | x :: xs, h => by
    rw [allR_cons] at h ⊢
    refine ne_wp h fun b h => ?_
    cases b with
    | true => exact allR_wp (xs := xs) h
    | false => exact h
theorem Sat.off_pin {s : S} (h : Sat κ s A) : Sat ⟨κ.nl, []⟩ s A where
  len := h.len
  at_ := h.at_
  ne := fun i j c x v a b e f hv => h.ne i j c x v a b e f (hv.imp id fun q => by simp [Kt.free] at q)
  lt := h.lt
  nl := h.nl
  pin := fun p hp => by cases hp
theorem a_allR (enc : α → D) {f : α → Res Bool} {P : Bool → AS → Prop} (tc : Tc vs g) (ho : ownsOut A vs = true)
    (hb : ∀ nl x, JG ⟨nl, []⟩ g (enc x) (wipeA A vs) fun A1 => Keep A A1 ∧ Rv te A1 D.bl (f x)) :
    ∀ (xs : List α) (s0 s : S) (P' : D → S → Prop), Sat κ s A → Fr s0 s → (∀ b A' s', P b A' → Sat κ s' A' → Fr s0 s' → P' (.bl b) s') → wp (allR f xs) (fun b => P b A) (fun _ _ => False) → allD g te vs P' (xs.map enc) s
  | [], s0, s, P', hs, fr, hp, h => hp _ _ _ h hs fr
  | x :: xs, s0, s, P', hs, fr, hp, h => by
    rw [allR_cons, wp_bnd, wp_ne] at h
    have h1 := JG.to (hb κ.nl x) (hs.off_pin.wipe vs (by simp [Kt.free]))
    have back : ∀ (s2 s3 : S) (A3 : AS), (∀ j : Nat, j ∉ vs → s2.r[j]? = (wipeS s.r vs)[j]?) → (∀ (j c : Nat), s2.r[j]? = some (Sl.cell c) → (wipeS s.r vs)[j]? = some (Sl.cell c)) → s2.M = s.M → Fr s2 s3 → Sat ⟨κ.nl, []⟩ s3 A3 → Keep A A3 → Sat κ { s3 with r := s.r } A ∧ Fr s0 { s3 with r := s.r } := fun s2 s3 A3 e2 c2 m2 f3 hs3 hk => by
      obtain ⟨kl, ka⟩ := hk.at_
      obtain ⟨sl, sd, so, sn⟩ := (SameD.refl A).at_
      have hs4 : Sat ⟨κ.nl, []⟩ { s3 with r := s.r } A := by
        refine hs.off_pin.unwipe hs3 (by have := f3.len; rw [m2] at this; exact this) sl fun j v ev => ?_
        cases v with
        | no => exact .inl rfl
        | dat d => exact .inr (.inl ⟨d, rfl, sd j d ev⟩)
        | own y =>
          obtain ⟨y2, q⟩ := so j y ev
          have hj := ownsOut_at ho q
          refine .inr (.inr ⟨y, y2, rfl, ka j y ev, q, ?_⟩)
          rw [f3.r, e2 j hj, wipeS_at _ _ _ hj]
      refine ⟨⟨hs4.len, hs4.at_, fun i j c x v a b e f hv => hs.ne i j c x v a b e f hv, hs4.lt, hs4.nl, hs.pin⟩, ?_⟩
      refine fr.trans ⟨rfl, by have := f3.len; rw [m2] at this; exact this, fun c hc hn => ?_⟩
      have hn2 : ∀ i : Nat, s2.r[i]? ≠ some (Sl.cell c) := fun i q => wipeS_no vs hn i (c2 i c q)
      show s3.M[c]? = _
      rw [f3.at_ c (by rw [m2]; exact hc) hn2, m2]
    refine tc.m _ _ _ _ ?_ (tc.t _ _ _ h1)
    rintro s2 ⟨⟨A1, ⟨hk, he⟩, hs2⟩, e2, c2, m2⟩
    refine he ⟨κ.nl, []⟩ (fun y A2 => ∃ b, y = D.bl b ∧ A2 = A1 ∧ wp (cond b (allR f xs) (.ok false)) (fun b => P b A) (fun _ _ => False)) (fun _ _ _ => False) (wp_mono h (fun b h => ⟨b, rfl, rfl, h⟩) fun _ _ q => q) s2 _ _ hs2 (fun y A2 s3 ⟨b, ey, eA, h⟩ hs3 f3 => ?_) (fun _ _ _ _ q _ => q.elim)
    subst ey eA
    obtain ⟨b1, b2⟩ := back s2 s3 A2 e2 c2 m2 f3 hs3 hk
    refine ⟨b, rfl, fun eb => ?_, fun eb => ?_⟩
    · subst eb
      exact a_allR enc tc ho hb xs s0 _ P' b1 b2 hp h
    · subst eb
      exact hp _ _ _ h b1 b2
theorem rv_allG (enc : α → D) {f : α → Res Bool} {r : Res (List α)} (tc : Tc vs g) (ho : ownsOut A vs = true) (hw : Rv wd A (List.map enc) r)
    (hb : ∀ nl x, JG ⟨nl, []⟩ g (enc x) (wipeA A vs) fun A1 => Keep A A1 ∧ Rv te A1 D.bl (f x)) : Rv (dAllG wd g te vs) A D.bl (r.bnd fun xs => allR f xs) := fun κ P X h s P' PX hs hp hx => by
  rw [wp_bnd] at h
  refine hw κ (fun ds A1 => ∃ xs, ds = xs.map enc ∧ A1 = A ∧ wp (allR f xs) (fun b => P (.bl b) A) (fun c x => X c x A)) X (wp_mono h (fun xs q => ⟨xs, rfl, rfl, q⟩) fun _ _ q => q) s _ _ hs (fun ds A1 s1 ⟨xs, ed, eA, q⟩ hs1 f1 => ?_) hx
  subst ed; subst eA
  exact a_allR (κ := κ) (P := fun b A' => P (.bl b) A') enc tc ho hb xs s s1 _ hs1 f1 (fun b A' s' p hs' fr => hp _ _ _ p hs' fr) (allR_wp q)
end
end MR
namespace MR
open PySem L2 DL
section
variable {α β σ τ : Type} {κ : Kt} {A : AS} {X : AX} {ta tb : TD}
theorem rv_count {ra : Res (List Int)} {rb : Res Int} (ha : Rv ta A (eL D.int) ra) (hb : Rv tb A D.int rb) : Rv (dBM1 rCountD ta tb) A D.int (ra.bnd fun l => rb.bnd fun k => .ok (l.count k : Int)) := fun κ P X k s P' PX hs hp hx => by
  rw [wp_bnd] at k
  refine ha κ (fun d A1 => ∃ l : List Int, d = eL D.int l ∧ A1 = A ∧ wp (rb.bnd fun k => Res.ok (l.count k : Int)) (fun v => P (D.int v) A) (fun c x => X c x A)) X (wp_mono k (fun m k => ⟨m, rfl, rfl, k⟩) fun _ _ q => q) s _ _ hs (fun d A1 s1 ⟨l, ed, eA, k⟩ hs1 f1 => ?_) hx
  subst ed eA
  rw [wp_bnd] at k
  refine ⟨⟨_, rfl⟩, hb κ (fun y A2 => ∃ j, y = D.int j ∧ A2 = A1 ∧ P (D.int (l.count j : Int)) A1) X (wp_mono k (fun j k => ⟨j, rfl, rfl, k⟩) fun _ _ q => q) s1 _ _ hs1 (fun y A2 s2 ⟨j, ey, eA, k⟩ hs2 f2 => ?_) hx⟩
  subst ey eA
  exact ⟨l, j, rfl, rfl, hp _ _ _ k hs2 (f1.trans f2)⟩
theorem wp_useN {r : Res α} {f : α → Res β} {Q : β → Prop} {X X' : Str → D → Prop} {P : α → Prop} (h : wp (r.ne.bnd f) Q X) (k : ∀ v, wp (f v) Q X → P v) : wp r P X' := by
  cases r with
  | ok v => exact k v h
  | er c x => exact h.elim
  | no => exact h.elim
theorem gd_ne {P : α → Prop} {r : Res α} (h : Gd P r) : Gd P r.ne := by
  obtain ⟨v, e, p⟩ := h
  rw [e, ok_ne]; exact ⟨v, rfl, p⟩
theorem ev_isB (neg a b : Bool) : ∀ P : D → Prop, P (.bl (neg ^^ decide (a = b))) → rIsB neg (.bl a) (.bl b) P := fun P p => ⟨a, b, rfl, rfl, p⟩
end
end MR
namespace LawP
open PySem L2 DL MR
def topS (i : Nat) : Stmt := PySem.Challenge.pw_boutstairs_k19_tables_of_records.main.body.getD i (.Pass ⟨0, 0, 0, 0⟩)
abbrev st_is_number : Stmt := topS 7
theorem sc_is_number : FnScope ["value"] ["value"] (defScope st_is_number) := ⟨rfl, rfl, rfl, by decide +kernel, rfl, by decide +kernel, by decide +kernel⟩
abbrev st_are_numbers : Stmt := topS 8
theorem sc_are_numbers : FnScope ["value", "part"] ["value"] (defScope st_are_numbers) := ⟨rfl, rfl, rfl, by decide +kernel, rfl, by decide +kernel, by decide +kernel⟩
abbrev st_are_rows : Stmt := topS 9
theorem sc_are_rows : FnScope ["value", "part"] ["value"] (defScope st_are_rows) := ⟨rfl, rfl, rfl, by decide +kernel, rfl, by decide +kernel, by decide +kernel⟩
abbrev st_check_letters : Stmt := topS 14
theorem sc_check_letters : FnScope ["x", "row", "i", "told", "behind_loss"] ["x", "row"] (defScope st_check_letters) := ⟨rfl, rfl, rfl, by decide +kernel, rfl, by decide +kernel, by decide +kernel⟩
abbrev st_check_rounds : Stmt := topS 15
theorem sc_check_rounds : FnScope ["rows", "longest", "i", "letters", "row"] ["rows", "longest"] (defScope st_check_rounds) := ⟨rfl, rfl, rfl, by decide +kernel, rfl, by decide +kernel, by decide +kernel⟩
abbrev st_made_records : Stmt := topS 16
theorem sc_made_records : FnScope ["rows", "x", "row", "longest"] ["rows"] (defScope st_made_records) := ⟨rfl, rfl, rfl, by decide +kernel, rfl, by decide +kernel, by decide +kernel⟩
abbrev st_is_records : Stmt := topS 17
theorem sc_is_records : FnScope ["rows"] ["rows"] (defScope st_is_records) := ⟨rfl, rfl, rfl, by decide +kernel, rfl, by decide +kernel, by decide +kernel⟩
abbrev st__law_pool : Stmt := topS 19
theorem sc__law_pool : FnScope ["_law_script", "_law_k", "_law_cell", "_law_big", "_law_stirred"] ["_law_script", "_law_k"] (defScope st__law_pool) := ⟨rfl, rfl, rfl, by decide +kernel, rfl, by decide +kernel, by decide +kernel⟩
abbrev st__law_take : Stmt := topS 20
theorem sc__law_take : FnScope ["_law_source", "_law_top", "_law_digit"] ["_law_source", "_law_top"] (defScope st__law_take) := ⟨rfl, rfl, rfl, by decide +kernel, rfl, by decide +kernel, by decide +kernel⟩
abbrev st__law_one : Stmt := topS 21
theorem sc__law_one : FnScope ["_law_source", "_law_things"] ["_law_source", "_law_things"] (defScope st__law_one) := ⟨rfl, rfl, rfl, by decide +kernel, rfl, by decide +kernel, by decide +kernel⟩
abbrev st__law_shuffled : Stmt := topS 22
theorem sc__law_shuffled : FnScope ["_law_source", "_law_count", "_law_left", "_law_found", "_law_x", "_law_turn"] ["_law_source", "_law_count"] (defScope st__law_shuffled) := ⟨rfl, rfl, rfl, by decide +kernel, rfl, by decide +kernel, by decide +kernel⟩
abbrev st__law_figures : Stmt := topS 23
theorem sc__law_figures : FnScope ["_law_source", "_law_n", "_law_kind", "_law_row", "_law_ranks", "_law_x"] ["_law_source", "_law_n"] (defScope st__law_figures) := ⟨rfl, rfl, rfl, by decide +kernel, rfl, by decide +kernel, by decide +kernel⟩
abbrev st__law_may : Stmt := topS 24
theorem sc__law_may : FnScope ["_law_figures_here", "_law_y", "_law_x"] ["_law_figures_here", "_law_y", "_law_x"] (defScope st__law_may) := ⟨rfl, rfl, rfl, by decide +kernel, rfl, by decide +kernel, by decide +kernel⟩
abbrev st__law_stair : Stmt := topS 25
theorem sc__law_stair : FnScope ["_law_figures_here", "_law_sides", "_law_guard", "_law_x"] ["_law_figures_here", "_law_sides"] (defScope st__law_stair) := ⟨rfl, rfl, rfl, by decide +kernel, rfl, by decide +kernel, by decide +kernel⟩
abbrev st__law_drawn_round : Stmt := topS 26
theorem sc__law_drawn_round : FnScope ["_law_source", "_law_figures_here", "_law_left", "_law_is_full", "_law_names", "_law_k", "_law_many", "_law_seats", "_law_found", "_law_x", "_law_may_here", "_law_y"] ["_law_source", "_law_figures_here", "_law_left", "_law_is_full"] (defScope st__law_drawn_round) := ⟨rfl, rfl, rfl, by decide +kernel, rfl, by decide +kernel, by decide +kernel⟩
abbrev st__law_cup : Stmt := topS 27
theorem sc__law_cup : FnScope ["_law_source", "_law_figures_here", "_law_n", "_law_row", "_law_left", "_law_is_full", "_law_x", "_law_r", "_law_found", "_law_y"] ["_law_source", "_law_figures_here"] (defScope st__law_cup) := ⟨rfl, rfl, rfl, by decide +kernel, rfl, by decide +kernel, by decide +kernel⟩
abbrev st__law_rounds : Stmt := topS 28
theorem sc__law_rounds : FnScope ["_law_cup_here", "_law_pair"] ["_law_cup_here"] (defScope st__law_rounds) := ⟨rfl, rfl, rfl, by decide +kernel, rfl, by decide +kernel, by decide +kernel⟩
abbrev st__law_letters : Stmt := topS 29
theorem sc__law_letters : FnScope ["_law_cup_here", "_law_rows", "_law_top", "_law_x", "_law_last", "_law_row", "_law_r", "_law_z"] ["_law_cup_here"] (defScope st__law_letters) := ⟨rfl, rfl, rfl, by decide +kernel, rfl, by decide +kernel, by decide +kernel⟩
abbrev st__law_due : Stmt := topS 30
theorem sc__law_due : FnScope ["_law_rows", "_law_x", "_law_i", "_law_longest", "_law_row", "_law_r", "_law_letters_here"] ["_law_rows"] (defScope st__law_due) := ⟨rfl, rfl, rfl, by decide +kernel, rfl, by decide +kernel, by decide +kernel⟩
abbrev st__law_told : Stmt := topS 31
theorem sc__law_told : FnScope ["_law_rows", "_law_told_here", "raised"] ["_law_rows"] (defScope st__law_told) := ⟨rfl, rfl, rfl, by decide +kernel, rfl, by decide +kernel, by decide +kernel⟩
abbrev st__law_bent : Stmt := topS 32
theorem sc__law_bent : FnScope ["_law_source", "_law_rows", "_law_new", "_law_row", "_law_turn", "_law_x", "_law_letter", "_law_at", "_law_way", "_law_y"] ["_law_source", "_law_rows"] (defScope st__law_bent) := ⟨rfl, rfl, rfl, by decide +kernel, rfl, by decide +kernel, by decide +kernel⟩
abbrev st__law_right : Stmt := topS 33
theorem sc__law_right : FnScope ["_law_rows", "_law_due_here", "_law_said"] ["_law_rows"] (defScope st__law_right) := ⟨rfl, rfl, rfl, by decide +kernel, rfl, by decide +kernel, by decide +kernel⟩
abbrev st_law : Stmt := topS 34
theorem sc_law : FnScope ["_law_script", "_law_k", "_law_source", "_law_n", "_law_rows", "_law_some", "_law_x", "_law_odd", "_law_thing"] ["_law_script"] (defScope st_law) := ⟨rfl, rfl, rfl, by decide +kernel, rfl, by decide +kernel, by decide +kernel⟩
def clsB : Stmt → List Stmt
  | .ClassDef (body := b) .. => b
  | _ => []
abbrev st_ini : Stmt := (clsB (topS 1)).getD 0 (.Pass ⟨0, 0, 0, 0⟩)
theorem sc_ini : FnScope ["self", "what"] ["self", "what"] (defScope st_ini) := ⟨rfl, rfl, rfl, by decide +kernel, rfl, by decide +kernel, by decide +kernel⟩
def LC_ : List Str := ["BadRecord", "BadRounds", "BadSize"]
def HC_ : List Str := ["Refused", "BadSize", "BadRecord", "BadRounds"]
structure Txt (K : PySem.W.Frag) (mg : Str → Option Value) (CA : Str → Addr) where
  f_ini : Addr
  fd_ini : FuncData
  F_ini : Fun K "__init__" "Refused.__init__" st_ini f_ini fd_ini
  b_ini : Binds K fd_ini ["self", "what"] []
  ti_ini : PySem.W.typeIn K (.ref f_ini) = some (.type "function")
  e_er : ∀ c ∈ LC_, ErrC K (CA c) f_ini
  em_er : ∀ c ∈ LC_, ∀ C ∈ HC_, PySem.W.exmOne K (.ref (CA c)) (.ref (CA C)) = some (subE c C)
  gC_Refused : mg "Refused" = some (.ref (CA "Refused"))
  gC_BadSize : mg "BadSize" = some (.ref (CA "BadSize"))
  gC_BadRounds : mg "BadRounds" = some (.ref (CA "BadRounds"))
  gC_BadRecord : mg "BadRecord" = some (.ref (CA "BadRecord"))
  f_is_number : Addr
  fd_is_number : FuncData
  F_is_number : Fun K "is_number" "is_number" st_is_number f_is_number fd_is_number
  b_is_number : Binds K fd_is_number ["value"] []
  g_is_number : mg "is_number" = some (.ref f_is_number)
  f_are_numbers : Addr
  fd_are_numbers : FuncData
  F_are_numbers : Fun K "are_numbers" "are_numbers" st_are_numbers f_are_numbers fd_are_numbers
  b_are_numbers : Binds K fd_are_numbers ["value"] []
  g_are_numbers : mg "are_numbers" = some (.ref f_are_numbers)
  cc_are_numbers : Addr
  tt_are_numbers : Addr
  FC_are_numbers : FunC K "are_numbers" "are_numbers" st_are_numbers f_are_numbers fd_are_numbers cc_are_numbers
  f_are_rows : Addr
  fd_are_rows : FuncData
  F_are_rows : Fun K "are_rows" "are_rows" st_are_rows f_are_rows fd_are_rows
  b_are_rows : Binds K fd_are_rows ["value"] []
  g_are_rows : mg "are_rows" = some (.ref f_are_rows)
  cc_are_rows : Addr
  tt_are_rows : Addr
  FC_are_rows : FunC K "are_rows" "are_rows" st_are_rows f_are_rows fd_are_rows cc_are_rows
  f_check_letters : Addr
  fd_check_letters : FuncData
  F_check_letters : Fun K "check_letters" "check_letters" st_check_letters f_check_letters fd_check_letters
  b_check_letters : Binds K fd_check_letters ["x", "row"] []
  g_check_letters : mg "check_letters" = some (.ref f_check_letters)
  f_check_rounds : Addr
  fd_check_rounds : FuncData
  F_check_rounds : Fun K "check_rounds" "check_rounds" st_check_rounds f_check_rounds fd_check_rounds
  b_check_rounds : Binds K fd_check_rounds ["rows", "longest"] []
  g_check_rounds : mg "check_rounds" = some (.ref f_check_rounds)
  f_made_records : Addr
  fd_made_records : FuncData
  F_made_records : Fun K "made_records" "made_records" st_made_records f_made_records fd_made_records
  b_made_records : Binds K fd_made_records ["rows"] []
  g_made_records : mg "made_records" = some (.ref f_made_records)
  f_is_records : Addr
  fd_is_records : FuncData
  F_is_records : Fun K "is_records" "is_records" st_is_records f_is_records fd_is_records
  b_is_records : Binds K fd_is_records ["rows"] []
  g_is_records : mg "is_records" = some (.ref f_is_records)
  f__law_pool : Addr
  fd__law_pool : FuncData
  F__law_pool : Fun K "_law_pool" "_law_pool" st__law_pool f__law_pool fd__law_pool
  b__law_pool : Binds K fd__law_pool ["_law_script", "_law_k"] []
  g__law_pool : mg "_law_pool" = some (.ref f__law_pool)
  f__law_take : Addr
  fd__law_take : FuncData
  F__law_take : Fun K "_law_take" "_law_take" st__law_take f__law_take fd__law_take
  b__law_take : Binds K fd__law_take ["_law_source", "_law_top"] []
  g__law_take : mg "_law_take" = some (.ref f__law_take)
  f__law_one : Addr
  fd__law_one : FuncData
  F__law_one : Fun K "_law_one" "_law_one" st__law_one f__law_one fd__law_one
  b__law_one : Binds K fd__law_one ["_law_source", "_law_things"] []
  g__law_one : mg "_law_one" = some (.ref f__law_one)
  f__law_shuffled : Addr
  fd__law_shuffled : FuncData
  F__law_shuffled : Fun K "_law_shuffled" "_law_shuffled" st__law_shuffled f__law_shuffled fd__law_shuffled
  b__law_shuffled : Binds K fd__law_shuffled ["_law_source", "_law_count"] []
  g__law_shuffled : mg "_law_shuffled" = some (.ref f__law_shuffled)
  f__law_figures : Addr
  fd__law_figures : FuncData
  F__law_figures : Fun K "_law_figures" "_law_figures" st__law_figures f__law_figures fd__law_figures
  b__law_figures : Binds K fd__law_figures ["_law_source", "_law_n"] []
  g__law_figures : mg "_law_figures" = some (.ref f__law_figures)
  f__law_may : Addr
  fd__law_may : FuncData
  F__law_may : Fun K "_law_may" "_law_may" st__law_may f__law_may fd__law_may
  b__law_may : Binds K fd__law_may ["_law_figures_here", "_law_y", "_law_x"] []
  g__law_may : mg "_law_may" = some (.ref f__law_may)
  f__law_stair : Addr
  fd__law_stair : FuncData
  F__law_stair : Fun K "_law_stair" "_law_stair" st__law_stair f__law_stair fd__law_stair
  b__law_stair : Binds K fd__law_stair ["_law_figures_here", "_law_sides"] []
  g__law_stair : mg "_law_stair" = some (.ref f__law_stair)
  f__law_drawn_round : Addr
  fd__law_drawn_round : FuncData
  F__law_drawn_round : Fun K "_law_drawn_round" "_law_drawn_round" st__law_drawn_round f__law_drawn_round fd__law_drawn_round
  b__law_drawn_round : Binds K fd__law_drawn_round ["_law_source", "_law_figures_here", "_law_left", "_law_is_full"] []
  g__law_drawn_round : mg "_law_drawn_round" = some (.ref f__law_drawn_round)
  f__law_cup : Addr
  fd__law_cup : FuncData
  F__law_cup : Fun K "_law_cup" "_law_cup" st__law_cup f__law_cup fd__law_cup
  b__law_cup : Binds K fd__law_cup ["_law_source", "_law_figures_here"] []
  g__law_cup : mg "_law_cup" = some (.ref f__law_cup)
  f__law_rounds : Addr
  fd__law_rounds : FuncData
  F__law_rounds : Fun K "_law_rounds" "_law_rounds" st__law_rounds f__law_rounds fd__law_rounds
  b__law_rounds : Binds K fd__law_rounds ["_law_cup_here"] []
  g__law_rounds : mg "_law_rounds" = some (.ref f__law_rounds)
  f__law_letters : Addr
  fd__law_letters : FuncData
  F__law_letters : Fun K "_law_letters" "_law_letters" st__law_letters f__law_letters fd__law_letters
  b__law_letters : Binds K fd__law_letters ["_law_cup_here"] []
  g__law_letters : mg "_law_letters" = some (.ref f__law_letters)
  f__law_due : Addr
  fd__law_due : FuncData
  F__law_due : Fun K "_law_due" "_law_due" st__law_due f__law_due fd__law_due
  b__law_due : Binds K fd__law_due ["_law_rows"] []
  g__law_due : mg "_law_due" = some (.ref f__law_due)
  f__law_told : Addr
  fd__law_told : FuncData
  F__law_told : Fun K "_law_told" "_law_told" st__law_told f__law_told fd__law_told
  b__law_told : Binds K fd__law_told ["_law_rows"] []
  g__law_told : mg "_law_told" = some (.ref f__law_told)
  f__law_bent : Addr
  fd__law_bent : FuncData
  F__law_bent : Fun K "_law_bent" "_law_bent" st__law_bent f__law_bent fd__law_bent
  b__law_bent : Binds K fd__law_bent ["_law_source", "_law_rows"] []
  g__law_bent : mg "_law_bent" = some (.ref f__law_bent)
  f__law_right : Addr
  fd__law_right : FuncData
  F__law_right : Fun K "_law_right" "_law_right" st__law_right f__law_right fd__law_right
  b__law_right : Binds K fd__law_right ["_law_rows"] []
  g__law_right : mg "_law_right" = some (.ref f__law_right)
  f_law : Addr
  fd_law : FuncData
  F_law : Fun K "law" "law" st_law f_law fd_law
  b_law : Binds K fd_law ["_law_script"] []
  g_law : mg "law" = some (.ref f_law)
  z_all : mg "all" = none
  z_bool : mg "bool" = none
  z_enumerate : mg "enumerate" = none
  z_int : mg "int" = none
  z_isinstance : mg "isinstance" = none
  z_len : mg "len" = none
  z_max : mg "max" = none
  z_min : mg "min" = none
  z_range : mg "range" = none
  z_sorted : mg "sorted" = none
  z_tuple : mg "tuple" = none
  t_LOSES : Tok
  c_LOSES : mg "LOSES" = some (.int (-1) t_LOSES)
  t_MOST_SIDES : Tok
  c_MOST_SIDES : mg "MOST_SIDES" = some (.int 32 t_MOST_SIDES)
  t_RESTS : Tok
  c_RESTS : mg "RESTS" = some (.int 0 t_RESTS)
  t_WINS : Tok
  c_WINS : mg "WINS" = some (.int 1 t_WINS)
abbrev Txt.TA {K : PySem.W.Frag} {mg : Str → Option Value} {CA : Str → Addr} (T : Txt K mg CA) : List Addr := [T.tt_are_numbers, T.tt_are_rows]
theorem Txt.mem_are_numbers {K : PySem.W.Frag} {mg : Str → Option Value} {CA : Str → Addr} (T : Txt K mg CA) : T.tt_are_numbers ∈ T.TA := by simp [Txt.TA]
theorem Txt.mem_are_rows {K : PySem.W.Frag} {mg : Str → Option Value} {CA : Str → Addr} (T : Txt K mg CA) : T.tt_are_rows ∈ T.TA := by simp [Txt.TA]
theorem ok_INI {P : Program} {w : World} {K : PySem.W.Frag} {mg : Str → Option Value} {base : Heap} {CA : Str → Addr} (T : Txt K mg CA) : FnOk P w K mg base (L2.CX P w) 1 T.f_ini T.fd_ini ["self", "what"] (spIni K) :=
  ok_ini T.F_ini sc_ini fun cdv A outer s H E => pss_one (ps_ost (pv 0) (pv 1))
section
variable {κ : Kt}
end
@[irreducible] def m_is_number (value1 : D) : Res Bool :=
  andR (isTR "int" (id value1)) (notR (isTR "bool" (id value1)))
def sp_is_number : SpD := fun xs M P PX => ∃ (value1 : D), xs = [.dat (id value1)] ∧ M = [] ∧ wp (m_is_number value1) (fun v => P (D.bl v) []) (fun c x => PX c x [])
theorem len_is_number : ∀ xs M P PX, sp_is_number xs M P PX → xs.length = 1 := by rintro _ _ _ _ ⟨_, rfl, _⟩; rfl
theorem call_is_number (value1 : D) : Call0 sp_is_number [id value1] D.bl (m_is_number value1) := fun P PX h => ⟨_, rfl, rfl, h⟩
theorem num_int (i : Int) : m_is_number (.int i) = .ok true := by
  unfold m_is_number
  rw [show isTR "int" (id (D.int i)) = .ok true from isI_int i, show isTR "bool" (id (D.int i)) = .ok false from isB_int i, notR_ok, andR_oo]; rfl
theorem num_str (w : Wd) : m_is_number (eW w) = .ok false := by
  unfold m_is_number
  rw [show isTR "int" (id (eW w)) = .ok false from isI_str w, andR_ok, cond_false]
theorem num_non : m_is_number .non = .ok false := by
  unfold m_is_number
  rw [show isTR "int" (id D.non) = .ok false from rfl, andR_ok, cond_false]
theorem num_tup (ds : List D) : m_is_number (.tup ds) = .ok false := by
  unfold m_is_number
  rw [show isTR "int" (id (D.tup ds)) = .ok false from rfl, andR_ok, cond_false]
@[irreducible] def m_are_numbers (value1 : D) : Res Bool :=
  andR (isTR "tuple" (id value1)) ((seqDR value1).bnd fun (xs_ : List D) => allR (fun (x2 : D) => m_is_number x2) xs_)
def sp_are_numbers : SpD := fun xs M P PX => ∃ (value1 : D), xs = [.dat (id value1)] ∧ M = [] ∧ wp (m_are_numbers value1) (fun v => P (D.bl v) []) (fun c x => PX c x [])
theorem len_are_numbers : ∀ xs M P PX, sp_are_numbers xs M P PX → xs.length = 1 := by rintro _ _ _ _ ⟨_, rfl, _⟩; rfl
theorem call_are_numbers (value1 : D) : Call0 sp_are_numbers [id value1] D.bl (m_are_numbers value1) := fun P PX h => ⟨_, rfl, rfl, h⟩
theorem nums_tup {ds : List D} (h : ∀ d ∈ ds, m_is_number d = .ok true) : m_are_numbers (.tup ds) = .ok true := by
  unfold m_are_numbers
  rw [show isTR "tuple" (id (D.tup ds)) = .ok true from rfl, andR_ok, cond_true, show seqDR (.tup ds) = .ok ds from rfl, ok_bnd, allR_ok (p := fun _ => true) h]
  simp
theorem nums_ints (L : List Int) : m_are_numbers (eT D.int L) = .ok true := nums_tup fun d hd => by
  obtain ⟨i, _, rfl⟩ := List.mem_map.mp hd
  exact num_int i
theorem nums_no {d : D} (h : isTR "tuple" d = .ok false) : m_are_numbers d = .ok false := by
  unfold m_are_numbers
  rw [show isTR "tuple" (id d) = .ok false from h, andR_ok, cond_false]
theorem allR_stop {α : Type} {f : α → Res Bool} {d : α} {B : List α} (hd : f d = .ok false) : ∀ {A : List α}, (∀ a ∈ A, f a = .ok true) → allR f (A ++ d :: B) = .ok false
  | [], _ => by rw [List.nil_append, allR_cons, hd, ok_ne, ok_bnd, cond_false]
  | a :: A, h => by rw [List.cons_append, allR_cons, h a (.head _), ok_ne, ok_bnd, cond_true]; exact allR_stop hd fun x hx => h x (.tail _ hx)
theorem nums_at {d : D} {A B : List D} (ha : ∀ a ∈ A, m_is_number a = .ok true) (h : m_is_number d = .ok false) : m_are_numbers (.tup (A ++ d :: B)) = .ok false := by
  unfold m_are_numbers
  rw [show isTR "tuple" (id (D.tup (A ++ d :: B))) = .ok true from rfl, andR_ok, cond_true, show seqDR (.tup (A ++ d :: B)) = .ok (A ++ d :: B) from rfl, ok_bnd, allR_stop h ha]
theorem nums_first {d : D} {ds : List D} (h : m_is_number d = .ok false) : m_are_numbers (.tup (d :: ds)) = .ok false := nums_at (A := []) (fun _ q => by cases q) h
@[irreducible] def m_are_rows (value1 : D) : Res Bool :=
  andR (isTR "tuple" (id value1)) ((seqDR value1).bnd fun (xs_ : List D) => allR (fun (x2 : D) => m_are_numbers x2) xs_)
def sp_are_rows : SpD := fun xs M P PX => ∃ (value1 : D), xs = [.dat (id value1)] ∧ M = [] ∧ wp (m_are_rows value1) (fun v => P (D.bl v) []) (fun c x => PX c x [])
theorem len_are_rows : ∀ xs M P PX, sp_are_rows xs M P PX → xs.length = 1 := by rintro _ _ _ _ ⟨_, rfl, _⟩; rfl
theorem call_are_rows (value1 : D) : Call0 sp_are_rows [id value1] D.bl (m_are_rows value1) := fun P PX h => ⟨_, rfl, rfl, h⟩
theorem rows_no {d : D} (h : isTR "tuple" d = .ok false) : m_are_rows d = .ok false := by
  unfold m_are_rows
  rw [show isTR "tuple" (id d) = .ok false from h, andR_ok, cond_false]
theorem rows_at {d : D} {A B : List D} (ha : ∀ a ∈ A, m_are_numbers a = .ok true) (h : m_are_numbers d = .ok false) : m_are_rows (.tup (A ++ d :: B)) = .ok false := by
  unfold m_are_rows
  rw [show isTR "tuple" (id (D.tup (A ++ d :: B))) = .ok true from rfl, andR_ok, cond_true, show seqDR (.tup (A ++ d :: B)) = .ok (A ++ d :: B) from rfl, ok_bnd, allR_stop h ha]
theorem rows_tup {ds : List D} (h : ∀ d ∈ ds, m_are_numbers d = .ok true) : m_are_rows (.tup ds) = .ok true := by
  unfold m_are_rows
  rw [show isTR "tuple" (id (D.tup ds)) = .ok true from rfl, andR_ok, cond_true, show seqDR (.tup ds) = .ok ds from rfl, ok_bnd, allR_ok (p := fun _ => true) h]
  simp
@[irreducible] def m_check_letters (x1 : Int) (row2 : List Int) : Res Unit :=
  (forR (fun (b3 : Unit) (x4 : Int × Int) => (cond (decide (0 < x4.1)) ((ixR row2 (x4.1 - 1)).bnd fun v5 => Res.ok (decide (v5 = (-1)))) (Res.ok false)).bnd fun (v6 : Bool) =>
   cond (v6 || (true ^^ mem x4.2 ([((1, 0, (-1))).1, ((1, 0, (-1))).2.1, ((1, 0, (-1))).2.2]))) (Res.er "BadRecord" ((eP2 D.int D.int) ((x1, x4.1))))
   (Res.ok (()))) (enumL row2) (())).bnd fun (b7 : Unit) =>
   Res.ok (())
def sp_check_letters : SpD := fun xs M P PX => ∃ (x1 : Int) (row2 : List Int), xs = [.dat (D.int x1), .dat ((eT D.int) row2)] ∧ M = [] ∧ wp (m_check_letters x1 row2) (fun v => P (eN v) []) (fun c x => PX c x [])
theorem len_check_letters : ∀ xs M P PX, sp_check_letters xs M P PX → xs.length = 2 := by rintro _ _ _ _ ⟨_, _, rfl, _⟩; rfl
theorem call_check_letters (x1 : Int) (row2 : List Int) : Call0 sp_check_letters [D.int x1, (eT D.int) row2] eN (m_check_letters x1 row2) := fun P PX h => ⟨_, _, rfl, rfl, h⟩
@[irreducible] def m_check_rounds (rows1 : List (List Int)) (longest2 : Int) : Res Unit :=
  (rngR 0 longest2).bnd fun (xs3 : List Int) =>
   (forR (fun (b4 : Unit) (x5 : Int) => (lcR (fun (x6 : List Int) => Res.ok (decide (x5 < ((x6.length : Int))))) (fun (x6 : List Int) => ixR x6 x5) rows1 []).bnd fun (l7 : List Int) =>
   cond ((true ^^ mem ((-1)) l7) || (!decide ((l7.count 1 : Int) = (l7.count ((-1)) : Int)))) (Res.er "BadRounds" (D.int (x5 + 1)))
   (Res.ok (()))) xs3 (())).bnd fun (b8 : Unit) =>
   Res.ok (())
def sp_check_rounds : SpD := fun xs M P PX => ∃ (rows1 : List (List Int)) (longest2 : Int), xs = [.dat ((eT (eT D.int)) rows1), .dat (D.int longest2)] ∧ M = [] ∧ wp (m_check_rounds rows1 longest2) (fun v => P (eN v) []) (fun c x => PX c x [])
theorem len_check_rounds : ∀ xs M P PX, sp_check_rounds xs M P PX → xs.length = 2 := by rintro _ _ _ _ ⟨_, _, rfl, _⟩; rfl
theorem call_check_rounds (rows1 : List (List Int)) (longest2 : Int) : Call0 sp_check_rounds [(eT (eT D.int)) rows1, D.int longest2] eN (m_check_rounds rows1 longest2) := fun P PX h => ⟨_, _, rfl, rfl, h⟩
@[irreducible] def m_made_records (rows1 : List (List Int)) : Res (List (List Int)) :=
  cond (!(decide (1 ≤ ((rows1.length : Int))) && decide (((rows1.length : Int)) ≤ 32))) (Res.er "BadSize" (D.int ((rows1.length : Int))))
   ((forR (fun (b2 : Unit) (x3 : Int × (List Int)) => (m_check_letters x3.1 x3.2).bnd fun (v4 : Unit) =>
   Res.ok (())) (enumL rows1) (())).bnd fun (b5 : Unit) =>
   (szR (rows1.map (fun (x6 : List Int) => (x6.length : Int)))).bnd fun (l7 : List Int) =>
   (maxR l7).bnd fun v8 =>
   (forR (fun (b9 : Unit) (x10 : Int × (List Int)) => cond ((true ^^ mem ((-1)) x10.2) && (!decide ((x10.2.length : Int) = v8))) (Res.er "BadRecord" ((eP2 D.int D.int) ((x10.1, -1))))
   (Res.ok (()))) (enumL rows1) (())).bnd fun (b11 : Unit) =>
   (m_check_rounds rows1 v8).bnd fun (v12 : Unit) =>
   Res.ok rows1)
def sp_made_records : SpD := fun xs M P PX => ∃ (rows1 : List (List Int)), xs = [.dat ((eT (eT D.int)) rows1)] ∧ M = [] ∧ wp (m_made_records rows1) (fun v => P ((eT (eT D.int)) v) []) (fun c x => PX c x [])
theorem len_made_records : ∀ xs M P PX, sp_made_records xs M P PX → xs.length = 1 := by rintro _ _ _ _ ⟨_, rfl, _⟩; rfl
theorem call_made_records (rows1 : List (List Int)) : Call0 sp_made_records [(eT (eT D.int)) rows1] (eT (eT D.int)) (m_made_records rows1) := fun P PX h => ⟨_, rfl, rfl, h⟩
@[irreducible] def m_is_records (rows1 : D) : Res Bool :=
  (notR (m_are_rows rows1)).bnd fun (v3 : Bool) =>
   cond v3 (Res.ok false)
   (((((((nT (nT asI)) rows1).bnd fun v4 => m_made_records v4).bnd fun (v5 : List (List Int)) =>
   Res.ok (Stp.nx (()))).tr fun c6 x7 => cond (decide (c6 ∈ LC_)) (cond (subE c6 "Refused") (Res.ok (Stp.rt false))
   (Res.er c6 x7)) Res.no)).bnd fun (st9 : Stp (Unit) (Bool)) => Stp.on st9 (fun (j8 : Unit) =>
   Res.ok true)
   (fun (w10 : Bool) => Res.ok w10))
def sp_is_records : SpD := fun xs M P PX => ∃ (rows1 : D), xs = [.dat (id rows1)] ∧ M = [] ∧ wp (m_is_records rows1) (fun v => P (D.bl v) []) (fun c x => PX c x [])
theorem len_is_records : ∀ xs M P PX, sp_is_records xs M P PX → xs.length = 1 := by rintro _ _ _ _ ⟨_, rfl, _⟩; rfl
theorem call_is_records (rows1 : D) : Call0 sp_is_records [id rows1] D.bl (m_is_records rows1) := fun P PX h => ⟨_, rfl, rfl, h⟩
@[irreducible] def m__law_pool (script1 : List Int) (k2 : Int) : Res (List Int) :=
  (cond (decide (k2 < ((script1.length : Int)))) ((ixR script1 k2).bnd fun (v3 : Int) =>
   Res.ok v3)
   (cond (!script1.isEmpty) ((ixR script1 0).bnd fun (v4 : Int) =>
   Res.ok v4)
   (Res.ok 0))).bnd fun (j5 : Int) =>
   (((((((mulR (7919 * k2) k2).bnd fun v6 => Res.ok ((((if ((-1) - j5) > j5 then ((-1) - j5) else j5)) % 2147483629) + v6)).bnd fun v7 => Res.ok (v7 + (31 * k2))).bnd fun v8 => Res.ok (v8 + 17)).bnd fun v9 => Res.ok (v9 * 48271)).bnd fun v10 => Res.ok v10).bnd fun v11 => Res.ok (v11 % 2147483647)).bnd fun (v12 : Int) =>
   ((mulR ((if ((-1) - j5) > j5 then ((-1) - j5) else j5)) ((cond (decide ((10 ^ (18 : Int).toNat) ≤ ((if ((-1) - j5) > j5 then ((-1) - j5) else j5)))) 1 0 : Int))).bnd fun v13 => szR [v13, v12]).bnd fun (l14 : List Int) =>
   Res.ok l14
def sp__law_pool : SpF := fun xs _ P => ∃ (script1 : List Int) (k2 : Int), xs = [.dat ((eFL D.int) script1), .dat (D.int k2)] ∧ wp (m__law_pool script1 k2) (fun l => P (l.map D.int)) (fun _ _ => False)
theorem len__law_pool : ∀ xs M P, sp__law_pool xs M P → xs.length = 2 := by rintro _ _ _ ⟨_, _, rfl, _⟩; rfl
theorem call__law_pool (script1 : List Int) (k2 : Int) : CallF sp__law_pool [(eFL D.int) script1, D.int k2] D.int (m__law_pool script1 k2) := fun P h => ⟨_, _, rfl, h⟩
theorem pool_eq (ns : List Int) (k : Int) (hk : 0 ≤ k) (hk2 : k ≤ 1000000) : ∃ s, m__law_pool ns k = .ok s ∧ Gs s := by
  have cell : ∃ c, (cond (decide (k < (ns.length : Int))) ((ixR ns k).bnd fun v => .ok v) (cond (!ns.isEmpty) ((ixR ns 0).bnd fun v => .ok v) (.ok 0)) : Res Int) = .ok c := by
    by_cases c : k < (ns.length : Int)
    · obtain ⟨v, _, e⟩ := ixR_at (xs := ns) hk c
      rw [decide_eq_true c, cond_true, e]; exact ⟨v, rfl⟩
    · rw [decide_eq_false c, cond_false]
      cases ns with
      | nil => exact ⟨0, rfl⟩
      | cons n ns => exact ⟨n, by rw [ixR_cons0]; rfl⟩
  obtain ⟨c, e⟩ := cell
  unfold m__law_pool
  rw [e, ok_bnd, mulR_ok (.inr ⟨by omega, by omega⟩)]
  simp only [ok_bnd]
  generalize hb : (if -1 - c > c then -1 - c else c) = b
  have b0 : 0 ≤ b := by rw [← hb]; by_cases h : -1 - c > c <;> simp only [h, if_true, if_false] <;> omega
  have mb : ∀ z : Int, (z = 0 ∨ z = 1) → mulR b z = .ok (b * z) := fun z hz => mulR_ok (.inr (by omega))
  have key : ∀ z : Int, (z = 0 ∨ z = 1) → ∀ w : Int, ∃ s, (((mulR b z).bnd fun v => szR [v, w % 2147483647]).bnd fun l => .ok l) = .ok s ∧ Gs s := fun z hz w => by
    rw [mb z hz, ok_bnd, szR_ok (by simp; decide : [b * z, w % 2147483647].length ≤ sizeLine), ok_bnd]
    exact ⟨_, rfl, _, _, rfl, by rcases hz with rfl | rfl <;> omega, Int.emod_nonneg _ (by decide), Int.emod_lt_of_pos _ (by decide)⟩
  refine key _ ?_ _
  cases decide ((10 : Int) ^ (18 : Int).toNat ≤ b) <;> simp
theorem ne__law_pool (a : List Int) (b : Int) (c : Str) (x : D) : m__law_pool a b ≠ .er c x := by
  unfold m__law_pool
  refine bnd_neE (fun c x => ?_) (fun j => bnd_neE (fun c x => ?_) fun l => bnd_neE (bnd_neE mulR_neer fun _ => szR_neer) fun _ => ok_neer) c x
  · cases decide (b < (a.length : Int)) with
    | true => exact bnd_neE ixR_neer (fun _ => ok_neer) c x
    | false =>
      cases (!a.isEmpty) with
      | true => exact bnd_neE ixR_neer (fun _ => ok_neer) c x
      | false => exact ok_neer c x
  · refine bnd_neE (bnd_neE (bnd_neE (bnd_neE (bnd_neE (bnd_neE mulR_neer fun _ => ok_neer) fun _ => ok_neer) fun _ => ok_neer) fun _ => ok_neer) fun _ => ok_neer) (fun _ => ok_neer) c x
@[irreducible] def m__law_take (source1 : List Int) (top2 : Int) : Res (Int × (List Int)) :=
  ((ixR source1 0).bnd fun v3 => Res.ok (decide (0 < v3))).bnd fun (v4 : Bool) =>
   cond v4 ((((ixR source1 0).bnd fun v5 => Res.ok v5).bnd fun v6 => modR v6 top2).bnd fun (v7 : Int) =>
   ((ixR source1 0).bnd fun v8 => divR v8 top2).bnd fun (v9 : Int) =>
   (setR source1 0 v9).bnd fun source10 =>
   Res.ok ((v7, source10)))
   ((((((ixR source1 1).bnd fun v11 => Res.ok (v11 * 39373)).bnd fun v12 => Res.ok (v12 + 7)).bnd fun v13 => Res.ok v13).bnd fun v14 => Res.ok (v14 % 2147483647)).bnd fun (v15 : Int) =>
   (setR source1 1 v15).bnd fun source16 =>
   (((((((ixR source16 1).bnd fun v17 => (ixR source16 1).bnd fun v18 => mulR v17 v18).bnd fun v19 => Res.ok v19).bnd fun v20 => Res.ok (v20 % 2147483629)).bnd fun v21 => Res.ok (v21 / 32)).bnd fun v22 => Res.ok v22).bnd fun v23 => modR v23 top2).bnd fun (v24 : Int) =>
   Res.ok ((v24, source16)))
def sp__law_take : SpD := fun xs M P PX => ∃ (source1 : List Int) (top2 : Int), xs = [.cell 0, .dat (D.int top2)] ∧ M = [some (cL D.int source1)] ∧ wp (m__law_take source1 top2) (fun q => P (D.int q.1) [some (cL D.int q.2)]) (fun c x => ∀ y, PX c x [some y])
theorem len__law_take : ∀ xs M P PX, sp__law_take xs M P PX → xs.length = 2 := by rintro _ _ _ _ ⟨_, _, rfl, _⟩; rfl
theorem call__law_take (source1 : List Int) (top2 : Int) : Call1 sp__law_take [.cell 0, .dat (D.int top2)] (cL D.int source1) (fun q => D.int q.1) (fun q => (cL D.int q.2)) (m__law_take source1 top2) := fun P PX h => ⟨_, _, rfl, rfl, h⟩
theorem take_ok {s : List Int} {k : Int} (hs : Gs s) (h : 1 ≤ k) (h2 : k < 2 ^ 200) : ∃ v s', m__law_take s k = .ok (v, s') ∧ 0 ≤ v ∧ v < k ∧ Gs s' := by
  obtain ⟨a, b, rfl, g⟩ := hs
  have a0 := g.a0
  have b0 := g.b0
  have b1 := g.b1
  unfold m__law_take
  simp only [ix0, ok_bnd]
  by_cases c : 0 < a
  · simp only [decide_eq_true c, cond_true, modR_ok (show 0 < k by omega), divR_ok (show 0 < k by omega) h2, set0, ok_bnd]
    exact ⟨_, _, rfl, Int.emod_nonneg _ (by omega), Int.emod_lt_of_pos _ (by omega), _, _, rfl, Int.ediv_nonneg a0 (by omega), b0, b1⟩
  · simp only [decide_eq_false c, cond_false, ix1, ok_bnd, set1]
    generalize hq : (b * 39373 + 7) % 2147483647 = q
    have q0 : 0 ≤ q := by rw [← hq]; exact Int.emod_nonneg _ (by decide)
    have q1 : q < 2147483647 := by rw [← hq]; exact Int.emod_lt_of_pos _ (by decide)
    rw [mulR_ok (.inl ⟨by omega, by omega⟩)]
    simp only [ok_bnd, modR_ok (show 0 < k by omega)]
    exact ⟨_, _, rfl, Int.emod_nonneg _ (by omega), Int.emod_lt_of_pos _ (by omega), _, _, rfl, a0, q0, q1⟩
theorem take_gd {s : List Int} {k : Int} (hs : Gs s) (h : 1 ≤ k) (h2 : k < 2 ^ 200) : Gd (fun q : Int × List Int => (0 ≤ q.1 ∧ q.1 < k) ∧ Gs q.2) (m__law_take s k) := by
  obtain ⟨v, s', e, v0, v1, g⟩ := take_ok hs h h2
  exact ⟨_, e, ⟨v0, v1⟩, g⟩
@[irreducible] def m__law_one {α : Type} (s : List Int) (xs : List α) : Res (α × List Int) := (m__law_take s (xs.length : Int)).bnd fun q => (ixR xs q.1).bnd fun v => Res.ok (v, q.2)
def sp__law_one : SpD := fun xs M P PX => ∃ (s : List Int) (d : D) (ds : List D), xs = [.cell 0, .dat d] ∧ seqD d = some ds ∧ M = [some (cL D.int s)] ∧ wp (m__law_one s ds) (fun q => P q.1 [some (cL D.int q.2)]) (fun c x => ∀ y, PX c x [some y])
theorem len__law_one : ∀ xs M P PX, sp__law_one xs M P PX → xs.length = 2 := by rintro _ _ _ _ ⟨_, _, _, rfl, _⟩; rfl
theorem m__law_one_map {α : Type} (e : α → D) (s : List Int) (xs : List α) : m__law_one s (xs.map e) = (m__law_one s xs).bnd fun q => .ok (e q.1, q.2) := by
  unfold m__law_one
  rw [List.length_map, bnd_bnd]
  congr 1
  funext q
  rw [bnd_bnd]
  unfold ixR
  rw [atI_map]
  cases atI xs q.1 <;> rfl
theorem call__law_one_L {α : Type} (e : α → D) (s : List Int) (xs : List α) : Call1 sp__law_one [.cell 0, .dat (eL e xs)] (cL D.int s) (fun q : α × List Int => e q.1) (fun q => cL D.int q.2) (m__law_one s xs) := fun P PX h => ⟨s, _, _, rfl, rfl, rfl, by rw [m__law_one_map, wp_bnd]; exact h⟩
theorem one_ok {α : Type} {s : List Int} {xs : List α} (hs : Gs s) (h : xs ≠ []) (h2 : xs.length < 2 ^ 60) : ∃ v s', m__law_one s xs = .ok (v, s') ∧ v ∈ xs ∧ Gs s' := by
  have hl : 0 < xs.length := List.length_pos_iff.mpr h
  obtain ⟨v, s', e, v0, v1, g⟩ := take_ok hs (k := (xs.length : Int)) (by omega) (by omega)
  obtain ⟨w, _, q⟩ := ixR_at v0 v1
  unfold m__law_one
  rw [e, ok_bnd, q, ok_bnd]
  exact ⟨_, _, rfl, ixR_mem q, g⟩
theorem one_gd {α : Type} {s : List Int} {xs : List α} (hs : Gs s) (h : xs ≠ []) (h2 : xs.length < 2 ^ 60) : Gd (fun q : α × List Int => q.1 ∈ xs ∧ Gs q.2) (m__law_one s xs) := by
  obtain ⟨v, s', e, v0, g⟩ := one_ok hs h h2
  exact ⟨_, e, v0, g⟩
@[irreducible] def m__law_shuffled (source1 : List Int) (count2 : Int) : Res ((List Int) × (List Int)) :=
  (rngR 0 count2).bnd fun (xs3 : List Int) =>
   (szR (xs3.map (fun (x4 : Int) => x4))).bnd fun (l5 : List Int) =>
   (rngR 0 count2).bnd fun (xs7 : List Int) =>
   (forR (fun (b8 : (List Int) × (List Int) × (List Int)) (x9 : Int) => (m__law_take b8.1 ((b8.2.1.length : Int))).bnd fun (q10 : Int × (List Int)) =>
   (popAtR b8.2.1 q10.1).bnd fun q11 =>
   (appR b8.2.2 q11.1).bnd fun found12 =>
   Res.ok ((q10.2, q11.2, found12))) xs7 ((source1, l5, []))).bnd fun (b13 : (List Int) × (List Int) × (List Int)) =>
   Res.ok ((b13.2.2, b13.1))
def sp__law_shuffled : SpD := fun xs M P PX => ∃ (source1 : List Int) (count2 : Int), xs = [.cell 0, .dat (D.int count2)] ∧ M = [some (cL D.int source1)] ∧ wp (m__law_shuffled source1 count2) (fun q => P ((eL D.int) q.1) [some (cL D.int q.2)]) (fun c x => ∀ y, PX c x [some y])
theorem len__law_shuffled : ∀ xs M P PX, sp__law_shuffled xs M P PX → xs.length = 2 := by rintro _ _ _ _ ⟨_, _, rfl, _⟩; rfl
theorem call__law_shuffled (source1 : List Int) (count2 : Int) : Call1 sp__law_shuffled [.cell 0, .dat (D.int count2)] (cL D.int source1) (fun q => (eL D.int) q.1) (fun q => (cL D.int q.2)) (m__law_shuffled source1 count2) := fun P PX h => ⟨_, _, rfl, rfl, h⟩
theorem shuf_ok {s : List Int} {n : Int} (hs : Gs s) (h0 : 0 ≤ n) (h1 : n ≤ 1000) : ∃ l s', m__law_shuffled s n = .ok (l, s') ∧ l.Perm (rng 0 n) ∧ Gs s' := by
  unfold m__law_shuffled
  rw [rngR_ok (by omega) (by omega) (by omega) (by omega), ok_bnd, szR_id (by rw [rng_len]; omega), ok_bnd, ok_bnd]
  have hlen : (rng 0 n).length = n.toNat := by rw [rng_len]; congr 1; omega
  obtain ⟨b, e, g, _, p⟩ := forR_rec (fun (rest : List Int) (b : List Int × List Int × List Int) => Gs b.1 ∧ b.2.1.length = rest.length ∧ (b.2.2 ++ b.2.1).Perm (rng 0 n)) (f := fun (b8 : (List Int) × (List Int) × (List Int)) (x9 : Int) => (m__law_take b8.1 ((b8.2.1.length : Int))).bnd fun (q10 : Int × (List Int)) =>
   (popAtR b8.2.1 q10.1).bnd fun q11 => (appR b8.2.2 q11.1).bnd fun found12 => Res.ok ((q10.2, q11.2, found12))) (fun x rest b ⟨g, hl, p⟩ => by
    have hp := p.length_eq
    rw [List.length_append, hlen] at hp
    rw [List.length_cons] at hl
    obtain ⟨v, s', e, v0, v1, g'⟩ := take_ok g (k := (b.2.1.length : Int)) (by omega) (by omega)
    obtain ⟨w, hw, q⟩ := popAtR_ok v0 v1 (by omega)
    simp only [e, ok_bnd, q, appR_ok (show b.2.2.length < 16000000 by omega)]
    refine ⟨_, rfl, g', ?_, ?_⟩
    · have : v.toNat < b.2.1.length := by omega
      show (b.2.1.eraseIdx v.toNat).length = _
      rw [List.length_eraseIdx_of_lt this]; omega
    · refine List.Perm.trans ?_ p
      show (b.2.2 ++ [w] ++ b.2.1.eraseIdx v.toNat).Perm _
      rw [List.append_assoc]
      exact List.Perm.append_left _ (pop_perm hw)) (xs := rng 0 n) (b := (s, rng 0 n, [])) ⟨hs, rfl, by simp⟩
  rw [e, ok_bnd]
  refine ⟨_, _, rfl, ?_, g⟩
  have : b.2.1 = [] := List.length_eq_zero_iff.mp (by assumption)
  rw [this, List.append_nil] at p
  exact p
@[irreducible] def m__law_figures (source1 : List Int) (n2 : Int) : Res (((List Int) × (List Int)) × (List Int)) :=
  (m__law_take source1 3).bnd fun (q3 : Int × (List Int)) =>
   cond (decide (q3.1 = 0)) ((m__law_shuffled q3.2 n2).bnd fun (q4 : (List Int) × (List Int)) =>
   Res.ok (((q4.1, q4.1), q4.2)))
   ((rngR 0 n2).bnd fun (xs5 : List Int) =>
   (lcB (fun (st7 : (List Int)) (x8 : Int) => (m__law_take st7 4).bnd fun (q9 : Int × (List Int)) =>
   Res.ok ((some q9.1, q9.2))) xs5 [] q3.2).bnd fun (q10 : List Int × ((List Int))) =>
   cond (decide (q3.1 = 1)) (Res.ok (((q10.1, q10.1), q10.2)))
   ((rngR 0 n2).bnd fun (xs11 : List Int) =>
   (lcB (fun (st13 : (List Int)) (x14 : Int) => (m__law_take st13 5).bnd fun (q15 : Int × (List Int)) =>
   Res.ok ((some (q15.1 - 1), q15.2))) xs11 [] q10.2).bnd fun (q16 : List Int × ((List Int))) =>
   Res.ok (((q10.1, q16.1), q16.2))))
def sp__law_figures : SpD := fun xs M P PX => ∃ (source1 : List Int) (n2 : Int), xs = [.cell 0, .dat (D.int n2)] ∧ M = [some (cL D.int source1)] ∧ wp (m__law_figures source1 n2) (fun q => P ((eP2 (eT D.int) (eT D.int)) q.1) [some (cL D.int q.2)]) (fun c x => ∀ y, PX c x [some y])
theorem len__law_figures : ∀ xs M P PX, sp__law_figures xs M P PX → xs.length = 2 := by rintro _ _ _ _ ⟨_, _, rfl, _⟩; rfl
theorem call__law_figures (source1 : List Int) (n2 : Int) : Call1 sp__law_figures [.cell 0, .dat (D.int n2)] (cL D.int source1) (fun q => (eP2 (eT D.int) (eT D.int)) q.1) (fun q => (cL D.int q.2)) (m__law_figures source1 n2) := fun P PX h => ⟨_, _, rfl, rfl, h⟩
theorem figures_ok {s : List Int} {n : Int} (hs : Gs s) (h0 : 1 ≤ n) (h1 : n ≤ 32) : ∃ S G s', m__law_figures s n = .ok ((S, G), s') ∧ (S.length : Int) = n ∧ (G.length : Int) = n ∧ (∀ v ∈ S, 0 ≤ v ∧ v ≤ 100) ∧ (∀ v ∈ G, -1 ≤ v ∧ v ≤ 100) ∧ Gs s' := by
  have hlen : (rng 0 n).length = n.toNat := by rw [rng_len]; congr 1; omega
  unfold m__law_figures
  obtain ⟨v, s1, e, v0, v1, g1⟩ := take_ok hs (k := 3) (by decide) (by decide)
  rw [e, ok_bnd]
  simp only []
  by_cases c : v = 0
  · rw [decide_eq_true c, cond_true]
    obtain ⟨l, s2, e, p, g2⟩ := shuf_ok g1 (n := n) (by omega) (by omega)
    rw [e, ok_bnd]
    have hl := p.length_eq
    have hm : ∀ v ∈ l, 0 ≤ v ∧ v < n := fun v hv => rng_mem.mp (p.mem_iff.mp hv)
    exact ⟨l, l, _, rfl, by omega, by omega, fun v hv => by have := hm v hv; omega, fun v hv => by have := hm v hv; omega, g2⟩
  · rw [decide_eq_false c, cond_false, rngR_ok (by omega) (by omega) (by omega) (by omega), ok_bnd]
    obtain ⟨l, s2, e, g2, hl, hj⟩ := lcB_all Gs (fun _ z => (0 : Int) ≤ z ∧ z < 4) (f := fun (st7 : (List Int)) (x8 : Int) => (m__law_take st7 4).bnd fun (q9 : Int × (List Int)) => Res.ok ((some q9.1, q9.2))) 1000 (by decide) (xs := rng 0 n) (acc := []) g1 (by simp; omega) (fun s x g _ => by
      obtain ⟨v, s1, e, v0, v1, g1⟩ := take_ok g (k := 4) (by decide) (by decide)
      rw [e, ok_bnd]; exact ⟨_, _, rfl, g1, v0, v1⟩)
    rw [e, ok_bnd, List.nil_append]
    have hj : ∀ z ∈ l, 0 ≤ z ∧ z < 4 := fun z hz => by obtain ⟨_, _, h⟩ := hj z hz; exact h
    simp only []
    by_cases c : v = 1
    · rw [decide_eq_true c, cond_true]
      exact ⟨l, l, _, rfl, by omega, by omega, fun v hv => by have := hj v hv; omega, fun v hv => by have := hj v hv; omega, g2⟩
    · rw [decide_eq_false c, cond_false, ok_bnd]
      obtain ⟨m, s3, e, g3, hm, hk⟩ := lcB_all Gs (fun _ z => (-1 : Int) ≤ z ∧ z < 4) (f := fun (st13 : (List Int)) (x14 : Int) => (m__law_take st13 5).bnd fun (q15 : Int × (List Int)) => Res.ok ((some (q15.1 - 1), q15.2))) 1000 (by decide) (xs := rng 0 n) (acc := []) g2 (by simp; omega) (fun s x g _ => by
        obtain ⟨v, s1, e, v0, v1, g1⟩ := take_ok g (k := 5) (by decide) (by decide)
        rw [e, ok_bnd]; exact ⟨_, _, rfl, g1, by omega, by omega⟩)
      rw [e, ok_bnd, List.nil_append]
      exact ⟨l, m, _, rfl, by omega, by omega, fun v hv => by have := hj v hv; omega, fun v hv => by obtain ⟨_, _, h⟩ := hk v hv; omega, g3⟩
@[irreducible] def m__law_may (figures_here1 : (List Int) × (List Int)) (y2 : Int) (x3 : Int) : Res Bool :=
  cond (!decide (y2 = x3)) ((ixR figures_here1.1 y2).bnd fun v4 => (ixR figures_here1.2 x3).bnd fun v5 => Res.ok (decide (v5 ≤ v4))) (Res.ok false)
def sp__law_may : SpD := fun xs M P PX => ∃ (figures_here1 : (List Int) × (List Int)) (y2 : Int) (x3 : Int), xs = [.dat ((eP2 (eT D.int) (eT D.int)) figures_here1), .dat (D.int y2), .dat (D.int x3)] ∧ M = [] ∧ wp (m__law_may figures_here1 y2 x3) (fun v => P (D.bl v) []) (fun c x => PX c x [])
theorem len__law_may : ∀ xs M P PX, sp__law_may xs M P PX → xs.length = 3 := by rintro _ _ _ _ ⟨_, _, _, rfl, _⟩; rfl
theorem call__law_may (figures_here1 : (List Int) × (List Int)) (y2 : Int) (x3 : Int) : Call0 sp__law_may [(eP2 (eT D.int) (eT D.int)) figures_here1, D.int y2, D.int x3] D.bl (m__law_may figures_here1 y2 x3) := fun P PX h => ⟨_, _, _, rfl, rfl, h⟩
theorem may_eq {S G : List Int} {y x : Int} (y0 : 0 ≤ y) (y1 : y < S.length) (x0 : 0 ≤ x) (x1 : x < G.length) : m__law_may (S, G) y x = .ok (mayB S G y x) := by
  unfold m__law_may mayB
  simp only [ixR_G y0 y1, ixR_G x0 x1, ok_bnd]
  by_cases c : y = x <;> simp [c]
@[irreducible] def m__law_stair (figures_here1 : (List Int) × (List Int)) (sides2 : List Int) : Res (List Int) :=
  (lcR (fun (x3 : Int) => Res.ok true) (fun (x3 : Int) => ((ixR figures_here1.2 x3).bnd fun v4 => Res.ok (-v4)).bnd fun v5 => Res.ok ((v5, x3))) sides2 []).bnd fun (l6 : List (Int × Int)) =>
   (szR ((sortP l6).map (fun (x7 : Int × Int) => x7.2))).bnd fun (l8 : List Int) =>
   Res.ok l8
def sp__law_stair : SpD := fun xs M P PX => ∃ (figures_here1 : (List Int) × (List Int)) (sides2 : List Int), xs = [.dat ((eP2 (eT D.int) (eT D.int)) figures_here1), .dat ((eL D.int) sides2)] ∧ M = [] ∧ wp (m__law_stair figures_here1 sides2) (fun v => P ((eL D.int) v) []) (fun c x => PX c x [])
theorem len__law_stair : ∀ xs M P PX, sp__law_stair xs M P PX → xs.length = 2 := by rintro _ _ _ _ ⟨_, _, rfl, _⟩; rfl
theorem call__law_stair (figures_here1 : (List Int) × (List Int)) (sides2 : List Int) : Call0 sp__law_stair [(eP2 (eT D.int) (eT D.int)) figures_here1, (eL D.int) sides2] (eL D.int) (m__law_stair figures_here1 sides2) := fun P PX h => ⟨_, _, rfl, rfl, h⟩
theorem stair_eq {S G L : List Int} (hl : L.length ≤ 1000) (h : ∀ x ∈ L, 0 ≤ x ∧ x < G.length) : m__law_stair (S, G) L = .ok (stairOf G L) := by
  unfold m__law_stair stairOf
  rw [lcR_all (keyP G) (by first | omega | (show L.length ≤ 16000000; omega)) fun x hx => by
    have := h x hx
    simp only [ixR_G this.1 this.2, ok_bnd]; rfl]
  rw [ok_bnd, szR_ok' (by rw [List.length_map, (sortP_perm _).length_eq, List.length_map]; first | omega | (show L.length ≤ 16000000; omega))]
  rfl
@[irreducible] def m__law_drawn_round (source1 : List Int) (figures_here2 : (List Int) × (List Int)) (left3 : List Int) (is_full4 : Bool) : Res ((List (Int × Int)) × (List Int) × (List Int)) :=
  (m__law_shuffled source1 ((left3.length : Int))).bnd fun (q5 : (List Int) × (List Int)) =>
   (lcR (fun (x6 : Int) => Res.ok true) (fun (x6 : Int) => ixR left3 x6) q5.1 []).bnd fun (l7 : List Int) =>
   (cond (!is_full4) ((m__law_take q5.2 ((((left3.length : Int)) / 2) + 1)).bnd fun (q8 : Int × (List Int)) =>
   Res.ok ((q8.2, q8.1)))
   (Res.ok ((q5.2, ((left3.length : Int)) / 2)))).bnd fun (j9 : (List Int) × Int) =>
   ((m__law_stair figures_here2 (cutL l7 none (some j9.2))).bnd fun v12 => Res.ok v12).bnd fun (xs13 : List Int) =>
   (forR (fun (b14 : (List Int) × (List Int) × (List (Int × Int))) (x15 : Int) => (lcR (fun (x16 : Int) => m__law_may figures_here2 x16 x15) (fun (x16 : Int) => Res.ok x16) b14.2.1 []).bnd fun (l18 : List Int) =>
   cond (!l18.isEmpty) ((m__law_one b14.1 l18).bnd fun (q19 : Int × List Int) =>
   (remR b14.2.1 q19.1).bnd fun seats20 =>
   (appR b14.2.2 ((x15, q19.1))).bnd fun found21 =>
   Res.ok ((q19.2, seats20, found21)))
   (Res.ok ((b14.1, b14.2.1, b14.2.2)))) xs13 ((j9.1, cutL l7 (some j9.2) none, []))).bnd fun (b22 : (List Int) × (List Int) × (List (Int × Int))) =>
   Res.ok ((b22.2.2, b22.1, left3))
def sp__law_drawn_round : SpD := fun xs M P PX => ∃ (source1 : List Int) (figures_here2 : (List Int) × (List Int)) (left3 : List Int) (is_full4 : Bool), xs = [.cell 0, .dat ((eP2 (eT D.int) (eT D.int)) figures_here2), .cell 1, .dat (D.bl is_full4)] ∧ M = [some (cL D.int source1), some (cL D.int left3)] ∧ wp (m__law_drawn_round source1 figures_here2 left3 is_full4) (fun q => P ((eL (eP2 D.int D.int)) q.1) [some (cL D.int q.2.1), some (cL D.int q.2.2)]) (fun c x => ∀ y z, PX c x [some y, some z])
theorem len__law_drawn_round : ∀ xs M P PX, sp__law_drawn_round xs M P PX → xs.length = 4 := by rintro _ _ _ _ ⟨_, _, _, _, rfl, _⟩; rfl
theorem call__law_drawn_round (source1 : List Int) (figures_here2 : (List Int) × (List Int)) (left3 : List Int) (is_full4 : Bool) : Call2 sp__law_drawn_round [.cell 0, .dat ((eP2 (eT D.int) (eT D.int)) figures_here2), .cell 1, .dat (D.bl is_full4)] (cL D.int source1) (cL D.int left3) (fun q => (eL (eP2 D.int D.int)) q.1) (fun q => (cL D.int q.2.1)) (fun q => (cL D.int q.2.2)) (m__law_drawn_round source1 figures_here2 left3 is_full4) := fun P PX h => ⟨_, _, _, _, rfl, rfl, h⟩
theorem drawn_ok {s S G left : List Int} {f : Bool} (hs : Gs s) (nd : left.Nodup) (hgl : G.length = S.length) (hin : ∀ x ∈ left, 0 ≤ x ∧ x < S.length) (hl : left.length ≤ 1000) : ∃ F s', m__law_drawn_round s (S, G) left f = .ok (F, s', left) ∧ FOK S G left F ∧ Gs s' := by
  unfold m__law_drawn_round
  obtain ⟨L, s1, e, hL, g1⟩ := shuf_ok hs (n := (left.length : Int)) (by omega) (by omega)
  have hLl := hL.length_eq
  rw [rng_len] at hLl
  rw [e, ok_bnd, lcR_all (atG left) (by show L.length ≤ 16000000; omega) fun x hx => by
    have := rng_mem.mp (hL.mem_iff.mp hx)
    exact ixR_G this.1 this.2]
  have hnp : (L.map (atG left)).Perm left := by
    have := hL.map (atG left)
    rw [rng0, rangeI_atG] at this
    exact this
  generalize L.map (atG left) = names at hnp
  have hnl : names.length = left.length := hnp.length_eq
  have hnn : names.Nodup := hnp.nodup_iff.mpr nd
  rw [ok_bnd]
  have hmany : ∃ (many : Nat) (s2 : List Int), (cond (!f) ((m__law_take s1 ((((left.length : Int)) / 2) + 1)).bnd fun (q8 : Int × (List Int)) => Res.ok ((q8.2, q8.1))) (Res.ok ((s1, ((left.length : Int)) / 2)))) = .ok (s2, (many : Int)) ∧ 2 * many ≤ left.length ∧ Gs s2 := by
    cases f with
    | true => exact ⟨left.length / 2, s1, by simp, by omega, g1⟩
    | false =>
      obtain ⟨v, s2, e, v0, v1, g2⟩ := take_ok g1 (k := (left.length : Int) / 2 + 1) (by omega) (by omega)
      refine ⟨v.toNat, s2, ?_, by omega, g2⟩
      simp only [Bool.not_false, cond_true, e, ok_bnd]
      rw [Int.toNat_of_nonneg v0]
  obtain ⟨many, s2, e, hm, g2⟩ := hmany
  simp only [] at e ⊢
  rw [e, ok_bnd]
  simp only []
  rw [cutL_to (by omega), cutL_from (by omega)]
  simp only [Int.toNat_natCast]
  have hdj := List.nodup_append.mp (show (names.take many ++ names.drop many).Nodup by rw [List.take_append_drop]; exact hnn)
  have hsub : ∀ y ∈ names.drop many, y ∈ left := fun y hy => hnp.mem_iff.mp (List.mem_of_mem_drop hy)
  have lsub : ∀ y ∈ names.take many, y ∈ left := fun y hy => hnp.mem_iff.mp (List.mem_of_mem_take hy)
  rw [stair_eq (by simp; omega) fun x hx => by rw [hgl]; exact hin x (lsub x hx)]
  simp only [ok_bnd]
  have hsp := stairOf_perm G (names.take many)
  obtain ⟨b, e, g, i1, i2, i3, i4, i5, _⟩ := forR_rec (fun (rest : List Int) (b : List Int × List Int × List (Int × Int)) => Gs b.1 ∧ rest.Nodup ∧ (∀ x ∈ rest, x ∈ names.take many) ∧ (b.2.2.map (·.1)).Nodup ∧ (b.2.2.map (·.2)).Nodup ∧ (∀ p ∈ b.2.2, p.1 ∈ names.take many ∧ p.1 ∉ rest ∧ p.2 ∈ names.drop many ∧ p.2 ∉ b.2.1 ∧ mayB S G p.2 p.1 = true) ∧ b.2.1.Nodup ∧ (∀ y ∈ b.2.1, y ∈ names.drop many) ∧ b.2.2.length + rest.length ≤ 1000 ∧ b.2.1.length ≤ 1000)
    (f := fun (b14 : (List Int) × (List Int) × (List (Int × Int))) (x15 : Int) => (lcR (fun (x16 : Int) => m__law_may (S, G) x16 x15) (fun (x16 : Int) => Res.ok x16) b14.2.1 []).bnd fun (l18 : List Int) =>
   cond (!l18.isEmpty) ((m__law_one b14.1 l18).bnd fun (q19 : Int × List Int) =>
   (remR b14.2.1 q19.1).bnd fun seats20 => (appR b14.2.2 ((x15, q19.1))).bnd fun found21 => Res.ok ((q19.2, seats20, found21)))
   (Res.ok ((b14.1, b14.2.1, b14.2.2)))) (fun x rest b ⟨g, rn, rm, fn, yn, fm, sn, sm, fl, sl⟩ => by
      obtain ⟨s, seats, F⟩ := b
      simp only at g fn yn fm sn sm fl sl ⊢
      obtain ⟨rn1, rn2⟩ := List.nodup_cons.mp rn
      have hx := rm x List.mem_cons_self
      have hx2 := hin x (lsub x hx)
      rw [lcR_filter (fun y => mayB S G y x) (by omega) fun y hy => by
        have := hin y (hsub y (sm y hy))
        exact may_eq this.1 this.2 hx2.1 (by omega)]
      rw [ok_bnd]
      rw [List.length_cons] at fl
      by_cases hC : seats.filter (fun y => mayB S G y x) = []
      · rw [hC]
        exact ⟨_, rfl, g, rn2, fun z hz => rm z (List.mem_cons_of_mem _ hz), fn, yn, fun p hp => ⟨(fm p hp).1, fun c => (fm p hp).2.1 (List.mem_cons_of_mem _ c), (fm p hp).2.2⟩, sn, sm, by show F.length + rest.length ≤ 1000; omega, sl⟩
      · obtain ⟨y, s', e, hy, g'⟩ := one_ok g hC (by have := List.length_filter_le (fun y => mayB S G y x) seats; omega)
        have hy2 := List.mem_filter.mp hy
        have hemp : (seats.filter (fun y => mayB S G y x)).isEmpty = false := by rw [List.isEmpty_eq_false_iff]; exact hC
        have hb : mayB S G y x = true := hy2.2
        have ey := hsub y (sm y hy2.1)
        obtain ⟨en, em⟩ := erase_nd (y := y) sn
        rw [hemp]
        simp only [Bool.not_false, cond_true, e, ok_bnd, remR_ok hy2.1, appR_ok (show F.length < 16000000 by omega)]
        refine ⟨_, rfl, g', rn2, fun z hz => rm z (List.mem_cons_of_mem _ hz), ?_, ?_, fun p hp => ?_, en, fun z hz => sm z ((em z).mp hz).1, by simp; omega, by have := List.length_erase_le (a := y) (l := seats); simp only; omega⟩
        · rw [List.map_append, List.nodup_append]
          exact ⟨fn, by simp, fun a ha c hc => by
            simp at hc
            obtain ⟨p, hp, rfl⟩ := List.mem_map.mp ha
            rw [hc]
            exact fun z => (fm p hp).2.1 (by rw [z]; exact List.mem_cons_self)⟩
        · rw [List.map_append, List.nodup_append]
          exact ⟨yn, by simp, fun a ha c hc => by
            simp at hc
            obtain ⟨p, hp, rfl⟩ := List.mem_map.mp ha
            rw [hc]
            exact fun z => (fm p hp).2.2.2.1 (by rw [z]; exact hy2.1)⟩
        · rcases List.mem_append.mp hp with hp | hp
          · obtain ⟨p1, p2, p3, p4, p5⟩ := fm p hp
            exact ⟨p1, fun c => p2 (List.mem_cons_of_mem _ c), p3, fun c => p4 ((em _).mp c).1, p5⟩
          · have ep : p = (x, y) := by simpa using hp
            subst ep
            exact ⟨hx, rn1, sm y hy2.1, fun c => ((em y).mp c).2 rfl, hb⟩) (xs := stairOf G (names.take many)) (b := (s2, names.drop many, [])) ⟨g2, hsp.nodup_iff.mpr hdj.1, fun x hx => hsp.mem_iff.mp hx, List.nodup_nil, List.nodup_nil, (fun _ h => nomatch h), hdj.2.1, fun _ h => h, by rw [hsp.length_eq]; simp; omega, by simp; omega⟩
  rw [e, ok_bnd]
  refine ⟨_, _, rfl, ⟨i3, i4, fun p hp => ?_, fun p hp q hq hpq => ?_⟩, g⟩
  · obtain ⟨p1, p2, p3, p4, p5⟩ := i5 p hp
    exact ⟨lsub _ p1, hsub _ p3, p5⟩
  · obtain ⟨p1, _⟩ := i5 p hp
    obtain ⟨_, _, q3, _⟩ := i5 q hq
    exact hdj.2.2 _ p1 _ q3 hpq
@[irreducible] def m__law_cup (source1 : List Int) (figures_here2 : (List Int) × (List Int)) : Res ((List (Int × Int)) × (List Int)) :=
  (repR ([(0, -1)]) ((figures_here2.1.length : Int))).bnd fun (l3 : List (Int × Int)) =>
   (rngR 0 ((figures_here2.1.length : Int))).bnd fun (xs4 : List Int) =>
   (szR (xs4.map (fun (x5 : Int) => x5))).bnd fun (l6 : List Int) =>
   (m__law_take source1 3).bnd fun (q7 : Int × (List Int)) =>
   (rngR 1 ((figures_here2.1.length : Int))).bnd fun (xs8 : List Int) =>
   (forS (ρ := (List (Int × Int)) × (List Int)) (fun (b9 : (List Int) × (List (Int × Int)) × (List Int)) (x10 : Int) => (cond (decide (q7.1 = 0)) (Res.ok ((true, b9.1))) ((m__law_take b9.1 4).bnd fun (q11 : Int × (List Int)) =>
   Res.ok ((decide (0 < q11.1), q11.2)))).bnd fun (q12 : Bool × List Int) =>
   (m__law_drawn_round q12.2 figures_here2 b9.2.2 q12.1).bnd fun (q13 : (List (Int × Int)) × (List Int) × (List Int)) =>
   cond (!(!q13.1.isEmpty)) (Res.ok (Stp.bk ((q13.2.1, b9.2.1, q13.2.2))))
   ((forR (fun (b14 : (List (Int × Int)) × (List Int)) (x15 : Int × Int) => (setR b14.1 x15.1 ((x10, x15.2))).bnd fun row16 =>
   (remR b14.2 x15.1).bnd fun left17 =>
   Res.ok ((row16, left17))) q13.1 ((b9.2.1, q13.2.2))).bnd fun (b18 : (List (Int × Int)) × (List Int)) =>
   Res.ok (Stp.nx ((q13.2.1, b18.1, b18.2))))) xs8 ((q7.2, l3, l6))).bnd fun st21 =>
   Stp.on st21 (fun (b19 : (List Int) × (List (Int × Int)) × (List Int)) => Res.ok ((b19.2.1, b19.1)))
   (fun (v20 : (List (Int × Int)) × (List Int)) => Res.ok v20)
def sp__law_cup : SpD := fun xs M P PX => ∃ (source1 : List Int) (figures_here2 : (List Int) × (List Int)), xs = [.cell 0, .dat ((eP2 (eT D.int) (eT D.int)) figures_here2)] ∧ M = [some (cL D.int source1)] ∧ wp (m__law_cup source1 figures_here2) (fun q => P ((eT (eP2 D.int D.int)) q.1) [some (cL D.int q.2)]) (fun c x => ∀ y, PX c x [some y])
theorem len__law_cup : ∀ xs M P PX, sp__law_cup xs M P PX → xs.length = 2 := by rintro _ _ _ _ ⟨_, _, rfl, _⟩; rfl
theorem call__law_cup (source1 : List Int) (figures_here2 : (List Int) × (List Int)) : Call1 sp__law_cup [.cell 0, .dat ((eP2 (eT D.int) (eT D.int)) figures_here2)] (cL D.int source1) (fun q => (eT (eP2 D.int D.int)) q.1) (fun q => (cL D.int q.2)) (m__law_cup source1 figures_here2) := fun P PX h => ⟨_, _, rfl, rfl, h⟩
theorem cup_ok {s S G : List Int} (hs : Gs s) (n1 : 1 ≤ S.length) (hn : S.length ≤ 1000) (hgl : G.length = S.length) : ∃ ps s', m__law_cup s (S, G) = .ok (ps, s') ∧ CupP S G ps ∧ Gs s' := by
  unfold m__law_cup
  simp only []
  rw [repR_ok (by omega) (by omega) (by simp), ok_bnd, rngR_ok (by omega) (by omega) (by omega) (by omega), ok_bnd, szR_id (by rw [rng_len]; omega), ok_bnd]
  obtain ⟨v, s1, e, v0, v1, g1⟩ := take_ok hs (k := 3) (by decide) (by decide)
  rw [e, ok_bnd, rngR_ok (by omega) (by omega) (by omega) (by omega), ok_bnd]
  rw [rep_one, rng0]
  simp only [Int.toNat_natCast]
  generalize decide (v = 0) = full
  obtain ⟨r, e, b, rfl, g, ci⟩ := forS_rec (fun (rest : List Int) (b : List Int × List (Int × Int) × List Int) => Gs b.1 ∧ b.2.2.length ≤ 1000 ∧ ∃ r : Int, 1 ≤ r ∧ r ≤ S.length ∧ rest = rng r S.length ∧ CInv S G r b.2.1 b.2.2)
    (fun (st : Stp (List Int × List (Int × Int) × List Int) (List (Int × Int) × List Int)) => ∃ b, st = .nx b ∧ Gs b.1 ∧ CupP S G b.2.1)
    (f := fun (b9 : (List Int) × (List (Int × Int)) × (List Int)) (x10 : Int) => (cond full (Res.ok ((true, b9.1))) ((m__law_take b9.1 4).bnd fun (q11 : Int × (List Int)) => Res.ok ((decide (0 < q11.1), q11.2)))).bnd fun (q12 : Bool × List Int) =>
   (m__law_drawn_round q12.2 (S, G) b9.2.2 q12.1).bnd fun (q13 : (List (Int × Int)) × (List Int) × (List Int)) =>
   cond (!(!q13.1.isEmpty)) (Res.ok (Stp.bk ((q13.2.1, b9.2.1, q13.2.2))))
   ((forR (fun (b14 : (List (Int × Int)) × (List Int)) (x15 : Int × Int) => (setR b14.1 x15.1 ((x10, x15.2))).bnd fun row16 => (remR b14.2 x15.1).bnd fun left17 => Res.ok ((row16, left17))) q13.1 ((b9.2.1, q13.2.2))).bnd fun (b18 : (List (Int × Int)) × (List Int)) =>
   Res.ok (Stp.nx ((q13.2.1, b18.1, b18.2))))) (fun x rest b ⟨g, ll, r, r1, r2, er, ci⟩ => by
      obtain ⟨s, row, left⟩ := b
      simp only at g ll ci
      have hr : r < S.length := by
        by_cases c : r < S.length
        · exact c
        · rw [rng_nil (by omega)] at er; cases er
      rw [rng_cons hr] at er
      obtain ⟨ex, er⟩ := List.cons.inj er
      subst ex
      have hq : ∃ (gg : Bool) (s2 : List Int), (cond full (Res.ok ((true, s))) ((m__law_take s 4).bnd fun (q11 : Int × (List Int)) => Res.ok ((decide (0 < q11.1), q11.2)))) = .ok (gg, s2) ∧ Gs s2 := by
        cases full with
        | true => exact ⟨true, s, rfl, g⟩
        | false =>
          obtain ⟨v, s2, e, v0, v1, g2⟩ := take_ok g (k := 4) (by decide) (by decide)
          rw [cond_false, e, ok_bnd]
          exact ⟨_, _, rfl, g2⟩
      obtain ⟨gg, s2, e, g2⟩ := hq
      simp only [e, ok_bnd]
      obtain ⟨F, s3, e, hF, g3⟩ := drawn_ok (f := gg) g2 ci.nd hgl ci.rng ll
      rw [e, ok_bnd]
      simp only []
      by_cases hne : F = []
      · subst hne
        exact .inr (.inl ⟨_, rfl, _, rfl, g3, ci.cup (by omega) n1⟩)
      · left
        have hemp : F.isEmpty = false := by rw [List.isEmpty_eq_false_iff]; exact hne
        rw [hemp]
        simp only [Bool.not_false, Bool.not_true, cond_false]
        obtain ⟨b', e, done, hF1, hlen, hnd, hll, hl, h1, h2⟩ := forR_rec (fun (rest : List (Int × Int)) (b : List (Int × Int) × List Int) => ∃ done, done ++ rest = F ∧ b.1.length = S.length ∧ b.2.Nodup ∧ b.2.length ≤ 1000 ∧ (∀ x, x ∈ b.2 ↔ x ∈ left ∧ x ∉ done.map (·.1)) ∧ (∀ p ∈ done, cg b.1 p.1 = (x, p.2)) ∧ (∀ z : Int, 0 ≤ z → z < S.length → z ∉ done.map (·.1) → cg b.1 z = cg row z))
          (f := fun (b14 : (List (Int × Int)) × (List Int)) (x15 : Int × Int) => (setR b14.1 x15.1 ((x, x15.2))).bnd fun row16 => (remR b14.2 x15.1).bnd fun left17 => Res.ok ((row16, left17))) (fun p rest b ⟨done, hF1, hlen, hnd, hll, hl, h1, h2⟩ => by
            obtain ⟨row', left'⟩ := b
            simp only at hlen hnd hll hl h1 h2 ⊢
            have hpF : p ∈ F := by rw [← hF1]; simp
            obtain ⟨m1, m2, m3⟩ := hF.mem p hpF
            have hp2 := ci.rng _ m1
            have hnx := hF.nx
            rw [← hF1, List.map_append, List.map_cons, List.nodup_append] at hnx
            have hpd : p.1 ∉ done.map (·.1) := fun c => hnx.2.2 _ c _ List.mem_cons_self rfl
            have hin : p.1 ∈ left' := (hl p.1).mpr ⟨m1, hpd⟩
            obtain ⟨en, em⟩ := erase_nd (y := p.1) hnd
            rw [setR_ok hp2.1 (by rw [hlen]; exact hp2.2), ok_bnd, remR_ok hin, ok_bnd]
            refine ⟨_, rfl, done ++ [p], by simp [hF1], by simp [hlen], en, by have := List.length_erase_le (a := p.1) (l := left'); simp only; omega, fun z => ?_, fun q hq => ?_, fun z z0 z1 hz => ?_⟩
            · show z ∈ left'.erase p.1 ↔ _
              rw [em, hl]
              simp
              exact and_assoc
            · show cg (row'.set _ _) q.1 = _
              rcases List.mem_append.mp hq with hq | hq
              · have q1 := List.mem_map_of_mem (f := (·.1)) hq
                have q2 := ci.rng _ (hF.mem q (by rw [← hF1]; exact List.mem_append_left _ hq)).1
                rw [cg_set hp2.1 (by rw [hlen]; exact hp2.2) q2.1, if_neg fun c => hpd (by rw [← c]; exact q1)]
                exact h1 q hq
              · have e : q = p := by simpa using hq
                subst e
                rw [cg_set hp2.1 (by rw [hlen]; exact hp2.2) hp2.1, if_pos rfl]
            · show cg (row'.set _ _) z = _
              rw [List.map_append, List.mem_append] at hz
              rw [cg_set hp2.1 (by rw [hlen]; exact hp2.2) z0, if_neg fun c => hz (.inr (by simp [c]))]
              exact h2 z z0 z1 fun c => hz (.inl c)) (xs := F) (b := (row, left)) ⟨[], rfl, ci.len, ci.nd, ll, by simp, (fun _ h => nomatch h), fun _ _ _ _ => rfl⟩
        rw [List.append_nil] at hF1
        subst hF1
        rw [e, ok_bnd]
        exact ⟨_, rfl, g3, hll, x + 1, by omega, by omega, er, ci.next r1 hF hne hlen hnd hl h1 h2⟩) (fun b ⟨g, ll, r, r1, r2, er, ci⟩ => ⟨b, rfl, g, ci.cup r2 n1⟩) (xs := rng 1 S.length) (b := (s1, List.replicate S.length (0, -1), rangeI S.length)) ⟨g1, by rw [rangeI_len]; exact hn, 1, by omega, by omega, rfl, CInv.start S G⟩
  rw [e, ok_bnd, on_nx]
  exact ⟨_, _, rfl, ci, g⟩
@[irreducible] def m__law_rounds (cup_here1 : List (Int × Int)) : Res Int :=
  (szR (cup_here1.map (fun (x2 : Int × Int) => x2.1))).bnd fun (l3 : List Int) =>
   (maxR l3).bnd fun v4 =>
   Res.ok v4
def sp__law_rounds : SpD := fun xs M P PX => ∃ (cup_here1 : List (Int × Int)), xs = [.dat ((eT (eP2 D.int D.int)) cup_here1)] ∧ M = [] ∧ wp (m__law_rounds cup_here1) (fun v => P (D.int v) []) (fun c x => PX c x [])
theorem len__law_rounds : ∀ xs M P PX, sp__law_rounds xs M P PX → xs.length = 1 := by rintro _ _ _ _ ⟨_, rfl, _⟩; rfl
theorem call__law_rounds (cup_here1 : List (Int × Int)) : Call0 sp__law_rounds [(eT (eP2 D.int D.int)) cup_here1] D.int (m__law_rounds cup_here1) := fun P PX h => ⟨_, rfl, rfl, h⟩
theorem rounds_eq {ps : List (Int × Int)} (h : ps ≠ []) (hl : ps.length ≤ 1000) : m__law_rounds ps = .ok (mx ps) := by
  unfold m__law_rounds mx
  rw [szR_ok' (by simp; omega), ok_bnd, maxR_ok (by simpa using h), ok_bnd, maxI_eq]
@[irreducible] def m__law_letters (cup_here1 : List (Int × Int)) : Res (List (List Int)) :=
  (m__law_rounds cup_here1).bnd fun (v3 : Int) =>
   (rngR 0 ((cup_here1.length : Int))).bnd fun (xs4 : List Int) =>
   (forR (fun (b5 : (List (List Int))) (x6 : Int) => ((((ixR cup_here1 x6).bnd fun v7 => Res.ok v7.1).bnd fun v8 => Res.ok (decide (0 < v8))).bnd fun v10 => cond v10 ((ixR cup_here1 x6).bnd fun v9 => Res.ok v9.1) (Res.ok v3)).bnd fun (v11 : Int) =>
   (rngR 1 (v11 + 1)).bnd fun (xs12 : List Int) =>
   (lcB (fun (st14 : Unit) (x15 : Int) => (rngR 0 ((cup_here1.length : Int))).bnd fun (xs16 : List Int) =>
   (lcR (fun (x17 : Int) => (ixR cup_here1 x17).bnd fun v18 => Res.ok (decide (v18 = (x15, x6)))) (fun (x17 : Int) => Res.ok x17) xs16 []).bnd fun (l19 : List Int) =>
   Res.ok ((some ((l19.length : Int)), ()))) xs12 [] (())).bnd fun (q20 : List Int × Unit) =>
   ((((ixR cup_here1 x6).bnd fun v21 => Res.ok v21.1).bnd fun v22 => Res.ok (decide (0 < v22))).bnd fun (v23 : Bool) =>
   cond v23 ((setR q20.1 (-1) (-1)).bnd fun row24 =>
   Res.ok row24)
   (Res.ok q20.1)).bnd fun (j25 : (List Int)) =>
   (appR b5 j25).bnd fun rows26 =>
   Res.ok rows26) xs4 ([])).bnd fun (b27 : (List (List Int))) =>
   Res.ok b27
def sp__law_letters : SpD := fun xs M P PX => ∃ (cup_here1 : List (Int × Int)), xs = [.dat ((eT (eP2 D.int D.int)) cup_here1)] ∧ M = [] ∧ wp (m__law_letters cup_here1) (fun v => P ((eT (eT D.int)) v) []) (fun c x => PX c x [])
theorem len__law_letters : ∀ xs M P PX, sp__law_letters xs M P PX → xs.length = 1 := by rintro _ _ _ _ ⟨_, rfl, _⟩; rfl
theorem call__law_letters (cup_here1 : List (Int × Int)) : Call0 sp__law_letters [(eT (eP2 D.int D.int)) cup_here1] (eT (eT D.int)) (m__law_letters cup_here1) := fun P PX h => ⟨_, rfl, rfl, h⟩
@[irreducible] def m__law_due (rows1 : List (List Int)) : Res (Wd × D) :=
  cond (!(decide (1 ≤ ((rows1.length : Int))) && decide (((rows1.length : Int)) ≤ 32))) (Res.ok (((((wd "size"), (rows1.length : Int))).1, D.int ((((wd "size"), (rows1.length : Int))).2))))
   ((rngR 0 ((rows1.length : Int))).bnd fun (xs2 : List Int) =>
   (forS (ρ := Wd × D) (fun (b3 : Unit) (x4 : Int) => (((ixR rows1 x4).bnd fun v5 => Res.ok ((v5.length : Int))).bnd fun v6 => rngR 0 v6).bnd fun (xs7 : List Int) =>
   (forS (ρ := Wd × D) (fun (b8 : Unit) (x9 : Int) => (orR (notR (((ixR rows1 x4).bnd fun v10 => ixR v10 x9).bnd fun v11 => cond (decide ((-1) ≤ v11)) (Res.ok (decide (v11 ≤ 1))) (Res.ok false))) (((ixR rows1 x4).bnd fun v12 => Res.ok (cutL v12 none (some x9))).bnd fun v13 => Res.ok (false ^^ mem (-1) v13))).bnd fun (v14 : Bool) =>
   cond v14 (Res.ok (Stp.rt (((((wd "record"), (x4, x9))).1, (eP2 D.int D.int) ((((wd "record"), (x4, x9))).2)))))
   (Res.ok (Stp.nx (())))) xs7 (())).bnd fun st17 =>
   Stp.on st17 (fun (b15 : Unit) => Res.ok (Stp.nx (())))
   (fun (v16 : Wd × D) => Res.ok (Stp.rt v16))) xs2 (())).bnd fun st41 =>
   Stp.on st41 (fun (b18 : Unit) => (szR (rows1.map (fun (x19 : List Int) => (x19.length : Int)))).bnd fun (l20 : List Int) =>
   (maxR l20).bnd fun v21 =>
   (rngR 0 ((rows1.length : Int))).bnd fun (xs22 : List Int) =>
   (forS (ρ := Wd × D) (fun (b23 : Unit) (x24 : Int) => (andR ((ixR rows1 x24).bnd fun v25 => Res.ok (true ^^ mem (-1) v25)) (((ixR rows1 x24).bnd fun v26 => Res.ok ((v26.length : Int))).bnd fun v27 => Res.ok (decide (v27 < v21)))).bnd fun (v28 : Bool) =>
   cond v28 (Res.ok (Stp.rt (((((wd "record"), (x24, -1))).1, (eP2 D.int D.int) ((((wd "record"), (x24, -1))).2)))))
   (Res.ok (Stp.nx (())))) xs22 (())).bnd fun st39 =>
   Stp.on st39 (fun (b29 : Unit) => (rngR 0 v21).bnd fun (xs30 : List Int) =>
   (forS (ρ := Wd × D) (fun (b31 : Unit) (x32 : Int) => (lcR (fun (x33 : List Int) => Res.ok (decide (x32 < ((x33.length : Int))))) (fun (x33 : List Int) => ixR x33 x32) rows1 []).bnd fun (l34 : List Int) =>
   cond ((true ^^ mem (-1) l34) || (!decide ((l34.count 1 : Int) = (l34.count (-1) : Int)))) (Res.ok (Stp.rt (((((wd "rounds"), x32 + 1)).1, D.int ((((wd "rounds"), x32 + 1)).2)))))
   (Res.ok (Stp.nx (())))) xs30 (())).bnd fun st37 =>
   Stp.on st37 (fun (b35 : Unit) => Res.ok (((((wd "rows"), rows1)).1, (eT (eT D.int)) ((((wd "rows"), rows1)).2))))
   (fun (v36 : Wd × D) => Res.ok v36))
   (fun (v38 : Wd × D) => Res.ok v38))
   (fun (v40 : Wd × D) => Res.ok v40))
def sp__law_due : SpD := fun xs M P PX => ∃ (rows1 : List (List Int)), xs = [.dat ((eT (eT D.int)) rows1)] ∧ M = [] ∧ wp (m__law_due rows1) (fun v => P ((eP2 eW id) v) []) (fun c x => PX c x [])
theorem len__law_due : ∀ xs M P PX, sp__law_due xs M P PX → xs.length = 1 := by rintro _ _ _ _ ⟨_, rfl, _⟩; rfl
theorem call__law_due (rows1 : List (List Int)) : Call0 sp__law_due [(eT (eT D.int)) rows1] (eP2 eW id) (m__law_due rows1) := fun P PX h => ⟨_, rfl, rfl, h⟩
@[irreducible] def m__law_told (rows1 : List (List Int)) : Res (Wd × D) :=
  ((((m_made_records rows1).bnd fun (v2 : List (List Int)) =>
   Res.ok (Stp.nx v2)).tr fun c3 x4 => cond (decide (c3 ∈ LC_)) (cond (subE c3 "BadSize") (Res.ok (Stp.rt (((wd "size"), x4))))
   (cond (subE c3 "BadRecord") (Res.ok (Stp.rt (((wd "record"), x4))))
   (cond (subE c3 "BadRounds") (Res.ok (Stp.rt (((wd "rounds"), x4))))
   (cond (subE c3 "Refused") (Res.ok (Stp.rt (((((wd "other"), 0)).1, D.int ((((wd "other"), 0)).2)))))
   (Res.er c3 x4))))) Res.no)).bnd fun (st6 : Stp ((List (List Int))) (Wd × D)) => Stp.on st6 (fun (j5 : (List (List Int))) =>
   Res.ok (((((wd "rows"), j5)).1, (eT (eT D.int)) ((((wd "rows"), j5)).2))))
   (fun (w7 : Wd × D) => Res.ok w7)
def sp__law_told : SpD := fun xs M P PX => ∃ (rows1 : List (List Int)), xs = [.dat ((eT (eT D.int)) rows1)] ∧ M = [] ∧ wp (m__law_told rows1) (fun v => P ((eP2 eW id) v) []) (fun c x => PX c x [])
theorem len__law_told : ∀ xs M P PX, sp__law_told xs M P PX → xs.length = 1 := by rintro _ _ _ _ ⟨_, rfl, _⟩; rfl
theorem call__law_told (rows1 : List (List Int)) : Call0 sp__law_told [(eT (eT D.int)) rows1] (eP2 eW id) (m__law_told rows1) := fun P PX h => ⟨_, rfl, rfl, h⟩
@[irreducible] def m__law_bent (source1 : List Int) (rows2 : List (List Int)) : Res ((List (List Int)) × (List Int)) :=
  (szR (rows2.map (fun (x3 : List Int) => x3))).bnd fun (l4 : List (List Int)) =>
   (m__law_take source1 2).bnd fun (q5 : Int × (List Int)) =>
   (rngR 0 (1 + q5.1)).bnd fun (xs6 : List Int) =>
   (forR (fun (b7 : (List Int) × (List (List Int))) (x8 : Int) => (m__law_take b7.1 ((b7.2.length : Int))).bnd fun (q9 : Int × (List Int)) =>
   (m__law_one q9.2 ([1, 0, -1, -1, 2, -2, 10 ^ (20 : Int).toNat])).bnd fun (q10 : Int × List Int) =>
   (((ixR b7.2 q9.1).bnd fun v11 => Res.ok ((v11.length : Int))).bnd fun v12 => Res.ok (v12 + 1)).bnd fun (v13 : Int) =>
   (m__law_take q10.2 v13).bnd fun (q14 : Int × (List Int)) =>
   (m__law_take q14.2 4).bnd fun (q15 : Int × (List Int)) =>
   (cond (decide (q15.1 = 0)) (((((ixR b7.2 q9.1).bnd fun v16 => Res.ok (cutL v16 none (some q14.1))).bnd fun v17 => catR v17 ([q10.1])).bnd fun v19 => ((ixR b7.2 q9.1).bnd fun v18 => Res.ok (cutL v18 (some (q14.1 + 1)) none)).bnd fun v20 => catR v19 v20).bnd fun (v21 : List Int) =>
   (setR b7.2 q9.1 v21).bnd fun new22 =>
   Res.ok new22)
   (Res.ok b7.2)).bnd fun (j23 : (List (List Int))) =>
   (cond (decide (q15.1 = 1)) (((((ixR j23 q9.1).bnd fun v24 => Res.ok (cutL v24 none (some q14.1))).bnd fun v25 => catR v25 ([q10.1])).bnd fun v27 => ((ixR j23 q9.1).bnd fun v26 => Res.ok (cutL v26 (some q14.1) none)).bnd fun v28 => catR v27 v28).bnd fun (v29 : List Int) =>
   (setR j23 q9.1 v29).bnd fun new30 =>
   Res.ok new30)
   (Res.ok j23)).bnd fun (j31 : (List (List Int))) =>
   (cond (decide (q15.1 = 2)) ((((ixR j31 q9.1).bnd fun v32 => Res.ok (cutL v32 none (some q14.1))).bnd fun v34 => ((ixR j31 q9.1).bnd fun v33 => Res.ok (cutL v33 (some (q14.1 + 1)) none)).bnd fun v35 => catR v34 v35).bnd fun (v36 : List Int) =>
   (setR j31 q9.1 v36).bnd fun new37 =>
   Res.ok new37)
   (Res.ok j31)).bnd fun (j38 : (List (List Int))) =>
   cond (decide (q15.1 = 3)) ((m__law_take q15.2 ((j38.length : Int))).bnd fun (q39 : Int × (List Int)) =>
   ((ixR j38 q39.1).bnd fun v40 => (ixR j38 q9.1).bnd fun v41 => Res.ok ((v40, v41))).bnd fun (v42 : (List Int) × (List Int)) =>
   (setR j38 q9.1 v42.1).bnd fun new43 =>
   (setR new43 q39.1 v42.2).bnd fun new44 =>
   Res.ok ((q39.2, new44)))
   (Res.ok ((q15.2, j38)))) xs6 ((q5.2, l4))).bnd fun (b45 : (List Int) × (List (List Int))) =>
   (m__law_take b45.1 8).bnd fun (q46 : Int × (List Int)) =>
   (cond (decide (q46.1 = 0)) ((m__law_take q46.2 ((b45.2.length : Int))).bnd fun (q47 : Int × (List Int)) =>
   (popAtR b45.2 q47.1).bnd fun q48 =>
   Res.ok ((q47.2, q48.2)))
   (Res.ok ((q46.2, b45.2)))).bnd fun (j49 : (List Int) × (List (List Int))) =>
   (cond (decide (q46.1 = 1)) ((m__law_one j49.1 j49.2).ne.bnd fun (q50 : (List Int) × List Int) =>
   (appR j49.2 q50.1).bnd fun new51 =>
   Res.ok ((q50.2, new51)))
   (Res.ok ((j49.1, j49.2)))).bnd fun (j52 : (List Int) × (List (List Int))) =>
   Res.ok ((j52.2, j52.1))
def sp__law_bent : SpD := fun xs M P PX => ∃ (source1 : List Int) (rows2 : List (List Int)), xs = [.cell 0, .dat ((eT (eT D.int)) rows2)] ∧ M = [some (cL D.int source1)] ∧ wp (m__law_bent source1 rows2) (fun q => P ((eT (eT D.int)) q.1) [some (cL D.int q.2)]) (fun c x => ∀ y, PX c x [some y])
theorem len__law_bent : ∀ xs M P PX, sp__law_bent xs M P PX → xs.length = 2 := by rintro _ _ _ _ ⟨_, _, rfl, _⟩; rfl
theorem call__law_bent (source1 : List Int) (rows2 : List (List Int)) : Call1 sp__law_bent [.cell 0, .dat ((eT (eT D.int)) rows2)] (cL D.int source1) (fun q => (eT (eT D.int)) q.1) (fun q => (cL D.int q.2)) (m__law_bent source1 rows2) := fun P PX h => ⟨_, _, rfl, rfl, h⟩
@[irreducible] def m__law_right (rows1 : List (List Int)) : Res Bool :=
  (m__law_due rows1).bnd fun (v2 : Wd × D) =>
   (m_is_records ((eT (eT D.int)) rows1)).bnd fun (v3 : Bool) =>
   andR (((m__law_told rows1).bnd fun v4 => Res.ok ((eP2 eW id) v4)).bnd fun v5 => eqR v5 ((eP2 eW id) v2)) (andR (isTR "bool" (D.bl v3)) (Res.ok (decide (v3 = decide (v2.1 = (wd "rows"))))))
def sp__law_right : SpD := fun xs M P PX => ∃ (rows1 : List (List Int)), xs = [.dat ((eT (eT D.int)) rows1)] ∧ M = [] ∧ wp (m__law_right rows1) (fun v => P (D.bl v) []) (fun c x => PX c x [])
theorem len__law_right : ∀ xs M P PX, sp__law_right xs M P PX → xs.length = 1 := by rintro _ _ _ _ ⟨_, rfl, _⟩; rfl
theorem call__law_right (rows1 : List (List Int)) : Call0 sp__law_right [(eT (eT D.int)) rows1] D.bl (m__law_right rows1) := fun P PX h => ⟨_, rfl, rfl, h⟩
@[irreducible] def m_law (script1 : List Int) : Res Bool :=
  (rngR 0 ((if ((if 3 < ((script1.length : Int)) then 3 else ((script1.length : Int)))) > 1 then ((if 3 < ((script1.length : Int)) then 3 else ((script1.length : Int)))) else 1))).bnd fun (xs2 : List Int) =>
   (forS (ρ := Bool) (fun (b3 : Unit) (x4 : Int) => (m__law_pool script1 x4).bnd fun (l5 : List Int) =>
   (m__law_take l5 8).bnd fun (q6 : Int × (List Int)) =>
   ((m__law_take q6.2 30).bnd fun (q7 : Int × (List Int)) =>
   cond (decide (q7.1 = 0)) (Res.ok ((q7.2, 32)))
   (Res.ok ((q7.2, 1 + q6.1)))).bnd fun (j8 : (List Int) × Int) =>
   (m__law_figures j8.1 j8.2).bnd fun (q9 : ((List Int) × (List Int)) × (List Int)) =>
   (m__law_cup q9.2 q9.1).bnd fun (q10 : (List (Int × Int)) × (List Int)) =>
   (m__law_letters q10.1).bnd fun (q11 : List (List Int)) =>
   (((m__law_due q11).bnd fun v12 => Res.ok ((eP2 eW id) v12)).bnd fun v13 => notR (eqR v13 ((eP2 eW (eT (eT D.int))) (((wd "rows"), q11))))).bnd fun (v14 : Bool) =>
   cond v14 (Res.ok (Stp.rt false))
   ((m__law_bent q10.2 q11).bnd fun (q15 : (List (List Int)) × (List Int)) =>
   (m__law_bent q15.2 q11).bnd fun (q16 : (List (List Int)) × (List Int)) =>
   (m__law_bent q16.2 q11).bnd fun (q17 : (List (List Int)) × (List Int)) =>
   (repTR' ([([] : List Int)]) 33).bnd fun (v18 : List (List Int)) =>
   (forS (ρ := Bool) (fun (b19 : Unit) (x20 : List (List Int)) => (notR (m__law_right x20)).bnd fun (v22 : Bool) =>
   cond v22 (Res.ok (Stp.rt false))
   (Res.ok (Stp.nx (())))) ([q11, q15.1, q16.1, q17.1, ([] : List (List Int)), v18, [([] : List Int)]]) (())).bnd fun st40 =>
   Stp.on st40 (fun (b23 : Unit) => (m__law_take q17.2 j8.2).bnd fun (q24 : Int × (List Int)) =>
   (m__law_one q24.2 ([eN (()), eW ((wd "")), eW ((wd "w")), D.int 0, (eP1 eW) ((wd "1")), (eP1 eN) (()), (eP1 (eT D.int)) (([] : List Int)), (eP1 (eP1 D.int)) 1, (eP2 D.int eW) ((1, (wd "")))])).bnd fun (q25 : D × List Int) =>
   (((((catR ((cutL q11 none (some q24.1)).map (eT D.int)) ([q25.1])).bnd fun v27 => catR v27 ((cutL q11 (some (q24.1 + 1)) none).map (eT D.int))).bnd fun v28 => Res.ok ((eT id) v28)).bnd fun v29 => szR [eN (()), eW ((wd "")), eW ((wd "wl")), D.int 0, (eP1 eN) (()), (eP1 D.int) 0, (eP1 eW) ((wd "")), (eP1 (eT (eT D.int))) q11, v29]).bnd fun v30 => Res.ok v30).bnd fun (xs31 : List D) =>
   (forS (ρ := Bool) (fun (b32 : Unit) (x33 : D) => ((m_is_records x33).bnd fun v34 => Res.ok (true ^^ decide (v34 = false))).bnd fun (v35 : Bool) =>
   cond v35 (Res.ok (Stp.rt false))
   (Res.ok (Stp.nx (())))) xs31 (())).bnd fun st38 =>
   Stp.on st38 (fun (b36 : Unit) => Res.ok (Stp.nx (())))
   (fun (v37 : Bool) => Res.ok (Stp.rt v37)))
   (fun (v39 : Bool) => Res.ok (Stp.rt v39)))) xs2 (())).bnd fun st43 =>
   Stp.on st43 (fun (b41 : Unit) => Res.ok true)
   (fun (v42 : Bool) => Res.ok v42)
def sp_law : SpD := fun xs M P PX => ∃ (script1 : List Int), xs = [.dat ((eFL D.int) script1)] ∧ M = [] ∧ wp (m_law script1) (fun v => P (D.bl v) []) (fun c x => PX c x [])
theorem len_law : ∀ xs M P PX, sp_law xs M P PX → xs.length = 1 := by rintro _ _ _ _ ⟨_, rfl, _⟩; rfl
theorem forS_find {α ρ : Type} {f : Unit → α → Res (Stp Unit ρ)} (q : α → Option ρ) : ∀ {xs : List α}, (∀ x ∈ xs, f () x = .ok (match q x with | some v => .rt v | none => .nx ())) → forS f xs () = .ok (match xs.findSome? q with | some v => .rt v | none => .nx ())
  | [], _ => rfl
  | x :: xs, h => by
    rw [forS_cons, h x (.head _), ok_bnd, List.findSome?_cons]
    cases q x with
    | some v => rfl
    | none => exact forS_find q fun y hy => h y (.tail _ hy)
theorem on_find {ρ γ : Type} {o : Option ρ} {k : Unit → Res γ} {r : ρ → Res γ} : ((Res.ok (match o with | some v => Stp.rt v | none => Stp.nx ()) : Res (Stp Unit ρ)).bnd fun st => Stp.on st k r) = match o with
    | some v => r v
    | none => k () := by cases o <;> rfl
theorem fs_find {α β : Type} (p : α → Bool) (e : α → β) : ∀ xs : List α, xs.findSome? (fun x => if p x = true then some (e x) else none) = (xs.find? p).map e
  | [] => rfl
  | x :: xs => by
    rw [List.findSome?_cons, List.find?_cons]
    cases h : p x with
    | true => simp
    | false => simpa using fs_find p e xs
theorem find_same {p p' : Int → Bool} : ∀ {l : List Int}, l.Pairwise (· < ·) → (∀ i ∈ l, p i = true → p' i = true) → (∀ i ∈ l, p' i = true → ∃ j ∈ l, j ≤ i ∧ p j = true) → l.find? p = l.find? p'
  | [], _, _, _ => rfl
  | x :: l, hl, h1, h2 => by
    obtain ⟨lx, hl⟩ := List.pairwise_cons.mp hl
    rw [List.find?_cons, List.find?_cons]
    cases hp : p x with
    | true => rw [h1 x (.head _) hp]
    | false =>
      cases hq : p' x with
      | true =>
        obtain ⟨j, hj, le, pj⟩ := h2 x (.head _) hq
        rcases List.mem_cons.mp hj with rfl | hj
        · rw [hp] at pj; cases pj
        · have := lx j hj; omega
      | false =>
        simp only []
        refine find_same hl (fun i hi => h1 i (.tail _ hi)) fun i hi hpi => ?_
        obtain ⟨j, hj, le, pj⟩ := h2 i (.tail _ hi) hpi
        rcases List.mem_cons.mp hj with rfl | hj
        · rw [hp] at pj; cases pj
        · exact ⟨j, hj, le, pj⟩
theorem rng_up (a b : Int) : (rng a b).Pairwise (· < ·) := by
  unfold rng
  refine List.Pairwise.map _ (fun x y h => ?_) List.pairwise_lt_range
  omega
def gI (l : List Int) (i : Int) : Int := l.getD i.toNat 0
theorem ixR_gI {l : List Int} {i : Int} (h0 : 0 ≤ i) (h1 : i < l.length) : ixR l i = .ok (gI l i) := ixR_getD 0 h0 h1
def gR (l : List (List Int)) (i : Int) : List Int := l.getD i.toNat []
theorem ixR_gR {l : List (List Int)} {i : Int} (h0 : 0 ≤ i) (h1 : i < l.length) : ixR l i = .ok (gR l i) := ixR_getD [] h0 h1
theorem gR_mem {l : List (List Int)} {i : Int} (h0 : 0 ≤ i) (h1 : i < l.length) : gR l i ∈ l := ixR_mem (ixR_gR h0 h1)
theorem enum_rng {α : Type} (d : α) (l : List α) : enumL l = (rng 0 l.length).map fun i => (i, l.getD i.toNat d) := by
  refine List.ext_getElem ?_ fun n h1 h2 => ?_
  · simp [enumL, rng]
  · simp only [enumL, rng, List.length_map, List.length_zipIdx] at h1
    simp [enumL, rng, List.getD_eq_getElem?_getD, List.getElem?_eq_getElem h1]
def bad1 (row : List Int) (i : Int) : Bool := (decide (0 < i) && decide (gI row (i - 1) = -1)) || !decide (gI row i ∈ ([1, 0, -1] : List Int))
def bad2 (row : List Int) (i : Int) : Bool := !(decide (-1 ≤ gI row i) && decide (gI row i ≤ 1)) || decide ((-1 : Int) ∈ row.take i.toNat)
def badRow (row : List Int) : Option Int := (rng 0 row.length).find? (bad1 row)
theorem take_gI {row : List Int} {n : Nat} (h : n ≤ row.length) : (-1 : Int) ∈ row.take n ↔ ∃ j : Int, 0 ≤ j ∧ j < n ∧ gI row j = -1 := by
  rw [List.mem_iff_getElem]
  constructor
  · rintro ⟨k, hk, e⟩
    rw [List.length_take] at hk
    rw [List.getElem_take] at e
    exact ⟨k, by omega, by omega, by unfold gI; rw [List.getD_eq_getElem?_getD, Int.toNat_natCast, List.getElem?_eq_getElem (by omega)]; exact e⟩
  · rintro ⟨j, j0, j1, e⟩
    unfold gI at e
    rw [List.getD_eq_getElem?_getD, List.getElem?_eq_getElem (show j.toNat < row.length by omega)] at e
    exact ⟨j.toNat, by rw [List.length_take]; omega, by rw [List.getElem_take]; exact e⟩
theorem in3 (v : Int) : v ∈ ([1, 0, -1] : List Int) ↔ -1 ≤ v ∧ v ≤ 1 := by
  simp only [List.mem_cons, List.not_mem_nil, or_false]; omega
theorem badRow2 (row : List Int) : (rng 0 row.length).find? (bad2 row) = badRow row := by
  refine (find_same (rng_up _ _) (fun i hi h => ?_) fun i hi h => ?_).symm
  · obtain ⟨i0, i1⟩ := rng_mem.mp hi
    unfold bad1 at h
    unfold bad2
    simp only [Bool.or_eq_true, Bool.and_eq_true, decide_eq_true_eq, Bool.not_eq_true', decide_eq_false_iff_not, in3, Bool.and_eq_false_iff] at h ⊢
    rcases h with ⟨a, b⟩ | h
    · exact .inr ((take_gI (by omega)).mpr ⟨i - 1, by omega, by omega, b⟩)
    · exact .inl (by omega)
  · obtain ⟨i0, i1⟩ := rng_mem.mp hi
    unfold bad2 at h
    simp only [Bool.or_eq_true, Bool.and_eq_true, decide_eq_true_eq, Bool.not_eq_true', decide_eq_false_iff_not, Bool.and_eq_false_iff] at h
    rcases h with h | h
    · refine ⟨i, hi, Int.le_refl _, ?_⟩
      unfold bad1
      simp only [Bool.or_eq_true, Bool.and_eq_true, decide_eq_true_eq, Bool.not_eq_true', decide_eq_false_iff_not, in3]
      omega
    · obtain ⟨j, j0, j1, e⟩ := (take_gI (by omega)).mp h
      refine ⟨j + 1, rng_mem.mpr ⟨by omega, by omega⟩, by omega, ?_⟩
      unfold bad1
      simp only [Bool.or_eq_true, Bool.and_eq_true, decide_eq_true_eq]
      exact .inl ⟨by omega, by rw [show j + 1 - 1 = j by omega]; exact e⟩
def dP (x i : Int) : D := eP2 D.int D.int (x, i)
theorem letters_loop (x : Int) (row : List Int) : m_check_letters x row = match badRow row with
    | some i => .er "BadRecord" (dP x i)
    | none => .ok () := by
  unfold m_check_letters
  rw [forR_find (fun p : Int × Int => if bad1 row p.1 = true then some ((("BadRecord" : String) : Str), dP x p.1) else none) fun p hp => ?_]
  · rw [enum_rng 0, List.findSome?_map, show ((fun p : Int × Int => if bad1 row p.1 = true then some ((("BadRecord" : String) : Str), dP x p.1) else none) ∘ fun i : Int => (i, row.getD i.toNat 0)) = (fun i : Int => if bad1 row i = true then some ((("BadRecord" : String) : Str), dP x i) else none) from rfl, fs_find]
    unfold badRow
    cases (rng 0 row.length).find? (bad1 row) <;> rfl
  · rw [enum_rng 0] at hp
    obtain ⟨i, hi, rfl⟩ := List.mem_map.mp hp
    obtain ⟨i0, i1⟩ := rng_mem.mp hi
    simp only
    have e : (cond (decide (0 < i)) ((ixR row (i - 1)).bnd fun v5 => Res.ok (decide (v5 = (-1)))) (Res.ok false)) = .ok (decide (0 < i) && decide (gI row (i - 1) = -1)) := by
      by_cases c : 0 < i
      · rw [decide_eq_true c, cond_true, ixR_gI (by omega) (by omega), ok_bnd, Bool.true_and]
      · rw [decide_eq_false c, cond_false, Bool.false_and]
    rw [e, ok_bnd]
    have e2 : ((decide (0 < i) && decide (gI row (i - 1) = -1)) || (true ^^ mem (row.getD i.toNat 0) ([1, 0, (-1)] : List Int))) = bad1 row i := by
      unfold bad1 mem gI; rw [Bool.true_xor]
    rw [e2]
    cases bad1 row i <;> rfl
def rowsBad (rows : List (List Int)) : Option (Int × Int) := (rng 0 rows.length).findSome? fun x => (badRow (gR rows x)).map fun i => (x, i)
def lens (rows : List (List Int)) : Int := maxI (rows.map fun row => (row.length : Int))
def short1 (rows : List (List Int)) (x : Int) : Bool := !decide ((-1 : Int) ∈ gR rows x) && decide (((gR rows x).length : Int) < lens rows)
def lettersAt (rows : List (List Int)) (r : Int) : List Int := (rows.filter fun row => decide (r < (row.length : Int))).map fun row => gI row r
def round1 (rows : List (List Int)) (r : Int) : Bool := !decide ((-1 : Int) ∈ lettersAt rows r) || !decide (((lettersAt rows r).count 1 : Int) = ((lettersAt rows r).count (-1) : Int))
theorem round1_x (rows : List (List Int)) (r : Int) : ((true ^^ mem (-1) (lettersAt rows r)) || (!decide (((lettersAt rows r).count 1 : Int) = ((lettersAt rows r).count (-1) : Int)))) = round1 rows r := by
  unfold round1 mem; rw [Bool.true_xor]
theorem short1_x (rows : List (List Int)) (x : Int) : ((true ^^ mem (-1) (gR rows x)) && decide (((gR rows x).length : Int) < lens rows)) = short1 rows x := by
  unfold short1 mem; rw [Bool.true_xor]
def recErr (rows : List (List Int)) : Option (Str × Wd × D) :=
  if (decide (1 ≤ (rows.length : Int)) && decide ((rows.length : Int) ≤ 32)) = true then match rowsBad rows with
    | some p => some ("BadRecord", wd "record", dP p.1 p.2)
    | none => match (rng 0 rows.length).find? (short1 rows) with
      | some x => some ("BadRecord", wd "record", dP x (-1))
      | none => match (rng 0 (lens rows)).find? (round1 rows) with
        | some r => some ("BadRounds", wd "rounds", .int (r + 1))
        | none => none
  else some ("BadSize", wd "size", .int rows.length)
structure Wf (rows : List (List Int)) : Prop where
  n : rows.length ≤ 1000
  l : ∀ row ∈ rows, row.length ≤ 1000
theorem maxI_in {l : List Int} (h : l ≠ []) : maxI l ∈ l ∧ ∀ y ∈ l, y ≤ maxI l := by rw [maxI_eq]; exact maxL_mem h
theorem lens_b {rows : List (List Int)} (w : Wf rows) (h : rows ≠ []) : (0 ≤ lens rows ∧ lens rows ≤ 1000) ∧ ∀ row ∈ rows, (row.length : Int) ≤ lens rows := by
  obtain ⟨a, b⟩ := maxI_in (l := rows.map fun row => (row.length : Int)) (by simpa using h)
  refine ⟨?_, fun row hr => b _ (List.mem_map_of_mem hr)⟩
  obtain ⟨row, hr, e⟩ := List.mem_map.mp a
  have := w.l row hr
  unfold lens
  omega
theorem letters_lc {rows : List (List Int)} (w : Wf rows) {r : Int} (h0 : 0 ≤ r) : lcR (fun (x6 : List Int) => Res.ok (decide (r < ((x6.length : Int))))) (fun (x6 : List Int) => ixR x6 r) rows [] = .ok (lettersAt rows r) := by
  have n := w.n
  rw [lcR_ok (fun row => decide (r < (row.length : Int))) (fun row => gI row r) (by have := List.length_filter_le (fun row : List Int => decide (r < (row.length : Int))) rows; simp only [List.length_nil]; omega) (fun _ _ => rfl) fun row _ ht => ixR_gI h0 (by simpa using ht)]
  rfl
theorem made_eq {rows : List (List Int)} (w : Wf rows) : m_made_records rows = match recErr rows with
    | some e => .er e.1 e.2.2
    | none => .ok rows := by
  unfold m_made_records recErr
  cases h1 : (decide (1 ≤ (rows.length : Int)) && decide ((rows.length : Int) ≤ 32)) with
  | false => rw [Bool.not_false, cond_true, if_neg Bool.false_ne_true]
  | true =>
    rw [Bool.not_true, cond_false, if_pos rfl]
    have hne : rows ≠ [] := fun z => by rw [z] at h1; simp at h1
    obtain ⟨⟨b0, b1⟩, b2⟩ := lens_b w hne
    rw [forR_find (fun p : Int × List Int => (badRow p.2).map fun i => ((("BadRecord" : String) : Str), dP p.1 i)) fun p _ => by
      rw [letters_loop]
      cases badRow p.2 <;> rfl]
    rw [enum_rng [], List.findSome?_map]
    have e1 : ((rng 0 rows.length).findSome? ((fun p : Int × List Int => (badRow p.2).map fun i => ((("BadRecord" : String) : Str), dP p.1 i)) ∘ fun i : Int => (i, rows.getD i.toNat []))) = (rowsBad rows).map fun p => ((("BadRecord" : String) : Str), dP p.1 p.2) := by
      unfold rowsBad
      generalize rng 0 (rows.length : Int) = L
      induction L with
      | nil => rfl
      | cons x L ih =>
        rw [List.findSome?_cons, List.findSome?_cons]
        simp only [Function.comp_apply]
        rw [show rows.getD x.toNat [] = gR rows x from rfl]
        cases badRow (gR rows x) with
        | some i => rfl
        | none => exact ih
    rw [e1]
    cases rowsBad rows with
    | some p => rfl
    | none =>
      simp only [Option.map_none]
      rw [ok_bnd, szR_ok' (by rw [List.length_map]; have := w.n; omega), ok_bnd, maxR_ok (by simpa using hne), ok_bnd]
      change Res.bnd (forR (fun (b9 : Unit) (x10 : Int × (List Int)) => cond ((true ^^ mem ((-1)) x10.2) && (!decide ((x10.2.length : Int) = lens rows))) _ _) _ _) _ = _
      rw [forR_find (fun p : Int × List Int => if (!decide ((-1 : Int) ∈ p.2) && decide ((p.2.length : Int) < lens rows)) = true then some ((("BadRecord" : String) : Str), dP p.1 (-1)) else none) fun p hp => by
        obtain ⟨i, hi, rfl⟩ := List.mem_map.mp hp
        obtain ⟨i0, i1⟩ := rng_mem.mp hi
        have := b2 _ (gR_mem i0 i1)
        have e : (!decide ((((i, rows.getD i.toNat []) : Int × List Int).2.length : Int) = lens rows)) = decide ((((i, rows.getD i.toNat []) : Int × List Int).2.length : Int) < lens rows) := by
          rw [Bool.eq_iff_iff]
          simp only [Bool.not_eq_true', decide_eq_false_iff_not, decide_eq_true_eq]
          change ¬ ((gR rows i).length : Int) = lens rows ↔ ((gR rows i).length : Int) < lens rows
          omega
        rw [e]
        simp only [mem, Bool.true_xor]
        generalize (!decide ((-1 : Int) ∈ rows.getD i.toNat []) && decide (((rows.getD i.toNat []).length : Int) < lens rows)) = bb
        cases bb <;> rfl]
      rw [List.findSome?_map]
      change Res.bnd (match (rng 0 rows.length).findSome? (fun i : Int => if short1 rows i = true then some ((("BadRecord" : String) : Str), dP i (-1)) else none) with | some e => Res.er e.1 e.2 | none => Res.ok ()) _ = _
      rw [fs_find]
      cases (rng 0 rows.length).find? (short1 rows) with
      | some x => rfl
      | none =>
        simp only [Option.map_none]
        rw [ok_bnd]
        unfold m_check_rounds
        change Res.bnd (Res.bnd (rngR 0 (lens rows)) _) _ = _
        rw [rngR_ok (by omega) (by omega) (by omega) (by omega), ok_bnd, forR_find (fun r : Int => if round1 rows r = true then some ((("BadRounds" : String) : Str), D.int (r + 1)) else none) fun r hr => by
          rw [letters_lc w (rng_mem.mp hr).1, ok_bnd]
          rw [round1_x]
          cases round1 rows r <;> rfl]
        rw [fs_find]
        cases (rng 0 (lens rows)).find? (round1 rows) <;> rfl
theorem due_eq {rows : List (List Int)} (w : Wf rows) : m__law_due rows = .ok (match recErr rows with
    | some e => e.2
    | none => (wd "rows", eT (eT D.int) rows)) := by
  have n := w.n
  unfold m__law_due recErr
  cases h1 : (decide (1 ≤ (rows.length : Int)) && decide ((rows.length : Int) ≤ 32)) with
  | false => rw [Bool.not_false, cond_true, if_neg Bool.false_ne_true]
  | true =>
    rw [Bool.not_true, cond_false, if_pos rfl]
    have hne : rows ≠ [] := fun z => by rw [z] at h1; simp at h1
    obtain ⟨⟨b0, b1⟩, b2⟩ := lens_b w hne
    rw [rngR_ok (by omega) (by omega) (by omega) (by omega), ok_bnd, forS_find (fun x => (badRow (gR rows x)).map fun i => (wd "record", dP x i)) fun x hx => ?_, on_find]
    rotate_left
    · obtain ⟨x0, x1⟩ := rng_mem.mp hx
      have hl := w.l _ (gR_mem x0 x1)
      rw [ixR_gR x0 x1, ok_bnd, ok_bnd, rngR_ok (by omega) (by omega) (by omega) (by omega), ok_bnd, forS_find (fun i => if bad2 (gR rows x) i = true then some (wd "record", dP x i) else none) fun i hi => ?_, on_find]
      · rw [fs_find, badRow2]
        cases badRow (gR rows x) <;> rfl
      · obtain ⟨i0, i1⟩ := rng_mem.mp hi
        rw [ok_bnd, ixR_gI i0 i1, ok_bnd, ok_bnd, ok_bnd, cutL_to i0]
        have e : (cond (decide ((-1) ≤ gI (gR rows x) i)) (Res.ok (decide (gI (gR rows x) i ≤ 1))) (Res.ok false)) = .ok (decide ((-1) ≤ gI (gR rows x) i) && decide (gI (gR rows x) i ≤ 1)) := by
          cases decide ((-1) ≤ gI (gR rows x) i) <;> rfl
        rw [e, notR_ok, orR_oo, ok_bnd]
        have e2 : ((!(decide ((-1) ≤ gI (gR rows x) i) && decide (gI (gR rows x) i ≤ 1))) || (false ^^ mem (-1) ((gR rows x).take i.toNat))) = bad2 (gR rows x) i := by
          unfold bad2 mem; rw [Bool.false_xor]
        rw [e2]
        cases bad2 (gR rows x) i <;> rfl
    have e1 : ((rng 0 rows.length).findSome? fun x => (badRow (gR rows x)).map fun i => (wd "record", dP x i)) = (rowsBad rows).map fun p => (wd "record", dP p.1 p.2) := by
      unfold rowsBad
      generalize rng 0 (rows.length : Int) = L
      induction L with
      | nil => rfl
      | cons x L ih =>
        rw [List.findSome?_cons, List.findSome?_cons]
        cases badRow (gR rows x) with
        | some i => rfl
        | none => exact ih
    rw [e1]
    cases rowsBad rows with
    | some p => rfl
    | none =>
      simp only [Option.map_none]
      rw [szR_ok' (by rw [List.length_map]; omega), ok_bnd, maxR_ok (by simpa using hne), ok_bnd, show maxI (rows.map fun x : List Int => (x.length : Int)) = lens rows from rfl, rngR_ok (by omega) (by omega) (by omega) (by omega), ok_bnd]
      rw [forS_find (fun x => if short1 rows x = true then some (wd "record", dP x (-1)) else none) fun x hx => ?_, on_find]
      rotate_left
      · obtain ⟨x0, x1⟩ := rng_mem.mp hx
        rw [ixR_gR x0 x1, ok_bnd, ok_bnd, ok_bnd, andR_oo, ok_bnd]
        rw [short1_x]
        cases short1 rows x <;> rfl
      rw [fs_find]
      cases (rng 0 rows.length).find? (short1 rows) with
      | some x => rfl
      | none =>
        simp only [Option.map_none]
        rw [ok_bnd, forS_find (fun r => if round1 rows r = true then some (wd "rounds", D.int (r + 1)) else none) fun r hr => ?_, on_find]
        rotate_left
        · rw [letters_lc w (rng_mem.mp hr).1, ok_bnd]
          rw [round1_x]
          cases round1 rows r <;> rfl
        rw [fs_find]
        cases (rng 0 (lens rows)).find? (round1 rows) <;> rfl
theorem recErr_cases {rows : List (List Int)} {e : Str × Wd × D} (h : recErr rows = some e) : ((e.1 = "BadSize" ∧ e.2.1 = wd "size") ∨ (e.1 = "BadRecord" ∧ e.2.1 = wd "record") ∨ (e.1 = "BadRounds" ∧ e.2.1 = wd "rounds")) ∧ OkN 1 e.2.2 := by
  unfold recErr at h
  have op : ∀ x i, OkN 1 (dP x i) := fun x i => OkN.tup (k := 0) (ds := [.int x, .int i]) fun d hd => by
    simp only [List.mem_cons, List.not_mem_nil, or_false] at hd
    rcases hd with rfl | rfl <;> exact OkN.int 0 _
  split at h
  · split at h
    · cases h; exact ⟨.inr (.inl ⟨rfl, rfl⟩), op _ _⟩
    · split at h
      · cases h; exact ⟨.inr (.inl ⟨rfl, rfl⟩), op _ _⟩
      · split at h
        · cases h; exact ⟨.inr (.inr ⟨rfl, rfl⟩), OkN.int 1 _⟩
        · cases h
  · cases h; exact ⟨.inl ⟨rfl, rfl⟩, OkN.int 1 _⟩
theorem told_eq {rows : List (List Int)} (w : Wf rows) : m__law_told rows = .ok (match recErr rows with
    | some e => e.2
    | none => (wd "rows", eT (eT D.int) rows)) := by
  unfold m__law_told
  rw [made_eq w]
  cases h : recErr rows with
  | none => simp only []; rw [ok_bnd, ok_tr, ok_bnd, on_nx]
  | some e =>
    obtain ⟨c, u, x⟩ := e
    have hc := (recErr_cases h).1
    simp only at hc ⊢
    rw [er_bnd, er_tr]
    rcases hc with ⟨rfl, rfl⟩ | ⟨rfl, rfl⟩ | ⟨rfl, rfl⟩
    · rw [show decide ((("BadSize" : String) : Str) ∈ LC_) = true by decide, show subE "BadSize" "BadSize" = true by decide]; rfl
    · rw [show decide ((("BadRecord" : String) : Str) ∈ LC_) = true by decide, show subE "BadRecord" "BadSize" = false by decide, show subE "BadRecord" "BadRecord" = true by decide]; rfl
    · rw [show decide ((("BadRounds" : String) : Str) ∈ LC_) = true by decide, show subE "BadRounds" "BadSize" = false by decide, show subE "BadRounds" "BadRecord" = false by decide, show subE "BadRounds" "BadRounds" = true by decide]; rfl
theorem rows_D (rows : List (List Int)) : m_are_rows (eT (eT D.int) rows) = .ok true := rows_tup (ds := rows.map (eT D.int)) fun d hd => by
  obtain ⟨r, _, rfl⟩ := List.mem_map.mp hd
  exact nums_ints r
theorem nTR (rows : List (List Int)) : nT (nT asI) (eT (eT D.int) rows) = .ok rows := by
  show mapR (nT asI) (rows.map (eT D.int)) = _
  rw [mapR_map (g := id) (fun p => by
    show mapR asI (p.map D.int) = _
    rw [mapR_map (g := id) (fun x => asI_i x), List.map_id]; rfl), List.map_id]
theorem isr_eq {rows : List (List Int)} (w : Wf rows) : m_is_records (eT (eT D.int) rows) = .ok (recErr rows).isNone := by
  unfold m_is_records
  rw [rows_D, notR_ok, ok_bnd, Bool.not_true, cond_false, nTR, ok_bnd, made_eq w]
  cases h : recErr rows with
  | none => simp only []; rw [ok_bnd, ok_tr, ok_bnd, on_nx]; rfl
  | some e =>
    obtain ⟨c, u, x⟩ := e
    have hc := (recErr_cases h).1
    simp only at hc ⊢
    rw [er_bnd, er_tr]
    rcases hc with ⟨rfl, rfl⟩ | ⟨rfl, rfl⟩ | ⟨rfl, rfl⟩
    · rw [show decide ((("BadSize" : String) : Str) ∈ LC_) = true by decide, show subE "BadSize" "Refused" = true by decide]; rfl
    · rw [show decide ((("BadRecord" : String) : Str) ∈ LC_) = true by decide, show subE "BadRecord" "Refused" = true by decide]; rfl
    · rw [show decide ((("BadRounds" : String) : Str) ∈ LC_) = true by decide, show subE "BadRounds" "Refused" = true by decide]; rfl
theorem isr_no {d : D} (h : m_are_rows d = .ok false) : m_is_records d = .ok false := by
  unfold m_is_records
  rw [h, notR_ok, ok_bnd, Bool.not_false, cond_true]
theorem eqd_refl {d : D} (h : okD d = true) : eqR d d = .ok true := by rw [eqR_ok h h, eqD_refl d h]
theorem ok_rows (rows : List (List Int)) : OkN 2 (eT (eT D.int) rows) := OkN.tup (k := 1) fun d hd => by
  obtain ⟨r, _, rfl⟩ := List.mem_map.mp hd
  exact OkN.tup (OkN.ofInts 0 r)
theorem ok_pair {w : Wd} {d : D} {k : Nat} (h : OkN k d) : OkN (k + 1) (eP2 eW id (w, d)) := OkN.tup (ds := [eW w, d]) fun z hz => by
  simp only [List.mem_cons, List.not_mem_nil, or_false] at hz
  rcases hz with rfl | rfl
  · exact OkN.str k w.2
  · exact h
theorem right_ok {rows : List (List Int)} (w : Wf rows) : m__law_right rows = .ok true := by
  unfold m__law_right
  rw [due_eq w, ok_bnd, isr_eq w, ok_bnd, told_eq w, ok_bnd, ok_bnd]
  cases h : recErr rows with
  | none =>
    simp only
    rw [eqd_refl (ok_pair (ok_rows rows)).ok, andR_ok, cond_true, show isTR "bool" (D.bl (none : Option (Str × Wd × D)).isNone) = .ok true from rfl, andR_oo, Bool.true_and]
    simp
  | some e =>
    obtain ⟨c, u, x⟩ := e
    obtain ⟨hc, ox⟩ := recErr_cases h
    simp only at hc ox ⊢
    rw [eqd_refl (ok_pair ox).ok, andR_ok, cond_true, show isTR "bool" (D.bl (some (c, u, x)).isNone) = .ok true from rfl, andR_oo, Bool.true_and]
    have ne : ∀ s : String, Str.ofString s ≠ Str.ofString "rows" → (wd s = wd "rows" → False) := fun s hs z => hs (congrArg Subtype.val z)
    rcases hc with ⟨_, rfl⟩ | ⟨_, rfl⟩ | ⟨_, rfl⟩ <;> simp [wd, ofString_inj]
def wn (ps : List (Int × Int)) (r x : Int) : Int := (((rng 0 (ps.length : Int)).filter fun z => decide (cg ps z = (r, x))).length : Int)
def lastR (ps : List (Int × Int)) (x : Int) : Int := if 0 < (cg ps x).1 then (cg ps x).1 else mx ps
def rowE (ps : List (Int × Int)) (x i : Int) : Int := if 0 < (cg ps x).1 ∧ i = (cg ps x).1 - 1 then -1 else wn ps (i + 1) x
def recRow (ps : List (Int × Int)) (x : Int) : List Int := (rng 0 (lastR ps x)).map (rowE ps x)
def recs (ps : List (Int × Int)) : List (List Int) := (rng 0 (ps.length : Int)).map (recRow ps)
theorem rng_get {a b : Int} {k : Nat} (h : k < (rng a b).length) : (rng a b)[k] = a + (k : Int) := by simp [rng]
theorem set_last {l : List Int} {v : Int} (h : l ≠ []) : setR l (-1) v = .ok (l.set (l.length - 1) v) := by
  have := List.length_pos_iff.mpr h
  unfold setR
  have e : ixN l.length (-1) = some (l.length - 1) := by
    unfold ixN
    first
      | (rw [if_neg (by omega), if_pos (by omega)]; congr 1; omega)
      | (simp; omega)
  rw [e]
theorem letters_eq {S G : List Int} {ps : List (Int × Int)} (h : Cp S G ps) : m__law_letters ps = .ok (recs ps) := by
  have l1 := h.len
  have n1 := h.n1
  have n2 := h.n2
  have hne : ps ≠ [] := fun z => by rw [z] at l1; simp at l1; omega
  obtain ⟨m0, m1⟩ := h.mx
  unfold m__law_letters
  rw [rounds_eq hne (by omega), ok_bnd, rngR_ok (by omega) (by omega) (by omega) (by omega), ok_bnd]
  have top : ∀ x : Int, 0 ≤ x → x < ps.length → 0 ≤ (cg ps x).1 ∧ (cg ps x).1 ≤ mx ps := fun x x0 x1 => by
    refine ⟨?_, (maxL_mem (l := ps.map (·.1)) (by simpa using hne)).2 _ (List.mem_map_of_mem (cg_mem x0 x1))⟩
    rcases h.c.form x x0 (by omega) with q | q
    · rw [q]; decide
    · omega
  have e2 : ∀ (x : Int) (R : List Int) (a : List Int), a.length + R.length ≤ 1000 → lcB (fun (st14 : Unit) (x15 : Int) => (Res.ok (rng 0 ((ps.length : Int)))).bnd fun (xs16 : List Int) =>
   (lcR (fun (x17 : Int) => (ixR ps x17).bnd fun v18 => Res.ok (decide (v18 = (x15, x)))) (fun (x17 : Int) => Res.ok x17) xs16 []).bnd fun (l19 : List Int) =>
   Res.ok ((some ((l19.length : Int)), ()))) R a (()) = .ok (a ++ R.map (fun r => wn ps r x), ()) := by
    intro x R
    induction R with
    | nil => intro a _; rw [lcB]; simp
    | cons r R ihR =>
      intro a ha
      have e0 : ((Res.ok (rng 0 ((ps.length : Int)))).bnd fun (xs16 : List Int) =>
   (lcR (fun (x17 : Int) => (ixR ps x17).bnd fun v18 => Res.ok (decide (v18 = (r, x)))) (fun (x17 : Int) => Res.ok x17) xs16 []).bnd fun (l19 : List Int) =>
   Res.ok ((some ((l19.length : Int)), ()))) = .ok (some (wn ps r x), ()) := by
        rw [ok_bnd, lcR_filter (fun z => decide (cg ps z = (r, x))) (by rw [rng_len]; omega) fun z hz => by
          obtain ⟨z0, z1⟩ := rng_mem.mp hz
          rw [ixR_cg z0 z1, ok_bnd]]
        rw [ok_bnd]; rfl
      rw [lcB, e0, ok_ne, ok_bnd]
      simp only
      rw [if_pos (show a.length < sizeLine from Nat.lt_of_lt_of_le (show a.length < 1000 by rw [List.length_cons] at ha; omega) (by decide)), ihR _ (by rw [List.length_cons] at ha; simp; omega)]
      rw [List.append_assoc]; rfl
  have fl : ∀ L : List Int, L.flatMap (fun x => [recRow ps x]) = L.map (recRow ps) := fun L => by
    induction L with
    | nil => rfl
    | cons x L ih => rw [List.flatMap_cons, ih]; rfl
  rw [forR_app (fun x => [recRow ps x]) 1000 (by rw [fl, List.length_map, rng_len, List.length_nil]; omega) fun b x hx hb => ?_]
  · rw [ok_bnd, fl]
    rfl
  · obtain ⟨x0, x1⟩ := rng_mem.mp hx
    obtain ⟨t0, t1⟩ := top x x0 x1
    rw [ixR_cg x0 x1, ok_bnd, ok_bnd, ok_bnd]
    have e1 : (cond (decide (0 < (cg ps x).1)) (Res.ok (cg ps x).1) (Res.ok (mx ps))) = .ok (lastR ps x) := by
      unfold lastR
      by_cases c : 0 < (cg ps x).1
      · rw [decide_eq_true c, if_pos c]; rfl
      · rw [decide_eq_false c, if_neg c]; rfl
    have lb : 0 ≤ lastR ps x ∧ lastR ps x ≤ mx ps := by unfold lastR; split <;> omega
    rw [e1, ok_bnd, rngR_ok (by omega) (by omega) (by omega) (by omega), ok_bnd, e2 _ _ _ (by rw [rng_len]; simp; omega), ok_bnd]
    simp only [List.nil_append, ok_bnd]
    have e3 : (cond (decide (0 < (cg ps x).1)) ((setR ((rng 1 (lastR ps x + 1)).map (fun r => wn ps r x)) (-1) (-1)).bnd fun row24 => Res.ok row24) (Res.ok ((rng 1 (lastR ps x + 1)).map (fun r => wn ps r x)))) = .ok (recRow ps x) := by
      rw [show recRow ps x = (rng 0 (lastR ps x)).map (rowE ps x) from rfl]
      by_cases c : 0 < (cg ps x).1
      · have lc : lastR ps x = (cg ps x).1 := by unfold lastR; rw [if_pos c]
        rw [decide_eq_true c, cond_true, set_last (by intro z; have := congrArg List.length z; simp [rng_len] at this; omega), ok_bnd]
        congr 1
        refine List.ext_getElem (by simp [rng_len]) fun k h1 h2 => ?_
        have hk : k < (lastR ps x).toNat := by simpa [rng_len] using h2
        rw [List.getElem_set, List.getElem_map, List.getElem_map, rng_get, rng_get, List.length_map, rng_len]
        unfold rowE
        by_cases ek : k = (cg ps x).1.toNat - 1
        · rw [if_pos (by omega), if_pos ⟨c, by omega⟩]
        · rw [if_neg (by omega), if_neg (by omega)]
          congr 1; omega
      · rw [decide_eq_false c, cond_false]
        congr 1
        refine List.ext_getElem (by simp [rng_len]) fun k h1 h2 => ?_
        rw [List.getElem_map, List.getElem_map, rng_get, rng_get]
        unfold rowE
        rw [if_neg (by omega)]
        congr 1; omega
    rw [e3, ok_bnd, appR_ok (by simp at hb; omega), ok_bnd]
theorem gI_map {f : Int → Int} {n i : Int} (h0 : 0 ≤ i) (h1 : i < n) : gI ((rng 0 n).map f) i = f i := by
  unfold gI
  have hk : i.toNat < ((rng 0 n).map f).length := by rw [List.length_map, rng_len]; omega
  rw [List.getD_eq_getElem?_getD, List.getElem?_eq_getElem hk]
  simp only [Option.getD_some, List.getElem_map, rng_get]
  congr 1; omega
theorem gR_recs {ps : List (Int × Int)} {x : Int} (h0 : 0 ≤ x) (h1 : x < ps.length) : gR (recs ps) x = recRow ps x := by
  unfold gR recs
  have hk : x.toNat < ((rng 0 (ps.length : Int)).map (recRow ps)).length := by rw [List.length_map, rng_len]; omega
  rw [List.getD_eq_getElem?_getD, List.getElem?_eq_getElem hk]
  simp only [Option.getD_some, List.getElem_map, rng_get]
  congr 1; omega
theorem recs_good {S G : List Int} {ps : List (Int × Int)} (h : Cp S G ps) (hn : S.length ≤ 32) : recErr (recs ps) = none ∧ Wf (recs ps) := by
  have l1 := h.len
  have n1 := h.n1
  have hne : ps ≠ [] := fun z => by rw [z] at l1; simp at l1; omega
  obtain ⟨m0, m1⟩ := h.mx
  obtain ⟨mm, mt⟩ := maxL_mem (l := ps.map (·.1)) (by simpa using hne)
  have top : ∀ x : Int, 0 ≤ x → x < ps.length → 0 ≤ (cg ps x).1 ∧ (cg ps x).1 ≤ mx ps := fun x x0 x1 => by
    refine ⟨?_, mt _ (List.mem_map_of_mem (cg_mem x0 x1))⟩
    rcases h.c.form x x0 (by omega) with q | q
    · rw [q]; decide
    · omega
  have rl : (recs ps).length = ps.length := by unfold recs; rw [List.length_map, rng_len]; omega
  have lrow : ∀ x, ((recRow ps x).length : Int) = max 0 (lastR ps x) := fun x => by unfold recRow; rw [List.length_map, rng_len]; omega
  have lb : ∀ x : Int, 0 ≤ x → x < ps.length → 0 ≤ lastR ps x ∧ lastR ps x ≤ mx ps := fun x x0 x1 => by
    have := top x x0 x1
    unfold lastR; split <;> omega
  have wf : Wf (recs ps) := ⟨by omega, fun row hr => by
    obtain ⟨x, hx, rfl⟩ := List.mem_map.mp hr
    obtain ⟨x0, x1⟩ := rng_mem.mp hx
    have := lrow x
    have := lb x x0 x1
    omega⟩
  refine ⟨?_, wf⟩
  -- wins
  have wn1 : ∀ r z : Int, 1 ≤ r → 0 ≤ z → z < ps.length → (cg ps z).1 = r → wn ps r (cg ps z).2 = 1 := fun r z r1 z0 z1 e => by
    unfold wn
    have : ((rng 0 (ps.length : Int)).filter fun w => decide (cg ps w = (r, (cg ps z).2))) = [z] := by
      have key : ∀ l : List Int, l.Nodup → (∀ w ∈ l, 0 ≤ w ∧ w < ps.length) → z ∈ l → l.filter (fun w => decide (cg ps w = (r, (cg ps z).2))) = [z] := by
        intro l
        induction l with
        | nil => intro _ _ q; cases q
        | cons y l ih =>
          intro nd hb hz
          obtain ⟨a, b⟩ := List.nodup_cons.mp nd
          have hy := hb y (.head _)
          by_cases c : y = z
          · subst c
            rw [List.filter_cons_of_pos (by simp [← e])]
            congr 1
            rw [List.filter_eq_nil_iff]
            intro w hw
            simp only [decide_eq_true_eq]
            intro q
            have hw2 := hb w (.tail _ hw)
            have := h.c.one w y hw2.1 (by omega) hy.1 (by omega) (by rw [q, ← e]) (by rw [q]; exact r1)
            exact a (this ▸ hw)
          · rw [List.filter_cons_of_neg (by
              simp only [decide_eq_true_eq]
              intro q
              exact c (h.c.one y z hy.1 (by omega) z0 (by omega) (by rw [q, ← e]) (by rw [q]; exact r1)))]
            exact ih b (fun w hw => hb w (.tail _ hw)) ((List.mem_cons.mp hz).resolve_left fun q => c q.symm)
      exact key _ (rng_nodup _ _) (fun w hw => rng_mem.mp hw) (rng_mem.mpr ⟨z0, z1⟩)
    rw [this]; rfl
  have wn0 : ∀ r x : Int, 1 ≤ r → (wn ps r x = 0 ∨ ∃ z : Int, (0 ≤ z ∧ z < ps.length) ∧ cg ps z = (r, x)) := fun r x r1 => by
    unfold wn
    cases hf : ((rng 0 (ps.length : Int)).filter fun w => decide (cg ps w = (r, x))) with
    | nil => exact .inl rfl
    | cons z l =>
      have : z ∈ ((rng 0 (ps.length : Int)).filter fun w => decide (cg ps w = (r, x))) := by rw [hf]; exact .head _
      obtain ⟨a, b⟩ := List.mem_filter.mp this
      exact .inr ⟨z, rng_mem.mp a, by simpa using b⟩
  have wnb : ∀ r x : Int, 1 ≤ r → wn ps r x = 0 ∨ wn ps r x = 1 := fun r x r1 => by
    rcases wn0 r x r1 with q | ⟨z, ⟨z0, z1⟩, q⟩
    · exact .inl q
    · have := wn1 r z r1 z0 z1 (by rw [q])
      rw [q] at this
      exact .inr this
  -- a winner is there
  have champ : ∃ y : Int, (0 ≤ y ∧ y < ps.length) ∧ (cg ps y).1 = 0 := by
    obtain ⟨p, hp, e⟩ := List.mem_map.mp mm
    obtain ⟨j, hj⟩ := List.getElem?_of_mem hp
    have hj1 := (List.getElem?_eq_some_iff.mp hj).1
    have ec : cg ps (j : Int) = p := cg_get hj
    by_cases c : p.1 = 0
    · exact ⟨j, ⟨by omega, by omega⟩, by rw [ec]; exact c⟩
    · rcases h.c.form j (by omega) (by omega) with q | ⟨a, b, b2, _, q⟩
      · rw [ec] at q; exact absurd (by rw [q]) c
      · rw [ec] at a b b2 q
        rcases q with q | q
        · exact ⟨p.2, ⟨b, by omega⟩, by rw [q]⟩
        · have := (top p.2 b (by omega)).2
          unfold mx at this
          omega
  have lens_eq : lens (recs ps) = mx ps := by
    obtain ⟨a, b⟩ := maxI_in (l := (recs ps).map fun row => (row.length : Int)) (by intro z; have := congrArg List.length z; rw [List.length_map, rl, List.length_nil] at this; omega)
    obtain ⟨row, hr, e⟩ := List.mem_map.mp a
    obtain ⟨x, hx, rfl⟩ := List.mem_map.mp hr
    obtain ⟨x0, x1⟩ := rng_mem.mp hx
    have h1 := lb x x0 x1
    have h2 := lrow x
    obtain ⟨y, ⟨y0, y1⟩, ey⟩ := champ
    have h3 : ((recRow ps y).length : Int) ≤ _ := b _ (List.mem_map_of_mem (f := fun row : List Int => (row.length : Int)) (List.mem_map_of_mem (f := recRow ps) (rng_mem.mpr ⟨y0, y1⟩)))
    have h4 := lrow y
    have h5 : lastR ps y = mx ps := by unfold lastR; rw [if_neg (by omega)]
    have e : ((recRow ps x).length : Int) = _ := e
    unfold lens
    omega
  have e1 : rowsBad (recs ps) = none := by
    unfold rowsBad
    rw [List.findSome?_eq_none_iff]
    intro x hx
    obtain ⟨x0, x1⟩ := rng_mem.mp hx
    rw [rl] at x1
    rw [gR_recs x0 x1, Option.map_eq_none_iff]
    unfold badRow
    rw [List.find?_eq_none]
    intro i hi
    obtain ⟨i0, i1⟩ := rng_mem.mp hi
    have h2 := lrow x
    have h1 := lb x x0 x1
    have gi : ∀ k, 0 ≤ k → k < lastR ps x → gI (recRow ps x) k = rowE ps x k := fun k k0 k1 => gI_map k0 k1
    unfold bad1
    simp only [Bool.or_eq_true, Bool.and_eq_true, decide_eq_true_eq, Bool.not_eq_true', decide_eq_false_iff_not, in3, not_or]
    refine ⟨fun ⟨a, b⟩ => ?_, ?_⟩
    · rw [gi _ (by omega) (by omega)] at b
      unfold rowE at b
      split at b
      · rename_i c
        have : lastR ps x = (cg ps x).1 := by unfold lastR; rw [if_pos c.1]
        omega
      · have := wnb (i - 1 + 1) x (by omega)
        omega
    · rw [gi i i0 (by omega)]
      unfold rowE
      split
      · decide
      · have := wnb (i + 1) x (by omega)
        omega
  have e2 : (rng 0 (recs ps).length).find? (short1 (recs ps)) = none := by
    rw [List.find?_eq_none]
    intro x hx
    obtain ⟨x0, x1⟩ := rng_mem.mp hx
    rw [rl] at x1
    unfold short1
    rw [gR_recs x0 x1, lens_eq]
    simp only [Bool.and_eq_true, Bool.not_eq_true', decide_eq_false_iff_not, decide_eq_true_eq, not_and]
    intro hm
    have h2 := lrow x
    by_cases c : 0 < (cg ps x).1
    · exfalso
      refine hm (List.mem_map.mpr ⟨(cg ps x).1 - 1, rng_mem.mpr ⟨by omega, by unfold lastR; rw [if_pos c]; omega⟩, ?_⟩)
      unfold rowE
      rw [if_pos ⟨c, rfl⟩]
    · have : lastR ps x = mx ps := by unfold lastR; rw [if_neg c]
      omega
  have e3 : (rng 0 (lens (recs ps))).find? (round1 (recs ps)) = none := by
    rw [List.find?_eq_none, lens_eq]
    intro i hi
    obtain ⟨i0, i1⟩ := rng_mem.mp hi
    have la : lettersAt (recs ps) i = ((rng 0 (ps.length : Int)).filter fun x => decide (i < lastR ps x)).map fun x => rowE ps x i := by
      unfold lettersAt recs
      rw [List.filter_map, List.map_map]
      have : ((rng 0 (ps.length : Int)).filter ((fun row : List Int => decide (i < (row.length : Int))) ∘ recRow ps)) = (rng 0 (ps.length : Int)).filter fun x => decide (i < lastR ps x) := by
        refine List.filter_congr fun x hx => ?_
        simp only [Function.comp_apply]
        rw [lrow x]
        rw [decide_eq_decide]; omega
      rw [this]
      refine List.map_congr_left fun x hx => ?_
      exact gI_map i0 (by simpa using (List.mem_filter.mp hx).2)
    have outs : ∀ x : Int, 0 ≤ x → x < ps.length → ((i < lastR ps x ∧ rowE ps x i = -1) ↔ (cg ps x).1 = i + 1) := fun x x0 x1 => by
      constructor
      · rintro ⟨a, b⟩
        unfold rowE at b
        split at b
        · omega
        · have := wnb (i + 1) x (by omega)
          omega
      · intro e
        unfold lastR rowE
        rw [if_pos (by omega), if_pos ⟨by omega, by omega⟩]
        omega
    have wins : ∀ x : Int, 0 ≤ x → x < ps.length → ((i < lastR ps x ∧ rowE ps x i = 1) ↔ ∃ z : Int, (0 ≤ z ∧ z < ps.length) ∧ cg ps z = (i + 1, x)) := fun x x0 x1 => by
      constructor
      · rintro ⟨a, b⟩
        unfold rowE at b
        split at b
        · omega
        · rcases wn0 (i + 1) x (by omega) with q | q
          · omega
          · exact q
      · rintro ⟨z, ⟨z0, z1⟩, e⟩
        have w := wn1 (i + 1) z (by omega) z0 z1 (by rw [e])
        rw [e] at w
        simp only at w
        have hx : ¬ (0 < (cg ps x).1 ∧ (cg ps x).1 ≤ i + 1) := by
          rcases h.c.form z z0 (by omega) with q | ⟨a, b, b2, _, q⟩
          · rw [e] at q; have := (Prod.mk.inj q).1; omega
          · rw [e] at q
            simp only at q
            rcases q with q | q
            · rw [q]; omega
            · omega
        have := top x x0 x1
        unfold lastR rowE
        refine ⟨by split <;> omega, ?_⟩
        rw [if_neg (by omega)]; exact w
    obtain ⟨p, hp, ep⟩ := List.mem_map.mp mm
    obtain ⟨j, hj⟩ := List.getElem?_of_mem hp
    have hj1 := (List.getElem?_eq_some_iff.mp hj).1
    obtain ⟨z, z0, z1, ez⟩ := h.c.gap j (i + 1) (by omega) (by omega) (by omega) (by rw [cg_get hj, ep]; unfold mx at i1; omega)
    unfold round1
    simp only [Bool.or_eq_true, Bool.not_eq_true', decide_eq_false_iff_not, not_or, Decidable.not_not]
    rw [la]
    constructor
    · have := (outs z z0 (by omega)).mpr ez
      exact List.mem_map.mpr ⟨z, List.mem_filter.mpr ⟨rng_mem.mpr ⟨z0, by omega⟩, by simpa using this.1⟩, this.2⟩
    · rw [List.count_eq_countP, List.count_eq_countP, List.countP_map, List.countP_map, List.countP_filter, List.countP_filter, List.countP_eq_length_filter, List.countP_eq_length_filter]
      have A : ((rng 0 (ps.length : Int)).filter fun a => ((fun x => x == (-1 : Int)) ∘ fun x => rowE ps x i) a && decide (i < lastR ps a)) = (rng 0 (ps.length : Int)).filter fun x => decide ((cg ps x).1 = i + 1) := by
        refine List.filter_congr fun x hx => ?_
        obtain ⟨x0, x1⟩ := rng_mem.mp hx
        rw [Bool.eq_iff_iff]
        simp only [Function.comp_apply, Bool.and_eq_true, beq_iff_eq, decide_eq_true_eq]
        rw [← outs x x0 x1]
        exact And.comm
      rw [A]
      have B := nodup_len (l := (rng 0 (ps.length : Int)).filter fun a => ((fun x => x == (1 : Int)) ∘ fun x => rowE ps x i) a && decide (i < lastR ps a)) (m := ((rng 0 (ps.length : Int)).filter fun x => decide ((cg ps x).1 = i + 1)).map fun x => (cg ps x).2) ((rng_nodup _ _).filter _) ?_ ?_
      · rw [B, List.length_map]
      · have key : ∀ l : List Int, l.Nodup → (∀ x ∈ l, (0 ≤ x ∧ x < ps.length) ∧ (cg ps x).1 = i + 1) → (l.map fun x => (cg ps x).2).Nodup := by
          intro l
          induction l with
          | nil => intro _ _; exact List.nodup_nil
          | cons y l ih =>
            intro nd hb
            obtain ⟨a, b⟩ := List.nodup_cons.mp nd
            rw [List.map_cons, List.nodup_cons]
            refine ⟨fun q => ?_, ih b fun x hx => hb x (.tail _ hx)⟩
            obtain ⟨w, hw, e⟩ := List.mem_map.mp q
            have h1 := hb y (.head _)
            have h2 := hb w (.tail _ hw)
            have := h.c.one w y h2.1.1 (by omega) h1.1.1 (by omega) (Prod.ext (by rw [h1.2, h2.2]) e) (by omega)
            exact a (this ▸ hw)
        exact key _ ((rng_nodup _ _).filter _) fun x hx => by
          obtain ⟨a, b⟩ := List.mem_filter.mp hx
          exact ⟨rng_mem.mp a, by simpa using b⟩
      · intro x
        constructor
        · intro hx
          obtain ⟨a, b⟩ := List.mem_filter.mp hx
          obtain ⟨x0, x1⟩ := rng_mem.mp a
          simp only [Function.comp_apply, Bool.and_eq_true, beq_iff_eq, decide_eq_true_eq] at b
          obtain ⟨w, hw, e⟩ := (wins x x0 x1).mp ⟨b.2, b.1⟩
          exact List.mem_map.mpr ⟨w, List.mem_filter.mpr ⟨rng_mem.mpr hw, by rw [e]; simp⟩, by rw [e]⟩
        · intro hx
          obtain ⟨w, hw, e⟩ := List.mem_map.mp hx
          obtain ⟨a, b⟩ := List.mem_filter.mp hw
          obtain ⟨w0, w1⟩ := rng_mem.mp a
          have b : (cg ps w).1 = i + 1 := by simpa using b
          have hf := h.cgF w0 (by omega) (by omega)
          subst e
          have := (wins (cg ps w).2 hf.1 (by omega)).mpr ⟨w, ⟨w0, w1⟩, Prod.ext b rfl⟩
          exact List.mem_filter.mpr ⟨rng_mem.mpr ⟨hf.1, by omega⟩, by
            simp only [Function.comp_apply, Bool.and_eq_true, beq_iff_eq, decide_eq_true_eq]
            exact ⟨this.2, this.1⟩⟩
  unfold recErr
  rw [if_pos (by rw [rl]; simp; omega), e1]
  simp only
  rw [e2]
  simp only
  rw [e3]
structure Wb (n b : Nat) (rows : List (List Int)) : Prop where
  n : rows.length = n
  l : ∀ row ∈ rows, row.length ≤ b
theorem Wb.set {n b : Nat} {rows : List (List Int)} (w : Wb n b rows) {k : Nat} {v : List Int} (hv : v.length ≤ b) : Wb n b (rows.set k v) := ⟨by rw [List.length_set]; exact w.n, fun row hr => by
  rcases List.mem_or_eq_of_mem_set hr with q | q
  · exact w.l row q
  · rw [q]; exact hv⟩
theorem Wb.mono {n b b' : Nat} {rows : List (List Int)} (w : Wb n b rows) (h : b ≤ b') : Wb n b' rows := ⟨w.n, fun row hr => Nat.le_trans (w.l row hr) h⟩
theorem bent_gd {s : List Int} {rows : List (List Int)} {n : Nat} (hs : Gs s) (n1 : 1 ≤ n) (n2 : n ≤ 100) (w : Wb n 100 rows) : Gd (fun q : List (List Int) × List Int => Wf q.1 ∧ Gs q.2) (m__law_bent s rows) := by
  have wn := w.n
  unfold m__law_bent
  rw [szR_id (by omega), ok_bnd]
  refine gd_bnd (take_gd hs (by decide) (by decide)) ?_
  rintro ⟨t, s1⟩ ⟨⟨t0, t1⟩, g1⟩
  simp only at t0 t1 g1 ⊢
  refine gd_rng (by decide) (by decide) (by omega) (by omega) ?_
  refine gd_bnd (gd_forR (fun (rest : List Int) (b : List Int × List (List Int)) => Gs b.1 ∧ rest.length ≤ 2 ∧ Wb n (200 - 50 * rest.length) b.2) ?_ ⟨g1, by rw [rng_len]; omega, w.mono (by rw [rng_len]; omega)⟩) ?_
  · rintro _ rest ⟨s2, new⟩ ⟨g2, hr, w2⟩
    simp only [List.length_cons] at g2 hr w2 ⊢
    have wn2 := w2.n
    refine gd_bnd (take_gd g2 (by omega) (by omega)) ?_
    rintro ⟨x, s3⟩ ⟨⟨x0, x1⟩, g3⟩
    simp only at x0 x1 g3 ⊢
    refine gd_bnd (one_gd g3 (by simp) (by simp)) ?_
    rintro ⟨v, s4⟩ ⟨_, g4⟩
    simp only at g4 ⊢
    have lx := w2.l _ (gR_mem x0 x1)
    rw [ixR_gR x0 x1, ok_bnd, ok_bnd, ok_bnd]
    refine gd_bnd (take_gd g4 (by omega) (by omega)) ?_
    rintro ⟨at_, s5⟩ ⟨⟨a0, a1⟩, g5⟩
    simp only at a0 a1 g5 ⊢
    refine gd_bnd (take_gd g5 (by decide) (by decide)) ?_
    rintro ⟨way, s6⟩ ⟨_, g6⟩
    simp only at g6 ⊢
    have step : ∀ {b : Nat} {j : List (List Int)} {A C : List Int}, Wb n b j → A.length + C.length ≤ 2 * (gR j x).length → True := fun _ _ => trivial
    refine gd_bnd (P := fun j : List (List Int) => Wb n (200 - 50 * (rest.length + 1) + 10) j) (gd_cond (fun _ => ?_) fun _ => gd_ok (w2.mono (by omega))) fun j1 w3 => ?_
    · have c1 : (cutL (gR new x) none (some at_)).length ≤ at_.toNat := by rw [cutL_to a0]; simp; omega
      have c2 : (cutL (gR new x) (some (at_ + 1)) none).length ≤ (gR new x).length - at_.toNat := by rw [cutL_from (by omega)]; simp; omega
      simp only [ok_bnd]
      rw [catR_ok (by simp; omega), ok_bnd, catR_ok (by simp; omega), ok_bnd, setR_ok x0 x1, ok_bnd]
      exact gd_ok ((w2.mono (by omega)).set (by simp; omega))
    have wn3 := w3.n
    refine gd_bnd (P := fun j : List (List Int) => Wb n (200 - 50 * (rest.length + 1) + 20) j) (gd_cond (fun _ => ?_) fun _ => gd_ok (w3.mono (by omega))) fun j2 w4 => ?_
    · have l3 := w3.l _ (gR_mem x0 (show x < j1.length by omega))
      have c0 := cutL_len (gR j1 x) none (some at_)
      have c1 : (cutL (gR j1 x) none (some at_)).length ≤ at_.toNat := by rw [cutL_to a0]; simp; omega
      have c2 : (cutL (gR j1 x) (some at_) none).length ≤ (gR j1 x).length - at_.toNat := by rw [cutL_from a0]; simp
      rw [ixR_gR x0 (by omega)]
      simp only [ok_bnd]
      rw [catR_ok (by simp; omega), ok_bnd, catR_ok (by simp; omega), ok_bnd, setR_ok x0 (by omega), ok_bnd]
      exact gd_ok ((w3.mono (by omega)).set (by simp; omega))
    have wn4 := w4.n
    refine gd_bnd (P := fun j : List (List Int) => Wb n (200 - 50 * (rest.length + 1) + 30) j) (gd_cond (fun _ => ?_) fun _ => gd_ok (w4.mono (by omega))) fun j3 w5 => ?_
    · have l4 := w4.l _ (gR_mem x0 (show x < j2.length by omega))
      have c0 := cutL_len (gR j2 x) none (some at_)
      have c1 : (cutL (gR j2 x) none (some at_)).length ≤ at_.toNat := by rw [cutL_to a0]; simp; omega
      have c2 : (cutL (gR j2 x) (some (at_ + 1)) none).length ≤ (gR j2 x).length - at_.toNat := by rw [cutL_from (by omega)]; simp; omega
      rw [ixR_gR x0 (by omega)]
      simp only [ok_bnd]
      rw [catR_ok (by omega), ok_bnd, setR_ok x0 (by omega), ok_bnd]
      exact gd_ok ((w4.mono (by omega)).set (by simp; omega))
    have wn5 := w5.n
    refine gd_cond (fun _ => ?_) fun _ => gd_ok ⟨g6, by omega, w5.mono (by omega)⟩
    refine gd_bnd (take_gd g6 (by omega) (by omega)) ?_
    rintro ⟨y, s7⟩ ⟨⟨y0, y1⟩, g7⟩
    simp only at y0 y1 g7 ⊢
    rw [ixR_gR y0 (by omega), ok_bnd, ixR_gR x0 (by omega), ok_bnd, ok_bnd, setR_ok x0 (by omega), ok_bnd, setR_ok y0 (by simp; omega), ok_bnd]
    exact gd_ok ⟨g7, by omega, ((w5.mono (by omega)).set (Nat.le_trans (w5.l _ (gR_mem y0 (by omega))) (by omega))).set (Nat.le_trans (w5.l _ (gR_mem x0 (by omega))) (by omega))⟩
  · rintro ⟨s2, new⟩ ⟨g2, _, w2⟩
    simp only [List.length_nil] at g2 w2 ⊢
    have wn2 := w2.n
    refine gd_bnd (take_gd g2 (by decide) (by decide)) ?_
    rintro ⟨way, s3⟩ ⟨_, g3⟩
    simp only at g3 ⊢
    have hw : Gd (fun j : List Int × List (List Int) => Gs j.1 ∧ (j.2.length ≤ n ∧ (way = 1 → j.2.length = n)) ∧ ∀ row ∈ j.2, row.length ≤ 200) (cond (decide (way = 0)) ((m__law_take s3 ((new.length : Int))).bnd fun (q47 : Int × (List Int)) =>
   (popAtR new q47.1).bnd fun q48 =>
   Res.ok ((q47.2, q48.2)))
   (Res.ok ((s3, new)))) := by
      refine gd_cond (fun hc => ?_) fun _ => gd_ok ⟨g3, ⟨Nat.le_of_eq wn2, fun _ => wn2⟩, w2.l⟩
      refine gd_bnd (take_gd g3 (by omega) (by omega)) ?_
      rintro ⟨k, s4⟩ ⟨⟨k0, k1⟩, g4⟩
      simp only at k0 k1 g4 ⊢
      obtain ⟨v, _, e⟩ := popAtR_ok k0 k1 (by omega)
      rw [e, ok_bnd]
      refine gd_ok ⟨g4, ⟨?_, fun q => ?_⟩, fun row hr => w2.l row (List.mem_of_mem_eraseIdx hr)⟩
      · simp only
        have := List.length_eraseIdx_le new k.toNat
        omega
      · have : way = 0 := by simpa using hc
        omega
    refine gd_bnd hw ?_
    rintro ⟨s4, j1⟩ ⟨g4, ⟨n4, q4⟩, l4⟩
    simp only at g4 n4 q4 l4 ⊢
    refine gd_bnd (P := fun j : List Int × List (List Int) => Gs j.1 ∧ Wf j.2) (gd_cond (fun hc => ?_) fun _ => gd_ok ⟨g4, by simp only; omega, fun row hr => by have := l4 row hr; omega⟩) fun j hj => gd_ok ⟨hj.2, hj.1⟩
    have hl := q4 (by simpa using hc)
    refine gd_bnd (gd_ne (one_gd g4 (fun z => by rw [z] at hl; simp at hl; omega) (by omega))) ?_
    rintro ⟨v, s5⟩ ⟨hv, g5⟩
    simp only at hv g5 ⊢
    rw [appR_ok (by omega), ok_bnd]
    refine gd_ok ⟨g5, by simp; omega, fun row hr => ?_⟩
    rcases List.mem_append.mp hr with q | q
    · have := l4 row q; omega
    · have := l4 row (by rw [List.mem_singleton.mp q]; exact hv); omega
theorem law_ok {ns : List Int} (hns : ns.length ≤ 63) : m_law ns = .ok true := by
  have main : Gd (fun v => v = true) (m_law ns) := by
    unfold m_law
    generalize hb : (if (if 3 < (ns.length : Int) then (3 : Int) else ns.length) > 1 then (if 3 < (ns.length : Int) then (3 : Int) else ns.length) else 1) = b
    have b1 : 1 ≤ b ∧ b ≤ 3 := by rw [← hb]; split <;> split <;> omega
    refine gd_rng (by decide) (by decide) (by omega) (by omega) ?_
    refine gd_bnd (gd_forN (fun _ => True) trivial fun _ k _ hk => ?_) ?_
    rotate_left
    · rintro _ ⟨_, rfl, _⟩
      exact gd_ok rfl
    have := rng_mem.mp hk
    obtain ⟨l, e, gl⟩ := pool_eq ns k (by omega) (by omega)
    refine gd_eq e (gd_bnd (take_gd gl (by decide) (by decide)) ?_)
    rintro ⟨m, s1⟩ ⟨⟨v0, v1⟩, g1⟩
    simp only at v0 v1 g1 ⊢
    refine gd_bnd (P := fun j : List Int × Int => Gs j.1 ∧ 1 ≤ j.2 ∧ j.2 ≤ 32) ?_ ?_
    · refine gd_bnd (take_gd g1 (by decide) (by decide)) ?_
      rintro ⟨v, s2⟩ ⟨_, g2⟩
      exact gd_cond (fun _ => gd_ok ⟨g2, by simp, by simp⟩) fun _ => gd_ok ⟨g2, by simp only; omega, by simp only; omega⟩
    rintro ⟨s2, n⟩ ⟨g2, n1, n2⟩
    simp only at g2 n1 n2 ⊢
    obtain ⟨S, G, s3, e, lS, lG, hS, hG, g3⟩ := figures_ok g2 (n := n) (by omega) (by omega)
    refine gd_eq e ?_
    simp only
    obtain ⟨ps, s4, e, cp, g4⟩ := cup_ok g3 (by omega) (by omega) (show G.length = S.length by omega)
    have h : Cp S G ps := ⟨cp, by omega, by omega, by omega⟩
    have lp := h.len
    refine gd_eq e (gd_eq (letters_eq h) ?_)
    obtain ⟨er, wf⟩ := recs_good h (by omega)
    have rl : (recs ps).length = ps.length := by unfold recs; rw [List.length_map, rng_len]; omega
    have rne : ∃ r rs, recs ps = r :: rs := by
      cases hr : recs ps with
      | nil => rw [hr] at rl; simp at rl; omega
      | cons r rs => exact ⟨r, rs, rfl⟩
    rw [due_eq wf, er]
    simp only
    rw [ok_bnd, ok_bnd]
    have e0 : eqR (eP2 eW id (wd "rows", eT (eT D.int) (recs ps))) (eP2 eW (eT (eT D.int)) (wd "rows", recs ps)) = .ok true := eqd_refl (ok_pair (ok_rows _)).ok
    rw [e0, notR_ok, ok_bnd, Bool.not_true, cond_false]
    have wb : Wb ps.length 100 (recs ps) := ⟨rl, fun row hr => by
      obtain ⟨x, hx, rfl⟩ := List.mem_map.mp hr
      unfold recRow lastR
      rw [List.length_map, rng_len]
      have hm := h.mx
      obtain ⟨x0, x1⟩ := rng_mem.mp hx
      have := h.c.top x x0 (by omega)
      split <;> omega⟩
    refine gd_bnd (bent_gd g4 (by omega) (by omega) wb) ?_
    rintro ⟨b1, s5⟩ ⟨w1, g5⟩
    simp only at w1 g5 ⊢
    refine gd_bnd (bent_gd g5 (by omega) (by omega) wb) ?_
    rintro ⟨b2, s6⟩ ⟨w2, g6⟩
    simp only at w2 g6 ⊢
    refine gd_bnd (bent_gd g6 (by omega) (by omega) wb) ?_
    rintro ⟨b3, s7⟩ ⟨w3, g7⟩
    simp only at w3 g7 ⊢
    rw [repTR'_ok rfl (by decide) (by decide) (by decide), ok_bnd]
    refine gd_bnd (gd_forN (fun _ => True) trivial fun _ rows _ hr => ?_) ?_
    · have w : Wf rows := by
        simp only [List.mem_cons, List.not_mem_nil, or_false] at hr
        rcases hr with rfl | rfl | rfl | rfl | rfl | rfl | rfl
        · exact wf
        · exact w1
        · exact w2
        · exact w3
        · exact ⟨by simp, fun _ q => by cases q⟩
        · refine ⟨by simp, fun row q => ?_⟩
          rw [List.flatten_replicate_singleton] at q
          rw [List.eq_of_mem_replicate q]; simp
        · exact ⟨by simp, fun row q => by rw [List.mem_singleton.mp q]; simp⟩
      rw [right_ok w, notR_ok, ok_bnd, Bool.not_true, cond_false]
      exact gd_ok ⟨(), rfl, trivial⟩
    · rintro _ ⟨_, rfl, _⟩
      rw [on_nx]
      refine gd_bnd (take_gd g7 n1 (by omega)) ?_
      rintro ⟨x, s8⟩ ⟨⟨x0, x1⟩, g8⟩
      simp only at x0 x1 g8 ⊢
      refine gd_bnd (one_gd g8 (by simp) (by simp)) ?_
      rintro ⟨d, s9⟩ ⟨hd, g9⟩
      simp only at hd g9 ⊢
      rw [cutL_to x0, cutL_from (show 0 ≤ x + 1 by omega), catR_ok (by simp; omega), ok_bnd, catR_ok (by simp; omega), ok_bnd, ok_bnd, szR_ok' (by simp), ok_bnd, ok_bnd]
      have nd : m_are_numbers d = .ok false := by
        simp only [List.mem_cons, List.not_mem_nil, or_false] at hd
        rcases hd with rfl | rfl | rfl | rfl | rfl | rfl | rfl | rfl | rfl
        · exact nums_no rfl
        · exact nums_no rfl
        · exact nums_no rfl
        · exact nums_no rfl
        · exact nums_first (num_str _)
        · exact nums_first num_non
        · exact nums_first (num_tup _)
        · exact nums_first (num_tup _)
        · exact nums_at (A := [.int 1]) (B := []) (fun a ha => by rw [List.mem_singleton.mp ha]; exact num_int _) (num_str _)
      have bad : m_are_rows (eT id (((recs ps).take x.toNat).map (eT D.int) ++ [d] ++ ((recs ps).drop (x + 1).toNat).map (eT D.int))) = .ok false := by
        show m_are_rows (.tup (List.map id _)) = _
        rw [List.map_id, List.append_assoc, List.singleton_append]
        exact rows_at (fun a ha => by
          obtain ⟨p, _, rfl⟩ := List.mem_map.mp ha
          exact nums_ints p) nd
      refine gd_bnd (gd_forN (fun _ => True) trivial fun _ t _ ht => ?_) ?_
      · have nt : m_are_rows t = .ok false := by
          simp only [List.mem_cons, List.not_mem_nil, or_false] at ht
          rcases ht with rfl | rfl | rfl | rfl | rfl | rfl | rfl | rfl | rfl
          · exact rows_no rfl
          · exact rows_no rfl
          · exact rows_no rfl
          · exact rows_no rfl
          · exact rows_at (A := []) (B := []) (fun _ q => by cases q) (nums_no rfl)
          · exact rows_at (A := []) (B := []) (fun _ q => by cases q) (nums_no rfl)
          · exact rows_at (A := []) (B := []) (fun _ q => by cases q) (nums_no rfl)
          · refine rows_at (A := []) (B := []) (fun _ q => by cases q) ?_
            obtain ⟨r, rs, e⟩ := rne
            rw [e]
            exact nums_first (num_tup _)
          · exact bad
        rw [isr_no nt, ok_bnd, ok_bnd, show (true ^^ decide (false = false)) = false from rfl, cond_false]
        exact gd_ok ⟨(), rfl, trivial⟩
      · rintro _ ⟨_, rfl, _⟩
        exact gd_ok ⟨(), rfl, trivial⟩
  obtain ⟨v, e, rfl⟩ := main
  exact e
theorem start_law {ns : List Int} {P : D → Mem → Prop} (hl : ns.length ≤ 63) (hP : P (.bl true) []) : sp_law [.dat (.fl (ns.map .int))] [] P (fun _ _ _ => False) := ⟨ns, rfl, rfl, by rw [law_ok hl]; exact hP⟩
def td_is_number : TSd :=
  dRet (dAndV (dIsT "int" (dVar 0)) (dNotV (dIsT "bool" (dVar 0))))
abbrev N_is_number : List Str := ["value"]
theorem math_is_number : ∀ xs M P PX, sp_is_number xs M P PX → td_is_number (startS N_is_number xs M) (endE M.length P) (endX M.length PX) := by
  rintro xs M P PX ⟨value1, rfl, rfl, h⟩
  refine start0 (ds := [id value1]) [.dat (id value1)] rfl ?_
  unfold td_is_number
  unfold m_is_number at h
  refine js_ret ?_
  refine J.useT h (rv_andV (rv_isT (T := "int") (Pv.rv (e := id) (v := value1) (show Pv _ _ (id value1) from pv_var 0 rfl))) (rv_notV (rv_isT (T := "bool") (Pv.rv (e := id) (v := value1) (show Pv _ _ (id value1) from pv_var 0 rfl))))) (by first | (simp only [bnd_bnd, ok_bnd]; done) | rfl) (fun _ h => h) (fun _ _ h => h)
def td_are_numbers : TSd :=
  dRet (dAndV (dIsT "tuple" (dVar 0)) (dAllG (dIter (dVar 0)) (dgName 1) (dCall sp_is_number (dCons (dVar 1) (dNil))) [1]))
abbrev N_are_numbers : List Str := ["value", "part"]
theorem math_are_numbers : ∀ xs M P PX, sp_are_numbers xs M P PX → td_are_numbers (startS N_are_numbers xs M) (endE M.length P) (endX M.length PX) := by
  rintro xs M P PX ⟨value1, rfl, rfl, h⟩
  refine start0 (ds := [id value1]) [.dat (id value1), .no] rfl ?_
  unfold td_are_numbers
  unfold m_are_numbers at h
  refine js_ret ?_
  refine J.useT h (rv_andV (rv_isT (T := "tuple") (Pv.rv (e := id) (v := value1) (show Pv _ _ (id value1) from pv_var 0 rfl))) (rv_allG (f := fun (x2 : D) => m_is_number x2) id (Tc.name (by decide)) rfl (Rv.eq (ri_iterD (Pv.rv (e := id) (v := value1) (show Pv _ _ (id value1) from pv_var 0 rfl))) (by first | (simp only [bnd_bnd, ok_bnd]; done) | rfl)) (fun nl_ x2 => by refine jg_name rfl ?_; exact ⟨(by repeat (first | exact Keep.nil | refine Keep.own ?_ | refine Keep.dat ?_ | refine Keep.no ?_)), (Rv.eq (rv_call1 (Pv.rv (e := id) (v := x2) (show Pv _ _ (id x2) from pv_var 1 rfl)) fun a0 => call_is_number a0) (by first | (simp only [bnd_bnd, ok_bnd]; done) | rfl))⟩))) (by first | (simp only [bnd_bnd, ok_bnd]; done) | rfl) (fun _ h => h) (fun _ _ h => h)
def td_are_rows : TSd :=
  dRet (dAndV (dIsT "tuple" (dVar 0)) (dAllG (dIter (dVar 0)) (dgName 1) (dCall sp_are_numbers (dCons (dVar 1) (dNil))) [1]))
abbrev N_are_rows : List Str := ["value", "part"]
theorem math_are_rows : ∀ xs M P PX, sp_are_rows xs M P PX → td_are_rows (startS N_are_rows xs M) (endE M.length P) (endX M.length PX) := by
  rintro xs M P PX ⟨value1, rfl, rfl, h⟩
  refine start0 (ds := [id value1]) [.dat (id value1), .no] rfl ?_
  unfold td_are_rows
  unfold m_are_rows at h
  refine js_ret ?_
  refine J.useT h (rv_andV (rv_isT (T := "tuple") (Pv.rv (e := id) (v := value1) (show Pv _ _ (id value1) from pv_var 0 rfl))) (rv_allG (f := fun (x2 : D) => m_are_numbers x2) id (Tc.name (by decide)) rfl (Rv.eq (ri_iterD (Pv.rv (e := id) (v := value1) (show Pv _ _ (id value1) from pv_var 0 rfl))) (by first | (simp only [bnd_bnd, ok_bnd]; done) | rfl)) (fun nl_ x2 => by refine jg_name rfl ?_; exact ⟨(by repeat (first | exact Keep.nil | refine Keep.own ?_ | refine Keep.dat ?_ | refine Keep.no ?_)), (Rv.eq (rv_call1 (Pv.rv (e := id) (v := x2) (show Pv _ _ (id x2) from pv_var 1 rfl)) fun a0 => call_are_numbers a0) (by first | (simp only [bnd_bnd, ok_bnd]; done) | rfl))⟩))) (by first | (simp only [bnd_bnd, ok_bnd]; done) | rfl) (fun _ h => h) (fun _ _ h => h)
def td_check_letters : TSd :=
  dFor (dEnum (dCons (dVar 1) (dNil))) (dgTup 2 (dgsCons (dgName 2) (dgsCons (dgName 3) (dgsNil)))) (dSeq (dSet 4 (dAndV (dOp rGtD (dVar 2) (dC (.int 0))) (dOp rEqD' (dOp rIxD (dVar 1) (dOp rSubD (dVar 2) (dC (.int 1)))) (dC (.int (-1))))))
  (dIfS (dOr (dTru (dVar 4)) (dT (dOp (rInD' true) (dVar 3) (dTup (dCons (dC (.int 1)) (dCons (dC (.int 0)) (dCons (dC (.int (-1))) (dNil)))))))) (dRaise "BadRecord" (dTup (dCons (dVar 0) (dCons (dVar 2) (dNil))))) (dNext)))
abbrev N_check_letters : List Str := ["x", "row", "i", "told", "behind_loss"]
theorem math_check_letters : ∀ xs M P PX, sp_check_letters xs M P PX → td_check_letters (startS N_check_letters xs M) (endE M.length P) (endX M.length PX) := by
  rintro xs M P PX ⟨x1, row2, rfl, rfl, h⟩
  refine start0 (ds := [D.int x1, (eT D.int) row2]) [.dat (D.int x1), .dat ((eT D.int) row2), .no, .no, .no] rfl ?_
  unfold td_check_letters
  unfold m_check_letters at h
  refine js_for ?_
  refine J.pv (Rv.pv (e := List.map (eP2 D.int D.int)) (v := enumL row2) (Rv.eq (ri_enum (e := D.int) (f := fun v => v) (sq_T _) (Pv.rv (e := (eT D.int)) (v := row2) (show Pv _ _ ((eT D.int) row2) from pv_var 1 rfl))) ok_bnd)) ?_
  rw [wp_bnd] at h
  refine a_forR (eP2 D.int D.int) (fun (b3 : Unit) => [.dat (D.int x1), .dat ((eT D.int) row2), .no, .no, .no]) ?_ ?_ _ _ _ (by repeat (first | exact Le.nil | refine Le.keep ?_ | refine Le.drop ?_)) h
  · as_aux_lemma =>
      intro b3 x4 Q h
      refine jg_tup rfl ?_
      refine jgs_cons ?_
      refine jg_name rfl ?_
      refine jgs_cons ?_
      refine jg_name rfl ?_
      refine jgs_nil ?_
      refine js_seq ?_
      refine js_set rfl ?_
      refine J.use h (rv_andV (Pv.rv (e := D.bl) (v := decide (0 < x4.1)) (show Pv _ _ (D.bl (decide (0 < x4.1))) from pv_op (show Pv _ _ (D.int x4.1) from pv_var 2 rfl) (show Pv _ _ (D.int (0)) from pv_c _) (ev_gt x4.1 0))) (rv_rp (e := D.bl) (rv_pp (e := D.int) (show Pv _ _ ((eT D.int) row2) from pv_var 1 rfl) (show Pv _ _ (D.int (x4.1 - 1)) from pv_op (show Pv _ _ (D.int x4.1) from pv_var 2 rfl) (show Pv _ _ (D.int (1)) from pv_c _) (ev_sub x4.1 1)) (op_ixT D.int row2 (x4.1 - 1))) (show Pv _ _ (D.int (-1)) from pv_c _) fun v5 => (opr_ok (e := D.bl) (ev_eq (eq_I 0) (by decide) v5 ((-1)))))) (by first | (simp only [bnd_bnd, ok_bnd]; done) | rfl) (fun v6 h => ?_) (fun _ _ h => h)
      refine js_if ?_
      refine J.pv (pb_or (pb_tru (show Pv _ _ (D.bl v6) from pv_var 4 rfl) rfl) (pb_t (show Pv _ _ (D.bl (true ^^ mem x4.2 ([((1, 0, (-1))).1, ((1, 0, (-1))).2.1, ((1, 0, (-1))).2.2]))) from pv_op (show Pv _ _ (D.int x4.2) from pv_var 3 rfl) (show Pv _ _ ((eT D.int) ([((1, 0, (-1))).1, ((1, 0, (-1))).2.1, ((1, 0, (-1))).2.2])) from (Rv.pv (e := (eP3 D.int D.int D.int)) (v := (1, 0, (-1))) (Rv.eq (rv_t3 (Pv.rv (e := D.int) (v := 1) (show Pv _ _ (D.int (1)) from pv_c _)) (Pv.rv (e := D.int) (v := 0) (show Pv _ _ (D.int (0)) from pv_c _)) (Pv.rv (e := D.int) (v := (-1)) (show Pv _ _ (D.int (-1)) from pv_c _))) (ok_bnd.trans (ok_bnd.trans ok_bnd))))) (ev_inT (eq_I 0) flat_I true x4.2 ([((1, 0, (-1))).1, ((1, 0, (-1))).2.1, ((1, 0, (-1))).2.2]))))) ?_
      refine ite_c h (fun h => ?_) (fun h => ?_)
      · refine js_raise ?_
        refine J.pv (Rv.pv (e := (eP2 D.int D.int)) (v := (x1, x4.1)) (Rv.eq (rv_t2 (Pv.rv (e := D.int) (v := x1) (show Pv _ _ (D.int x1) from pv_var 0 rfl)) (Pv.rv (e := D.int) (v := x4.1) (show Pv _ _ (D.int x4.1) from pv_var 2 rfl))) (ok_bnd.trans ok_bnd))) ?_
        replace h := wp_e h
        exact h
      · refine js_next ?_
        replace h := wp_o h
        exact ⟨(), (by repeat (first | exact Le.nil | refine Le.keep ?_ | refine Le.drop ?_)), h⟩
  · intro b7 h
    replace h := wp_o h
    exact h
def td_check_rounds : TSd :=
  dFor (dRange1 (dCons (dVar 1) (dNil))) (dgName 2) (dSeq (dSet 3 (dF (dLc (dIter (dVar 0)) (dgName 4) (dT (dOp rLtD (dVar 2) (dCB rLenD (dCons (dVar 4) (dNil))))) (dOp rIxD (dVar 4) (dVar 2)) [4])))
  (dIfS (dOr (dT (dOp (rInD' true) (dC (.int (-1))) (dVar 3))) (dT (dOp rNeD' (dBM1 rCountD (dVar 3) (dC (.int 1))) (dBM1 rCountD (dVar 3) (dC (.int (-1))))))) (dRaise "BadRounds" (dOp rAddD (dVar 2) (dC (.int 1)))) (dNext)))
abbrev N_check_rounds : List Str := ["rows", "longest", "i", "letters", "row"]
theorem math_check_rounds : ∀ xs M P PX, sp_check_rounds xs M P PX → td_check_rounds (startS N_check_rounds xs M) (endE M.length P) (endX M.length PX) := by
  rintro xs M P PX ⟨rows1, longest2, rfl, rfl, h⟩
  refine start0 (ds := [(eT (eT D.int)) rows1, D.int longest2]) [.dat ((eT (eT D.int)) rows1), .dat (D.int longest2), .no, .no, .no] rfl ?_
  unfold td_check_rounds
  unfold m_check_rounds at h
  refine js_for ?_
  refine J.use h (ri_range1 (Pv.rv (e := D.int) (v := longest2) (show Pv _ _ (D.int longest2) from pv_var 1 rfl))) (by first | (simp only [bnd_bnd, ok_bnd]; done) | rfl) (fun xs3 h => ?_) (fun _ _ h => h)
  rw [wp_bnd] at h
  refine a_forR D.int (fun (b4 : Unit) => [.dat ((eT (eT D.int)) rows1), .dat (D.int longest2), .no, .no, .no]) ?_ ?_ _ _ _ (by repeat (first | exact Le.nil | refine Le.keep ?_ | refine Le.drop ?_)) h
  · as_aux_lemma =>
      intro b4 x5 Q h
      refine jg_name rfl ?_
      refine js_seq ?_
      refine js_set rfl ?_
      refine j_f ?_
      refine j_lc ?_
      refine J.pv (Rv.pv (e := List.map (eT D.int)) (v := rows1) (Rv.eq (ri_iter (e := (eT D.int)) (f := fun v => v) (sq_T _) (Pv.rv (e := (eT (eT D.int))) (v := rows1) (show Pv _ _ ((eT (eT D.int)) rows1) from pv_var 0 rfl))) ok_bnd)) ?_
      refine al_R (t := fun (x6 : List Int) => Res.ok (decide (x5 < ((x6.length : Int))))) (f := fun (x6 : List Int) => ixR x6 x5) (eT D.int) D.int rfl (Tc.name (by decide)) rfl (wp_use h (fun l7 h => ?_) (fun _ _ h => h)) ?_
      · as_aux_lemma =>
          refine js_if ?_
          refine J.pv (pb_or (pb_t (show Pv _ _ (D.bl (true ^^ mem ((-1)) l7)) from pv_op (show Pv _ _ (D.int (-1)) from pv_c _) (show Pv _ _ ((eL D.int) l7) from pv_var 3 rfl) (ev_inL (eq_I 0) (by decide) true ((-1)) l7))) (pb_t (show Pv _ _ (D.bl (!decide ((l7.count 1 : Int) = (l7.count ((-1)) : Int)))) from pv_op (Rv.pv (e := D.int) (v := (l7.count 1 : Int)) (Rv.eq (rv_count (Pv.rv (e := (eL D.int)) (v := l7) (show Pv _ _ ((eL D.int) l7) from pv_var 3 rfl)) (Pv.rv (e := D.int) (v := 1) (show Pv _ _ (D.int (1)) from pv_c _))) (ok_bnd.trans ok_bnd))) (Rv.pv (e := D.int) (v := (l7.count ((-1)) : Int)) (Rv.eq (rv_count (Pv.rv (e := (eL D.int)) (v := l7) (show Pv _ _ ((eL D.int) l7) from pv_var 3 rfl)) (Pv.rv (e := D.int) (v := (-1)) (show Pv _ _ (D.int (-1)) from pv_c _))) (ok_bnd.trans ok_bnd))) (ev_ne (eq_I 0) (by decide) ((l7.count 1 : Int)) ((l7.count ((-1)) : Int)))))) ?_
          refine ite_c h (fun h => ?_) (fun h => ?_)
          · refine js_raise ?_
            refine J.pv (show Pv _ _ (D.int (x5 + 1)) from pv_op (show Pv _ _ (D.int x5) from pv_var 2 rfl) (show Pv _ _ (D.int (1)) from pv_c _) (ev_add x5 1)) ?_
            replace h := wp_e h
            exact h
          · refine js_next ?_
            replace h := wp_o h
            exact ⟨(), (by repeat (first | exact Le.nil | refine Le.keep ?_ | refine Le.drop ?_)), h⟩
      · intro x6
        refine jg_name rfl ?_
        exact ⟨(by repeat (first | exact Keep.nil | refine Keep.own ?_ | refine Keep.dat ?_ | refine Keep.no ?_)), (Pv.rv (e := id) (v := decide (x5 < ((x6.length : Int)))) (pb_t (show Pv _ _ (D.bl (decide (x5 < ((x6.length : Int))))) from pv_op (show Pv _ _ (D.int x5) from pv_var 2 rfl) (Rv.pv (e := D.int) (v := (x6.length : Int)) (Rv.eq (rv_cb1 (e := D.int) (Pv.rv (e := (eT D.int)) (v := x6) (show Pv _ _ ((eT D.int) x6) from pv_var 4 rfl)) fun v => cb_lenT D.int v) ok_bnd)) (ev_lt x5 ((x6.length : Int)))))), (Rv.eq (rv_pp (e := D.int) (show Pv _ _ ((eT D.int) x6) from pv_var 4 rfl) (show Pv _ _ (D.int x5) from pv_var 2 rfl) (op_ixT D.int x6 x5)) (by first | (simp only [bnd_bnd, ok_bnd]; done) | rfl))⟩
  · intro b8 h
    replace h := wp_o h
    exact h
def td_made_records : TSd :=
  dSeq (dIfS (dNot (dT (dChain rLeD rLeD (dC (.int 1)) (dCB rLenD (dCons (dVar 0) (dNil))) (dC (.int 32))))) (dRaise "BadSize" (dCB rLenD (dCons (dVar 0) (dNil)))) (dNext))
  (dSeq (dFor (dEnum (dCons (dVar 0) (dNil))) (dgTup 2 (dgsCons (dgName 1) (dgsCons (dgName 2) (dgsNil)))) (dDrop (dCall sp_check_letters (dCons (dVar 1) (dCons (dVar 2) (dNil))))))
  (dSeq (dSet 3 (dCB rMax1D (dCons (dF (dLc (dIter (dVar 0)) (dgName 2) (dYes) (dCB rLenD (dCons (dVar 2) (dNil))) [2])) (dNil))))
  (dSeq (dFor (dEnum (dCons (dVar 0) (dNil))) (dgTup 2 (dgsCons (dgName 1) (dgsCons (dgName 2) (dgsNil)))) (dIfS (dAnd (dT (dOp (rInD' true) (dC (.int (-1))) (dVar 2))) (dT (dOp rNeD' (dCB rLenD (dCons (dVar 2) (dNil))) (dVar 3)))) (dRaise "BadRecord" (dTup (dCons (dVar 1) (dCons (dUn rNegD (dC (.int 1))) (dNil))))) (dNext)))
  (dSeq (dDrop (dCall sp_check_rounds (dCons (dVar 0) (dCons (dVar 3) (dNil)))))
  (dRet (dVar 0))))))
abbrev N_made_records : List Str := ["rows", "x", "row", "longest"]
theorem math_made_records : ∀ xs M P PX, sp_made_records xs M P PX → td_made_records (startS N_made_records xs M) (endE M.length P) (endX M.length PX) := by
  rintro xs M P PX ⟨rows1, rfl, rfl, h⟩
  refine start0 (ds := [(eT (eT D.int)) rows1]) [.dat ((eT (eT D.int)) rows1), .no, .no, .no] rfl ?_
  unfold td_made_records
  unfold m_made_records at h
  refine js_seq ?_
  refine js_if ?_
  refine J.pv (pb_not (pb_t (pv_chain (show Pv _ _ (D.int (1)) from pv_c _) (Rv.pv (e := D.int) (v := (rows1.length : Int)) (Rv.eq (rv_cb1 (e := D.int) (Pv.rv (e := (eT (eT D.int))) (v := rows1) (show Pv _ _ ((eT (eT D.int)) rows1) from pv_var 0 rfl)) fun v => cb_lenT (eT D.int) v) ok_bnd)) (show Pv _ _ (D.int (32)) from pv_c _) (ev_le 1 ((rows1.length : Int))) (ev_le ((rows1.length : Int)) 32)))) ?_
  refine ite_c h (fun h => ?_) (fun h => ?_)
  · refine js_raise ?_
    refine J.pv (Rv.pv (e := D.int) (v := (rows1.length : Int)) (Rv.eq (rv_cb1 (e := D.int) (Pv.rv (e := (eT (eT D.int))) (v := rows1) (show Pv _ _ ((eT (eT D.int)) rows1) from pv_var 0 rfl)) fun v => cb_lenT (eT D.int) v) ok_bnd)) ?_
    replace h := wp_e h
    exact h
  · as_aux_lemma =>
      refine js_next ?_
      refine js_seq ?_
      refine js_for ?_
      refine J.pv (Rv.pv (e := List.map (eP2 D.int (eT D.int))) (v := enumL rows1) (Rv.eq (ri_enum (e := (eT D.int)) (f := fun v => v) (sq_T _) (Pv.rv (e := (eT (eT D.int))) (v := rows1) (show Pv _ _ ((eT (eT D.int)) rows1) from pv_var 0 rfl))) ok_bnd)) ?_
      rw [wp_bnd] at h
      refine a_forR (eP2 D.int (eT D.int)) (fun (b2 : Unit) => [.dat ((eT (eT D.int)) rows1), .no, .no, .no]) ?_ ?_ _ _ _ (by repeat (first | exact Le.nil | refine Le.keep ?_ | refine Le.drop ?_)) h
      · as_aux_lemma =>
          intro b2 x3 Q h
          refine jg_tup rfl ?_
          refine jgs_cons ?_
          refine jg_name rfl ?_
          refine jgs_cons ?_
          refine jg_name rfl ?_
          refine jgs_nil ?_
          refine js_drop ?_
          refine J.use h (rv_call2 (Pv.rv (e := D.int) (v := x3.1) (show Pv _ _ (D.int x3.1) from pv_var 1 rfl)) (Pv.rv (e := (eT D.int)) (v := x3.2) (show Pv _ _ ((eT D.int) x3.2) from pv_var 2 rfl)) fun a0 a1 => call_check_letters a0 a1) (by first | (simp only [bnd_bnd, ok_bnd]; done) | rfl) (fun v4 h => ?_) (fun _ _ h => h)
          replace h := wp_o h
          exact ⟨(), (by repeat (first | exact Le.nil | refine Le.keep ?_ | refine Le.drop ?_)), h⟩
      · as_aux_lemma =>
          intro b5 h
          refine js_seq ?_
          refine js_set rfl ?_
          refine j_cb (ja_cons ?_)
          refine j_f ?_
          refine j_lc ?_
          refine J.pv (Rv.pv (e := List.map (eT D.int)) (v := rows1) (Rv.eq (ri_iter (e := (eT D.int)) (f := fun v => v) (sq_T _) (Pv.rv (e := (eT (eT D.int))) (v := rows1) (show Pv _ _ ((eT (eT D.int)) rows1) from pv_var 0 rfl))) ok_bnd)) ?_
          refine al_M (f := fun (x6 : List Int) => (x6.length : Int)) (eT D.int) D.int rfl (Tc.name (by decide)) rfl (wp_use h (fun l7 h => ?_) (fun _ _ h => h)) ?_
          · as_aux_lemma =>
              obtain ⟨v8, hv, h⟩ := CbR.use (e := D.int) (cb_max l7) h (by first | exact maxR_ne | exact minR_ne | exact minRowR_ne | exact lenDR_ne _)
              refine ja_nil ⟨_, _, rfl, hv, ?_⟩
              refine js_seq ?_
              refine js_for ?_
              refine J.pv (Rv.pv (e := List.map (eP2 D.int (eT D.int))) (v := enumL rows1) (Rv.eq (ri_enum (e := (eT D.int)) (f := fun v => v) (sq_T _) (Pv.rv (e := (eT (eT D.int))) (v := rows1) (show Pv _ _ ((eT (eT D.int)) rows1) from pv_var 0 rfl))) ok_bnd)) ?_
              rw [wp_bnd] at h
              refine a_forR (eP2 D.int (eT D.int)) (fun (b9 : Unit) => [.dat ((eT (eT D.int)) rows1), .no, .no, .dat (D.int v8)]) ?_ ?_ _ _ _ (by repeat (first | exact Le.nil | refine Le.keep ?_ | refine Le.drop ?_)) h
              · as_aux_lemma =>
                  intro b9 x10 Q h
                  refine jg_tup rfl ?_
                  refine jgs_cons ?_
                  refine jg_name rfl ?_
                  refine jgs_cons ?_
                  refine jg_name rfl ?_
                  refine jgs_nil ?_
                  refine js_if ?_
                  refine J.pv (pb_and (pb_t (show Pv _ _ (D.bl (true ^^ mem ((-1)) x10.2)) from pv_op (show Pv _ _ (D.int (-1)) from pv_c _) (show Pv _ _ ((eT D.int) x10.2) from pv_var 2 rfl) (ev_inT (eq_I 0) flat_I true ((-1)) x10.2))) (pb_t (show Pv _ _ (D.bl (!decide ((x10.2.length : Int) = v8))) from pv_op (Rv.pv (e := D.int) (v := (x10.2.length : Int)) (Rv.eq (rv_cb1 (e := D.int) (Pv.rv (e := (eT D.int)) (v := x10.2) (show Pv _ _ ((eT D.int) x10.2) from pv_var 2 rfl)) fun v => cb_lenT D.int v) ok_bnd)) (show Pv _ _ (D.int v8) from pv_var 3 rfl) (ev_ne (eq_I 0) (by decide) ((x10.2.length : Int)) v8)))) ?_
                  refine ite_c h (fun h => ?_) (fun h => ?_)
                  · refine js_raise ?_
                    refine J.pv (Rv.pv (e := (eP2 D.int D.int)) (v := (x10.1, -1)) (Rv.eq (rv_t2 (Pv.rv (e := D.int) (v := x10.1) (show Pv _ _ (D.int x10.1) from pv_var 1 rfl)) (Pv.rv (e := D.int) (v := -1) (show Pv _ _ (D.int (-1)) from pv_un (show Pv _ _ (D.int (1)) from pv_c _) (ev_neg 1)))) (ok_bnd.trans ok_bnd))) ?_
                    replace h := wp_e h
                    exact h
                  · refine js_next ?_
                    replace h := wp_o h
                    exact ⟨(), (by repeat (first | exact Le.nil | refine Le.keep ?_ | refine Le.drop ?_)), h⟩
              · intro b11 h
                refine js_seq ?_
                refine js_drop ?_
                refine J.use h (rv_call2 (Pv.rv (e := (eT (eT D.int))) (v := rows1) (show Pv _ _ ((eT (eT D.int)) rows1) from pv_var 0 rfl)) (Pv.rv (e := D.int) (v := v8) (show Pv _ _ (D.int v8) from pv_var 3 rfl)) fun a0 a1 => call_check_rounds a0 a1) (by first | (simp only [bnd_bnd, ok_bnd]; done) | rfl) (fun v12 h => ?_) (fun _ _ h => h)
                refine js_ret ?_
                refine J.pv (show Pv _ _ ((eT (eT D.int)) rows1) from pv_var 0 rfl) ?_
                replace h := wp_o h
                exact h
          · intro x6
            refine jg_name rfl ?_
            exact ⟨(by repeat (first | exact Keep.nil | refine Keep.own ?_ | refine Keep.dat ?_ | refine Keep.no ?_)), pv_yes, (Rv.pv (e := D.int) (v := (x6.length : Int)) (Rv.eq (rv_cb1 (e := D.int) (Pv.rv (e := (eT D.int)) (v := x6) (show Pv _ _ ((eT D.int) x6) from pv_var 2 rfl)) fun v => cb_lenT D.int v) ok_bnd))⟩
def td_is_records : TSd :=
  dSeq (dIfS (dNot (dTru (dCall sp_are_rows (dCons (dVar 0) (dNil))))) (dRet (dC (.bl false))) (dNext))
  (dSeq (dTry LC_ (dDrop (dCall sp_made_records (dCons (dVar 0) (dNil)))) [(none, "Refused", fun a dd => dRet (dC (.bl false)))])
  (dRet (dC (.bl true))))
abbrev N_is_records : List Str := ["rows"]
theorem math_is_records : ∀ xs M P PX, sp_is_records xs M P PX → td_is_records (startS N_is_records xs M) (endE M.length P) (endX M.length PX) := by
  rintro xs M P PX ⟨rows1, rfl, rfl, h⟩
  refine start0 (ds := [id rows1]) [.dat (id rows1)] rfl ?_
  unfold td_is_records
  unfold m_is_records at h
  refine js_seq ?_
  refine js_if ?_
  refine J.use h (rb_not (Rv.eq (rb_tru (f := fun v => v) (rv_call1 (Pv.rv (e := id) (v := rows1) (show Pv _ _ (id rows1) from pv_var 0 rfl)) fun a0 => call_are_rows a0) fun _ => rfl) bnd_ok)) (by first | (simp only [bnd_bnd, ok_bnd]; done) | rfl) (fun v3 h => ?_) (fun _ _ h => h)
  refine ite_c h (fun h => ?_) (fun h => ?_)
  · refine js_ret ?_
    refine J.pv (show Pv _ _ (D.bl false) from pv_c _) ?_
    replace h := wp_o h
    exact h
  · as_aux_lemma =>
      refine js_next ?_
      refine js_midS h (fun (j8 : Unit) => [.dat (id rows1)]) (fun h => ?_) (fun j8 h => ?_)
      · as_aux_lemma =>
          refine js_tryW h rfl (fun c6 x7 h => hdl_in h (fun h => ?_)) (fun h => ?_)
          · as_aux_lemma =>
              refine hdl_c h (fun h => ⟨rfl, fun a dd => ?_⟩) (fun h => ?_)
              · dsimp only
                refine js_ret ?_
                refine J.pv (show Pv _ _ (D.bl false) from pv_c _) ?_
                replace h := wp_o h
                replace h := h
                rw [on_rt] at h
                replace h := wp_o h
                exact h
              · replace h := wp_e h
                exact h
          · refine js_drop ?_
            refine J.use h (rv_call1 (Rv.eq (rv_nar (na_T (na_T na_I)) (Pv.rv (e := id) (v := rows1) (show Pv _ _ (id rows1) from pv_var 0 rfl))) ok_bnd) fun a0 => call_made_records a0) (by first | (simp only [bnd_bnd, ok_bnd]; done) | rfl) (fun v5 h => ?_) (fun _ _ h => ⟨h, (by repeat (first | exact Le.nil | refine Le.keep ?_ | refine Le.drop ?_))⟩)
            replace h := wp_o h
            replace h := h
            rw [on_nx] at h
            exact ⟨(), (by repeat (first | exact Le.nil | refine Le.keep ?_ | refine Le.drop ?_)), h⟩
      · refine js_ret ?_
        refine J.pv (show Pv _ _ (D.bl true) from pv_c _) ?_
        replace h := wp_o h
        exact h
def td__law_pool : S → (List D → S → Prop) → KX → Prop :=
  dSeqF (dSet 2 (dC (.int 0)))
  (dSeqF (dIfS (dT (dOp rLtD (dVar 1) (dCB rLenD (dCons (dVar 0) (dNil))))) (dSet 2 (dOp rIxD (dVar 0) (dVar 1))) (dIfS (dTru (dVar 0)) (dSet 2 (dOp rIxD (dVar 0) (dC (.int 0)))) (dNext)))
  (dSeqF (dSet 3 (dCB (r2I fun i j => if j > i then j else i) (dCons (dCB rIntD (dCons (dVar 2) (dNil))) (dCons (dCB rIntD (dCons (dOp rSubD (dUn rNegD (dC (.int 1))) (dVar 2)) (dNil))) (dNil)))))
  (dSeqF (dSet 4 (dOp rModD (dCB rIntD (dCons (dOp rMultD (dOp rAddD (dOp rAddD (dOp rAddD (dOp rModD (dCB rIntD (dCons (dVar 3) (dNil))) (dC (.int 2147483629))) (dOp rMultD (dOp rMultD (dC (.int 7919)) (dVar 1)) (dVar 1))) (dOp rMultD (dC (.int 31)) (dVar 1))) (dC (.int 17))) (dC (.int 48271))) (dNil))) (dC (.int 2147483647))))
  (dLst (dCons (dOp rMultD (dVar 3) (dCB rIntD (dCons (dOp rGeD (dVar 3) (dOp rPowD (dC (.int 10)) (dC (.int 18)))) (dNil)))) (dCons (dVar 4) (dNil)))))))
abbrev N__law_pool : List Str := ["_law_script", "_law_k", "_law_cell", "_law_big", "_law_stirred"]
theorem math__law_pool : ∀ xs P, sp__law_pool xs [] P → td__law_pool (startS N__law_pool xs []) (fun ds _ => P ds) noX := by
  rintro xs P ⟨script1, k2, rfl, h⟩
  refine startF (ds := [(eFL D.int) script1, D.int k2]) [.dat ((eFL D.int) script1), .dat (D.int k2), .no, .no, .no] rfl ?_
  unfold td__law_pool
  unfold m__law_pool at h
  refine jn_seq ?_
  refine js_set rfl ?_
  refine J.pv (show Pv _ _ (D.int (0)) from pv_c _) ?_
  refine jn_midW h (fun (j5 : Int) => [.dat ((eFL D.int) script1), .dat (D.int k2), .dat (D.int j5), .no, .no]) (fun h => ?_) (fun j5 h => ?_)
  · as_aux_lemma =>
      refine js_if ?_
      refine J.pv (pb_t (show Pv _ _ (D.bl (decide (k2 < ((script1.length : Int))))) from pv_op (show Pv _ _ (D.int k2) from pv_var 1 rfl) (Rv.pv (e := D.int) (v := (script1.length : Int)) (Rv.eq (rv_cb1 (e := D.int) (Pv.rv (e := (eFL D.int)) (v := script1) (show Pv _ _ ((eFL D.int) script1) from pv_var 0 rfl)) fun v => cb_lenFL D.int v) ok_bnd)) (ev_lt k2 ((script1.length : Int))))) ?_
      refine ite_c h (fun h => ?_) (fun h => ?_)
      · refine js_set rfl ?_
        refine J.use h (rv_pp (e := D.int) (show Pv _ _ ((eFL D.int) script1) from pv_var 0 rfl) (show Pv _ _ (D.int k2) from pv_var 1 rfl) (op_ixFL D.int script1 k2)) (by first | (simp only [bnd_bnd, ok_bnd]; done) | rfl) (fun v3 h => ?_) (fun _ _ h => h.elim)
        replace h := wp_o h
        exact ⟨v3, (by repeat (first | exact Le.nil | refine Le.keep ?_ | refine Le.drop ?_)), h⟩
      · as_aux_lemma =>
          refine js_if ?_
          refine J.pv (pb_tru (show Pv _ _ ((eFL D.int) script1) from pv_var 0 rfl) (tr_FL _ _)) ?_
          refine ite_c h (fun h => ?_) (fun h => ?_)
          · refine js_set rfl ?_
            refine J.use h (rv_pp (e := D.int) (show Pv _ _ ((eFL D.int) script1) from pv_var 0 rfl) (show Pv _ _ (D.int (0)) from pv_c _) (op_ixFL D.int script1 0)) (by first | (simp only [bnd_bnd, ok_bnd]; done) | rfl) (fun v4 h => ?_) (fun _ _ h => h.elim)
            replace h := wp_o h
            exact ⟨v4, (by repeat (first | exact Le.nil | refine Le.keep ?_ | refine Le.drop ?_)), h⟩
          · refine js_next ?_
            replace h := wp_o h
            exact ⟨0, (by repeat (first | exact Le.nil | refine Le.keep ?_ | refine Le.drop ?_)), h⟩
  · as_aux_lemma =>
      refine jn_seq ?_
      refine js_set rfl ?_
      refine J.pv (Rv.pv (e := D.int) (v := (if ((-1) - j5) > j5 then ((-1) - j5) else j5)) (Rv.eq (rv_2I (f := fun i j => if j > i then j else i) (Pv.rv (e := D.int) (v := j5) (Rv.pv (e := D.int) (v := j5) (Rv.eq (rv_cb1 (e := D.int) (Pv.rv (e := D.int) (v := j5) (show Pv _ _ (D.int j5) from pv_var 2 rfl)) fun v => cb_intI v) ok_bnd))) (Pv.rv (e := D.int) (v := (-1) - j5) (Rv.pv (e := D.int) (v := (-1) - j5) (Rv.eq (rv_cb1 (e := D.int) (Pv.rv (e := D.int) (v := (-1) - j5) (show Pv _ _ (D.int ((-1) - j5)) from pv_op (show Pv _ _ (D.int (-1)) from pv_un (show Pv _ _ (D.int (1)) from pv_c _) (ev_neg 1)) (show Pv _ _ (D.int j5) from pv_var 2 rfl) (ev_sub (-1) j5))) fun v => cb_intI v) ok_bnd)))) (ok_bnd.trans ok_bnd))) ?_
      refine jn_seq ?_
      refine js_set rfl ?_
      refine J.use h (rv_rp (e := D.int) (rv_cb1 (e := D.int) (rv_rp (e := D.int) (rv_rp (e := D.int) (rv_rp (e := D.int) (rv_pr (e := D.int) (show Pv _ _ (D.int (((if ((-1) - j5) > j5 then ((-1) - j5) else j5)) % 2147483629)) from pv_op (Rv.pv (e := D.int) (v := (if ((-1) - j5) > j5 then ((-1) - j5) else j5)) (Rv.eq (rv_cb1 (e := D.int) (Pv.rv (e := D.int) (v := (if ((-1) - j5) > j5 then ((-1) - j5) else j5)) (show Pv _ _ (D.int ((if ((-1) - j5) > j5 then ((-1) - j5) else j5))) from pv_var 3 rfl)) fun v => cb_intI v) ok_bnd)) (show Pv _ _ (D.int (2147483629)) from pv_c _) (ev_modc ((if ((-1) - j5) > j5 then ((-1) - j5) else j5)) 2147483629 (by decide))) (rv_pp (e := D.int) (show Pv _ _ (D.int (7919 * k2)) from pv_op (show Pv _ _ (D.int (7919)) from pv_c _) (show Pv _ _ (D.int k2) from pv_var 1 rfl) (ev_mulc' 7919 k2 (by decide))) (show Pv _ _ (D.int k2) from pv_var 1 rfl) (op_mul (7919 * k2) k2)) fun v6 => (opr_ok (e := D.int) (ev_add (((if ((-1) - j5) > j5 then ((-1) - j5) else j5)) % 2147483629) v6))) (show Pv _ _ (D.int (31 * k2)) from pv_op (show Pv _ _ (D.int (31)) from pv_c _) (show Pv _ _ (D.int k2) from pv_var 1 rfl) (ev_mulc' 31 k2 (by decide))) fun v7 => (opr_ok (e := D.int) (ev_add v7 (31 * k2)))) (show Pv _ _ (D.int (17)) from pv_c _) fun v8 => (opr_ok (e := D.int) (ev_add v8 17))) (show Pv _ _ (D.int (48271)) from pv_c _) fun v9 => (opr_ok (e := D.int) (ev_mulc v9 48271 (by decide)))) fun v => cb_intI v) (show Pv _ _ (D.int (2147483647)) from pv_c _) fun v11 => (opr_ok (e := D.int) (ev_modc v11 2147483647 (by decide)))) (by first | (simp only [bnd_bnd, ok_bnd]; done) | rfl) (fun v12 h => ?_) (fun _ _ h => h.elim)
      refine jn_last ?_
      refine J.use h (rv_lst (rl_cons (e := D.int) (rv_pp (e := D.int) (show Pv _ _ (D.int ((if ((-1) - j5) > j5 then ((-1) - j5) else j5))) from pv_var 3 rfl) (Rv.pv (e := D.int) (v := (cond (decide ((10 ^ (18 : Int).toNat) ≤ ((if ((-1) - j5) > j5 then ((-1) - j5) else j5)))) 1 0 : Int)) (Rv.eq (rv_cb1 (e := D.int) (Pv.rv (e := D.bl) (v := decide ((10 ^ (18 : Int).toNat) ≤ ((if ((-1) - j5) > j5 then ((-1) - j5) else j5)))) (show Pv _ _ (D.bl (decide ((10 ^ (18 : Int).toNat) ≤ ((if ((-1) - j5) > j5 then ((-1) - j5) else j5))))) from pv_op (show Pv _ _ (D.int ((if ((-1) - j5) > j5 then ((-1) - j5) else j5))) from pv_var 3 rfl) (show Pv _ _ (D.int (10 ^ (18 : Int).toNat)) from pv_op (show Pv _ _ (D.int (10)) from pv_c _) (show Pv _ _ (D.int (18)) from pv_c _) (ev_powc 10 18 (by decide))) (ev_ge ((if ((-1) - j5) > j5 then ((-1) - j5) else j5)) (10 ^ (18 : Int).toNat)))) fun v => cb_intB v) ok_bnd)) (op_mul ((if ((-1) - j5) > j5 then ((-1) - j5) else j5)) ((cond (decide ((10 ^ (18 : Int).toNat) ≤ ((if ((-1) - j5) > j5 then ((-1) - j5) else j5)))) 1 0 : Int)))) (rl_cons (e := D.int) (Pv.rv (e := D.int) (v := v12) (show Pv _ _ (D.int v12) from pv_var 4 rfl)) rl_nil))) (by first | (simp only [bnd_bnd, ok_bnd]; done) | rfl) (fun l14 h => ?_) (fun _ _ h => h.elim)
      replace h := wp_o h
      exact h
def td__law_take : TSd :=
  dSeq (dIfS (dT (dOp rGtD (dIxC 0 (dC (.int 0))) (dC (.int 0)))) (dSeq (dSet 2 (dOp rModD (dCB rIntD (dCons (dIxC 0 (dC (.int 0))) (dNil))) (dVar 1)))
  (dSeq (dSetIx 0 (dC (.int 0)) (dOp rDivD (dIxC 0 (dC (.int 0))) (dVar 1)))
  (dRet (dVar 2)))) (dNext))
  (dSeq (dSetIx 0 (dC (.int 1)) (dOp rModD (dCB rIntD (dCons (dOp rAddD (dOp rMultD (dIxC 0 (dC (.int 1))) (dC (.int 39373))) (dC (.int 7))) (dNil))) (dC (.int 2147483647))))
  (dRet (dOp rModD (dCB rIntD (dCons (dOp rDivD (dOp rModD (dCB rIntD (dCons (dOp rMultD (dIxC 0 (dC (.int 1))) (dIxC 0 (dC (.int 1)))) (dNil))) (dC (.int 2147483629))) (dC (.int 32))) (dNil))) (dVar 1))))
abbrev N__law_take : List Str := ["_law_source", "_law_top", "_law_digit"]
theorem math__law_take : ∀ xs M P PX, sp__law_take xs M P PX → td__law_take (startS N__law_take xs M) (endE M.length P) (endX M.length PX) := by
  rintro xs M P PX ⟨source1, top2, rfl, rfl, h⟩
  refine start1 false 0 [.own (cL D.int source1), .dat (D.int top2), .no] [some 0, none] rfl (by decide) rfl (fun q => Bool.noConfusion q) ?_
  unfold td__law_take
  unfold m__law_take at h
  refine js_seq ?_
  refine js_if ?_
  refine J.use h (rb_t (rv_rp (e := D.bl) (rv_ixC 0 (ea := D.int) (l := source1) rfl (Pv.rv (e := D.int) (v := 0) (show Pv _ _ (D.int (0)) from pv_c _))) (show Pv _ _ (D.int (0)) from pv_c _) fun v3 => (opr_ok (e := D.bl) (ev_gt v3 0)))) (by first | (simp only [bnd_bnd, ok_bnd]; done) | rfl) (fun v4 h => ?_) (fun _ _ h => ⟨_, rfl, h _⟩)
  refine ite_c h (fun h => ?_) (fun h => ?_)
  · as_aux_lemma =>
      refine js_seq ?_
      refine js_set rfl ?_
      refine J.use h (rv_rp (e := D.int) (rv_cb1 (e := D.int) (rv_ixC 0 (ea := D.int) (l := source1) rfl (Pv.rv (e := D.int) (v := 0) (show Pv _ _ (D.int (0)) from pv_c _))) fun v => cb_intI v) (show Pv _ _ (D.int top2) from pv_var 1 rfl) fun v6 => (op_mod v6 top2)) (by first | (simp only [bnd_bnd, ok_bnd]; done) | rfl) (fun v7 h => ?_) (fun _ _ h => ⟨_, rfl, h _⟩)
      refine js_seq ?_
      refine js_setIx ?_
      refine J.use h (rv_rp (e := D.int) (rv_ixC 0 (ea := D.int) (l := source1) rfl (Pv.rv (e := D.int) (v := 0) (show Pv _ _ (D.int (0)) from pv_c _))) (show Pv _ _ (D.int top2) from pv_var 1 rfl) fun v8 => (op_div v8 top2)) (by first | (simp only [bnd_bnd, ok_bnd]; done) | rfl) (fun v9 h => ?_) (fun _ _ h => ⟨_, rfl, h _⟩)
      refine ⟨_, rfl, ?_⟩
      refine J.pv (show Pv _ _ (D.int (0)) from pv_c _) ?_
      obtain ⟨source10, i_, hi_, hs_, h⟩ := setR_use (ea := D.int) h
      refine ⟨_, _, i_, rfl, rfl, hi_, (nlf rfl), ?_⟩
      rw [hs_]
      refine js_ret ?_
      refine J.pv (show Pv _ _ (D.int v7) from pv_var 2 rfl) ?_
      replace h := wp_o h
      exact ⟨_, rfl, h⟩
  · as_aux_lemma =>
      refine js_next ?_
      refine js_seq ?_
      refine js_setIx ?_
      refine J.use h (rv_rp (e := D.int) (rv_cb1 (e := D.int) (rv_rp (e := D.int) (rv_rp (e := D.int) (rv_ixC 0 (ea := D.int) (l := source1) rfl (Pv.rv (e := D.int) (v := 1) (show Pv _ _ (D.int (1)) from pv_c _))) (show Pv _ _ (D.int (39373)) from pv_c _) fun v11 => (opr_ok (e := D.int) (ev_mulc v11 39373 (by decide)))) (show Pv _ _ (D.int (7)) from pv_c _) fun v12 => (opr_ok (e := D.int) (ev_add v12 7))) fun v => cb_intI v) (show Pv _ _ (D.int (2147483647)) from pv_c _) fun v14 => (opr_ok (e := D.int) (ev_modc v14 2147483647 (by decide)))) (by first | (simp only [bnd_bnd, ok_bnd]; done) | rfl) (fun v15 h => ?_) (fun _ _ h => ⟨_, rfl, h _⟩)
      refine ⟨_, rfl, ?_⟩
      refine J.pv (show Pv _ _ (D.int (1)) from pv_c _) ?_
      obtain ⟨source16, i_, hi_, hs_, h⟩ := setR_use (ea := D.int) h
      refine ⟨_, _, i_, rfl, rfl, hi_, (nlf rfl), ?_⟩
      rw [hs_]
      refine js_ret ?_
      refine J.use h (rv_rp (e := D.int) (rv_cb1 (e := D.int) (rv_rp (e := D.int) (rv_rp (e := D.int) (rv_cb1 (e := D.int) (rv_op (e := D.int) (rv_ixC 0 (ea := D.int) (l := source16) rfl (Pv.rv (e := D.int) (v := 1) (show Pv _ _ (D.int (1)) from pv_c _))) (rv_ixC 0 (ea := D.int) (l := source16) rfl (Pv.rv (e := D.int) (v := 1) (show Pv _ _ (D.int (1)) from pv_c _))) fun v17 v18 => (op_mul v17 v18)) fun v => cb_intI v) (show Pv _ _ (D.int (2147483629)) from pv_c _) fun v20 => (opr_ok (e := D.int) (ev_modc v20 2147483629 (by decide)))) (show Pv _ _ (D.int (32)) from pv_c _) fun v21 => (opr_ok (e := D.int) (ev_divc v21 32 (by decide)))) fun v => cb_intI v) (show Pv _ _ (D.int top2) from pv_var 1 rfl) fun v23 => (op_mod v23 top2)) (by first | (simp only [bnd_bnd, ok_bnd]; done) | rfl) (fun v24 h => ?_) (fun _ _ h => ⟨_, rfl, h _⟩)
      replace h := wp_o h
      exact ⟨_, rfl, h⟩
def td__law_one : TSd :=
  dRet (dOp rIxD (dVar 1) (dCall sp__law_take (dConsC 0 (dCons (dCB rLenD (dCons (dVar 1) (dNil))) (dNil)))))
abbrev N__law_one : List Str := ["_law_source", "_law_things"]
theorem math__law_one : ∀ xs M P PX, sp__law_one xs M P PX → td__law_one (startS N__law_one xs M) (endE M.length P) (endX M.length PX) := by
  rintro xs M P PX ⟨s, d, ds, rfl, hd, rfl, h⟩
  refine start1 false 0 [.own (cL D.int s), .dat d] [some 0, none] rfl (by decide) rfl (fun q => Bool.noConfusion q) ?_
  unfold td__law_one
  unfold m__law_one at h
  refine js_ret (j_op (J.pv (pv_var 1 rfl) (j_call1 (ja_consC 0 rfl (ja_cons ?_)))))
  refine j_cb (ja_cons (J.pv (pv_var 1 rfl) (ja_nil ⟨[d], .int (ds.length : Int), rfl, fun M Q q => ?_, ?_⟩)))
  · cases d <;> first | (cases hd; done) | (cases hd; exact q)
  refine ja_nil ⟨_, _, rfl, rfl, rfl, _, _, _, _, call__law_take s (ds.length : Int), wp_use h (fun q h => ⟨(fun q => Bool.noConfusion q), ?_⟩) (fun _ _ h => fun y => ⟨_, rfl, h _⟩)⟩
  rw [wp_bnd] at h
  obtain ⟨v, hv, h⟩ := wp_ixR h
  refine ⟨v, fun P p => ?_, _, rfl, h⟩
  cases d <;> first | (cases hd; done) | (cases hd; exact ⟨v, hv, p⟩)
def td__law_shuffled : TSd :=
  dSeq (dPar 2 3 (dConsF (dLc (dRange1 (dCons (dVar 1) (dNil))) (dgName 4) (dYes) (dVar 4) [4]) (dConsF (dLst (dNil)) (dNil))))
  (dSeq (dFor (dRange1 (dCons (dVar 1) (dNil))) (dgName 5) (dDrop (dMeth1 3 fAppend (dMeth1 2 fPopAt (dCall sp__law_take (dConsC 0 (dCons (dCB rLenD (dConsC 2 (dNil))) (dNil))))))))
  (dFreeze 3 (dRet (dVar 3))))
abbrev N__law_shuffled : List Str := ["_law_source", "_law_count", "_law_left", "_law_found", "_law_x", "_law_turn"]
theorem math__law_shuffled : ∀ xs M P PX, sp__law_shuffled xs M P PX → td__law_shuffled (startS N__law_shuffled xs M) (endE M.length P) (endX M.length PX) := by
  rintro xs M P PX ⟨source1, count2, rfl, rfl, h⟩
  refine start1 false 0 [.own (cL D.int source1), .dat (D.int count2), .no, .no, .no, .no] [some 0, none] rfl (by decide) rfl (fun q => Bool.noConfusion q) ?_
  unfold td__law_shuffled
  unfold m__law_shuffled at h
  refine js_seq ?_
  refine js_par rfl rfl ?_
  refine ja_consF ?_
  refine j_lc ?_
  refine J.use h (ri_range1 (Pv.rv (e := D.int) (v := count2) (show Pv _ _ (D.int count2) from pv_var 1 rfl))) (by first | (simp only [bnd_bnd, ok_bnd]; done) | rfl) (fun xs3 h => ?_) (fun _ _ h => ⟨_, rfl, h _⟩)
  refine al_M (f := fun (x4 : Int) => x4) D.int D.int rfl (Tc.name (by decide)) rfl (wp_use h (fun l5 h => ?_) (fun _ _ h => h)) ?_
  · as_aux_lemma =>
      refine ⟨(nlf rfl), ?_⟩
      refine ja_consF ?_
      refine J.pv (Rv.pv (e := List.map D.int) (v := []) (rv_l0 (e := D.int))) ?_
      refine ⟨(nlf rfl), ?_⟩
      refine ja_nil ⟨_, _, _, _, rfl, rfl, rfl, ?_⟩
      refine js_seq ?_
      refine js_for ?_
      refine J.use h (ri_range1 (Pv.rv (e := D.int) (v := count2) (show Pv _ _ (D.int count2) from pv_var 1 rfl))) (by first | (simp only [bnd_bnd, ok_bnd]; done) | rfl) (fun xs7 h => ?_) (fun _ _ h => ⟨_, rfl, h _⟩)
      rw [wp_bnd] at h
      refine a_forR D.int (fun (b8 : (List Int) × (List Int) × (List Int)) => [.own (cL D.int b8.1), .dat (D.int count2), .own (cL D.int b8.2.1), .own (cL D.int b8.2.2), .no, .no]) ?_ ?_ _ _ _ (by repeat (first | exact Le.nil | refine Le.keep ?_ | refine Le.drop ?_)) h
      · as_aux_lemma =>
          intro b8 x9 Q h
          refine jg_name rfl ?_
          refine js_drop ?_
          refine j_meth1 3 rfl ?_
          refine j_meth1 2 rfl ?_
          refine j_call1 ?_
          refine ja_consC 0 rfl ?_
          refine ja_cons ?_
          refine J.pv (show Pv _ _ (D.int (b8.2.1.length : Int)) from pv_lenC 2 (e := D.int) (l := b8.2.1) rfl) ?_
          refine ja_nil ⟨_, _, rfl, rfl, rfl, _, _, _, _, call__law_take b8.1 ((b8.2.1.length : Int)), wp_use h (fun q10 h => ⟨(nlf rfl), ?_⟩) (fun _ _ h => fun _ => ⟨_, rfl, h _⟩)⟩
          refine ⟨_, rfl, m_popAt (ea := D.int) (wp_use h (fun q11 h => ⟨(nlf rfl), ?_⟩) (fun _ _ h => h))⟩
          refine ⟨_, rfl, m_append (ea := D.int) (wp_use h (fun found12 h => ⟨(nlf rfl), ?_⟩) (fun _ _ h => h))⟩
          replace h := wp_o h
          exact ⟨(q10.2, q11.2, found12), (by repeat (first | exact Le.nil | refine Le.keep ?_ | refine Le.drop ?_)), h⟩
      · intro b13 h
        refine js_norm [.own (cL D.int b13.1), .dat (D.int count2), .own (cL D.int b13.2.1), .own (cL D.int b13.2.2), .no, .no] rfl ?_
        refine js_freeze rfl rfl ?_
        refine js_ret ?_
        refine J.pv (show Pv _ _ ((eL D.int) b13.2.2) from pv_var 3 rfl) ?_
        replace h := wp_o h
        exact ⟨_, rfl, h⟩
  · intro x4
    refine jg_name rfl ?_
    exact ⟨(by repeat (first | exact Keep.nil | refine Keep.own ?_ | refine Keep.dat ?_ | refine Keep.no ?_)), pv_yes, (show Pv _ _ (D.int x4) from pv_var 4 rfl)⟩
def td__law_figures : TSd :=
  dSeq (dSet 2 (dCall sp__law_take (dConsC 0 (dCons (dC (.int 3)) (dNil)))))
  (dSeq (dIfS (dT (dOp rEqD' (dVar 2) (dC (.int 0)))) (dSeq (dSet 3 (dCB rTupD (dCons (dCall sp__law_shuffled (dConsC 0 (dCons (dVar 1) (dNil)))) (dNil))))
  (dRet (dTup (dCons (dVar 3) (dCons (dVar 3) (dNil)))))) (dNext))
  (dSeq (dSet 4 (dCB rTupD (dCons (dF (dLc (dRange1 (dCons (dVar 1) (dNil))) (dgName 5) (dYes) (dCall sp__law_take (dConsC 0 (dCons (dC (.int 4)) (dNil)))) [5])) (dNil))))
  (dSeq (dIfS (dT (dOp rEqD' (dVar 2) (dC (.int 1)))) (dRet (dTup (dCons (dVar 4) (dCons (dVar 4) (dNil))))) (dNext))
  (dRet (dTup (dCons (dVar 4) (dCons (dCB rTupD (dCons (dF (dLc (dRange1 (dCons (dVar 1) (dNil))) (dgName 5) (dYes) (dOp rSubD (dCall sp__law_take (dConsC 0 (dCons (dC (.int 5)) (dNil)))) (dC (.int 1))) [5])) (dNil))) (dNil))))))))
abbrev N__law_figures : List Str := ["_law_source", "_law_n", "_law_kind", "_law_row", "_law_ranks", "_law_x"]
theorem math__law_figures : ∀ xs M P PX, sp__law_figures xs M P PX → td__law_figures (startS N__law_figures xs M) (endE M.length P) (endX M.length PX) := by
  rintro xs M P PX ⟨source1, n2, rfl, rfl, h⟩
  refine start1 false 0 [.own (cL D.int source1), .dat (D.int n2), .no, .no, .no, .no] [some 0, none] rfl (by decide) rfl (fun q => Bool.noConfusion q) ?_
  unfold td__law_figures
  unfold m__law_figures at h
  refine js_seq ?_
  refine js_set rfl ?_
  refine j_call1 ?_
  refine ja_consC 0 rfl ?_
  refine ja_cons ?_
  refine J.pv (show Pv _ _ (D.int (3)) from pv_c _) ?_
  refine ja_nil ⟨_, _, rfl, rfl, rfl, _, _, _, _, call__law_take source1 3, wp_use h (fun q3 h => ⟨(nlf rfl), ?_⟩) (fun _ _ h => fun _ => ⟨_, rfl, h _⟩)⟩
  refine js_seq ?_
  refine js_if ?_
  refine J.pv (pb_t (show Pv _ _ (D.bl (decide (q3.1 = 0))) from pv_op (show Pv _ _ (D.int q3.1) from pv_var 2 rfl) (show Pv _ _ (D.int (0)) from pv_c _) (ev_eq (eq_I 0) (by decide) q3.1 0))) ?_
  refine ite_c h (fun h => ?_) (fun h => ?_)
  · as_aux_lemma =>
      refine js_seq ?_
      refine js_set rfl ?_
      refine j_cb (ja_cons ?_)
      refine j_call1 ?_
      refine ja_consC 0 rfl ?_
      refine ja_cons ?_
      refine J.pv (show Pv _ _ (D.int n2) from pv_var 1 rfl) ?_
      refine ja_nil ⟨_, _, rfl, rfl, rfl, _, _, _, _, call__law_shuffled q3.2 n2, wp_use h (fun q4 h => ⟨(nlf rfl), ?_⟩) (fun _ _ h => fun _ => ⟨_, rfl, h _⟩)⟩
      refine ja_nil ⟨_, (eT D.int) q4.1, rfl, CbR.ev (e := (eT D.int)) (cb_tupL D.int q4.1), ?_⟩
      refine js_norm [.own (cL D.int q4.2), .dat (D.int n2), .dat (D.int q3.1), .dat ((eT D.int) q4.1), .no, .no] rfl ?_
      refine js_ret ?_
      refine J.pv (Rv.pv (e := (eP2 (eT D.int) (eT D.int))) (v := (q4.1, q4.1)) (Rv.eq (rv_t2 (Pv.rv (e := (eT D.int)) (v := q4.1) (show Pv _ _ ((eT D.int) q4.1) from pv_var 3 rfl)) (Pv.rv (e := (eT D.int)) (v := q4.1) (show Pv _ _ ((eT D.int) q4.1) from pv_var 3 rfl))) (ok_bnd.trans ok_bnd))) ?_
      replace h := wp_o h
      exact ⟨_, rfl, h⟩
  · as_aux_lemma =>
      refine js_next ?_
      refine js_norm [.own (cL D.int q3.2), .dat (D.int n2), .dat (D.int q3.1), .no, .no, .no] rfl ?_
      refine js_seq ?_
      refine js_set rfl ?_
      refine j_cb (ja_cons ?_)
      refine j_f ?_
      refine j_lc ?_
      refine J.use h (ri_range1 (Pv.rv (e := D.int) (v := n2) (show Pv _ _ (D.int n2) from pv_var 1 rfl))) (by first | (simp only [bnd_bnd, ok_bnd]; done) | rfl) (fun xs5 h => ?_) (fun _ _ h => ⟨_, rfl, h _⟩)
      refine al_B (st := q3.2) D.int D.int (fun (st7 : (List Int)) => [.own (cL D.int st7), .dat (D.int n2), .dat (D.int q3.1), .no, .no, .no]) rfl rfl (Tc.name (by decide)) (fun _ _ => by repeat (first | exact SameD.nil | refine SameD.own ?_ | refine SameD.same ?_)) (fun _ => rfl) (wp_use h (fun q10 h => ?_) (fun _ _ h => h)) ?_
      · as_aux_lemma =>
          refine ja_nil ⟨_, (eT D.int) q10.1, rfl, CbR.ev (e := (eT D.int)) (cb_tupL D.int q10.1), ?_⟩
          refine js_seq ?_
          refine js_if ?_
          refine J.pv (pb_t (show Pv _ _ (D.bl (decide (q3.1 = 1))) from pv_op (show Pv _ _ (D.int q3.1) from pv_var 2 rfl) (show Pv _ _ (D.int (1)) from pv_c _) (ev_eq (eq_I 0) (by decide) q3.1 1))) ?_
          refine ite_c h (fun h => ?_) (fun h => ?_)
          · refine js_ret ?_
            refine J.pv (Rv.pv (e := (eP2 (eT D.int) (eT D.int))) (v := (q10.1, q10.1)) (Rv.eq (rv_t2 (Pv.rv (e := (eT D.int)) (v := q10.1) (show Pv _ _ ((eT D.int) q10.1) from pv_var 4 rfl)) (Pv.rv (e := (eT D.int)) (v := q10.1) (show Pv _ _ ((eT D.int) q10.1) from pv_var 4 rfl))) (ok_bnd.trans ok_bnd))) ?_
            replace h := wp_o h
            exact ⟨_, rfl, h⟩
          · as_aux_lemma =>
              refine js_next ?_
              refine js_norm [.own (cL D.int q10.2), .dat (D.int n2), .dat (D.int q3.1), .no, .dat ((eT D.int) q10.1), .no] rfl ?_
              refine js_ret ?_
              refine j_tup ?_
              refine ja_cons ?_
              refine J.pv (show Pv _ _ ((eT D.int) q10.1) from pv_var 4 rfl) ?_
              refine ja_cons ?_
              refine j_cb (ja_cons ?_)
              refine j_f ?_
              refine j_lc ?_
              refine J.use h (ri_range1 (Pv.rv (e := D.int) (v := n2) (show Pv _ _ (D.int n2) from pv_var 1 rfl))) (by first | (simp only [bnd_bnd, ok_bnd]; done) | rfl) (fun xs11 h => ?_) (fun _ _ h => ⟨_, rfl, h _⟩)
              refine al_B (st := q10.2) D.int D.int (fun (st13 : (List Int)) => [.own (cL D.int st13), .dat (D.int n2), .dat (D.int q3.1), .no, .dat ((eT D.int) q10.1), .no]) rfl rfl (Tc.name (by decide)) (fun _ _ => by repeat (first | exact SameD.nil | refine SameD.own ?_ | refine SameD.same ?_)) (fun _ => rfl) (wp_use h (fun q16 h => ?_) (fun _ _ h => h)) ?_
              · refine ja_nil ⟨_, (eT D.int) q16.1, rfl, CbR.ev (e := (eT D.int)) (cb_tupL D.int q16.1), ?_⟩
                refine ja_nil ⟨_, rfl, zle, ?_⟩
                replace h := wp_o h
                exact ⟨_, rfl, h⟩
              · as_aux_lemma =>
                  intro st13 x14 Q h
                  refine jg_name rfl ?_
                  refine J.pv pv_yes ?_
                  refine (if_pos rfl).mpr ?_
                  refine j_op ?_
                  refine j_call1 ?_
                  refine ja_consC 0 rfl ?_
                  refine ja_cons ?_
                  refine J.pv (show Pv _ _ (D.int (5)) from pv_c _) ?_
                  refine ja_nil ⟨_, _, rfl, rfl, rfl, _, _, _, _, call__law_take st13 5, wp_use h (fun q15 h => ⟨(nlf rfl), ?_⟩) (fun _ _ h => fun _ => h.elim)⟩
                  refine J.pv (show Pv _ _ (D.int (1)) from pv_c _) ?_
                  refine ⟨D.int (q15.1 - 1), (ev_sub q15.1 1), ?_⟩
                  replace h := wp_o h
                  exact ⟨q15.1 - 1, q15.2, rfl, (by repeat (first | exact Keep.nil | refine Keep.own ?_ | refine Keep.dat ?_ | refine Keep.no ?_)), h⟩
      · as_aux_lemma =>
          intro st7 x8 Q h
          refine jg_name rfl ?_
          refine J.pv pv_yes ?_
          refine (if_pos rfl).mpr ?_
          refine j_call1 ?_
          refine ja_consC 0 rfl ?_
          refine ja_cons ?_
          refine J.pv (show Pv _ _ (D.int (4)) from pv_c _) ?_
          refine ja_nil ⟨_, _, rfl, rfl, rfl, _, _, _, _, call__law_take st7 4, wp_use h (fun q9 h => ⟨(nlf rfl), ?_⟩) (fun _ _ h => fun _ => h.elim)⟩
          replace h := wp_o h
          exact ⟨q9.1, q9.2, rfl, (by repeat (first | exact Keep.nil | refine Keep.own ?_ | refine Keep.dat ?_ | refine Keep.no ?_)), h⟩
def td__law_may : TSd :=
  dRet (dAndV (dOp rNeD' (dVar 1) (dVar 2)) (dOp rGeD (dOp rIxD (dOp rIxD (dVar 0) (dC (.int 0))) (dVar 1)) (dOp rIxD (dOp rIxD (dVar 0) (dC (.int 1))) (dVar 2))))
abbrev N__law_may : List Str := ["_law_figures_here", "_law_y", "_law_x"]
theorem math__law_may : ∀ xs M P PX, sp__law_may xs M P PX → td__law_may (startS N__law_may xs M) (endE M.length P) (endX M.length PX) := by
  rintro xs M P PX ⟨figures_here1, y2, x3, rfl, rfl, h⟩
  refine start0 (ds := [(eP2 (eT D.int) (eT D.int)) figures_here1, D.int y2, D.int x3]) [.dat ((eP2 (eT D.int) (eT D.int)) figures_here1), .dat (D.int y2), .dat (D.int x3)] rfl ?_
  unfold td__law_may
  unfold m__law_may at h
  refine js_ret ?_
  refine J.useT h (rv_andV (Pv.rv (e := D.bl) (v := !decide (y2 = x3)) (show Pv _ _ (D.bl (!decide (y2 = x3))) from pv_op (show Pv _ _ (D.int y2) from pv_var 1 rfl) (show Pv _ _ (D.int x3) from pv_var 2 rfl) (ev_ne (eq_I 0) (by decide) y2 x3))) (rv_op (e := D.bl) (rv_pp (e := D.int) (show Pv _ _ ((eT D.int) figures_here1.1) from pv_op (show Pv _ _ ((eP2 (eT D.int) (eT D.int)) figures_here1) from pv_var 0 rfl) (show Pv _ _ (D.int (0)) from pv_c _) (ev_p20 (eT D.int) (eT D.int) figures_here1)) (show Pv _ _ (D.int y2) from pv_var 1 rfl) (op_ixT D.int figures_here1.1 y2)) (rv_pp (e := D.int) (show Pv _ _ ((eT D.int) figures_here1.2) from pv_op (show Pv _ _ ((eP2 (eT D.int) (eT D.int)) figures_here1) from pv_var 0 rfl) (show Pv _ _ (D.int (1)) from pv_c _) (ev_p21 (eT D.int) (eT D.int) figures_here1)) (show Pv _ _ (D.int x3) from pv_var 2 rfl) (op_ixT D.int figures_here1.2 x3)) fun v4 v5 => (opr_ok (e := D.bl) (ev_ge v4 v5)))) (by first | (simp only [bnd_bnd, ok_bnd]; done) | rfl) (fun _ h => h) (fun _ _ h => h)
def td__law_stair : TSd :=
  dRet (dF (dLc (dIter (dCB rSortD (dCons (dF (dLc (dIter (dVar 1)) (dgName 3) (dYes) (dTup (dCons (dUn rNegD (dOp rIxD (dOp rIxD (dVar 0) (dC (.int 1))) (dVar 3))) (dCons (dVar 3) (dNil)))) [3])) (dNil)))) (dgTup 2 (dgsCons (dgName 2) (dgsCons (dgName 3) (dgsNil)))) (dYes) (dVar 3) [2, 3]))
abbrev N__law_stair : List Str := ["_law_figures_here", "_law_sides", "_law_guard", "_law_x"]
theorem math__law_stair : ∀ xs M P PX, sp__law_stair xs M P PX → td__law_stair (startS N__law_stair xs M) (endE M.length P) (endX M.length PX) := by
  rintro xs M P PX ⟨figures_here1, sides2, rfl, rfl, h⟩
  refine start0 (ds := [(eP2 (eT D.int) (eT D.int)) figures_here1, (eL D.int) sides2]) [.dat ((eP2 (eT D.int) (eT D.int)) figures_here1), .dat ((eL D.int) sides2), .no, .no] rfl ?_
  unfold td__law_stair
  unfold m__law_stair at h
  refine js_ret ?_
  refine j_f ?_
  refine j_lc ?_
  refine ji_iter ?_
  refine j_cb (ja_cons ?_)
  refine j_f ?_
  refine j_lc ?_
  refine J.pv (Rv.pv (e := List.map D.int) (v := sides2) (Rv.eq (ri_iter (e := D.int) (f := fun v => v) (sq_L _) (Pv.rv (e := (eL D.int)) (v := sides2) (show Pv _ _ ((eL D.int) sides2) from pv_var 1 rfl))) ok_bnd)) ?_
  refine al_R (t := fun (x3 : Int) => Res.ok true) (f := fun (x3 : Int) => ((ixR figures_here1.2 x3).bnd fun v4 => Res.ok (-v4)).bnd fun v5 => Res.ok ((v5, x3))) D.int (eP2 D.int D.int) rfl (Tc.name (by decide)) rfl (wp_use h (fun l6 h => ?_) (fun _ _ h => h)) ?_
  · as_aux_lemma =>
      refine ja_nil ⟨_, (eL (eP2 D.int D.int)) (sortP l6), rfl, CbR.ev (e := (eL (eP2 D.int D.int))) (cb_sortP l6), ?_⟩
      refine ⟨_, (sq_L (eP2 D.int D.int) (sortP l6)), ?_⟩
      refine al_M (f := fun (x7 : Int × Int) => x7.2) (eP2 D.int D.int) D.int rfl (Tc.tup (Tcs.cons (Tc.name (by decide)) (Tcs.cons (Tc.name (by decide)) Tcs.nil))) rfl (wp_use h (fun l8 h => ?_) (fun _ _ h => h)) ?_
      · replace h := wp_o h
        exact h
      · as_aux_lemma =>
          intro x7
          refine jg_tup rfl ?_
          refine jgs_cons ?_
          refine jg_name rfl ?_
          refine jgs_cons ?_
          refine jg_name rfl ?_
          refine jgs_nil ?_
          exact ⟨(by repeat (first | exact Keep.nil | refine Keep.own ?_ | refine Keep.dat ?_ | refine Keep.no ?_)), pv_yes, (show Pv _ _ (D.int x7.2) from pv_var 3 rfl)⟩
  · intro x3
    refine jg_name rfl ?_
    exact ⟨(by repeat (first | exact Keep.nil | refine Keep.own ?_ | refine Keep.dat ?_ | refine Keep.no ?_)), (Pv.rv (e := id) (v := true) pv_yes), (Rv.eq (rv_t2 (rv_un (e := D.int) (f := fun i => -i) (rv_pp (e := D.int) (show Pv _ _ ((eT D.int) figures_here1.2) from pv_op (show Pv _ _ ((eP2 (eT D.int) (eT D.int)) figures_here1) from pv_var 0 rfl) (show Pv _ _ (D.int (1)) from pv_c _) (ev_p21 (eT D.int) (eT D.int) figures_here1)) (show Pv _ _ (D.int x3) from pv_var 3 rfl) (op_ixT D.int figures_here1.2 x3)) fun i P h => h) (Pv.rv (e := D.int) (v := x3) (show Pv _ _ (D.int x3) from pv_var 3 rfl))) (by first | (simp only [bnd_bnd, ok_bnd]; done) | rfl))⟩
def td__law_drawn_round : TSd :=
  dSeq (dSet 4 (dF (dLc (dIter (dCall sp__law_shuffled (dConsC 0 (dCons (dCB rLenD (dConsC 2 (dNil))) (dNil))))) (dgName 5) (dYes) (dIxC 2 (dVar 5)) [5])))
  (dSeq (dSet 6 (dOp rDivD (dCB rLenD (dConsC 2 (dNil))) (dC (.int 2))))
  (dSeq (dIfS (dNot (dTru (dVar 3))) (dSet 6 (dCall sp__law_take (dConsC 0 (dCons (dOp rAddD (dVar 6) (dC (.int 1))) (dNil))))) (dNext))
  (dSeq (dPar 7 8 (dConsF (dSlL (dVar 4) (dPart (dVar 6)) (dNoPart)) (dConsF (dLst (dNil)) (dNil))))
  (dSeq (dFor (dIter (dCall sp__law_stair (dCons (dVar 1) (dCons (dSl (dVar 4) (dNoPart) (dPart (dVar 6))) (dNil))))) (dgName 9) (dSeq (dSet 10 (dF (dLendF 7 (dLc (dIter (dVar 7)) (dgName 11) (dTru (dCall sp__law_may (dCons (dVar 1) (dCons (dVar 11) (dCons (dVar 9) (dNil)))))) (dVar 11) [11]))))
  (dIfS (dTru (dVar 10)) (dSeq (dSet 11 (dCall sp__law_one (dConsC 0 (dCons (dVar 10) (dNil)))))
  (dSeq (dDrop (dMeth1 7 fRemI (dVar 11)))
  (dDrop (dMeth1 8 fAppend (dTup (dCons (dVar 9) (dCons (dVar 11) (dNil)))))))) (dNext))))
  (dFreeze 8 (dRet (dVar 8)))))))
abbrev N__law_drawn_round : List Str := ["_law_source", "_law_figures_here", "_law_left", "_law_is_full", "_law_names", "_law_k", "_law_many", "_law_seats", "_law_found", "_law_x", "_law_may_here", "_law_y"]
theorem math__law_drawn_round : ∀ xs M P PX, sp__law_drawn_round xs M P PX → td__law_drawn_round (startS N__law_drawn_round xs M) (endE M.length P) (endX M.length PX) := by
  rintro xs M P PX ⟨source1, figures_here2, left3, is_full4, rfl, rfl, h⟩
  refine start2 true 0 2 [.own (cL D.int source1), .dat ((eP2 (eT D.int) (eT D.int)) figures_here2), .own (cL D.int left3), .dat (D.bl is_full4), .no, .no, .no, .no, .no, .no, .no, .no] [some 0, none, some 1, none] rfl (by decide) rfl (fun _ => ⟨noLs_map nl_I _, noLs_map nl_I _⟩) ?_
  unfold td__law_drawn_round
  unfold m__law_drawn_round at h
  refine js_seq ?_
  refine js_set rfl ?_
  refine j_f ?_
  refine j_lc ?_
  refine ji_iter ?_
  refine j_call1 ?_
  refine ja_consC 0 rfl ?_
  refine ja_cons ?_
  refine J.pv (show Pv _ _ (D.int (left3.length : Int)) from pv_lenC 2 (e := D.int) (l := left3) rfl) ?_
  refine ja_nil ⟨_, _, rfl, rfl, rfl, _, _, _, _, call__law_shuffled source1 ((left3.length : Int)), wp_use h (fun q5 h => ⟨(fun _ => noLs_map nl_I _), ?_⟩) (fun _ _ h => fun _ => ⟨_, _, rfl, rfl, h _ _⟩)⟩
  refine ⟨_, (sq_L D.int q5.1), ?_⟩
  refine al_R (t := fun (x6 : Int) => Res.ok true) (f := fun (x6 : Int) => ixR left3 x6) D.int D.int rfl (Tc.name (by decide)) rfl (wp_use h (fun l7 h => ?_) (fun _ _ h => h)) ?_
  · as_aux_lemma =>
      refine js_seq ?_
      refine js_set rfl ?_
      refine J.pv (show Pv _ _ (D.int (((left3.length : Int)) / 2)) from pv_op (show Pv _ _ (D.int (left3.length : Int)) from pv_lenC 2 (e := D.int) (l := left3) rfl) (show Pv _ _ (D.int (2)) from pv_c _) (ev_divc ((left3.length : Int)) 2 (by decide))) ?_
      refine js_norm [.own (cL D.int q5.2), .dat ((eP2 (eT D.int) (eT D.int)) figures_here2), .own (cL D.int left3), .dat (D.bl is_full4), .dat ((eL D.int) l7), .no, .dat (D.int (((left3.length : Int)) / 2)), .no, .no, .no, .no, .no] rfl ?_
      refine js_midW h (fun (j9 : (List Int) × Int) => [.own (cL D.int j9.1), .dat ((eP2 (eT D.int) (eT D.int)) figures_here2), .own (cL D.int left3), .dat (D.bl is_full4), .dat ((eL D.int) l7), .no, .dat (D.int j9.2), .no, .no, .no, .no, .no]) (fun h => ?_) (fun j9 h => ?_)
      · as_aux_lemma =>
          refine js_if ?_
          refine J.pv (pb_not (pb_tru (show Pv _ _ (D.bl is_full4) from pv_var 3 rfl) rfl)) ?_
          refine ite_c h (fun h => ?_) (fun h => ?_)
          · refine js_set rfl ?_
            refine j_call1 ?_
            refine ja_consC 0 rfl ?_
            refine ja_cons ?_
            refine J.pv (show Pv _ _ (D.int ((((left3.length : Int)) / 2) + 1)) from pv_op (show Pv _ _ (D.int (((left3.length : Int)) / 2)) from pv_var 6 rfl) (show Pv _ _ (D.int (1)) from pv_c _) (ev_add (((left3.length : Int)) / 2) 1)) ?_
            refine ja_nil ⟨_, _, rfl, rfl, rfl, _, _, _, _, call__law_take q5.2 ((((left3.length : Int)) / 2) + 1), wp_use h (fun q8 h => ⟨(fun _ => noLs_map nl_I _), ?_⟩) (fun _ _ h => fun _ => ⟨_, _, rfl, rfl, h _ _⟩)⟩
            replace h := wp_o h
            exact ⟨(q8.2, q8.1), (by repeat (first | exact Le.nil | refine Le.keep ?_ | refine Le.drop ?_)), h⟩
          · refine js_next ?_
            replace h := wp_o h
            exact ⟨(q5.2, ((left3.length : Int)) / 2), (by repeat (first | exact Le.nil | refine Le.keep ?_ | refine Le.drop ?_)), h⟩
      · as_aux_lemma =>
          refine js_seq ?_
          refine js_par rfl rfl ?_
          refine ja_consF ?_
          refine J.pv (Rv.pv (e := List.map D.int) (v := cutL l7 (some j9.2) none) (Rv.eq (rv_slL (Pv.rv (e := (eL D.int)) (v := l7) (show Pv _ _ ((eL D.int) l7) from pv_var 4 rfl)) (ro_some (Pv.rv (e := D.int) (v := j9.2) (show Pv _ _ (D.int j9.2) from pv_var 6 rfl))) ro_none) (by simp only [bnd_bnd, ok_bnd] : _ = Res.ok (cutL l7 (some j9.2) none)))) ?_
          refine ⟨(fun _ => noLs_map nl_I _), ?_⟩
          refine ja_consF ?_
          refine J.pv (Rv.pv (e := List.map (eP2 D.int D.int)) (v := []) (rv_l0 (e := (eP2 D.int D.int)))) ?_
          refine ⟨(fun _ => noLs_map (nl_P2 nl_I nl_I) _), ?_⟩
          refine ja_nil ⟨_, _, _, _, rfl, rfl, rfl, ?_⟩
          refine js_seq ?_
          refine js_for ?_
          refine J.use h (ri_iter (e := D.int) (f := fun v => v) (sq_L _) (rv_call2 (Pv.rv (e := (eP2 (eT D.int) (eT D.int))) (v := figures_here2) (show Pv _ _ ((eP2 (eT D.int) (eT D.int)) figures_here2) from pv_var 1 rfl)) (Pv.rv (e := (eL D.int)) (v := cutL l7 none (some j9.2)) (Rv.pv (e := (eL D.int)) (v := cutL l7 none (some j9.2)) (Rv.eq (rv_sl (ct_L D.int) (Pv.rv (e := (eL D.int)) (v := l7) (show Pv _ _ ((eL D.int) l7) from pv_var 4 rfl)) ro_none (ro_some (Pv.rv (e := D.int) (v := j9.2) (show Pv _ _ (D.int j9.2) from pv_var 6 rfl)))) (by simp only [bnd_bnd, ok_bnd])))) fun a0 a1 => call__law_stair a0 a1)) (by first | (simp only [bnd_bnd, ok_bnd]; done) | rfl) (fun xs13 h => ?_) (fun _ _ h => ⟨_, _, rfl, rfl, h _ _⟩)
          rw [wp_bnd] at h
          refine a_forR D.int (fun (b14 : (List Int) × (List Int) × (List (Int × Int))) => [.own (cL D.int b14.1), .dat ((eP2 (eT D.int) (eT D.int)) figures_here2), .own (cL D.int left3), .dat (D.bl is_full4), .dat ((eL D.int) l7), .no, .dat (D.int j9.2), .own (cL D.int b14.2.1), .own (cL (eP2 D.int D.int) b14.2.2), .no, .no, .no]) ?_ ?_ _ _ _ (by repeat (first | exact Le.nil | refine Le.keep ?_ | refine Le.drop ?_)) h
          · as_aux_lemma =>
              intro b14 x15 Q h
              refine jg_name rfl ?_
              refine js_seq ?_
              refine js_set rfl ?_
              refine j_f ?_
              refine j_lendF 7 rfl rfl rfl ?_
              refine j_lc ?_
              refine J.pv (Rv.pv (e := List.map D.int) (v := b14.2.1) (Rv.eq (ri_iter (e := D.int) (f := fun v => v) (sq_L _) (Pv.rv (e := (eL D.int)) (v := b14.2.1) (show Pv _ _ ((eL D.int) b14.2.1) from pv_var 7 rfl))) ok_bnd)) ?_
              refine al_R (t := fun (x16 : Int) => m__law_may figures_here2 x16 x15) (f := fun (x16 : Int) => Res.ok x16) D.int D.int rfl (Tc.name (by decide)) rfl (wp_use h (fun l18 h => ?_) (fun _ _ h => h)) ?_
              · as_aux_lemma =>
                  refine ⟨noLs_map nl_I _, _, Back.same rfl, ?_⟩
                  refine js_norm [.own (cL D.int b14.1), .dat ((eP2 (eT D.int) (eT D.int)) figures_here2), .own (cL D.int left3), .dat (D.bl is_full4), .dat ((eL D.int) l7), .no, .dat (D.int j9.2), .own (cL D.int b14.2.1), .own (cL (eP2 D.int D.int) b14.2.2), .dat (D.int x15), .dat ((eL D.int) l18), .no] rfl ?_
                  refine js_if ?_
                  refine J.pv (pb_tru (show Pv _ _ ((eL D.int) l18) from pv_var 10 rfl) (tr_L _ _)) ?_
                  refine ite_c h (fun h => ?_) (fun h => ?_)
                  · as_aux_lemma =>
                      refine js_seq ?_
                      refine js_set rfl ?_
                      refine j_call1 ?_
                      refine ja_consC 0 rfl ?_
                      refine ja_cons ?_
                      refine J.pv (show Pv _ _ ((eL D.int) l18) from pv_var 10 rfl) ?_
                      refine ja_nil ⟨_, _, rfl, rfl, rfl, _, _, _, _, call__law_one_L D.int b14.1 l18, wp_use h (fun q19 h => ⟨(fun _ => noLs_map nl_I _), ?_⟩) (fun _ _ h => fun _ => ⟨_, _, rfl, rfl, h _ _⟩)⟩
                      refine js_seq ?_
                      refine js_drop ?_
                      refine j_meth1 7 rfl ?_
                      refine J.pv (show Pv _ _ (D.int q19.1) from pv_var 11 rfl) ?_
                      refine ⟨_, rfl, m_remove (wp_use h (fun seats20 h => ⟨(fun _ => noLs_map nl_I _), ?_⟩) (fun _ _ h => h))⟩
                      refine js_norm [.own (cL D.int q19.2), .dat ((eP2 (eT D.int) (eT D.int)) figures_here2), .own (cL D.int left3), .dat (D.bl is_full4), .dat ((eL D.int) l7), .no, .dat (D.int j9.2), .own (cL D.int seats20), .own (cL (eP2 D.int D.int) b14.2.2), .dat (D.int x15), .dat ((eL D.int) l18), .dat (D.int q19.1)] rfl ?_
                      refine js_drop ?_
                      refine j_meth1 8 rfl ?_
                      refine J.pv (Rv.pv (e := (eP2 D.int D.int)) (v := (x15, q19.1)) (Rv.eq (rv_t2 (Pv.rv (e := D.int) (v := x15) (show Pv _ _ (D.int x15) from pv_var 9 rfl)) (Pv.rv (e := D.int) (v := q19.1) (show Pv _ _ (D.int q19.1) from pv_var 11 rfl))) (ok_bnd.trans ok_bnd))) ?_
                      refine ⟨_, rfl, m_append (ea := (eP2 D.int D.int)) (wp_use h (fun found21 h => ⟨(fun _ => noLs_map (nl_P2 nl_I nl_I) _), ?_⟩) (fun _ _ h => h))⟩
                      replace h := wp_o h
                      exact ⟨(q19.2, seats20, found21), (by repeat (first | exact Le.nil | refine Le.keep ?_ | refine Le.drop ?_)), h⟩
                  · refine js_next ?_
                    replace h := wp_o h
                    exact ⟨(b14.1, b14.2.1, b14.2.2), (by repeat (first | exact Le.nil | refine Le.keep ?_ | refine Le.drop ?_)), h⟩
              · intro x16
                refine jg_name rfl ?_
                exact ⟨(by repeat (first | exact Keep.nil | refine Keep.own ?_ | refine Keep.dat ?_ | refine Keep.no ?_)), (Rv.eq (Rv.eq (rb_tru (f := fun v => v) (rv_call3 (Pv.rv (e := (eP2 (eT D.int) (eT D.int))) (v := figures_here2) (show Pv _ _ ((eP2 (eT D.int) (eT D.int)) figures_here2) from pv_var 1 rfl)) (Pv.rv (e := D.int) (v := x16) (show Pv _ _ (D.int x16) from pv_var 11 rfl)) (Pv.rv (e := D.int) (v := x15) (show Pv _ _ (D.int x15) from pv_var 9 rfl)) fun a0 a1 a2 => call__law_may a0 a1 a2) fun _ => rfl) bnd_ok) (by first | (simp only [bnd_bnd, ok_bnd]; done) | rfl)), (Pv.rv (e := D.int) (v := x16) (show Pv _ _ (D.int x16) from pv_var 11 rfl))⟩
          · intro b22 h
            refine js_norm [.own (cL D.int b22.1), .dat ((eP2 (eT D.int) (eT D.int)) figures_here2), .own (cL D.int left3), .dat (D.bl is_full4), .dat ((eL D.int) l7), .no, .dat (D.int j9.2), .own (cL D.int b22.2.1), .own (cL (eP2 D.int D.int) b22.2.2), .no, .no, .no] rfl ?_
            refine js_freeze rfl rfl ?_
            refine js_ret ?_
            refine J.pv (show Pv _ _ ((eL (eP2 D.int D.int)) b22.2.2) from pv_var 8 rfl) ?_
            replace h := wp_o h
            exact ⟨_, _, rfl, rfl, h⟩
  · intro x6
    refine jg_name rfl ?_
    exact ⟨(by repeat (first | exact Keep.nil | refine Keep.own ?_ | refine Keep.dat ?_ | refine Keep.no ?_)), (Pv.rv (e := id) (v := true) pv_yes), (Rv.eq (rv_ixC 2 (ea := D.int) (l := left3) rfl (Pv.rv (e := D.int) (v := x6) (show Pv _ _ (D.int x6) from pv_var 5 rfl))) (by first | (simp only [bnd_bnd, ok_bnd]; done) | rfl))⟩
def td__law_cup : TSd :=
  dSeq (dSet 2 (dCB rLenD (dCons (dOp rIxD (dVar 1) (dC (.int 0))) (dNil))))
  (dSeq (dPar3 3 4 5 (dConsF (dOpF rRepF (dF (dLst (dCons (dTup (dCons (dC (.int 0)) (dCons (dUn rNegD (dC (.int 1))) (dNil)))) (dNil)))) (dVar 2)) (dConsF (dLc (dRange1 (dCons (dVar 2) (dNil))) (dgName 6) (dYes) (dVar 6) [6]) (dCons (dOp rEqD' (dCall sp__law_take (dConsC 0 (dCons (dC (.int 3)) (dNil)))) (dC (.int 0))) (dNil)))))
  (dSeq (dFor (dRange2 (dCons (dC (.int 1)) (dCons (dVar 2) (dNil)))) (dgName 7) (dSeq (dSet 8 (dCall2 sp__law_drawn_round (dConsC 0 (dCons (dVar 1) (dConsC 4 (dCons (dOrV (dVar 5) (dOp rGtD (dCall sp__law_take (dConsC 0 (dCons (dC (.int 4)) (dNil)))) (dC (.int 0)))) (dNil)))))))
  (dSeq (dIfS (dNot (dTru (dVar 8))) (dBreak) (dNext))
  (dFor (dIter (dVar 8)) (dgTup 2 (dgsCons (dgName 6) (dgsCons (dgName 9) (dgsNil)))) (dSeq (dSetIx 3 (dVar 6) (dTup (dCons (dVar 7) (dCons (dVar 9) (dNil)))))
  (dDrop (dMeth1 4 fRemI (dVar 6))))))))
  (dFreeze 3 (dRet (dCB rTupD (dCons (dVar 3) (dNil)))))))
abbrev N__law_cup : List Str := ["_law_source", "_law_figures_here", "_law_n", "_law_row", "_law_left", "_law_is_full", "_law_x", "_law_r", "_law_found", "_law_y"]
theorem math__law_cup : ∀ xs M P PX, sp__law_cup xs M P PX → td__law_cup (startS N__law_cup xs M) (endE M.length P) (endX M.length PX) := by
  rintro xs M P PX ⟨source1, figures_here2, rfl, rfl, h⟩
  refine start1 false 0 [.own (cL D.int source1), .dat ((eP2 (eT D.int) (eT D.int)) figures_here2), .no, .no, .no, .no, .no, .no, .no, .no] [some 0, none] rfl (by decide) rfl (fun q => Bool.noConfusion q) ?_
  unfold td__law_cup
  unfold m__law_cup at h
  refine js_seq ?_
  refine js_set rfl ?_
  refine J.pv (Rv.pv (e := D.int) (v := (figures_here2.1.length : Int)) (Rv.eq (rv_cb1 (e := D.int) (Pv.rv (e := (eT D.int)) (v := figures_here2.1) (show Pv _ _ ((eT D.int) figures_here2.1) from pv_op (show Pv _ _ ((eP2 (eT D.int) (eT D.int)) figures_here2) from pv_var 1 rfl) (show Pv _ _ (D.int (0)) from pv_c _) (ev_p20 (eT D.int) (eT D.int) figures_here2))) fun v => cb_lenT D.int v) ok_bnd)) ?_
  refine js_seq ?_
  refine js_par3 rfl rfl rfl ?_
  refine ja_consF ?_
  refine J.use h (rv_opF (e := (eP2 D.int D.int)) (m := fun a b => repR a b) (Pv.rv (e := (eL (eP2 D.int D.int))) (v := [(0, -1)]) (Rv.pv (e := (eL (eP2 D.int D.int))) (v := [(0, -1)]) (rv_f (Rv.eq (rv_lstO (e := (eP2 D.int D.int)) (l := [(0, -1)]) (rl_cons (e := (eP2 D.int D.int)) (Pv.rv (e := (eP2 D.int D.int)) (v := (0, -1)) (Rv.pv (e := (eP2 D.int D.int)) (v := (0, -1)) (Rv.eq (rv_t2 (Pv.rv (e := D.int) (v := 0) (show Pv _ _ (D.int (0)) from pv_c _)) (Pv.rv (e := D.int) (v := -1) (show Pv _ _ (D.int (-1)) from pv_un (show Pv _ _ (D.int (1)) from pv_c _) (ev_neg 1)))) (ok_bnd.trans ok_bnd)))) rl_nil) rfl zle) rfl)))) (Pv.rv (e := D.int) (v := (figures_here2.1.length : Int)) (show Pv _ _ (D.int ((figures_here2.1.length : Int))) from pv_var 2 rfl)) (fun _ _ => repR_ne) (opf_rep (eP2 D.int D.int))) (by first | (simp only [bnd_bnd, ok_bnd]; done) | rfl) (fun l3 h => ?_) (fun _ _ h => ⟨_, rfl, h _⟩)
  refine ⟨(nlf rfl), ?_⟩
  refine ja_consF ?_
  refine j_lc ?_
  refine J.use h (ri_range1 (Pv.rv (e := D.int) (v := (figures_here2.1.length : Int)) (show Pv _ _ (D.int ((figures_here2.1.length : Int))) from pv_var 2 rfl))) (by first | (simp only [bnd_bnd, ok_bnd]; done) | rfl) (fun xs4 h => ?_) (fun _ _ h => ⟨_, rfl, h _⟩)
  refine al_M (f := fun (x5 : Int) => x5) D.int D.int rfl (Tc.name (by decide)) rfl (wp_use h (fun l6 h => ?_) (fun _ _ h => h)) ?_
  · refine ⟨(nlf rfl), ?_⟩
    refine ja_cons ?_
    refine j_op ?_
    refine j_call1 ?_
    refine ja_consC 0 rfl ?_
    refine ja_cons ?_
    refine J.pv (show Pv _ _ (D.int (3)) from pv_c _) ?_
    refine ja_nil ⟨_, _, rfl, rfl, rfl, _, _, _, _, call__law_take source1 3, wp_use h (fun q7 h => ⟨(nlf rfl), ?_⟩) (fun _ _ h => fun _ => ⟨_, rfl, h _⟩)⟩
    refine J.pv (show Pv _ _ (D.int (0)) from pv_c _) ?_
    refine ⟨D.bl (decide (q7.1 = 0)), (ev_eq (eq_I 0) (by decide) q7.1 0), ?_⟩
    refine ja_nil ⟨_, _, _, _, _, _, rfl, rfl, rfl, rfl, ?_⟩
    refine js_norm [.own (cL D.int q7.2), .dat ((eP2 (eT D.int) (eT D.int)) figures_here2), .dat (D.int ((figures_here2.1.length : Int))), .own (cL (eP2 D.int D.int) l3), .own (cL D.int l6), .dat (D.bl (decide (q7.1 = 0))), .no, .no, .no, .no] rfl ?_
    refine js_seq ?_
    refine js_for ?_
    refine J.use h (ri_range2 (Pv.rv (e := D.int) (v := 1) (show Pv _ _ (D.int (1)) from pv_c _)) (Pv.rv (e := D.int) (v := (figures_here2.1.length : Int)) (show Pv _ _ (D.int ((figures_here2.1.length : Int))) from pv_var 2 rfl))) (by first | (simp only [bnd_bnd, ok_bnd]; done) | rfl) (fun xs8 h => ?_) (fun _ _ h => ⟨_, rfl, h _⟩)
    rw [wp_bnd] at h
    refine a_forS D.int (fun (b9 : (List Int) × (List (Int × Int)) × (List Int)) => [.own (cL D.int b9.1), .dat ((eP2 (eT D.int) (eT D.int)) figures_here2), .dat (D.int ((figures_here2.1.length : Int))), .own (cL (eP2 D.int D.int) b9.2.1), .own (cL D.int b9.2.2), .dat (D.bl (decide (q7.1 = 0))), .no, .no, .no, .no]) (fun (v : (List (Int × Int)) × (List Int)) d A' => d = (eT (eP2 D.int D.int)) v.1 ∧ A'[0]? = some (.own (cL D.int v.2))) ?_ ?_ ?_ _ _ _ (by repeat (first | exact Le.nil | refine Le.keep ?_ | refine Le.drop ?_)) h
    · intro b9 x10 Q h
      refine jg_name rfl ?_
      refine js_seq ?_
      refine js_set rfl ?_
      refine j_call2 ?_
      refine ja_consC 0 rfl ?_
      refine ja_cons ?_
      refine J.pv (show Pv _ _ ((eP2 (eT D.int) (eT D.int)) figures_here2) from pv_var 1 rfl) ?_
      refine ja_consC 4 rfl ?_
      refine ja_cons ?_
      refine cutW h (fun (q12 : Bool × List Int) => [.own (cL D.int q12.2), .dat ((eP2 (eT D.int) (eT D.int)) figures_here2), .dat (D.int ((figures_here2.1.length : Int))), .own (cL (eP2 D.int D.int) b9.2.1), .own (cL D.int b9.2.2), .dat (D.bl (decide (q7.1 = 0))), .no, .dat (D.int x10), .no, .no]) (fun q12 => D.bl q12.1) (fun h => ?_) (fun q12 h => ?_)
      · refine j_orV ?_
        refine J.pv (show Pv _ _ (D.bl (decide (q7.1 = 0))) from pv_var 5 rfl) ?_
        refine ⟨decide (q7.1 = 0), rfl, ?_⟩
        refine ite_c h (fun h => ?_) (fun h => ?_)
        · replace h := wp_o h
          exact ⟨(true, b9.1), rfl, rfl, h⟩
        · refine j_op ?_
          refine j_call1 ?_
          refine ja_consC 0 rfl ?_
          refine ja_cons ?_
          refine J.pv (show Pv _ _ (D.int (4)) from pv_c _) ?_
          refine ja_nil ⟨_, _, rfl, rfl, rfl, _, _, _, _, call__law_take b9.1 4, wp_use h (fun q11 h => ⟨(nlf rfl), ?_⟩) (fun _ _ h => fun _ => ⟨_, rfl, h _⟩)⟩
          refine J.pv (show Pv _ _ (D.int (0)) from pv_c _) ?_
          refine ⟨D.bl (decide (0 < q11.1)), (ev_gt q11.1 0), ?_⟩
          replace h := wp_o h
          exact ⟨(decide (0 < q11.1), q11.2), rfl, rfl, h⟩
      · as_aux_lemma =>
          refine ja_nil ⟨_, _, _, _, rfl, rfl, (by decide), rfl, rfl, _, _, _, _, _, call__law_drawn_round q12.2 figures_here2 b9.2.2 q12.1, wp_use h (fun q13 h => ⟨(nlf rfl), ?_⟩) (fun _ _ h => fun _ _ => ⟨_, rfl, h _⟩)⟩
          refine js_seq ?_
          refine js_if ?_
          refine J.pv (pb_not (pb_tru (show Pv _ _ ((eL (eP2 D.int D.int)) q13.1) from pv_var 8 rfl) (tr_L _ _))) ?_
          refine ite_c h (fun h => ?_) (fun h => ?_)
          · refine js_break ?_
            replace h := wp_o h
            exact ⟨(q13.2.1, b9.2.1, q13.2.2), (by repeat (first | exact Le.nil | refine Le.keep ?_ | refine Le.drop ?_)), h⟩
          · as_aux_lemma =>
              refine js_next ?_
              refine js_norm [.own (cL D.int q13.2.1), .dat ((eP2 (eT D.int) (eT D.int)) figures_here2), .dat (D.int ((figures_here2.1.length : Int))), .own (cL (eP2 D.int D.int) b9.2.1), .own (cL D.int q13.2.2), .dat (D.bl (decide (q7.1 = 0))), .no, .dat (D.int x10), .dat ((eL (eP2 D.int D.int)) q13.1), .no] rfl ?_
              refine js_for ?_
              refine J.pv (Rv.pv (e := List.map (eP2 D.int D.int)) (v := q13.1) (Rv.eq (ri_iter (e := (eP2 D.int D.int)) (f := fun v => v) (sq_L _) (Pv.rv (e := (eL (eP2 D.int D.int))) (v := q13.1) (show Pv _ _ ((eL (eP2 D.int D.int)) q13.1) from pv_var 8 rfl))) ok_bnd)) ?_
              rw [wp_bnd] at h
              refine a_forR (eP2 D.int D.int) (fun (b14 : (List (Int × Int)) × (List Int)) => [.own (cL D.int q13.2.1), .dat ((eP2 (eT D.int) (eT D.int)) figures_here2), .dat (D.int ((figures_here2.1.length : Int))), .own (cL (eP2 D.int D.int) b14.1), .own (cL D.int b14.2), .dat (D.bl (decide (q7.1 = 0))), .no, .dat (D.int x10), .dat ((eL (eP2 D.int D.int)) q13.1), .no]) ?_ ?_ _ _ _ (by repeat (first | exact Le.nil | refine Le.keep ?_ | refine Le.drop ?_)) h
              · as_aux_lemma =>
                  intro b14 x15 Q h
                  refine jg_tup rfl ?_
                  refine jgs_cons ?_
                  refine jg_name rfl ?_
                  refine jgs_cons ?_
                  refine jg_name rfl ?_
                  refine jgs_nil ?_
                  refine js_seq ?_
                  refine js_setIx ?_
                  refine J.pv (Rv.pv (e := (eP2 D.int D.int)) (v := (x10, x15.2)) (Rv.eq (rv_t2 (Pv.rv (e := D.int) (v := x10) (show Pv _ _ (D.int x10) from pv_var 7 rfl)) (Pv.rv (e := D.int) (v := x15.2) (show Pv _ _ (D.int x15.2) from pv_var 9 rfl))) (ok_bnd.trans ok_bnd))) ?_
                  refine ⟨_, rfl, ?_⟩
                  refine J.pv (show Pv _ _ (D.int x15.1) from pv_var 6 rfl) ?_
                  obtain ⟨row16, i_, hi_, hs_, h⟩ := setR_use (ea := (eP2 D.int D.int)) h
                  refine ⟨_, _, i_, rfl, rfl, hi_, (nlf rfl), ?_⟩
                  rw [hs_]
                  refine js_drop ?_
                  refine j_meth1 4 rfl ?_
                  refine J.pv (show Pv _ _ (D.int x15.1) from pv_var 6 rfl) ?_
                  refine ⟨_, rfl, m_remove (wp_use h (fun left17 h => ⟨(nlf rfl), ?_⟩) (fun _ _ h => h))⟩
                  replace h := wp_o h
                  exact ⟨(row16, left17), (by repeat (first | exact Le.nil | refine Le.keep ?_ | refine Le.drop ?_)), h⟩
              · intro b18 h
                replace h := wp_o h
                exact ⟨(q13.2.1, b18.1, b18.2), (by repeat (first | exact Le.nil | refine Le.keep ?_ | refine Le.drop ?_)), h⟩
    · intro b19 h
      rw [on_nx] at h
      refine js_freeze rfl rfl ?_
      refine js_ret ?_
      refine J.pv (Rv.pv (e := (eT (eP2 D.int D.int))) (v := b19.2.1) (Rv.eq (rv_cb1 (e := (eT (eP2 D.int D.int))) (Pv.rv (e := (eL (eP2 D.int D.int))) (v := b19.2.1) (show Pv _ _ ((eL (eP2 D.int D.int)) b19.2.1) from pv_var 3 rfl)) fun v => cb_tupL (eP2 D.int D.int) v) ok_bnd)) ?_
      replace h := wp_o h
      exact ⟨_, rfl, h⟩
    · intro v20 d A' hr h
      rw [on_rt] at h
      obtain ⟨hr, hc0⟩ := hr
      subst hr
      replace h := wp_o h
      exact ⟨_, hc0, h⟩
  · intro x5
    refine jg_name rfl ?_
    exact ⟨(by repeat (first | exact Keep.nil | refine Keep.own ?_ | refine Keep.dat ?_ | refine Keep.no ?_)), pv_yes, (show Pv _ _ (D.int x5) from pv_var 6 rfl)⟩
def td__law_rounds : TSd :=
  dRet (dCB rMax1D (dCons (dF (dLc (dIter (dVar 0)) (dgName 1) (dYes) (dOp rIxD (dVar 1) (dC (.int 0))) [1])) (dNil)))
abbrev N__law_rounds : List Str := ["_law_cup_here", "_law_pair"]
theorem math__law_rounds : ∀ xs M P PX, sp__law_rounds xs M P PX → td__law_rounds (startS N__law_rounds xs M) (endE M.length P) (endX M.length PX) := by
  rintro xs M P PX ⟨cup_here1, rfl, rfl, h⟩
  refine start0 (ds := [(eT (eP2 D.int D.int)) cup_here1]) [.dat ((eT (eP2 D.int D.int)) cup_here1), .no] rfl ?_
  unfold td__law_rounds
  unfold m__law_rounds at h
  refine js_ret ?_
  refine j_cb (ja_cons ?_)
  refine j_f ?_
  refine j_lc ?_
  refine J.pv (Rv.pv (e := List.map (eP2 D.int D.int)) (v := cup_here1) (Rv.eq (ri_iter (e := (eP2 D.int D.int)) (f := fun v => v) (sq_T _) (Pv.rv (e := (eT (eP2 D.int D.int))) (v := cup_here1) (show Pv _ _ ((eT (eP2 D.int D.int)) cup_here1) from pv_var 0 rfl))) ok_bnd)) ?_
  refine al_M (f := fun (x2 : Int × Int) => x2.1) (eP2 D.int D.int) D.int rfl (Tc.name (by decide)) rfl (wp_use h (fun l3 h => ?_) (fun _ _ h => h)) ?_
  · obtain ⟨v4, hv, h⟩ := CbR.use (e := D.int) (cb_max l3) h (by first | exact maxR_ne | exact minR_ne | exact minRowR_ne | exact lenDR_ne _)
    refine ja_nil ⟨_, _, rfl, hv, ?_⟩
    replace h := wp_o h
    exact h
  · intro x2
    refine jg_name rfl ?_
    exact ⟨(by repeat (first | exact Keep.nil | refine Keep.own ?_ | refine Keep.dat ?_ | refine Keep.no ?_)), pv_yes, (show Pv _ _ (D.int x2.1) from pv_op (show Pv _ _ ((eP2 D.int D.int) x2) from pv_var 1 rfl) (show Pv _ _ (D.int (0)) from pv_c _) (ev_p20 D.int D.int x2))⟩
def td__law_letters : TSd :=
  dSeq (dPar 1 2 (dConsF (dLst (dNil)) (dCons (dCall sp__law_rounds (dCons (dVar 0) (dNil))) (dNil))))
  (dSeq (dFor (dRange1 (dCons (dCB rLenD (dCons (dVar 0) (dNil))) (dNil))) (dgName 3) (dSeq (dSet 4 (dIf (dT (dOp rGtD (dOp rIxD (dOp rIxD (dVar 0) (dVar 3)) (dC (.int 0))) (dC (.int 0)))) (dOp rIxD (dOp rIxD (dVar 0) (dVar 3)) (dC (.int 0))) (dVar 2)))
  (dSeq (dSetF 5 (dLc (dRange2 (dCons (dC (.int 1)) (dCons (dOp rAddD (dVar 4) (dC (.int 1))) (dNil)))) (dgName 6) (dYes) (dCB rLenD (dCons (dF (dLc (dRange1 (dCons (dCB rLenD (dCons (dVar 0) (dNil))) (dNil))) (dgName 7) (dT (dOp rEqD' (dOp rIxD (dVar 0) (dVar 7)) (dTup (dCons (dVar 6) (dCons (dVar 3) (dNil)))))) (dVar 7) [7])) (dNil))) [6]))
  (dSeq (dIfS (dT (dOp rGtD (dOp rIxD (dOp rIxD (dVar 0) (dVar 3)) (dC (.int 0))) (dC (.int 0)))) (dSetIx 5 (dUn rNegD (dC (.int 1))) (dUn rNegD (dC (.int 1)))) (dNext))
  (dFreeze 5 (dDrop (dMeth1 1 fAppend (dCB rTupD (dCons (dVar 5) (dNil))))))))))
  (dFreeze 1 (dRet (dCB rTupD (dCons (dVar 1) (dNil))))))
abbrev N__law_letters : List Str := ["_law_cup_here", "_law_rows", "_law_top", "_law_x", "_law_last", "_law_row", "_law_r", "_law_z"]
theorem math__law_letters : ∀ xs M P PX, sp__law_letters xs M P PX → td__law_letters (startS N__law_letters xs M) (endE M.length P) (endX M.length PX) := by
  rintro xs M P PX ⟨cup_here1, rfl, rfl, h⟩
  refine start0 (ds := [(eT (eP2 D.int D.int)) cup_here1]) [.dat ((eT (eP2 D.int D.int)) cup_here1), .no, .no, .no, .no, .no, .no, .no] rfl ?_
  unfold td__law_letters
  unfold m__law_letters at h
  refine js_seq ?_
  refine js_par rfl rfl ?_
  refine ja_consF ?_
  refine J.pv (Rv.pv (e := List.map (eT D.int)) (v := []) (rv_l0 (e := (eT D.int)))) ?_
  refine ⟨(nlf rfl), ?_⟩
  refine ja_cons ?_
  refine J.use h (rv_call1 (Pv.rv (e := (eT (eP2 D.int D.int))) (v := cup_here1) (show Pv _ _ ((eT (eP2 D.int D.int)) cup_here1) from pv_var 0 rfl)) fun a0 => call__law_rounds a0) (by first | (simp only [bnd_bnd, ok_bnd]; done) | rfl) (fun v3 h => ?_) (fun _ _ h => h)
  refine ja_nil ⟨_, _, _, _, rfl, rfl, rfl, ?_⟩
  refine js_seq ?_
  refine js_for ?_
  refine J.use h (ri_range1 (Pv.rv (e := D.int) (v := (cup_here1.length : Int)) (Rv.pv (e := D.int) (v := (cup_here1.length : Int)) (Rv.eq (rv_cb1 (e := D.int) (Pv.rv (e := (eT (eP2 D.int D.int))) (v := cup_here1) (show Pv _ _ ((eT (eP2 D.int D.int)) cup_here1) from pv_var 0 rfl)) fun v => cb_lenT (eP2 D.int D.int) v) ok_bnd)))) (by first | (simp only [bnd_bnd, ok_bnd]; done) | rfl) (fun xs4 h => ?_) (fun _ _ h => h)
  rw [wp_bnd] at h
  refine a_forR D.int (fun (b5 : (List (List Int))) => [.dat ((eT (eP2 D.int D.int)) cup_here1), .own (cL (eT D.int) b5), .dat (D.int v3), .no, .no, .no, .no, .no]) ?_ ?_ _ _ _ (by repeat (first | exact Le.nil | refine Le.keep ?_ | refine Le.drop ?_)) h
  · as_aux_lemma =>
      intro b5 x6 Q h
      refine jg_name rfl ?_
      refine js_seq ?_
      refine js_set rfl ?_
      refine J.use h (rv_if (e := D.int) (rb_t (rv_rp (e := D.bl) (rv_rp (e := D.int) (rv_pp (e := (eP2 D.int D.int)) (show Pv _ _ ((eT (eP2 D.int D.int)) cup_here1) from pv_var 0 rfl) (show Pv _ _ (D.int x6) from pv_var 3 rfl) (op_ixT (eP2 D.int D.int) cup_here1 x6)) (show Pv _ _ (D.int (0)) from pv_c _) fun v7 => (opr_ok (e := D.int) (ev_p20 D.int D.int v7))) (show Pv _ _ (D.int (0)) from pv_c _) fun v8 => (opr_ok (e := D.bl) (ev_gt v8 0)))) (rv_rp (e := D.int) (rv_pp (e := (eP2 D.int D.int)) (show Pv _ _ ((eT (eP2 D.int D.int)) cup_here1) from pv_var 0 rfl) (show Pv _ _ (D.int x6) from pv_var 3 rfl) (op_ixT (eP2 D.int D.int) cup_here1 x6)) (show Pv _ _ (D.int (0)) from pv_c _) fun v9 => (opr_ok (e := D.int) (ev_p20 D.int D.int v9))) (Pv.rv (e := D.int) (v := v3) (show Pv _ _ (D.int v3) from pv_var 2 rfl))) (by first | (simp only [bnd_bnd, ok_bnd]; done) | rfl) (fun v11 h => ?_) (fun _ _ h => h)
      refine js_norm [.dat ((eT (eP2 D.int D.int)) cup_here1), .own (cL (eT D.int) b5), .dat (D.int v3), .dat (D.int x6), .dat (D.int v11), .no, .no, .no] rfl ?_
      refine js_seq ?_
      refine js_setF rfl ?_
      refine j_lc ?_
      refine J.use h (ri_range2 (Pv.rv (e := D.int) (v := 1) (show Pv _ _ (D.int (1)) from pv_c _)) (Pv.rv (e := D.int) (v := v11 + 1) (show Pv _ _ (D.int (v11 + 1)) from pv_op (show Pv _ _ (D.int v11) from pv_var 4 rfl) (show Pv _ _ (D.int (1)) from pv_c _) (ev_add v11 1)))) (by first | (simp only [bnd_bnd, ok_bnd]; done) | rfl) (fun xs12 h => ?_) (fun _ _ h => h)
      refine al_B (st := ()) D.int D.int (fun (st14 : Unit) => [.dat ((eT (eP2 D.int D.int)) cup_here1), .own (cL (eT D.int) b5), .dat (D.int v3), .dat (D.int x6), .dat (D.int v11), .no, .no, .no]) rfl rfl (Tc.name (by decide)) (fun _ _ => by repeat (first | exact SameD.nil | refine SameD.own ?_ | refine SameD.same ?_)) (fun _ => rfl) (wp_use h (fun q20 h => ?_) (fun _ _ h => h)) ?_
      · as_aux_lemma =>
          refine ⟨(nlf rfl), ?_⟩
          refine js_midW h (fun (j25 : (List Int)) => [.dat ((eT (eP2 D.int D.int)) cup_here1), .own (cL (eT D.int) b5), .dat (D.int v3), .dat (D.int x6), .dat (D.int v11), .own (cL D.int j25), .no, .no]) (fun h => ?_) (fun j25 h => ?_)
          · as_aux_lemma =>
              refine js_if ?_
              refine J.use h (rb_t (rv_rp (e := D.bl) (rv_rp (e := D.int) (rv_pp (e := (eP2 D.int D.int)) (show Pv _ _ ((eT (eP2 D.int D.int)) cup_here1) from pv_var 0 rfl) (show Pv _ _ (D.int x6) from pv_var 3 rfl) (op_ixT (eP2 D.int D.int) cup_here1 x6)) (show Pv _ _ (D.int (0)) from pv_c _) fun v21 => (opr_ok (e := D.int) (ev_p20 D.int D.int v21))) (show Pv _ _ (D.int (0)) from pv_c _) fun v22 => (opr_ok (e := D.bl) (ev_gt v22 0)))) (by first | (simp only [bnd_bnd, ok_bnd]; done) | rfl) (fun v23 h => ?_) (fun _ _ h => h)
              refine ite_c h (fun h => ?_) (fun h => ?_)
              · as_aux_lemma =>
                  refine js_setIx ?_
                  refine J.pv (show Pv _ _ (D.int (-1)) from pv_un (show Pv _ _ (D.int (1)) from pv_c _) (ev_neg 1)) ?_
                  refine ⟨_, rfl, ?_⟩
                  refine J.pv (show Pv _ _ (D.int (-1)) from pv_un (show Pv _ _ (D.int (1)) from pv_c _) (ev_neg 1)) ?_
                  obtain ⟨row24, i_, hi_, hs_, h⟩ := setR_use (ea := D.int) h
                  refine ⟨_, _, i_, rfl, rfl, hi_, (nlf rfl), ?_⟩
                  rw [hs_]
                  replace h := wp_o h
                  exact ⟨row24, (by repeat (first | exact Le.nil | refine Le.keep ?_ | refine Le.drop ?_)), h⟩
              · refine js_next ?_
                replace h := wp_o h
                exact ⟨q20.1, (by repeat (first | exact Le.nil | refine Le.keep ?_ | refine Le.drop ?_)), h⟩
          · refine js_freeze rfl rfl ?_
            refine js_drop ?_
            refine j_meth1 1 rfl ?_
            refine J.pv (Rv.pv (e := (eT D.int)) (v := j25) (Rv.eq (rv_cb1 (e := (eT D.int)) (Pv.rv (e := (eL D.int)) (v := j25) (show Pv _ _ ((eL D.int) j25) from pv_var 5 rfl)) fun v => cb_tupL D.int v) ok_bnd)) ?_
            refine ⟨_, rfl, m_append (ea := (eT D.int)) (wp_use h (fun rows26 h => ⟨(nlf rfl), ?_⟩) (fun _ _ h => h))⟩
            replace h := wp_o h
            exact ⟨rows26, (by repeat (first | exact Le.nil | refine Le.keep ?_ | refine Le.drop ?_)), h⟩
      · as_aux_lemma =>
          intro st14 x15 Q h
          refine jg_name rfl ?_
          refine J.pv pv_yes ?_
          refine (if_pos rfl).mpr ?_
          refine j_cb (ja_cons ?_)
          refine j_f ?_
          refine j_lc ?_
          refine J.use h (ri_range1 (Pv.rv (e := D.int) (v := (cup_here1.length : Int)) (Rv.pv (e := D.int) (v := (cup_here1.length : Int)) (Rv.eq (rv_cb1 (e := D.int) (Pv.rv (e := (eT (eP2 D.int D.int))) (v := cup_here1) (show Pv _ _ ((eT (eP2 D.int D.int)) cup_here1) from pv_var 0 rfl)) fun v => cb_lenT (eP2 D.int D.int) v) ok_bnd)))) (by first | (simp only [bnd_bnd, ok_bnd]; done) | rfl) (fun xs16 h => ?_) (fun _ _ h => h.elim)
          refine al_R (t := fun (x17 : Int) => (ixR cup_here1 x17).bnd fun v18 => Res.ok (decide (v18 = (x15, x6)))) (f := fun (x17 : Int) => Res.ok x17) D.int D.int rfl (Tc.name (by decide)) rfl (wp_use h (fun l19 h => ?_) (fun _ _ h => h)) ?_
          · refine ja_nil ⟨_, D.int ((l19.length : Int)), rfl, CbR.ev (e := D.int) (cb_lenL D.int l19), ?_⟩
            replace h := wp_o h
            exact ⟨(l19.length : Int), (), rfl, (by repeat (first | exact Keep.nil | refine Keep.own ?_ | refine Keep.dat ?_ | refine Keep.no ?_)), h⟩
          · intro x17
            refine jg_name rfl ?_
            exact ⟨(by repeat (first | exact Keep.nil | refine Keep.own ?_ | refine Keep.dat ?_ | refine Keep.no ?_)), (Rv.eq (rb_t (rv_rp (e := D.bl) (rv_pp (e := (eP2 D.int D.int)) (show Pv _ _ ((eT (eP2 D.int D.int)) cup_here1) from pv_var 0 rfl) (show Pv _ _ (D.int x17) from pv_var 7 rfl) (op_ixT (eP2 D.int D.int) cup_here1 x17)) (Rv.pv (e := (eP2 D.int D.int)) (v := (x15, x6)) (Rv.eq (rv_t2 (Pv.rv (e := D.int) (v := x15) (show Pv _ _ (D.int x15) from pv_var 6 rfl)) (Pv.rv (e := D.int) (v := x6) (show Pv _ _ (D.int x6) from pv_var 3 rfl))) (ok_bnd.trans ok_bnd))) fun v18 => (opr_ok (e := D.bl) (ev_eq (eq_P2 (eq_I 0) (eq_I 0)) (by decide) v18 ((x15, x6)))))) (by first | (simp only [bnd_bnd, ok_bnd]; done) | rfl)), (Pv.rv (e := D.int) (v := x17) (show Pv _ _ (D.int x17) from pv_var 7 rfl))⟩
  · intro b27 h
    refine js_norm [.dat ((eT (eP2 D.int D.int)) cup_here1), .own (cL (eT D.int) b27), .dat (D.int v3), .no, .no, .no, .no, .no] rfl ?_
    refine js_freeze rfl rfl ?_
    refine js_ret ?_
    refine J.pv (Rv.pv (e := (eT (eT D.int))) (v := b27) (Rv.eq (rv_cb1 (e := (eT (eT D.int))) (Pv.rv (e := (eL (eT D.int))) (v := b27) (show Pv _ _ ((eL (eT D.int)) b27) from pv_var 1 rfl)) fun v => cb_tupL (eT D.int) v) ok_bnd)) ?_
    replace h := wp_o h
    exact h
def td__law_due : TSd :=
  dSeq (dIfS (dNot (dT (dChain rLeD rLeD (dC (.int 1)) (dCB rLenD (dCons (dVar 0) (dNil))) (dC (.int 32))))) (dRet (dTup (dCons (dC (.str "size")) (dCons (dCB rLenD (dCons (dVar 0) (dNil))) (dNil))))) (dNext))
  (dSeq (dFor (dRange1 (dCons (dCB rLenD (dCons (dVar 0) (dNil))) (dNil))) (dgName 1) (dFor (dRange1 (dCons (dCB rLenD (dCons (dOp rIxD (dVar 0) (dVar 1)) (dNil))) (dNil))) (dgName 2) (dIfS (dOr (dNot (dT (dChain rLeD rLeD (dUn rNegD (dC (.int 1))) (dOp rIxD (dOp rIxD (dVar 0) (dVar 1)) (dVar 2)) (dC (.int 1))))) (dT (dOp (rInD' false) (dUn rNegD (dC (.int 1))) (dSl (dOp rIxD (dVar 0) (dVar 1)) (dNoPart) (dPart (dVar 2)))))) (dRet (dTup (dCons (dC (.str "record")) (dCons (dTup (dCons (dVar 1) (dCons (dVar 2) (dNil)))) (dNil))))) (dNext))))
  (dSeq (dSet 3 (dCB rMax1D (dCons (dF (dLc (dIter (dVar 0)) (dgName 4) (dYes) (dCB rLenD (dCons (dVar 4) (dNil))) [4])) (dNil))))
  (dSeq (dFor (dRange1 (dCons (dCB rLenD (dCons (dVar 0) (dNil))) (dNil))) (dgName 1) (dIfS (dAnd (dT (dOp (rInD' true) (dUn rNegD (dC (.int 1))) (dOp rIxD (dVar 0) (dVar 1)))) (dT (dOp rLtD (dCB rLenD (dCons (dOp rIxD (dVar 0) (dVar 1)) (dNil))) (dVar 3)))) (dRet (dTup (dCons (dC (.str "record")) (dCons (dTup (dCons (dVar 1) (dCons (dUn rNegD (dC (.int 1))) (dNil)))) (dNil))))) (dNext)))
  (dSeq (dFor (dRange1 (dCons (dVar 3) (dNil))) (dgName 5) (dSeq (dSet 6 (dF (dLc (dIter (dVar 0)) (dgName 4) (dT (dOp rGtD (dCB rLenD (dCons (dVar 4) (dNil))) (dVar 5))) (dOp rIxD (dVar 4) (dVar 5)) [4])))
  (dIfS (dOr (dT (dOp (rInD' true) (dUn rNegD (dC (.int 1))) (dVar 6))) (dT (dOp rNeD' (dBM1 rCountD (dVar 6) (dC (.int 1))) (dBM1 rCountD (dVar 6) (dUn rNegD (dC (.int 1))))))) (dRet (dTup (dCons (dC (.str "rounds")) (dCons (dOp rAddD (dVar 5) (dC (.int 1))) (dNil))))) (dNext))))
  (dRet (dTup (dCons (dC (.str "rows")) (dCons (dVar 0) (dNil)))))))))
abbrev N__law_due : List Str := ["_law_rows", "_law_x", "_law_i", "_law_longest", "_law_row", "_law_r", "_law_letters_here"]
theorem math__law_due : ∀ xs M P PX, sp__law_due xs M P PX → td__law_due (startS N__law_due xs M) (endE M.length P) (endX M.length PX) := by
  rintro xs M P PX ⟨rows1, rfl, rfl, h⟩
  refine start0 (ds := [(eT (eT D.int)) rows1]) [.dat ((eT (eT D.int)) rows1), .no, .no, .no, .no, .no, .no] rfl ?_
  unfold td__law_due
  unfold m__law_due at h
  refine js_seq ?_
  refine js_if ?_
  refine J.pv (pb_not (pb_t (pv_chain (show Pv _ _ (D.int (1)) from pv_c _) (Rv.pv (e := D.int) (v := (rows1.length : Int)) (Rv.eq (rv_cb1 (e := D.int) (Pv.rv (e := (eT (eT D.int))) (v := rows1) (show Pv _ _ ((eT (eT D.int)) rows1) from pv_var 0 rfl)) fun v => cb_lenT (eT D.int) v) ok_bnd)) (show Pv _ _ (D.int (32)) from pv_c _) (ev_le 1 ((rows1.length : Int))) (ev_le ((rows1.length : Int)) 32)))) ?_
  refine ite_c h (fun h => ?_) (fun h => ?_)
  · refine js_ret ?_
    refine J.pv (show Pv _ _ ((eP2 eW id) (((((wd "size"), (rows1.length : Int))).1, D.int ((((wd "size"), (rows1.length : Int))).2)))) from (Rv.pv (e := (eP2 eW D.int)) (v := ((wd "size"), (rows1.length : Int))) (Rv.eq (rv_t2 (Pv.rv (e := eW) (v := (wd "size")) (show Pv _ _ (eW (wd "size")) from pv_c _)) (Pv.rv (e := D.int) (v := (rows1.length : Int)) (Rv.pv (e := D.int) (v := (rows1.length : Int)) (Rv.eq (rv_cb1 (e := D.int) (Pv.rv (e := (eT (eT D.int))) (v := rows1) (show Pv _ _ ((eT (eT D.int)) rows1) from pv_var 0 rfl)) fun v => cb_lenT (eT D.int) v) ok_bnd)))) (ok_bnd.trans ok_bnd)))) ?_
    replace h := wp_o h
    exact h
  · as_aux_lemma =>
      refine js_next ?_
      refine js_seq ?_
      refine js_for ?_
      refine J.use h (ri_range1 (Pv.rv (e := D.int) (v := (rows1.length : Int)) (Rv.pv (e := D.int) (v := (rows1.length : Int)) (Rv.eq (rv_cb1 (e := D.int) (Pv.rv (e := (eT (eT D.int))) (v := rows1) (show Pv _ _ ((eT (eT D.int)) rows1) from pv_var 0 rfl)) fun v => cb_lenT (eT D.int) v) ok_bnd)))) (by first | (simp only [bnd_bnd, ok_bnd]; done) | rfl) (fun xs2 h => ?_) (fun _ _ h => h)
      rw [wp_bnd] at h
      refine a_forS D.int (fun (b3 : Unit) => [.dat ((eT (eT D.int)) rows1), .no, .no, .no, .no, .no, .no]) (fun (v : Wd × D) d A' => d = (eP2 eW id) v) ?_ ?_ ?_ _ _ _ (by repeat (first | exact Le.nil | refine Le.keep ?_ | refine Le.drop ?_)) h
      · as_aux_lemma =>
          intro b3 x4 Q h
          refine jg_name rfl ?_
          refine js_for ?_
          refine J.use h (ri_range1 (rv_cb1 (e := D.int) (rv_pp (e := (eT D.int)) (show Pv _ _ ((eT (eT D.int)) rows1) from pv_var 0 rfl) (show Pv _ _ (D.int x4) from pv_var 1 rfl) (op_ixT (eT D.int) rows1 x4)) fun v => cb_lenT D.int v)) (by first | (simp only [bnd_bnd, ok_bnd]; done) | rfl) (fun xs7 h => ?_) (fun _ _ h => h)
          rw [wp_bnd] at h
          refine a_forS D.int (fun (b8 : Unit) => [.dat ((eT (eT D.int)) rows1), .dat (D.int x4), .no, .no, .no, .no, .no]) (fun (v : Wd × D) d A' => d = (eP2 eW id) v) ?_ ?_ ?_ _ _ _ (by repeat (first | exact Le.nil | refine Le.keep ?_ | refine Le.drop ?_)) h
          · as_aux_lemma =>
              intro b8 x9 Q h
              refine jg_name rfl ?_
              refine js_if ?_
              refine J.use h (rb_or (rb_not (rb_t (rv_chain (f := fun i j => decide (i ≤ j)) (g := fun i j => decide (i ≤ j)) (Pv.rv (e := D.int) (v := -1) (show Pv _ _ (D.int (-1)) from pv_un (show Pv _ _ (D.int (1)) from pv_c _) (ev_neg 1))) (rv_rp (e := D.int) (rv_pp (e := (eT D.int)) (show Pv _ _ ((eT (eT D.int)) rows1) from pv_var 0 rfl) (show Pv _ _ (D.int x4) from pv_var 1 rfl) (op_ixT (eT D.int) rows1 x4)) (show Pv _ _ (D.int x9) from pv_var 2 rfl) fun v10 => (op_ixT D.int v10 x9)) (Pv.rv (e := D.int) (v := 1) (show Pv _ _ (D.int (1)) from pv_c _)) (fun i j => ev_le i j) (fun i j => ev_le i j)))) (rb_t (rv_pr (e := D.bl) (show Pv _ _ (D.int (-1)) from pv_un (show Pv _ _ (D.int (1)) from pv_c _) (ev_neg 1)) (rv_sl (ct_T D.int) (rv_pp (e := (eT D.int)) (show Pv _ _ ((eT (eT D.int)) rows1) from pv_var 0 rfl) (show Pv _ _ (D.int x4) from pv_var 1 rfl) (op_ixT (eT D.int) rows1 x4)) ro_none (ro_some (Pv.rv (e := D.int) (v := x9) (show Pv _ _ (D.int x9) from pv_var 2 rfl)))) fun v13 => (opr_ok (e := D.bl) (ev_inT (eq_I 0) flat_I false (-1) v13))))) (by first | (simp only [bnd_bnd, ok_bnd]; done) | rfl) (fun v14 h => ?_) (fun _ _ h => h)
              refine ite_c h (fun h => ?_) (fun h => ?_)
              · refine js_ret ?_
                refine J.pv (show Pv _ _ ((eP2 eW id) (((((wd "record"), (x4, x9))).1, (eP2 D.int D.int) ((((wd "record"), (x4, x9))).2)))) from (Rv.pv (e := (eP2 eW (eP2 D.int D.int))) (v := ((wd "record"), (x4, x9))) (Rv.eq (rv_t2 (Pv.rv (e := eW) (v := (wd "record")) (show Pv _ _ (eW (wd "record")) from pv_c _)) (Pv.rv (e := (eP2 D.int D.int)) (v := (x4, x9)) (Rv.pv (e := (eP2 D.int D.int)) (v := (x4, x9)) (Rv.eq (rv_t2 (Pv.rv (e := D.int) (v := x4) (show Pv _ _ (D.int x4) from pv_var 1 rfl)) (Pv.rv (e := D.int) (v := x9) (show Pv _ _ (D.int x9) from pv_var 2 rfl))) (ok_bnd.trans ok_bnd))))) (ok_bnd.trans ok_bnd)))) ?_
                replace h := wp_o h
                exact ⟨((((wd "record"), (x4, x9))).1, (eP2 D.int D.int) ((((wd "record"), (x4, x9))).2)), rfl, h⟩
              · refine js_next ?_
                replace h := wp_o h
                exact ⟨(), (by repeat (first | exact Le.nil | refine Le.keep ?_ | refine Le.drop ?_)), h⟩
          · intro b15 h
            rw [on_nx] at h
            replace h := wp_o h
            exact ⟨(), (by repeat (first | exact Le.nil | refine Le.keep ?_ | refine Le.drop ?_)), h⟩
          · intro v16 d A' hr h
            rw [on_rt] at h
            replace h := wp_o h
            exact ⟨v16, hr, h⟩
      · as_aux_lemma =>
          intro b18 h
          rw [on_nx] at h
          refine js_norm [.dat ((eT (eT D.int)) rows1), .no, .no, .no, .no, .no, .no] rfl ?_
          refine js_seq ?_
          refine js_set rfl ?_
          refine j_cb (ja_cons ?_)
          refine j_f ?_
          refine j_lc ?_
          refine J.pv (Rv.pv (e := List.map (eT D.int)) (v := rows1) (Rv.eq (ri_iter (e := (eT D.int)) (f := fun v => v) (sq_T _) (Pv.rv (e := (eT (eT D.int))) (v := rows1) (show Pv _ _ ((eT (eT D.int)) rows1) from pv_var 0 rfl))) ok_bnd)) ?_
          refine al_M (f := fun (x19 : List Int) => (x19.length : Int)) (eT D.int) D.int rfl (Tc.name (by decide)) rfl (wp_use h (fun l20 h => ?_) (fun _ _ h => h)) ?_
          · as_aux_lemma =>
              obtain ⟨v21, hv, h⟩ := CbR.use (e := D.int) (cb_max l20) h (by first | exact maxR_ne | exact minR_ne | exact minRowR_ne | exact lenDR_ne _)
              refine ja_nil ⟨_, _, rfl, hv, ?_⟩
              refine js_seq ?_
              refine js_for ?_
              refine J.use h (ri_range1 (Pv.rv (e := D.int) (v := (rows1.length : Int)) (Rv.pv (e := D.int) (v := (rows1.length : Int)) (Rv.eq (rv_cb1 (e := D.int) (Pv.rv (e := (eT (eT D.int))) (v := rows1) (show Pv _ _ ((eT (eT D.int)) rows1) from pv_var 0 rfl)) fun v => cb_lenT (eT D.int) v) ok_bnd)))) (by first | (simp only [bnd_bnd, ok_bnd]; done) | rfl) (fun xs22 h => ?_) (fun _ _ h => h)
              rw [wp_bnd] at h
              refine a_forS D.int (fun (b23 : Unit) => [.dat ((eT (eT D.int)) rows1), .no, .no, .dat (D.int v21), .no, .no, .no]) (fun (v : Wd × D) d A' => d = (eP2 eW id) v) ?_ ?_ ?_ _ _ _ (by repeat (first | exact Le.nil | refine Le.keep ?_ | refine Le.drop ?_)) h
              · as_aux_lemma =>
                  intro b23 x24 Q h
                  refine jg_name rfl ?_
                  refine js_if ?_
                  refine J.use h (rb_and (rb_t (rv_pr (e := D.bl) (show Pv _ _ (D.int (-1)) from pv_un (show Pv _ _ (D.int (1)) from pv_c _) (ev_neg 1)) (rv_pp (e := (eT D.int)) (show Pv _ _ ((eT (eT D.int)) rows1) from pv_var 0 rfl) (show Pv _ _ (D.int x24) from pv_var 1 rfl) (op_ixT (eT D.int) rows1 x24)) fun v25 => (opr_ok (e := D.bl) (ev_inT (eq_I 0) flat_I true (-1) v25)))) (rb_t (rv_rp (e := D.bl) (rv_cb1 (e := D.int) (rv_pp (e := (eT D.int)) (show Pv _ _ ((eT (eT D.int)) rows1) from pv_var 0 rfl) (show Pv _ _ (D.int x24) from pv_var 1 rfl) (op_ixT (eT D.int) rows1 x24)) fun v => cb_lenT D.int v) (show Pv _ _ (D.int v21) from pv_var 3 rfl) fun v27 => (opr_ok (e := D.bl) (ev_lt v27 v21))))) (by first | (simp only [bnd_bnd, ok_bnd]; done) | rfl) (fun v28 h => ?_) (fun _ _ h => h)
                  refine ite_c h (fun h => ?_) (fun h => ?_)
                  · refine js_ret ?_
                    refine J.pv (show Pv _ _ ((eP2 eW id) (((((wd "record"), (x24, -1))).1, (eP2 D.int D.int) ((((wd "record"), (x24, -1))).2)))) from (Rv.pv (e := (eP2 eW (eP2 D.int D.int))) (v := ((wd "record"), (x24, -1))) (Rv.eq (rv_t2 (Pv.rv (e := eW) (v := (wd "record")) (show Pv _ _ (eW (wd "record")) from pv_c _)) (Pv.rv (e := (eP2 D.int D.int)) (v := (x24, -1)) (Rv.pv (e := (eP2 D.int D.int)) (v := (x24, -1)) (Rv.eq (rv_t2 (Pv.rv (e := D.int) (v := x24) (show Pv _ _ (D.int x24) from pv_var 1 rfl)) (Pv.rv (e := D.int) (v := -1) (show Pv _ _ (D.int (-1)) from pv_un (show Pv _ _ (D.int (1)) from pv_c _) (ev_neg 1)))) (ok_bnd.trans ok_bnd))))) (ok_bnd.trans ok_bnd)))) ?_
                    replace h := wp_o h
                    exact ⟨((((wd "record"), (x24, -1))).1, (eP2 D.int D.int) ((((wd "record"), (x24, -1))).2)), rfl, h⟩
                  · refine js_next ?_
                    replace h := wp_o h
                    exact ⟨(), (by repeat (first | exact Le.nil | refine Le.keep ?_ | refine Le.drop ?_)), h⟩
              · as_aux_lemma =>
                  intro b29 h
                  rw [on_nx] at h
                  refine js_norm [.dat ((eT (eT D.int)) rows1), .no, .no, .dat (D.int v21), .no, .no, .no] rfl ?_
                  refine js_seq ?_
                  refine js_for ?_
                  refine J.use h (ri_range1 (Pv.rv (e := D.int) (v := v21) (show Pv _ _ (D.int v21) from pv_var 3 rfl))) (by first | (simp only [bnd_bnd, ok_bnd]; done) | rfl) (fun xs30 h => ?_) (fun _ _ h => h)
                  rw [wp_bnd] at h
                  refine a_forS D.int (fun (b31 : Unit) => [.dat ((eT (eT D.int)) rows1), .no, .no, .dat (D.int v21), .no, .no, .no]) (fun (v : Wd × D) d A' => d = (eP2 eW id) v) ?_ ?_ ?_ _ _ _ (by repeat (first | exact Le.nil | refine Le.keep ?_ | refine Le.drop ?_)) h
                  · as_aux_lemma =>
                      intro b31 x32 Q h
                      refine jg_name rfl ?_
                      refine js_seq ?_
                      refine js_set rfl ?_
                      refine j_f ?_
                      refine j_lc ?_
                      refine J.pv (Rv.pv (e := List.map (eT D.int)) (v := rows1) (Rv.eq (ri_iter (e := (eT D.int)) (f := fun v => v) (sq_T _) (Pv.rv (e := (eT (eT D.int))) (v := rows1) (show Pv _ _ ((eT (eT D.int)) rows1) from pv_var 0 rfl))) ok_bnd)) ?_
                      refine al_R (t := fun (x33 : List Int) => Res.ok (decide (x32 < ((x33.length : Int))))) (f := fun (x33 : List Int) => ixR x33 x32) (eT D.int) D.int rfl (Tc.name (by decide)) rfl (wp_use h (fun l34 h => ?_) (fun _ _ h => h)) ?_
                      · as_aux_lemma =>
                          refine js_if ?_
                          refine J.pv (pb_or (pb_t (show Pv _ _ (D.bl (true ^^ mem (-1) l34)) from pv_op (show Pv _ _ (D.int (-1)) from pv_un (show Pv _ _ (D.int (1)) from pv_c _) (ev_neg 1)) (show Pv _ _ ((eL D.int) l34) from pv_var 6 rfl) (ev_inL (eq_I 0) (by decide) true (-1) l34))) (pb_t (show Pv _ _ (D.bl (!decide ((l34.count 1 : Int) = (l34.count (-1) : Int)))) from pv_op (Rv.pv (e := D.int) (v := (l34.count 1 : Int)) (Rv.eq (rv_count (Pv.rv (e := (eL D.int)) (v := l34) (show Pv _ _ ((eL D.int) l34) from pv_var 6 rfl)) (Pv.rv (e := D.int) (v := 1) (show Pv _ _ (D.int (1)) from pv_c _))) (ok_bnd.trans ok_bnd))) (Rv.pv (e := D.int) (v := (l34.count (-1) : Int)) (Rv.eq (rv_count (Pv.rv (e := (eL D.int)) (v := l34) (show Pv _ _ ((eL D.int) l34) from pv_var 6 rfl)) (Pv.rv (e := D.int) (v := -1) (show Pv _ _ (D.int (-1)) from pv_un (show Pv _ _ (D.int (1)) from pv_c _) (ev_neg 1)))) (ok_bnd.trans ok_bnd))) (ev_ne (eq_I 0) (by decide) ((l34.count 1 : Int)) ((l34.count (-1) : Int)))))) ?_
                          refine ite_c h (fun h => ?_) (fun h => ?_)
                          · refine js_ret ?_
                            refine J.pv (show Pv _ _ ((eP2 eW id) (((((wd "rounds"), x32 + 1)).1, D.int ((((wd "rounds"), x32 + 1)).2)))) from (Rv.pv (e := (eP2 eW D.int)) (v := ((wd "rounds"), x32 + 1)) (Rv.eq (rv_t2 (Pv.rv (e := eW) (v := (wd "rounds")) (show Pv _ _ (eW (wd "rounds")) from pv_c _)) (Pv.rv (e := D.int) (v := x32 + 1) (show Pv _ _ (D.int (x32 + 1)) from pv_op (show Pv _ _ (D.int x32) from pv_var 5 rfl) (show Pv _ _ (D.int (1)) from pv_c _) (ev_add x32 1)))) (ok_bnd.trans ok_bnd)))) ?_
                            replace h := wp_o h
                            exact ⟨((((wd "rounds"), x32 + 1)).1, D.int ((((wd "rounds"), x32 + 1)).2)), rfl, h⟩
                          · refine js_next ?_
                            replace h := wp_o h
                            exact ⟨(), (by repeat (first | exact Le.nil | refine Le.keep ?_ | refine Le.drop ?_)), h⟩
                      · intro x33
                        refine jg_name rfl ?_
                        exact ⟨(by repeat (first | exact Keep.nil | refine Keep.own ?_ | refine Keep.dat ?_ | refine Keep.no ?_)), (Pv.rv (e := id) (v := decide (x32 < ((x33.length : Int)))) (pb_t (show Pv _ _ (D.bl (decide (x32 < ((x33.length : Int))))) from pv_op (Rv.pv (e := D.int) (v := (x33.length : Int)) (Rv.eq (rv_cb1 (e := D.int) (Pv.rv (e := (eT D.int)) (v := x33) (show Pv _ _ ((eT D.int) x33) from pv_var 4 rfl)) fun v => cb_lenT D.int v) ok_bnd)) (show Pv _ _ (D.int x32) from pv_var 5 rfl) (ev_gt ((x33.length : Int)) x32)))), (Rv.eq (rv_pp (e := D.int) (show Pv _ _ ((eT D.int) x33) from pv_var 4 rfl) (show Pv _ _ (D.int x32) from pv_var 5 rfl) (op_ixT D.int x33 x32)) (by first | (simp only [bnd_bnd, ok_bnd]; done) | rfl))⟩
                  · intro b35 h
                    rw [on_nx] at h
                    refine js_ret ?_
                    refine J.pv (show Pv _ _ ((eP2 eW id) (((((wd "rows"), rows1)).1, (eT (eT D.int)) ((((wd "rows"), rows1)).2)))) from (Rv.pv (e := (eP2 eW (eT (eT D.int)))) (v := ((wd "rows"), rows1)) (Rv.eq (rv_t2 (Pv.rv (e := eW) (v := (wd "rows")) (show Pv _ _ (eW (wd "rows")) from pv_c _)) (Pv.rv (e := (eT (eT D.int))) (v := rows1) (show Pv _ _ ((eT (eT D.int)) rows1) from pv_var 0 rfl))) (ok_bnd.trans ok_bnd)))) ?_
                    replace h := wp_o h
                    exact h
                  · intro v36 d A' hr h
                    rw [on_rt] at h
                    subst hr
                    replace h := wp_o h
                    exact h
              · intro v38 d A' hr h
                rw [on_rt] at h
                subst hr
                replace h := wp_o h
                exact h
          · intro x19
            refine jg_name rfl ?_
            exact ⟨(by repeat (first | exact Keep.nil | refine Keep.own ?_ | refine Keep.dat ?_ | refine Keep.no ?_)), pv_yes, (Rv.pv (e := D.int) (v := (x19.length : Int)) (Rv.eq (rv_cb1 (e := D.int) (Pv.rv (e := (eT D.int)) (v := x19) (show Pv _ _ ((eT D.int) x19) from pv_var 4 rfl)) fun v => cb_lenT D.int v) ok_bnd))⟩
      · intro v40 d A' hr h
        rw [on_rt] at h
        subst hr
        replace h := wp_o h
        exact h
def td__law_told : TSd :=
  dSeq (dTry LC_ (dSet 1 (dCall sp_made_records (dCons (dVar 0) (dNil)))) [(some 2, "BadSize", fun a dd => dRet (dTup (dCons (dC (.str "size")) (dCons (dWhat 2 a dd) (dNil))))), (some 2, "BadRecord", fun a dd => dRet (dTup (dCons (dC (.str "record")) (dCons (dWhat 2 a dd) (dNil))))), (some 2, "BadRounds", fun a dd => dRet (dTup (dCons (dC (.str "rounds")) (dCons (dWhat 2 a dd) (dNil))))), (none, "Refused", fun a dd => dRet (dTup (dCons (dC (.str "other")) (dCons (dC (.int 0)) (dNil)))))])
  (dRet (dTup (dCons (dC (.str "rows")) (dCons (dVar 1) (dNil)))))
abbrev N__law_told : List Str := ["_law_rows", "_law_told_here", "raised"]
theorem math__law_told : ∀ xs M P PX, sp__law_told xs M P PX → td__law_told (startS N__law_told xs M) (endE M.length P) (endX M.length PX) := by
  rintro xs M P PX ⟨rows1, rfl, rfl, h⟩
  refine start0 (ds := [(eT (eT D.int)) rows1]) [.dat ((eT (eT D.int)) rows1), .no, .no] rfl ?_
  unfold td__law_told
  unfold m__law_told at h
  refine js_midS h (fun (j5 : (List (List Int))) => [.dat ((eT (eT D.int)) rows1), .dat ((eT (eT D.int)) j5), .no]) (fun h => ?_) (fun j5 h => ?_)
  · as_aux_lemma =>
      refine js_tryW h rfl (fun c3 x4 h => hdl_in h (fun h => ?_)) (fun h => ?_)
      · as_aux_lemma =>
          refine hdl_c h (fun h => ⟨rfl, fun a dd => ?_⟩) (fun h => ?_)
          · dsimp only
            refine js_ret ?_
            refine J.pv (Rv.pv (e := (eP2 eW id)) (v := ((wd "size"), x4)) (Rv.eq (rv_t2 (Pv.rv (e := eW) (v := (wd "size")) (show Pv _ _ (eW (wd "size")) from pv_c _)) (Pv.rv (e := id) (v := x4) (show Pv _ _ (id x4) from j_what 2 rfl))) (ok_bnd.trans ok_bnd))) ?_
            replace h := wp_o h
            replace h := h
            rw [on_rt] at h
            replace h := wp_o h
            exact h
          · as_aux_lemma =>
              refine hdl_c h (fun h => ⟨rfl, fun a dd => ?_⟩) (fun h => ?_)
              · dsimp only
                refine js_ret ?_
                refine J.pv (Rv.pv (e := (eP2 eW id)) (v := ((wd "record"), x4)) (Rv.eq (rv_t2 (Pv.rv (e := eW) (v := (wd "record")) (show Pv _ _ (eW (wd "record")) from pv_c _)) (Pv.rv (e := id) (v := x4) (show Pv _ _ (id x4) from j_what 2 rfl))) (ok_bnd.trans ok_bnd))) ?_
                replace h := wp_o h
                replace h := h
                rw [on_rt] at h
                replace h := wp_o h
                exact h
              · as_aux_lemma =>
                  refine hdl_c h (fun h => ⟨rfl, fun a dd => ?_⟩) (fun h => ?_)
                  · dsimp only
                    refine js_ret ?_
                    refine J.pv (Rv.pv (e := (eP2 eW id)) (v := ((wd "rounds"), x4)) (Rv.eq (rv_t2 (Pv.rv (e := eW) (v := (wd "rounds")) (show Pv _ _ (eW (wd "rounds")) from pv_c _)) (Pv.rv (e := id) (v := x4) (show Pv _ _ (id x4) from j_what 2 rfl))) (ok_bnd.trans ok_bnd))) ?_
                    replace h := wp_o h
                    replace h := h
                    rw [on_rt] at h
                    replace h := wp_o h
                    exact h
                  · as_aux_lemma =>
                      refine hdl_c h (fun h => ⟨rfl, fun a dd => ?_⟩) (fun h => ?_)
                      · dsimp only
                        refine js_ret ?_
                        refine J.pv (show Pv _ _ ((eP2 eW id) (((((wd "other"), 0)).1, D.int ((((wd "other"), 0)).2)))) from (Rv.pv (e := (eP2 eW D.int)) (v := ((wd "other"), 0)) (Rv.eq (rv_t2 (Pv.rv (e := eW) (v := (wd "other")) (show Pv _ _ (eW (wd "other")) from pv_c _)) (Pv.rv (e := D.int) (v := 0) (show Pv _ _ (D.int (0)) from pv_c _))) (ok_bnd.trans ok_bnd)))) ?_
                        replace h := wp_o h
                        replace h := h
                        rw [on_rt] at h
                        replace h := wp_o h
                        exact h
                      · replace h := wp_e h
                        exact h
      · refine js_set rfl ?_
        refine J.use h (rv_call1 (Pv.rv (e := (eT (eT D.int))) (v := rows1) (show Pv _ _ ((eT (eT D.int)) rows1) from pv_var 0 rfl)) fun a0 => call_made_records a0) (by first | (simp only [bnd_bnd, ok_bnd]; done) | rfl) (fun v2 h => ?_) (fun _ _ h => ⟨h, (by repeat (first | exact Le.nil | refine Le.keep ?_ | refine Le.drop ?_))⟩)
        replace h := wp_o h
        replace h := h
        rw [on_nx] at h
        exact ⟨v2, (by repeat (first | exact Le.nil | refine Le.keep ?_ | refine Le.drop ?_)), h⟩
  · refine js_ret ?_
    refine J.pv (show Pv _ _ ((eP2 eW id) (((((wd "rows"), j5)).1, (eT (eT D.int)) ((((wd "rows"), j5)).2)))) from (Rv.pv (e := (eP2 eW (eT (eT D.int)))) (v := ((wd "rows"), j5)) (Rv.eq (rv_t2 (Pv.rv (e := eW) (v := (wd "rows")) (show Pv _ _ (eW (wd "rows")) from pv_c _)) (Pv.rv (e := (eT (eT D.int))) (v := j5) (show Pv _ _ ((eT (eT D.int)) j5) from pv_var 1 rfl))) (ok_bnd.trans ok_bnd)))) ?_
    replace h := wp_o h
    exact h
def td__law_bent : TSd :=
  dSeq (dSetF 2 (dLc (dIter (dVar 1)) (dgName 3) (dYes) (dVar 3) [3]))
  (dSeq (dFor (dRange1 (dCons (dOp rAddD (dC (.int 1)) (dCall sp__law_take (dConsC 0 (dCons (dC (.int 2)) (dNil))))) (dNil))) (dgName 4) (dSeq (dPar 5 6 (dCons (dCall sp__law_take (dConsC 0 (dCons (dCB rLenD (dConsC 2 (dNil))) (dNil)))) (dCons (dCall sp__law_one (dConsC 0 (dCons (dF (dLst (dCons (dC (.int 1)) (dCons (dC (.int 0)) (dCons (dUn rNegD (dC (.int 1))) (dCons (dUn rNegD (dC (.int 1))) (dCons (dC (.int 2)) (dCons (dUn rNegD (dC (.int 2))) (dCons (dOp rPowD (dC (.int 10)) (dC (.int 20))) (dNil)))))))))) (dNil)))) (dNil))))
  (dSeq (dPar 7 8 (dCons (dCall sp__law_take (dConsC 0 (dCons (dOp rAddD (dCB rLenD (dCons (dIxC 2 (dVar 5)) (dNil))) (dC (.int 1))) (dNil)))) (dCons (dCall sp__law_take (dConsC 0 (dCons (dC (.int 4)) (dNil)))) (dNil))))
  (dSeq (dIfS (dT (dOp rEqD' (dVar 8) (dC (.int 0)))) (dSetIx 2 (dVar 5) (dOp rAddD (dOp rAddD (dSl (dIxC 2 (dVar 5)) (dNoPart) (dPart (dVar 7))) (dTup (dCons (dVar 6) (dNil)))) (dSl (dIxC 2 (dVar 5)) (dPart (dOp rAddD (dVar 7) (dC (.int 1)))) (dNoPart)))) (dNext))
  (dSeq (dIfS (dT (dOp rEqD' (dVar 8) (dC (.int 1)))) (dSetIx 2 (dVar 5) (dOp rAddD (dOp rAddD (dSl (dIxC 2 (dVar 5)) (dNoPart) (dPart (dVar 7))) (dTup (dCons (dVar 6) (dNil)))) (dSl (dIxC 2 (dVar 5)) (dPart (dVar 7)) (dNoPart)))) (dNext))
  (dSeq (dIfS (dT (dOp rEqD' (dVar 8) (dC (.int 2)))) (dSetIx 2 (dVar 5) (dOp rAddD (dSl (dIxC 2 (dVar 5)) (dNoPart) (dPart (dVar 7))) (dSl (dIxC 2 (dVar 5)) (dPart (dOp rAddD (dVar 7) (dC (.int 1)))) (dNoPart)))) (dNext))
  (dIfS (dT (dOp rEqD' (dVar 8) (dC (.int 3)))) (dSeq (dSet 9 (dCall sp__law_take (dConsC 0 (dCons (dCB rLenD (dConsC 2 (dNil))) (dNil)))))
  (dAsgM (dTup (dCons (dIxC 2 (dVar 9)) (dCons (dIxC 2 (dVar 5)) (dNil)))) (dmTup 2 (dmsCons (dmSub 2 (dVar 5)) (dmsCons (dmSub 2 (dVar 9)) (dmsNil)))))) (dNext))))))))
  (dSeq (dSet 8 (dCall sp__law_take (dConsC 0 (dCons (dC (.int 8)) (dNil)))))
  (dSeq (dIfS (dT (dOp rEqD' (dVar 8) (dC (.int 0)))) (dDrop (dMeth1 2 fPopAt (dCall sp__law_take (dConsC 0 (dCons (dCB rLenD (dConsC 2 (dNil))) (dNil)))))) (dNext))
  (dSeq (dIfS (dT (dOp rEqD' (dVar 8) (dC (.int 1)))) (dDrop (dMeth1 2 fAppend (dLend 2 (dCall sp__law_one (dConsC 0 (dCons (dVar 2) (dNil))))))) (dNext))
  (dFreeze 2 (dRet (dCB rTupD (dCons (dVar 2) (dNil)))))))))
abbrev N__law_bent : List Str := ["_law_source", "_law_rows", "_law_new", "_law_row", "_law_turn", "_law_x", "_law_letter", "_law_at", "_law_way", "_law_y"]
theorem math__law_bent : ∀ xs M P PX, sp__law_bent xs M P PX → td__law_bent (startS N__law_bent xs M) (endE M.length P) (endX M.length PX) := by
  rintro xs M P PX ⟨source1, rows2, rfl, rfl, h⟩
  refine start1 true 0 [.own (cL D.int source1), .dat ((eT (eT D.int)) rows2), .no, .no, .no, .no, .no, .no, .no, .no] [some 0, none] rfl (by decide) rfl (fun _ => noLs_map nl_I _) ?_
  unfold td__law_bent
  unfold m__law_bent at h
  refine js_seq ?_
  refine js_setF rfl ?_
  refine j_lc ?_
  refine J.pv (Rv.pv (e := List.map (eT D.int)) (v := rows2) (Rv.eq (ri_iter (e := (eT D.int)) (f := fun v => v) (sq_T _) (Pv.rv (e := (eT (eT D.int))) (v := rows2) (show Pv _ _ ((eT (eT D.int)) rows2) from pv_var 1 rfl))) ok_bnd)) ?_
  refine al_M (f := fun (x3 : List Int) => x3) (eT D.int) (eT D.int) rfl (Tc.name (by decide)) rfl (wp_use h (fun l4 h => ?_) (fun _ _ h => h)) ?_
  · as_aux_lemma =>
      refine ⟨(fun _ => noLs_map (nl_T nl_I) _), ?_⟩
      refine js_seq ?_
      refine js_for ?_
      refine ji_range1 ?_
      refine ja_cons ?_
      refine j_op ?_
      refine J.pv (show Pv _ _ (D.int (1)) from pv_c _) ?_
      refine j_call1 ?_
      refine ja_consC 0 rfl ?_
      refine ja_cons ?_
      refine J.pv (show Pv _ _ (D.int (2)) from pv_c _) ?_
      refine ja_nil ⟨_, _, rfl, rfl, rfl, _, _, _, _, call__law_take source1 2, wp_use h (fun q5 h => ⟨(fun _ => noLs_map nl_I _), ?_⟩) (fun _ _ h => fun _ => ⟨_, rfl, h _⟩)⟩
      refine ⟨D.int (1 + q5.1), (ev_add 1 q5.1), ?_⟩
      refine ja_nil ⟨_, rfl, rngR_wp h (fun xs6 h => ?_)⟩
      rw [wp_bnd] at h
      refine a_forR D.int (fun (b7 : (List Int) × (List (List Int))) => [.own (cL D.int b7.1), .dat ((eT (eT D.int)) rows2), .own (cL (eT D.int) b7.2), .no, .no, .no, .no, .no, .no, .no]) ?_ ?_ _ _ _ (by repeat (first | exact Le.nil | refine Le.keep ?_ | refine Le.drop ?_)) h
      · as_aux_lemma =>
          intro b7 x8 Q h
          refine jg_name rfl ?_
          refine js_seq ?_
          refine js_par rfl rfl ?_
          refine ja_cons ?_
          refine j_call1 ?_
          refine ja_consC 0 rfl ?_
          refine ja_cons ?_
          refine J.pv (show Pv _ _ (D.int (b7.2.length : Int)) from pv_lenC 2 (e := (eT D.int)) (l := b7.2) rfl) ?_
          refine ja_nil ⟨_, _, rfl, rfl, rfl, _, _, _, _, call__law_take b7.1 ((b7.2.length : Int)), wp_use h (fun q9 h => ⟨(fun _ => noLs_map nl_I _), ?_⟩) (fun _ _ h => fun _ => ⟨_, rfl, h _⟩)⟩
          refine ja_cons ?_
          refine j_call1 ?_
          refine ja_consC 0 rfl ?_
          refine ja_cons ?_
          refine J.pv (Rv.pv (e := (eL D.int)) (v := [1, 0, -1, -1, 2, -2, 10 ^ (20 : Int).toNat]) (rv_f (Rv.eq (rv_lstO (e := D.int) (l := [1, 0, -1, -1, 2, -2, 10 ^ (20 : Int).toNat]) (rl_cons (e := D.int) (Pv.rv (e := D.int) (v := 1) (show Pv _ _ (D.int (1)) from pv_c _)) (rl_cons (e := D.int) (Pv.rv (e := D.int) (v := 0) (show Pv _ _ (D.int (0)) from pv_c _)) (rl_cons (e := D.int) (Pv.rv (e := D.int) (v := -1) (show Pv _ _ (D.int (-1)) from pv_un (show Pv _ _ (D.int (1)) from pv_c _) (ev_neg 1))) (rl_cons (e := D.int) (Pv.rv (e := D.int) (v := -1) (show Pv _ _ (D.int (-1)) from pv_un (show Pv _ _ (D.int (1)) from pv_c _) (ev_neg 1))) (rl_cons (e := D.int) (Pv.rv (e := D.int) (v := 2) (show Pv _ _ (D.int (2)) from pv_c _)) (rl_cons (e := D.int) (Pv.rv (e := D.int) (v := -2) (show Pv _ _ (D.int (-2)) from pv_un (show Pv _ _ (D.int (2)) from pv_c _) (ev_neg 2))) (rl_cons (e := D.int) (Pv.rv (e := D.int) (v := 10 ^ (20 : Int).toNat) (show Pv _ _ (D.int (10 ^ (20 : Int).toNat)) from pv_op (show Pv _ _ (D.int (10)) from pv_c _) (show Pv _ _ (D.int (20)) from pv_c _) (ev_powc 10 20 (by decide)))) rl_nil))))))) rfl zle) rfl))) ?_
          refine ja_nil ⟨_, _, rfl, rfl, rfl, _, _, _, _, call__law_one_L D.int q9.2 ([1, 0, -1, -1, 2, -2, 10 ^ (20 : Int).toNat]), wp_use h (fun q10 h => ⟨(fun _ => noLs_map nl_I _), ?_⟩) (fun _ _ h => fun _ => ⟨_, rfl, h _⟩)⟩
          refine ja_nil ⟨_, _, _, _, rfl, rfl, rfl, ?_⟩
          refine js_norm [.own (cL D.int q10.2), .dat ((eT (eT D.int)) rows2), .own (cL (eT D.int) b7.2), .no, .dat (D.int x8), .dat (D.int q9.1), .dat (D.int q10.1), .no, .no, .no] rfl ?_
          refine js_seq ?_
          refine js_par rfl rfl ?_
          refine ja_cons ?_
          refine j_call1 ?_
          refine ja_consC 0 rfl ?_
          refine ja_cons ?_
          refine J.use h (rv_rp (e := D.int) (rv_cb1 (e := D.int) (rv_ixC 2 (ea := (eT D.int)) (l := b7.2) rfl (Pv.rv (e := D.int) (v := q9.1) (show Pv _ _ (D.int q9.1) from pv_var 5 rfl))) fun v => cb_lenT D.int v) (show Pv _ _ (D.int (1)) from pv_c _) fun v12 => (opr_ok (e := D.int) (ev_add v12 1))) (by first | (simp only [bnd_bnd, ok_bnd]; done) | rfl) (fun v13 h => ?_) (fun _ _ h => ⟨_, rfl, h _⟩)
          refine ja_nil ⟨_, _, rfl, rfl, rfl, _, _, _, _, call__law_take q10.2 v13, wp_use h (fun q14 h => ⟨(fun _ => noLs_map nl_I _), ?_⟩) (fun _ _ h => fun _ => ⟨_, rfl, h _⟩)⟩
          refine ja_cons ?_
          refine j_call1 ?_
          refine ja_consC 0 rfl ?_
          refine ja_cons ?_
          refine J.pv (show Pv _ _ (D.int (4)) from pv_c _) ?_
          refine ja_nil ⟨_, _, rfl, rfl, rfl, _, _, _, _, call__law_take q14.2 4, wp_use h (fun q15 h => ⟨(fun _ => noLs_map nl_I _), ?_⟩) (fun _ _ h => fun _ => ⟨_, rfl, h _⟩)⟩
          refine ja_nil ⟨_, _, _, _, rfl, rfl, rfl, ?_⟩
          refine js_midW h (fun (j23 : (List (List Int))) => [.own (cL D.int q15.2), .dat ((eT (eT D.int)) rows2), .own (cL (eT D.int) j23), .no, .dat (D.int x8), .dat (D.int q9.1), .dat (D.int q10.1), .dat (D.int q14.1), .dat (D.int q15.1), .no]) (fun h => ?_) (fun j23 h => ?_)
          · as_aux_lemma =>
              refine js_if ?_
              refine J.pv (pb_t (show Pv _ _ (D.bl (decide (q15.1 = 0))) from pv_op (show Pv _ _ (D.int q15.1) from pv_var 8 rfl) (show Pv _ _ (D.int (0)) from pv_c _) (ev_eq (eq_I 0) (by decide) q15.1 0))) ?_
              refine ite_c h (fun h => ?_) (fun h => ?_)
              · as_aux_lemma =>
                  refine js_setIx ?_
                  refine J.use h (rv_op (e := (eT D.int)) (rv_rp (e := (eT D.int)) (rv_sl (ct_T D.int) (rv_ixC 2 (ea := (eT D.int)) (l := b7.2) rfl (Pv.rv (e := D.int) (v := q9.1) (show Pv _ _ (D.int q9.1) from pv_var 5 rfl))) ro_none (ro_some (Pv.rv (e := D.int) (v := q14.1) (show Pv _ _ (D.int q14.1) from pv_var 7 rfl)))) (show Pv _ _ ((eT D.int) ([q10.1])) from (Rv.pv (e := (eP1 D.int)) (v := q10.1) (Rv.eq (rv_t1 (Pv.rv (e := D.int) (v := q10.1) (show Pv _ _ (D.int q10.1) from pv_var 6 rfl))) ok_bnd))) fun v17 => (op_catT D.int v17 ([q10.1]))) (rv_sl (ct_T D.int) (rv_ixC 2 (ea := (eT D.int)) (l := b7.2) rfl (Pv.rv (e := D.int) (v := q9.1) (show Pv _ _ (D.int q9.1) from pv_var 5 rfl))) (ro_some (Pv.rv (e := D.int) (v := q14.1 + 1) (show Pv _ _ (D.int (q14.1 + 1)) from pv_op (show Pv _ _ (D.int q14.1) from pv_var 7 rfl) (show Pv _ _ (D.int (1)) from pv_c _) (ev_add q14.1 1)))) ro_none) fun v19 v20 => (op_catT D.int v19 v20)) (by first | (simp only [bnd_bnd, ok_bnd]; done) | rfl) (fun v21 h => ?_) (fun _ _ h => ⟨_, rfl, h _⟩)
                  refine ⟨_, rfl, ?_⟩
                  refine J.pv (show Pv _ _ (D.int q9.1) from pv_var 5 rfl) ?_
                  obtain ⟨new22, i_, hi_, hs_, h⟩ := setR_use (ea := (eT D.int)) h
                  refine ⟨_, _, i_, rfl, rfl, hi_, (fun _ => by rw [hs_]; exact noLs_map (nl_T nl_I) _), ?_⟩
                  rw [hs_]
                  replace h := wp_o h
                  exact ⟨new22, (by repeat (first | exact Le.nil | refine Le.keep ?_ | refine Le.drop ?_)), h⟩
              · refine js_next ?_
                replace h := wp_o h
                exact ⟨b7.2, (by repeat (first | exact Le.nil | refine Le.keep ?_ | refine Le.drop ?_)), h⟩
          · as_aux_lemma =>
              refine js_midW h (fun (j31 : (List (List Int))) => [.own (cL D.int q15.2), .dat ((eT (eT D.int)) rows2), .own (cL (eT D.int) j31), .no, .dat (D.int x8), .dat (D.int q9.1), .dat (D.int q10.1), .dat (D.int q14.1), .dat (D.int q15.1), .no]) (fun h => ?_) (fun j31 h => ?_)
              · as_aux_lemma =>
                  refine js_if ?_
                  refine J.pv (pb_t (show Pv _ _ (D.bl (decide (q15.1 = 1))) from pv_op (show Pv _ _ (D.int q15.1) from pv_var 8 rfl) (show Pv _ _ (D.int (1)) from pv_c _) (ev_eq (eq_I 0) (by decide) q15.1 1))) ?_
                  refine ite_c h (fun h => ?_) (fun h => ?_)
                  · as_aux_lemma =>
                      refine js_setIx ?_
                      refine J.use h (rv_op (e := (eT D.int)) (rv_rp (e := (eT D.int)) (rv_sl (ct_T D.int) (rv_ixC 2 (ea := (eT D.int)) (l := j23) rfl (Pv.rv (e := D.int) (v := q9.1) (show Pv _ _ (D.int q9.1) from pv_var 5 rfl))) ro_none (ro_some (Pv.rv (e := D.int) (v := q14.1) (show Pv _ _ (D.int q14.1) from pv_var 7 rfl)))) (show Pv _ _ ((eT D.int) ([q10.1])) from (Rv.pv (e := (eP1 D.int)) (v := q10.1) (Rv.eq (rv_t1 (Pv.rv (e := D.int) (v := q10.1) (show Pv _ _ (D.int q10.1) from pv_var 6 rfl))) ok_bnd))) fun v25 => (op_catT D.int v25 ([q10.1]))) (rv_sl (ct_T D.int) (rv_ixC 2 (ea := (eT D.int)) (l := j23) rfl (Pv.rv (e := D.int) (v := q9.1) (show Pv _ _ (D.int q9.1) from pv_var 5 rfl))) (ro_some (Pv.rv (e := D.int) (v := q14.1) (show Pv _ _ (D.int q14.1) from pv_var 7 rfl))) ro_none) fun v27 v28 => (op_catT D.int v27 v28)) (by first | (simp only [bnd_bnd, ok_bnd]; done) | rfl) (fun v29 h => ?_) (fun _ _ h => ⟨_, rfl, h _⟩)
                      refine ⟨_, rfl, ?_⟩
                      refine J.pv (show Pv _ _ (D.int q9.1) from pv_var 5 rfl) ?_
                      obtain ⟨new30, i_, hi_, hs_, h⟩ := setR_use (ea := (eT D.int)) h
                      refine ⟨_, _, i_, rfl, rfl, hi_, (fun _ => by rw [hs_]; exact noLs_map (nl_T nl_I) _), ?_⟩
                      rw [hs_]
                      replace h := wp_o h
                      exact ⟨new30, (by repeat (first | exact Le.nil | refine Le.keep ?_ | refine Le.drop ?_)), h⟩
                  · refine js_next ?_
                    replace h := wp_o h
                    exact ⟨j23, (by repeat (first | exact Le.nil | refine Le.keep ?_ | refine Le.drop ?_)), h⟩
              · as_aux_lemma =>
                  refine js_midW h (fun (j38 : (List (List Int))) => [.own (cL D.int q15.2), .dat ((eT (eT D.int)) rows2), .own (cL (eT D.int) j38), .no, .dat (D.int x8), .dat (D.int q9.1), .dat (D.int q10.1), .dat (D.int q14.1), .dat (D.int q15.1), .no]) (fun h => ?_) (fun j38 h => ?_)
                  · as_aux_lemma =>
                      refine js_if ?_
                      refine J.pv (pb_t (show Pv _ _ (D.bl (decide (q15.1 = 2))) from pv_op (show Pv _ _ (D.int q15.1) from pv_var 8 rfl) (show Pv _ _ (D.int (2)) from pv_c _) (ev_eq (eq_I 0) (by decide) q15.1 2))) ?_
                      refine ite_c h (fun h => ?_) (fun h => ?_)
                      · as_aux_lemma =>
                          refine js_setIx ?_
                          refine J.use h (rv_op (e := (eT D.int)) (rv_sl (ct_T D.int) (rv_ixC 2 (ea := (eT D.int)) (l := j31) rfl (Pv.rv (e := D.int) (v := q9.1) (show Pv _ _ (D.int q9.1) from pv_var 5 rfl))) ro_none (ro_some (Pv.rv (e := D.int) (v := q14.1) (show Pv _ _ (D.int q14.1) from pv_var 7 rfl)))) (rv_sl (ct_T D.int) (rv_ixC 2 (ea := (eT D.int)) (l := j31) rfl (Pv.rv (e := D.int) (v := q9.1) (show Pv _ _ (D.int q9.1) from pv_var 5 rfl))) (ro_some (Pv.rv (e := D.int) (v := q14.1 + 1) (show Pv _ _ (D.int (q14.1 + 1)) from pv_op (show Pv _ _ (D.int q14.1) from pv_var 7 rfl) (show Pv _ _ (D.int (1)) from pv_c _) (ev_add q14.1 1)))) ro_none) fun v34 v35 => (op_catT D.int v34 v35)) (by first | (simp only [bnd_bnd, ok_bnd]; done) | rfl) (fun v36 h => ?_) (fun _ _ h => ⟨_, rfl, h _⟩)
                          refine ⟨_, rfl, ?_⟩
                          refine J.pv (show Pv _ _ (D.int q9.1) from pv_var 5 rfl) ?_
                          obtain ⟨new37, i_, hi_, hs_, h⟩ := setR_use (ea := (eT D.int)) h
                          refine ⟨_, _, i_, rfl, rfl, hi_, (fun _ => by rw [hs_]; exact noLs_map (nl_T nl_I) _), ?_⟩
                          rw [hs_]
                          replace h := wp_o h
                          exact ⟨new37, (by repeat (first | exact Le.nil | refine Le.keep ?_ | refine Le.drop ?_)), h⟩
                      · refine js_next ?_
                        replace h := wp_o h
                        exact ⟨j31, (by repeat (first | exact Le.nil | refine Le.keep ?_ | refine Le.drop ?_)), h⟩
                  · as_aux_lemma =>
                      refine js_if ?_
                      refine J.pv (pb_t (show Pv _ _ (D.bl (decide (q15.1 = 3))) from pv_op (show Pv _ _ (D.int q15.1) from pv_var 8 rfl) (show Pv _ _ (D.int (3)) from pv_c _) (ev_eq (eq_I 0) (by decide) q15.1 3))) ?_
                      refine ite_c h (fun h => ?_) (fun h => ?_)
                      · as_aux_lemma =>
                          refine js_seq ?_
                          refine js_set rfl ?_
                          refine j_call1 ?_
                          refine ja_consC 0 rfl ?_
                          refine ja_cons ?_
                          refine J.pv (show Pv _ _ (D.int (j38.length : Int)) from pv_lenC 2 (e := (eT D.int)) (l := j38) rfl) ?_
                          refine ja_nil ⟨_, _, rfl, rfl, rfl, _, _, _, _, call__law_take q15.2 ((j38.length : Int)), wp_use h (fun q39 h => ⟨(fun _ => noLs_map nl_I _), ?_⟩) (fun _ _ h => fun _ => ⟨_, rfl, h _⟩)⟩
                          refine js_asgM ?_
                          refine J.use h (rv_t2 (rv_ixC 2 (ea := (eT D.int)) (l := j38) rfl (Pv.rv (e := D.int) (v := q39.1) (show Pv _ _ (D.int q39.1) from pv_var 9 rfl))) (rv_ixC 2 (ea := (eT D.int)) (l := j38) rfl (Pv.rv (e := D.int) (v := q9.1) (show Pv _ _ (D.int q9.1) from pv_var 5 rfl)))) (by first | (simp only [bnd_bnd, ok_bnd]; done) | rfl) (fun v42 h => ?_) (fun _ _ h => ⟨_, rfl, h _⟩)
                          refine jm_tup rfl ?_
                          refine jms_cons ?_
                          refine jm_sub rfl ?_
                          refine J.pv (show Pv _ _ (D.int q9.1) from pv_var 5 rfl) ?_
                          obtain ⟨new43, i_, hi_, hs_, h⟩ := setR_use (ea := (eT D.int)) h
                          refine ⟨_, _, i_, rfl, rfl, hi_, (fun _ => by rw [hs_]; exact noLs_map (nl_T nl_I) _), ?_⟩
                          rw [hs_]
                          refine jms_cons ?_
                          refine jm_sub rfl ?_
                          refine J.pv (show Pv _ _ (D.int q39.1) from pv_var 9 rfl) ?_
                          obtain ⟨new44, i_, hi_, hs_, h⟩ := setR_use (ea := (eT D.int)) h
                          refine ⟨_, _, i_, rfl, rfl, hi_, (fun _ => by rw [hs_]; exact noLs_map (nl_T nl_I) _), ?_⟩
                          rw [hs_]
                          refine jms_nil ?_
                          replace h := wp_o h
                          exact ⟨(q39.2, new44), (by repeat (first | exact Le.nil | refine Le.keep ?_ | refine Le.drop ?_)), h⟩
                      · refine js_next ?_
                        replace h := wp_o h
                        exact ⟨(q15.2, j38), (by repeat (first | exact Le.nil | refine Le.keep ?_ | refine Le.drop ?_)), h⟩
      · as_aux_lemma =>
          intro b45 h
          refine js_norm [.own (cL D.int b45.1), .dat ((eT (eT D.int)) rows2), .own (cL (eT D.int) b45.2), .no, .no, .no, .no, .no, .no, .no] rfl ?_
          refine js_seq ?_
          refine js_set rfl ?_
          refine j_call1 ?_
          refine ja_consC 0 rfl ?_
          refine ja_cons ?_
          refine J.pv (show Pv _ _ (D.int (8)) from pv_c _) ?_
          refine ja_nil ⟨_, _, rfl, rfl, rfl, _, _, _, _, call__law_take b45.1 8, wp_use h (fun q46 h => ⟨(fun _ => noLs_map nl_I _), ?_⟩) (fun _ _ h => fun _ => ⟨_, rfl, h _⟩)⟩
          refine js_midW h (fun (j49 : (List Int) × (List (List Int))) => [.own (cL D.int j49.1), .dat ((eT (eT D.int)) rows2), .own (cL (eT D.int) j49.2), .no, .no, .no, .no, .no, .dat (D.int q46.1), .no]) (fun h => ?_) (fun j49 h => ?_)
          · as_aux_lemma =>
              refine js_if ?_
              refine J.pv (pb_t (show Pv _ _ (D.bl (decide (q46.1 = 0))) from pv_op (show Pv _ _ (D.int q46.1) from pv_var 8 rfl) (show Pv _ _ (D.int (0)) from pv_c _) (ev_eq (eq_I 0) (by decide) q46.1 0))) ?_
              refine ite_c h (fun h => ?_) (fun h => ?_)
              · as_aux_lemma =>
                  refine js_drop ?_
                  refine j_meth1 2 rfl ?_
                  refine j_call1 ?_
                  refine ja_consC 0 rfl ?_
                  refine ja_cons ?_
                  refine J.pv (show Pv _ _ (D.int (b45.2.length : Int)) from pv_lenC 2 (e := (eT D.int)) (l := b45.2) rfl) ?_
                  refine ja_nil ⟨_, _, rfl, rfl, rfl, _, _, _, _, call__law_take q46.2 ((b45.2.length : Int)), wp_use h (fun q47 h => ⟨(fun _ => noLs_map nl_I _), ?_⟩) (fun _ _ h => fun _ => ⟨_, rfl, h _⟩)⟩
                  refine ⟨_, rfl, m_popAt (ea := (eT D.int)) (wp_use h (fun q48 h => ⟨(fun _ => noLs_map (nl_T nl_I) _), ?_⟩) (fun _ _ h => h))⟩
                  replace h := wp_o h
                  exact ⟨(q47.2, q48.2), (by repeat (first | exact Le.nil | refine Le.keep ?_ | refine Le.drop ?_)), h⟩
              · refine js_next ?_
                replace h := wp_o h
                exact ⟨(q46.2, b45.2), (by repeat (first | exact Le.nil | refine Le.keep ?_ | refine Le.drop ?_)), h⟩
          · as_aux_lemma =>
              refine js_midW h (fun (j52 : (List Int) × (List (List Int))) => [.own (cL D.int j52.1), .dat ((eT (eT D.int)) rows2), .own (cL (eT D.int) j52.2), .no, .no, .no, .no, .no, .dat (D.int q46.1), .no]) (fun h => ?_) (fun j52 h => ?_)
              · as_aux_lemma =>
                  refine js_if ?_
                  refine J.pv (pb_t (show Pv _ _ (D.bl (decide (q46.1 = 1))) from pv_op (show Pv _ _ (D.int q46.1) from pv_var 8 rfl) (show Pv _ _ (D.int (1)) from pv_c _) (ev_eq (eq_I 0) (by decide) q46.1 1))) ?_
                  refine ite_c h (fun h => ?_) (fun h => ?_)
                  · as_aux_lemma =>
                      refine js_drop ?_
                      refine j_meth1 2 rfl ?_
                      refine j_lend 2 rfl rfl rfl ?_
                      refine j_call1 ?_
                      refine ja_consC 0 rfl ?_
                      refine ja_cons ?_
                      refine J.pv (show Pv _ _ ((eL (eT D.int)) j49.2) from pv_var 2 rfl) ?_
                      refine ja_nil ⟨_, _, rfl, rfl, rfl, _, _, _, _, call__law_one_L (eT D.int) j49.1 j49.2, wp_useN h (fun q50 h => ⟨(fun _ => noLs_map nl_I _), ?_⟩)⟩
                      refine ⟨((nl_T nl_I)).f _, _, Back.one rfl rfl (by decide), ?_⟩
                      refine ⟨_, rfl, m_append (ea := (eT D.int)) (wp_use h (fun new51 h => ⟨(fun _ => noLs_map (nl_T nl_I) _), ?_⟩) (fun _ _ h => h))⟩
                      replace h := wp_o h
                      exact ⟨(q50.2, new51), (by repeat (first | exact Le.nil | refine Le.keep ?_ | refine Le.drop ?_)), h⟩
                  · refine js_next ?_
                    replace h := wp_o h
                    exact ⟨(j49.1, j49.2), (by repeat (first | exact Le.nil | refine Le.keep ?_ | refine Le.drop ?_)), h⟩
              · refine js_freeze rfl rfl ?_
                refine js_ret ?_
                refine J.pv (Rv.pv (e := (eT (eT D.int))) (v := j52.2) (Rv.eq (rv_cb1 (e := (eT (eT D.int))) (Pv.rv (e := (eL (eT D.int))) (v := j52.2) (show Pv _ _ ((eL (eT D.int)) j52.2) from pv_var 2 rfl)) fun v => cb_tupL (eT D.int) v) ok_bnd)) ?_
                replace h := wp_o h
                exact ⟨_, rfl, h⟩
  · intro x3
    refine jg_name rfl ?_
    exact ⟨(by repeat (first | exact Keep.nil | refine Keep.own ?_ | refine Keep.dat ?_ | refine Keep.no ?_)), pv_yes, (show Pv _ _ ((eT D.int) x3) from pv_var 3 rfl)⟩
def td__law_right : TSd :=
  dSeq (dPar 1 2 (dCons (dCall sp__law_due (dCons (dVar 0) (dNil))) (dCons (dCall sp_is_records (dCons (dVar 0) (dNil))) (dNil))))
  (dRet (dAndV (dOp rEqD' (dCall sp__law_told (dCons (dVar 0) (dNil))) (dVar 1)) (dAndV (dIsT "bool" (dVar 2)) (dOp rEqD' (dVar 2) (dOp rEqD' (dOp rIxD (dVar 1) (dC (.int 0))) (dC (.str "rows")))))))
abbrev N__law_right : List Str := ["_law_rows", "_law_due_here", "_law_said"]
theorem math__law_right : ∀ xs M P PX, sp__law_right xs M P PX → td__law_right (startS N__law_right xs M) (endE M.length P) (endX M.length PX) := by
  rintro xs M P PX ⟨rows1, rfl, rfl, h⟩
  refine start0 (ds := [(eT (eT D.int)) rows1]) [.dat ((eT (eT D.int)) rows1), .no, .no] rfl ?_
  unfold td__law_right
  unfold m__law_right at h
  refine js_seq ?_
  refine js_par rfl rfl ?_
  refine ja_cons ?_
  refine J.use h (rv_call1 (Pv.rv (e := (eT (eT D.int))) (v := rows1) (show Pv _ _ ((eT (eT D.int)) rows1) from pv_var 0 rfl)) fun a0 => call__law_due a0) (by first | (simp only [bnd_bnd, ok_bnd]; done) | rfl) (fun v2 h => ?_) (fun _ _ h => h)
  refine ja_cons ?_
  refine J.use h (rv_call1 (Pv.rv (e := id) (v := (eT (eT D.int)) rows1) (show Pv _ _ (id ((eT (eT D.int)) rows1)) from (show Pv _ _ ((eT (eT D.int)) rows1) from pv_var 0 rfl))) fun a0 => call_is_records a0) (by first | (simp only [bnd_bnd, ok_bnd]; done) | rfl) (fun v3 h => ?_) (fun _ _ h => h)
  refine ja_nil ⟨_, _, _, _, rfl, rfl, rfl, ?_⟩
  refine js_ret ?_
  refine J.useT h (rv_andV (rv_rp (e := D.bl) (Rv.map (f := fun v4 => (eP2 eW id) v4) (e' := id) (rv_call1 (Pv.rv (e := (eT (eT D.int))) (v := rows1) (show Pv _ _ ((eT (eT D.int)) rows1) from pv_var 0 rfl)) fun a0 => call__law_told a0) fun _ => rfl) (show Pv _ _ (id ((eP2 eW id) v2)) from (show Pv _ _ ((eP2 eW id) v2) from pv_var 1 rfl)) fun v5 => (op_eqR v5 ((eP2 eW id) v2))) (rv_andV (rv_isT (T := "bool") (Pv.rv (e := D.bl) (v := v3) (show Pv _ _ (D.bl v3) from pv_var 2 rfl))) (Pv.rv (e := D.bl) (v := decide (v3 = decide (v2.1 = (wd "rows")))) (show Pv _ _ (D.bl (decide (v3 = decide (v2.1 = (wd "rows"))))) from pv_op (show Pv _ _ (D.bl v3) from pv_var 2 rfl) (show Pv _ _ (D.bl (decide (v2.1 = (wd "rows")))) from pv_op (show Pv _ _ (eW v2.1) from pv_op (show Pv _ _ ((eP2 eW id) v2) from pv_var 1 rfl) (show Pv _ _ (D.int (0)) from pv_c _) (ev_p20 eW id v2)) (show Pv _ _ (eW (wd "rows")) from pv_c _) (ev_eq (eq_W 0) (by decide) v2.1 ((wd "rows")))) (ev_eq (eq_B 0) (by decide) v3 (decide (v2.1 = (wd "rows")))))))) (by first | (simp only [bnd_bnd, ok_bnd]; done) | rfl) (fun _ h => h) (fun _ _ h => h)
def td_law : TSd :=
  dSeq (dFor (dRange1 (dCons (dCB (r2I fun i j => if j > i then j else i) (dCons (dC (.int 1)) (dCons (dCB (r2I fun i j => if j < i then j else i) (dCons (dCB rLenD (dCons (dVar 0) (dNil))) (dCons (dC (.int 3)) (dNil)))) (dNil)))) (dNil))) (dgName 1) (dSeq (dSetF 2 (dCallF sp__law_pool (dCons (dVar 0) (dCons (dVar 1) (dNil)))))
  (dSeq (dSet 3 (dOp rAddD (dC (.int 1)) (dCall sp__law_take (dConsC 2 (dCons (dC (.int 8)) (dNil))))))
  (dSeq (dIfS (dT (dOp rEqD' (dCall sp__law_take (dConsC 2 (dCons (dC (.int 30)) (dNil)))) (dC (.int 0)))) (dSet 3 (dC (.int 32))) (dNext))
  (dSeq (dSet 4 (dCall sp__law_letters (dCons (dCall sp__law_cup (dConsC 2 (dCons (dCall sp__law_figures (dConsC 2 (dCons (dVar 3) (dNil)))) (dNil)))) (dNil))))
  (dSeq (dIfS (dT (dOp rNeD' (dCall sp__law_due (dCons (dVar 4) (dNil))) (dTup (dCons (dC (.str "rows")) (dCons (dVar 4) (dNil)))))) (dRet (dC (.bl false))) (dNext))
  (dSeq (dFor (dIter (dF (dLst (dCons (dVar 4) (dCons (dCall sp__law_bent (dConsC 2 (dCons (dVar 4) (dNil)))) (dCons (dCall sp__law_bent (dConsC 2 (dCons (dVar 4) (dNil)))) (dCons (dCall sp__law_bent (dConsC 2 (dCons (dVar 4) (dNil)))) (dCons (dTup (dNil)) (dCons (dOp rRepTD (dTup (dCons (dTup (dNil)) (dNil))) (dC (.int 33))) (dCons (dTup (dCons (dTup (dNil)) (dNil))) (dNil))))))))))) (dgName 5) (dIfS (dNot (dTru (dCall sp__law_right (dCons (dVar 5) (dNil))))) (dRet (dC (.bl false))) (dNext)))
  (dSeq (dPar 6 7 (dCons (dCall sp__law_take (dConsC 2 (dCons (dVar 3) (dNil)))) (dCons (dCall sp__law_one (dConsC 2 (dCons (dF (dLst (dCons (dC .non) (dCons (dC (.str "")) (dCons (dC (.str "w")) (dCons (dC (.int 0)) (dCons (dTup (dCons (dC (.str "1")) (dNil))) (dCons (dTup (dCons (dC .non) (dNil))) (dCons (dTup (dCons (dTup (dNil)) (dNil))) (dCons (dTup (dCons (dTup (dCons (dC (.int 1)) (dNil))) (dNil))) (dCons (dTup (dCons (dC (.int 1)) (dCons (dC (.str "")) (dNil)))) (dNil)))))))))))) (dNil)))) (dNil))))
  (dFor (dIter (dF (dLst (dCons (dC .non) (dCons (dC (.str "")) (dCons (dC (.str "wl")) (dCons (dC (.int 0)) (dCons (dTup (dCons (dC .non) (dNil))) (dCons (dTup (dCons (dC (.int 0)) (dNil))) (dCons (dTup (dCons (dC (.str "")) (dNil))) (dCons (dTup (dCons (dVar 4) (dNil))) (dCons (dOp rAddD (dOp rAddD (dSl (dVar 4) (dNoPart) (dPart (dVar 6))) (dTup (dCons (dVar 7) (dNil)))) (dSl (dVar 4) (dPart (dOp rAddD (dVar 6) (dC (.int 1)))) (dNoPart))) (dNil))))))))))))) (dgName 8) (dIfS (dT (dOp (rIsB true) (dCall sp_is_records (dCons (dVar 8) (dNil))) (dC (.bl false)))) (dRet (dC (.bl false))) (dNext)))))))))))
  (dRet (dC (.bl true)))
abbrev N_law : List Str := ["_law_script", "_law_k", "_law_source", "_law_n", "_law_rows", "_law_some", "_law_x", "_law_odd", "_law_thing"]
theorem math_law : ∀ xs M P PX, sp_law xs M P PX → td_law (startS N_law xs M) (endE M.length P) (endX M.length PX) := by
  rintro xs M P PX ⟨script1, rfl, rfl, h⟩
  refine start0 (ds := [(eFL D.int) script1]) [.dat ((eFL D.int) script1), .no, .no, .no, .no, .no, .no, .no, .no] rfl ?_
  unfold td_law
  unfold m_law at h
  refine js_seq ?_
  refine js_for ?_
  refine J.use h (ri_range1 (Pv.rv (e := D.int) (v := (if ((if 3 < ((script1.length : Int)) then 3 else ((script1.length : Int)))) > 1 then ((if 3 < ((script1.length : Int)) then 3 else ((script1.length : Int)))) else 1)) (Rv.pv (e := D.int) (v := (if ((if 3 < ((script1.length : Int)) then 3 else ((script1.length : Int)))) > 1 then ((if 3 < ((script1.length : Int)) then 3 else ((script1.length : Int)))) else 1)) (Rv.eq (rv_2I (f := fun i j => if j > i then j else i) (Pv.rv (e := D.int) (v := 1) (show Pv _ _ (D.int (1)) from pv_c _)) (Pv.rv (e := D.int) (v := (if 3 < ((script1.length : Int)) then 3 else ((script1.length : Int)))) (Rv.pv (e := D.int) (v := (if 3 < ((script1.length : Int)) then 3 else ((script1.length : Int)))) (Rv.eq (rv_2I (f := fun i j => if j < i then j else i) (Pv.rv (e := D.int) (v := (script1.length : Int)) (Rv.pv (e := D.int) (v := (script1.length : Int)) (Rv.eq (rv_cb1 (e := D.int) (Pv.rv (e := (eFL D.int)) (v := script1) (show Pv _ _ ((eFL D.int) script1) from pv_var 0 rfl)) fun v => cb_lenFL D.int v) ok_bnd))) (Pv.rv (e := D.int) (v := 3) (show Pv _ _ (D.int (3)) from pv_c _))) (ok_bnd.trans ok_bnd))))) (ok_bnd.trans ok_bnd))))) (by first | (simp only [bnd_bnd, ok_bnd]; done) | rfl) (fun xs2 h => ?_) (fun _ _ h => h)
  rw [wp_bnd] at h
  refine a_forS D.int (fun (b3 : Unit) => [.dat ((eFL D.int) script1), .no, .no, .no, .no, .no, .no, .no, .no]) (fun (v : Bool) d A' => d = D.bl v) ?_ ?_ ?_ _ _ _ (by repeat (first | exact Le.nil | refine Le.keep ?_ | refine Le.drop ?_)) h
  · as_aux_lemma =>
      intro b3 x4 Q h
      refine jg_name rfl ?_
      refine js_seq ?_
      refine js_setF rfl ?_
      refine J.use h (rv_callF2 (Pv.rv (e := (eFL D.int)) (v := script1) (show Pv _ _ ((eFL D.int) script1) from pv_var 0 rfl)) (Pv.rv (e := D.int) (v := x4) (show Pv _ _ (D.int x4) from pv_var 1 rfl)) (fun a0 a1 => call__law_pool a0 a1) ne__law_pool) (by first | (simp only [bnd_bnd, ok_bnd]; done) | rfl) (fun l5 h => ?_) (fun _ _ h => h)
      refine ⟨(nlf rfl), ?_⟩
      refine js_seq ?_
      refine js_set rfl ?_
      refine j_op ?_
      refine J.pv (show Pv _ _ (D.int (1)) from pv_c _) ?_
      refine j_call1 ?_
      refine ja_consC 2 rfl ?_
      refine ja_cons ?_
      refine J.pv (show Pv _ _ (D.int (8)) from pv_c _) ?_
      refine ja_nil ⟨_, _, rfl, rfl, rfl, _, _, _, _, call__law_take l5 8, wp_use h (fun q6 h => ⟨(nlf rfl), ?_⟩) (fun _ _ h => fun _ => h)⟩
      refine ⟨D.int (1 + q6.1), (ev_add 1 q6.1), ?_⟩
      refine js_norm [.dat ((eFL D.int) script1), .dat (D.int x4), .own (cL D.int q6.2), .dat (D.int (1 + q6.1)), .no, .no, .no, .no, .no] rfl ?_
      refine js_midW h (fun (j8 : (List Int) × Int) => [.dat ((eFL D.int) script1), .dat (D.int x4), .own (cL D.int j8.1), .dat (D.int j8.2), .no, .no, .no, .no, .no]) (fun h => ?_) (fun j8 h => ?_)
      · as_aux_lemma =>
          refine js_if ?_
          refine jb_t ?_
          refine j_op ?_
          refine j_call1 ?_
          refine ja_consC 2 rfl ?_
          refine ja_cons ?_
          refine J.pv (show Pv _ _ (D.int (30)) from pv_c _) ?_
          refine ja_nil ⟨_, _, rfl, rfl, rfl, _, _, _, _, call__law_take q6.2 30, wp_use h (fun q7 h => ⟨(nlf rfl), ?_⟩) (fun _ _ h => fun _ => h)⟩
          refine J.pv (show Pv _ _ (D.int (0)) from pv_c _) ?_
          refine ⟨D.bl (decide (q7.1 = 0)), (ev_eq (eq_I 0) (by decide) q7.1 0), ?_⟩
          refine ⟨decide (q7.1 = 0), rfl, ?_⟩
          refine ite_c h (fun h => ?_) (fun h => ?_)
          · refine js_set rfl ?_
            refine J.pv (show Pv _ _ (D.int (32)) from pv_c _) ?_
            replace h := wp_o h
            exact ⟨(q7.2, 32), (by repeat (first | exact Le.nil | refine Le.keep ?_ | refine Le.drop ?_)), h⟩
          · refine js_next ?_
            replace h := wp_o h
            exact ⟨(q7.2, 1 + q6.1), (by repeat (first | exact Le.nil | refine Le.keep ?_ | refine Le.drop ?_)), h⟩
      · as_aux_lemma =>
          refine js_seq ?_
          refine js_set rfl ?_
          refine j_call0 ?_
          refine ja_cons ?_
          refine j_call1 ?_
          refine ja_consC 2 rfl ?_
          refine ja_cons ?_
          refine j_call1 ?_
          refine ja_consC 2 rfl ?_
          refine ja_cons ?_
          refine J.pv (show Pv _ _ (D.int j8.2) from pv_var 3 rfl) ?_
          refine ja_nil ⟨_, _, rfl, rfl, rfl, _, _, _, _, call__law_figures j8.1 j8.2, wp_use h (fun q9 h => ⟨(nlf rfl), ?_⟩) (fun _ _ h => fun _ => h)⟩
          refine ja_nil ⟨_, _, rfl, rfl, rfl, _, _, _, _, call__law_cup q9.2 q9.1, wp_use h (fun q10 h => ⟨(nlf rfl), ?_⟩) (fun _ _ h => fun _ => h)⟩
          refine ja_nil ⟨_, rfl, _, _, _, call__law_letters q10.1, wp_use h (fun q11 h => ?_) (fun _ _ h => h)⟩
          refine js_seq ?_
          refine js_if ?_
          refine J.use h (rb_t (rv_rp (e := D.bl) (Rv.map (f := fun v12 => (eP2 eW id) v12) (e' := id) (rv_call1 (Pv.rv (e := (eT (eT D.int))) (v := q11) (show Pv _ _ ((eT (eT D.int)) q11) from pv_var 4 rfl)) fun a0 => call__law_due a0) fun _ => rfl) (show Pv _ _ (id ((eP2 eW (eT (eT D.int))) (((wd "rows"), q11)))) from (Rv.pv (e := (eP2 eW (eT (eT D.int)))) (v := ((wd "rows"), q11)) (Rv.eq (rv_t2 (Pv.rv (e := eW) (v := (wd "rows")) (show Pv _ _ (eW (wd "rows")) from pv_c _)) (Pv.rv (e := (eT (eT D.int))) (v := q11) (show Pv _ _ ((eT (eT D.int)) q11) from pv_var 4 rfl))) (ok_bnd.trans ok_bnd)))) fun v13 => (op_neR v13 ((eP2 eW (eT (eT D.int))) (((wd "rows"), q11)))))) (by first | (simp only [bnd_bnd, ok_bnd]; done) | rfl) (fun v14 h => ?_) (fun _ _ h => h)
          refine ite_c h (fun h => ?_) (fun h => ?_)
          · refine js_ret ?_
            refine J.pv (show Pv _ _ (D.bl false) from pv_c _) ?_
            replace h := wp_o h
            exact ⟨false, rfl, h⟩
          · as_aux_lemma =>
              refine js_next ?_
              refine js_norm [.dat ((eFL D.int) script1), .dat (D.int x4), .own (cL D.int q10.2), .dat (D.int j8.2), .dat ((eT (eT D.int)) q11), .no, .no, .no, .no] rfl ?_
              refine js_seq ?_
              refine js_for ?_
              refine ji_iter ?_
              refine j_f (j_lst ?_)
              refine ja_cons ?_
              refine J.pv (show Pv _ _ ((eT (eT D.int)) q11) from pv_var 4 rfl) ?_
              refine ja_cons ?_
              refine j_call1 ?_
              refine ja_consC 2 rfl ?_
              refine ja_cons ?_
              refine J.pv (show Pv _ _ ((eT (eT D.int)) q11) from pv_var 4 rfl) ?_
              refine ja_nil ⟨_, _, rfl, rfl, rfl, _, _, _, _, call__law_bent q10.2 q11, wp_use h (fun q15 h => ⟨(nlf rfl), ?_⟩) (fun _ _ h => fun _ => h)⟩
              refine ja_cons ?_
              refine j_call1 ?_
              refine ja_consC 2 rfl ?_
              refine ja_cons ?_
              refine J.pv (show Pv _ _ ((eT (eT D.int)) q11) from pv_var 4 rfl) ?_
              refine ja_nil ⟨_, _, rfl, rfl, rfl, _, _, _, _, call__law_bent q15.2 q11, wp_use h (fun q16 h => ⟨(nlf rfl), ?_⟩) (fun _ _ h => fun _ => h)⟩
              refine ja_cons ?_
              refine j_call1 ?_
              refine ja_consC 2 rfl ?_
              refine ja_cons ?_
              refine J.pv (show Pv _ _ ((eT (eT D.int)) q11) from pv_var 4 rfl) ?_
              refine ja_nil ⟨_, _, rfl, rfl, rfl, _, _, _, _, call__law_bent q16.2 q11, wp_use h (fun q17 h => ⟨(nlf rfl), ?_⟩) (fun _ _ h => fun _ => h)⟩
              refine ja_cons ?_
              refine J.pv (Rv.pv (e := (eT (eT D.int))) (v := []) rv_t0) ?_
              refine ja_cons ?_
              refine J.use h (rv_pp (e := (eT (eT D.int))) (show Pv _ _ ((eT (eT D.int)) ([([] : List Int)])) from (Rv.pv (e := (eP1 (eT D.int))) (v := ([] : List Int)) (Rv.eq (rv_t1 (Pv.rv (e := (eT D.int)) (v := ([] : List Int)) (Rv.pv (e := (eT D.int)) (v := []) rv_t0))) ok_bnd))) (show Pv _ _ (D.int (33)) from pv_c _) (op_repT' (eT D.int) ([([] : List Int)]) 33)) (by first | (simp only [bnd_bnd, ok_bnd]; done) | rfl) (fun v18 h => ?_) (fun _ _ h => h)
              refine ja_cons ?_
              refine J.pv (Rv.pv (e := (eP1 (eT D.int))) (v := ([] : List Int)) (Rv.eq (rv_t1 (Pv.rv (e := (eT D.int)) (v := ([] : List Int)) (Rv.pv (e := (eT D.int)) (v := []) rv_t0))) ok_bnd)) ?_
              refine ja_nil ⟨_, rfl, zle, ?_⟩
              refine ⟨_, (sq_L (eT (eT D.int)) ([q11, q15.1, q16.1, q17.1, ([] : List (List Int)), v18, [([] : List Int)]])), ?_⟩
              rw [wp_bnd] at h
              refine a_forS (eT (eT D.int)) (fun (b19 : Unit) => [.dat ((eFL D.int) script1), .dat (D.int x4), .own (cL D.int q17.2), .dat (D.int j8.2), .dat ((eT (eT D.int)) q11), .no, .no, .no, .no]) (fun (v : Bool) d A' => d = D.bl v) ?_ ?_ ?_ _ _ _ (by repeat (first | exact Le.nil | refine Le.keep ?_ | refine Le.drop ?_)) h
              · as_aux_lemma =>
                  intro b19 x20 Q h
                  refine jg_name rfl ?_
                  refine js_if ?_
                  refine J.use h (rb_not (Rv.eq (rb_tru (f := fun v => v) (rv_call1 (Pv.rv (e := (eT (eT D.int))) (v := x20) (show Pv _ _ ((eT (eT D.int)) x20) from pv_var 5 rfl)) fun a0 => call__law_right a0) fun _ => rfl) bnd_ok)) (by first | (simp only [bnd_bnd, ok_bnd]; done) | rfl) (fun v22 h => ?_) (fun _ _ h => h)
                  refine ite_c h (fun h => ?_) (fun h => ?_)
                  · refine js_ret ?_
                    refine J.pv (show Pv _ _ (D.bl false) from pv_c _) ?_
                    replace h := wp_o h
                    exact ⟨false, rfl, h⟩
                  · refine js_next ?_
                    replace h := wp_o h
                    exact ⟨(), (by repeat (first | exact Le.nil | refine Le.keep ?_ | refine Le.drop ?_)), h⟩
              · as_aux_lemma =>
                  intro b23 h
                  rw [on_nx] at h
                  refine js_seq ?_
                  refine js_par rfl rfl ?_
                  refine ja_cons ?_
                  refine j_call1 ?_
                  refine ja_consC 2 rfl ?_
                  refine ja_cons ?_
                  refine J.pv (show Pv _ _ (D.int j8.2) from pv_var 3 rfl) ?_
                  refine ja_nil ⟨_, _, rfl, rfl, rfl, _, _, _, _, call__law_take q17.2 j8.2, wp_use h (fun q24 h => ⟨(nlf rfl), ?_⟩) (fun _ _ h => fun _ => h)⟩
                  refine ja_cons ?_
                  refine j_call1 ?_
                  refine ja_consC 2 rfl ?_
                  refine ja_cons ?_
                  refine J.pv (Rv.pv (e := (eL id)) (v := [eN (()), eW ((wd "")), eW ((wd "w")), D.int 0, (eP1 eW) ((wd "1")), (eP1 eN) (()), (eP1 (eT D.int)) (([] : List Int)), (eP1 (eP1 D.int)) 1, (eP2 D.int eW) ((1, (wd "")))]) (rv_f (Rv.eq (rv_lstO (e := id) (l := [eN (()), eW ((wd "")), eW ((wd "w")), D.int 0, (eP1 eW) ((wd "1")), (eP1 eN) (()), (eP1 (eT D.int)) (([] : List Int)), (eP1 (eP1 D.int)) 1, (eP2 D.int eW) ((1, (wd "")))]) (rl_cons (e := id) (Pv.rv (e := id) (v := eN (())) (show Pv _ _ (id (eN (()))) from (show Pv _ _ (eN ()) from pv_c _))) (rl_cons (e := id) (Pv.rv (e := id) (v := eW ((wd ""))) (show Pv _ _ (id (eW ((wd "")))) from (show Pv _ _ (eW (wd "")) from pv_c _))) (rl_cons (e := id) (Pv.rv (e := id) (v := eW ((wd "w"))) (show Pv _ _ (id (eW ((wd "w")))) from (show Pv _ _ (eW (wd "w")) from pv_c _))) (rl_cons (e := id) (Pv.rv (e := id) (v := D.int 0) (show Pv _ _ (id (D.int 0)) from (show Pv _ _ (D.int (0)) from pv_c _))) (rl_cons (e := id) (Pv.rv (e := id) (v := (eP1 eW) ((wd "1"))) (show Pv _ _ (id ((eP1 eW) ((wd "1")))) from (Rv.pv (e := (eP1 eW)) (v := (wd "1")) (Rv.eq (rv_t1 (Pv.rv (e := eW) (v := (wd "1")) (show Pv _ _ (eW (wd "1")) from pv_c _))) ok_bnd)))) (rl_cons (e := id) (Pv.rv (e := id) (v := (eP1 eN) (())) (show Pv _ _ (id ((eP1 eN) (()))) from (Rv.pv (e := (eP1 eN)) (v := ()) (Rv.eq (rv_t1 (Pv.rv (e := eN) (v := ()) (show Pv _ _ (eN ()) from pv_c _))) ok_bnd)))) (rl_cons (e := id) (Pv.rv (e := id) (v := (eP1 (eT D.int)) (([] : List Int))) (show Pv _ _ (id ((eP1 (eT D.int)) (([] : List Int)))) from (Rv.pv (e := (eP1 (eT D.int))) (v := ([] : List Int)) (Rv.eq (rv_t1 (Pv.rv (e := (eT D.int)) (v := ([] : List Int)) (Rv.pv (e := (eT D.int)) (v := []) rv_t0))) ok_bnd)))) (rl_cons (e := id) (Pv.rv (e := id) (v := (eP1 (eP1 D.int)) 1) (show Pv _ _ (id ((eP1 (eP1 D.int)) 1)) from (Rv.pv (e := (eP1 (eP1 D.int))) (v := 1) (Rv.eq (rv_t1 (Pv.rv (e := (eP1 D.int)) (v := 1) (Rv.pv (e := (eP1 D.int)) (v := 1) (Rv.eq (rv_t1 (Pv.rv (e := D.int) (v := 1) (show Pv _ _ (D.int (1)) from pv_c _))) ok_bnd)))) ok_bnd)))) (rl_cons (e := id) (Pv.rv (e := id) (v := (eP2 D.int eW) ((1, (wd "")))) (show Pv _ _ (id ((eP2 D.int eW) ((1, (wd ""))))) from (Rv.pv (e := (eP2 D.int eW)) (v := (1, (wd ""))) (Rv.eq (rv_t2 (Pv.rv (e := D.int) (v := 1) (show Pv _ _ (D.int (1)) from pv_c _)) (Pv.rv (e := eW) (v := (wd "")) (show Pv _ _ (eW (wd "")) from pv_c _))) (ok_bnd.trans ok_bnd))))) rl_nil))))))))) rfl zle) rfl))) ?_
                  refine ja_nil ⟨_, _, rfl, rfl, rfl, _, _, _, _, call__law_one_L id q24.2 ([eN (()), eW ((wd "")), eW ((wd "w")), D.int 0, (eP1 eW) ((wd "1")), (eP1 eN) (()), (eP1 (eT D.int)) (([] : List Int)), (eP1 (eP1 D.int)) 1, (eP2 D.int eW) ((1, (wd "")))]), wp_use h (fun q25 h => ⟨(nlf rfl), ?_⟩) (fun _ _ h => fun _ => h)⟩
                  refine ja_nil ⟨_, _, _, _, rfl, rfl, rfl, ?_⟩
                  refine js_norm [.dat ((eFL D.int) script1), .dat (D.int x4), .own (cL D.int q25.2), .dat (D.int j8.2), .dat ((eT (eT D.int)) q11), .no, .dat (D.int q24.1), .dat (id q25.1), .no] rfl ?_
                  refine js_for ?_
                  refine J.use h (ri_iter (e := id) (f := fun v => v) (sq_L _) (rv_f (rv_lst (rl_cons (e := id) (Pv.rv (e := id) (v := eN (())) (show Pv _ _ (id (eN (()))) from (show Pv _ _ (eN ()) from pv_c _))) (rl_cons (e := id) (Pv.rv (e := id) (v := eW ((wd ""))) (show Pv _ _ (id (eW ((wd "")))) from (show Pv _ _ (eW (wd "")) from pv_c _))) (rl_cons (e := id) (Pv.rv (e := id) (v := eW ((wd "wl"))) (show Pv _ _ (id (eW ((wd "wl")))) from (show Pv _ _ (eW (wd "wl")) from pv_c _))) (rl_cons (e := id) (Pv.rv (e := id) (v := D.int 0) (show Pv _ _ (id (D.int 0)) from (show Pv _ _ (D.int (0)) from pv_c _))) (rl_cons (e := id) (Pv.rv (e := id) (v := (eP1 eN) (())) (show Pv _ _ (id ((eP1 eN) (()))) from (Rv.pv (e := (eP1 eN)) (v := ()) (Rv.eq (rv_t1 (Pv.rv (e := eN) (v := ()) (show Pv _ _ (eN ()) from pv_c _))) ok_bnd)))) (rl_cons (e := id) (Pv.rv (e := id) (v := (eP1 D.int) 0) (show Pv _ _ (id ((eP1 D.int) 0)) from (Rv.pv (e := (eP1 D.int)) (v := 0) (Rv.eq (rv_t1 (Pv.rv (e := D.int) (v := 0) (show Pv _ _ (D.int (0)) from pv_c _))) ok_bnd)))) (rl_cons (e := id) (Pv.rv (e := id) (v := (eP1 eW) ((wd ""))) (show Pv _ _ (id ((eP1 eW) ((wd "")))) from (Rv.pv (e := (eP1 eW)) (v := (wd "")) (Rv.eq (rv_t1 (Pv.rv (e := eW) (v := (wd "")) (show Pv _ _ (eW (wd "")) from pv_c _))) ok_bnd)))) (rl_cons (e := id) (Pv.rv (e := id) (v := (eP1 (eT (eT D.int))) q11) (show Pv _ _ (id ((eP1 (eT (eT D.int))) q11)) from (Rv.pv (e := (eP1 (eT (eT D.int)))) (v := q11) (Rv.eq (rv_t1 (Pv.rv (e := (eT (eT D.int))) (v := q11) (show Pv _ _ ((eT (eT D.int)) q11) from pv_var 4 rfl))) ok_bnd)))) (rl_cons (e := id) (Rv.map (f := fun v28 => (eT id) v28) (e' := id) (rv_rp (e := (eT id)) (rv_pp (e := (eT id)) (Pv.cast (Rv.pv (e := (eT (eT D.int))) (v := cutL q11 none (some q24.1)) (Rv.eq (rv_sl (ct_T (eT D.int)) (Pv.rv (e := (eT (eT D.int))) (v := q11) (show Pv _ _ ((eT (eT D.int)) q11) from pv_var 4 rfl)) ro_none (ro_some (Pv.rv (e := D.int) (v := q24.1) (show Pv _ _ (D.int q24.1) from pv_var 6 rfl)))) (by simp only [bnd_bnd, ok_bnd]))) (eT_id (eT D.int) (cutL q11 none (some q24.1)))) (show Pv _ _ ((eT id) ([q25.1])) from (Rv.pv (e := (eP1 id)) (v := q25.1) (Rv.eq (rv_t1 (Pv.rv (e := id) (v := q25.1) (show Pv _ _ (id q25.1) from pv_var 7 rfl))) ok_bnd))) (op_catT id ((cutL q11 none (some q24.1)).map (eT D.int)) ([q25.1]))) (Pv.cast (Rv.pv (e := (eT (eT D.int))) (v := cutL q11 (some (q24.1 + 1)) none) (Rv.eq (rv_sl (ct_T (eT D.int)) (Pv.rv (e := (eT (eT D.int))) (v := q11) (show Pv _ _ ((eT (eT D.int)) q11) from pv_var 4 rfl)) (ro_some (Pv.rv (e := D.int) (v := q24.1 + 1) (show Pv _ _ (D.int (q24.1 + 1)) from pv_op (show Pv _ _ (D.int q24.1) from pv_var 6 rfl) (show Pv _ _ (D.int (1)) from pv_c _) (ev_add q24.1 1)))) ro_none) (by simp only [bnd_bnd, ok_bnd]))) (eT_id (eT D.int) (cutL q11 (some (q24.1 + 1)) none))) fun v27 => (op_catT id v27 ((cutL q11 (some (q24.1 + 1)) none).map (eT D.int)))) fun _ => rfl) rl_nil)))))))))))) (by first | (simp only [bnd_bnd, ok_bnd]; done) | rfl) (fun xs31 h => ?_) (fun _ _ h => h)
                  rw [wp_bnd] at h
                  refine a_forS id (fun (b32 : Unit) => [.dat ((eFL D.int) script1), .dat (D.int x4), .own (cL D.int q25.2), .dat (D.int j8.2), .dat ((eT (eT D.int)) q11), .no, .dat (D.int q24.1), .dat (id q25.1), .no]) (fun (v : Bool) d A' => d = D.bl v) ?_ ?_ ?_ _ _ _ (by repeat (first | exact Le.nil | refine Le.keep ?_ | refine Le.drop ?_)) h
                  · as_aux_lemma =>
                      intro b32 x33 Q h
                      refine jg_name rfl ?_
                      refine js_if ?_
                      refine J.use h (rb_t (rv_rp (e := D.bl) (rv_call1 (Pv.rv (e := id) (v := x33) (show Pv _ _ (id x33) from pv_var 8 rfl)) fun a0 => call_is_records a0) (show Pv _ _ (D.bl false) from pv_c _) fun v34 => (opr_ok (e := D.bl) (ev_isB true v34 false)))) (by first | (simp only [bnd_bnd, ok_bnd]; done) | rfl) (fun v35 h => ?_) (fun _ _ h => h)
                      refine ite_c h (fun h => ?_) (fun h => ?_)
                      · refine js_ret ?_
                        refine J.pv (show Pv _ _ (D.bl false) from pv_c _) ?_
                        replace h := wp_o h
                        exact ⟨false, rfl, h⟩
                      · refine js_next ?_
                        replace h := wp_o h
                        exact ⟨(), (by repeat (first | exact Le.nil | refine Le.keep ?_ | refine Le.drop ?_)), h⟩
                  · intro b36 h
                    rw [on_nx] at h
                    replace h := wp_o h
                    exact ⟨(), (by repeat (first | exact Le.nil | refine Le.keep ?_ | refine Le.drop ?_)), h⟩
                  · intro v37 d A' hr h
                    rw [on_rt] at h
                    replace h := wp_o h
                    exact ⟨v37, hr, h⟩
              · intro v39 d A' hr h
                rw [on_rt] at h
                replace h := wp_o h
                exact ⟨v39, hr, h⟩
  · intro b41 h
    rw [on_nx] at h
    refine js_ret ?_
    refine J.pv (show Pv _ _ (D.bl true) from pv_c _) ?_
    replace h := wp_o h
    exact h
  · intro v42 d A' hr h
    rw [on_rt] at h
    subst hr
    replace h := wp_o h
    exact h
theorem ok_is_number {P : Program} {w : World} {K : PySem.W.Frag} {mg : Str → Option Value} {base : Heap} {CA : Str → Addr} (T : Txt K mg CA) : FnOk P w K mg base (L2.CX P w) 1 T.f_is_number T.fd_is_number ["value"] (lSp ⟨K, CA, T.TA⟩ sp_is_number) :=
  fn_ok (td := td_is_number) T.F_is_number sc_is_number ⟨K, CA, T.TA⟩ len_is_number (by decide) (fun cdv A outer s H E hr => (dss_one (ds_ret (de_and (de_isT kit_int (by simp) (by rfl) T.z_isinstance (de_var 0 (pv 0)) (pe_bltn (by rfl) T.z_int (by decide +kernel) rfl)) (de_one (de_not (de_isT kit_bool (by simp) (by rfl) T.z_isinstance (de_var 0 (pv 0)) (pe_bltn (by rfl) T.z_bool (by decide +kernel) rfl)))))))) math_is_number
theorem ok_are_numbers {P : Program} {w : World} {K : PySem.W.Frag} {mg : Str → Option Value} {base : Heap} {CA : Str → Addr} (T : Txt K mg CA) (TB_are_numbers : GxR.TabB base mg T.cc_are_numbers T.tt_are_numbers) (G_is_number : FnOk P w K mg base (L2.CX P w) 1 T.f_is_number T.fd_is_number ["value"] (lSp ⟨K, CA, T.TA⟩ sp_is_number)) : FnOk P w K mg base (L2.CX P w) 5 T.f_are_numbers T.fd_are_numbers ["value"] (lSp ⟨K, CA, T.TA⟩ sp_are_numbers) :=
  fn_okC (td := td_are_numbers) T.FC_are_numbers sc_are_numbers ⟨K, CA, T.TA⟩ len_are_numbers (by decide) (fun A outer s H E hr => (dss_one (ds_ret (de_and (de_isT kit_tuple (by simp) (by rfl) T.z_isinstance (de_var 0 (pv 0)) (pe_bltn (by rfl) T.z_tuple (by decide +kernel) rfl)) (de_one (de_allG (k := 0) (own := [("part", 1)]) (ix := [1]) T.mem_are_numbers (hr.mono (by decide)) (by rfl) sc_are_numbers.nd (by rfl) T.z_all TB_are_numbers rfl rfl (by decide +kernel) (by decide +kernel) (blkOk_by (N := ["value", "part"]) (sc := defScope st_are_numbers) (by decide +kernel)) (di_seq (de_var 0 (pv 0))) (fun _ _ _ _ _ _ _ => (dg_name (pg_name (i := 1) sc_are_numbers.nd rfl (by first | exact Or.inl rfl | exact Or.inr rfl)))) (fun _ _ _ _ _ _ _ => (de_call takes0 G_is_number (((hr.mono (by decide : 4 ≤ 4)).in1.in1.deeper _).mono (by decide)) (by rfl) T.g_is_number T.F_is_number.kp T.b_is_number (da_cons (de_var 1 (pv 1)) da_nil))))))))) math_are_numbers
theorem ok_are_rows {P : Program} {w : World} {K : PySem.W.Frag} {mg : Str → Option Value} {base : Heap} {CA : Str → Addr} (T : Txt K mg CA) (TB_are_rows : GxR.TabB base mg T.cc_are_rows T.tt_are_rows) (G_are_numbers : FnOk P w K mg base (L2.CX P w) 5 T.f_are_numbers T.fd_are_numbers ["value"] (lSp ⟨K, CA, T.TA⟩ sp_are_numbers)) : FnOk P w K mg base (L2.CX P w) 9 T.f_are_rows T.fd_are_rows ["value"] (lSp ⟨K, CA, T.TA⟩ sp_are_rows) :=
  fn_okC (td := td_are_rows) T.FC_are_rows sc_are_rows ⟨K, CA, T.TA⟩ len_are_rows (by decide) (fun A outer s H E hr => (dss_one (ds_ret (de_and (de_isT kit_tuple (by simp) (by rfl) T.z_isinstance (de_var 0 (pv 0)) (pe_bltn (by rfl) T.z_tuple (by decide +kernel) rfl)) (de_one (de_allG (k := 0) (own := [("part", 1)]) (ix := [1]) T.mem_are_rows (hr.mono (by decide)) (by rfl) sc_are_rows.nd (by rfl) T.z_all TB_are_rows rfl rfl (by decide +kernel) (by decide +kernel) (blkOk_by (N := ["value", "part"]) (sc := defScope st_are_rows) (by decide +kernel)) (di_seq (de_var 0 (pv 0))) (fun _ _ _ _ _ _ _ => (dg_name (pg_name (i := 1) sc_are_rows.nd rfl (by first | exact Or.inl rfl | exact Or.inr rfl)))) (fun _ _ _ _ _ _ _ => (de_call takes0 G_are_numbers (((hr.mono (by decide : 8 ≤ 8)).in1.in1.deeper _).mono (by decide)) (by rfl) T.g_are_numbers T.F_are_numbers.kp T.b_are_numbers (da_cons (de_var 1 (pv 1)) da_nil))))))))) math_are_rows
theorem ok_check_letters {P : Program} {w : World} {K : PySem.W.Frag} {mg : Str → Option Value} {base : Heap} {CA : Str → Addr} (T : Txt K mg CA) (G_INI : FnOk P w K mg base (L2.CX P w) 1 T.f_ini T.fd_ini ["self", "what"] (spIni K)) : FnOk P w K mg base (L2.CX P w) 3 T.f_check_letters T.fd_check_letters ["x", "row"] (lSp ⟨K, CA, T.TA⟩ sp_check_letters) :=
  fn_ok (td := td_check_letters) T.F_check_letters sc_check_letters ⟨K, CA, T.TA⟩ len_check_letters (by decide) (fun cdv A outer s H E hr => (dss_one (ds_for (ps_for (passes_of rfl) rfl (di_enum (by rfl) T.z_enumerate (da_cons (de_var 1 (pv 1)) da_nil)) (dg_tup (by rfl) (dgs_cons (dg_name (pg_name (i := 2) sc_check_letters.nd rfl (by first | exact Or.inl rfl | exact Or.inr rfl))) (dgs_cons (dg_name (pg_name (i := 3) sc_check_letters.nd rfl (by first | exact Or.inl rfl | exact Or.inr rfl))) (dgs_nil (ix := []))))) (dss_cons (ds_set (ps_set (i := 4) sc_check_letters.nd rfl (by first | exact Or.inl rfl | exact Or.inr rfl) (de_and (de_cmp op_gt (fun _ _ _ _ h => lI2b h) (de_var 2 (pv 2)) de_int (nomark _)) (de_one (de_cmp (op_eqD hr.units) (l_eq rfl) (de_ix rfl (de_var 1 (pv 1)) (de_sub (de_var 2 (pv 2)) de_int) (fun _ _ => rfl)) (de_c (v := .int (-1)) (pe_glob (by rfl) T.c_LOSES ⟨_, rfl⟩) (fun _ _ => by simp only [Rep])) (nomark _))))))
  (dss_one (ds_if (PW.pt (dw_or (dt_tru rfl (de_var 4 (pv 4))) (dw_or1 (dt_cmp (op_notInA (hu65 hr)) (l_notIn rfl) (de_var 3 (pv 3)) (de_tup (da_cons (de_c (v := .int (1)) (pe_glob (by rfl) T.c_WINS ⟨_, rfl⟩) (fun _ _ => by simp only [Rep])) (da_cons (de_c (v := .int (0)) (pe_glob (by rfl) T.c_RESTS ⟨_, rfl⟩) (fun _ _ => by simp only [Rep])) (da_cons (de_c (v := .int (-1)) (pe_glob (by rfl) T.c_LOSES ⟨_, rfl⟩) (fun _ _ => by simp only [Rep])) da_nil)))) (by rfl))))) (dss_one (ds_raise rfl (T.e_er "BadRecord" (by decide)) T.ti_ini G_INI (hr.mono (by decide)) T.b_ini rfl (takes_of rfl rfl rfl rfl) (by rfl) T.gC_BadRecord (de_tup (da_cons (de_var 0 (pv 0)) (da_cons (de_var 2 (pv 2)) da_nil))) passL)) dss_nil))))))) math_check_letters
theorem ok_check_rounds {P : Program} {w : World} {K : PySem.W.Frag} {mg : Str → Option Value} {base : Heap} {CA : Str → Addr} (T : Txt K mg CA) (G_INI : FnOk P w K mg base (L2.CX P w) 1 T.f_ini T.fd_ini ["self", "what"] (spIni K)) : FnOk P w K mg base (L2.CX P w) 3 T.f_check_rounds T.fd_check_rounds ["rows", "longest"] (lSp ⟨K, CA, T.TA⟩ sp_check_rounds) :=
  fn_ok (td := td_check_rounds) T.F_check_rounds sc_check_rounds ⟨K, CA, T.TA⟩ len_check_rounds (by decide) (fun cdv A outer s H E hr => (dss_one (ds_for (ps_for (passes_of rfl) rfl (di_range1 (by rfl) T.z_range (da_cons (de_var 1 (pv 1)) da_nil)) (dg_name (pg_name (i := 2) sc_check_rounds.nd rfl (by first | exact Or.inl rfl | exact Or.inr rfl))) (dss_cons (ds_set (ds_fe (ds_lc (ps_setLc (i := 3) (own := [("row", 4)]) (by rfl) sc_check_rounds.nd rfl rfl (sw_true rfl rfl rfl (by decide +kernel)) (di_seq (de_var 0 (pv 0))) (blkOk_by (N := ["rows", "longest", "i", "letters", "row"]) (sc := defScope st_check_rounds) (by decide +kernel)) (fun _ _ _ _ _ => (dg_name (pg_name (i := 4) sc_check_rounds.nd rfl (by first | exact Or.inl rfl | exact Or.inr rfl)))) (fun _ _ _ _ _ => (dts_one (dt_cmp op_lt (fun _ _ _ _ h => lI2b h) (de_var 2 (pv 2)) (de_len rfl (by rfl) T.z_len (da_cons (de_var 4 (pv 4)) da_nil)) (nomark _)))) (fun _ _ _ _ _ => (de_ix rfl (de_var 4 (pv 4)) (de_var 2 (pv 2)) (fun _ _ => rfl)))))))
  (dss_one (ds_if (PW.pt (dw_or (dt_cmp (op_notInA (hu65 hr)) (l_notIn rfl) (de_c (v := .int (-1)) (pe_glob (by rfl) T.c_LOSES ⟨_, rfl⟩) (fun _ _ => by simp only [Rep])) (de_var 3 (pv 3)) (by rfl)) (dw_or1 (dt_cmp (op_neD hr.units) (l_ne rfl) (de_count (pe_bm PySem.F.plainAttrs_list PySem.F.slot_list_count PySem.F.type_list_count mt_lcount (de_var 3 (pv 3)) (pa_cons (de_c (v := .int (1)) (pe_glob (by rfl) T.c_WINS ⟨_, rfl⟩) (fun _ _ => by simp only [Rep])) pa_nil))) (de_count (pe_bm PySem.F.plainAttrs_list PySem.F.slot_list_count PySem.F.type_list_count mt_lcount (de_var 3 (pv 3)) (pa_cons (de_c (v := .int (-1)) (pe_glob (by rfl) T.c_LOSES ⟨_, rfl⟩) (fun _ _ => by simp only [Rep])) pa_nil))) (nomark _))))) (dss_one (ds_raise rfl (T.e_er "BadRounds" (by decide)) T.ti_ini G_INI (hr.mono (by decide)) T.b_ini rfl (takes_of rfl rfl rfl rfl) (by rfl) T.gC_BadRounds (de_add (de_var 2 (pv 2)) de_int) passL)) dss_nil))))))) math_check_rounds
theorem ok_made_records {P : Program} {w : World} {K : PySem.W.Frag} {mg : Str → Option Value} {base : Heap} {CA : Str → Addr} (T : Txt K mg CA) (G_INI : FnOk P w K mg base (L2.CX P w) 1 T.f_ini T.fd_ini ["self", "what"] (spIni K)) (G_check_letters : FnOk P w K mg base (L2.CX P w) 3 T.f_check_letters T.fd_check_letters ["x", "row"] (lSp ⟨K, CA, T.TA⟩ sp_check_letters)) (G_check_rounds : FnOk P w K mg base (L2.CX P w) 3 T.f_check_rounds T.fd_check_rounds ["rows", "longest"] (lSp ⟨K, CA, T.TA⟩ sp_check_rounds)) : FnOk P w K mg base (L2.CX P w) 4 T.f_made_records T.fd_made_records ["rows"] (lSp ⟨K, CA, T.TA⟩ sp_made_records) :=
  fn_ok (td := td_made_records) T.F_made_records sc_made_records ⟨K, CA, T.TA⟩ len_made_records (by decide) (fun cdv A outer s H E hr => (dss_cons (ds_if (dt_not (dt_chain (pt_chain op_le op_le de_int (de_len rfl (by rfl) T.z_len (da_cons (de_var 0 (pv 0)) da_nil)) (de_c (v := .int (32)) (pe_glob (by rfl) T.c_MOST_SIDES ⟨_, rfl⟩) (fun _ _ => by simp only [Rep]))) (fun _ _ _ _ h => lI2b h) (fun _ _ _ _ h => lI2b h))) (dss_one (ds_raise rfl (T.e_er "BadSize" (by decide)) T.ti_ini G_INI (hr.mono (by decide)) T.b_ini rfl (takes_of rfl rfl rfl rfl) (by rfl) T.gC_BadSize (de_len rfl (by rfl) T.z_len (da_cons (de_var 0 (pv 0)) da_nil)) passL)) dss_nil)
  (dss_cons (ds_for (ps_for (passes_of rfl) rfl (di_enum (by rfl) T.z_enumerate (da_cons (de_var 0 (pv 0)) da_nil)) (dg_tup (by rfl) (dgs_cons (dg_name (pg_name (i := 1) sc_made_records.nd rfl (by first | exact Or.inl rfl | exact Or.inr rfl))) (dgs_cons (dg_name (pg_name (i := 2) sc_made_records.nd rfl (by first | exact Or.inl rfl | exact Or.inr rfl))) (dgs_nil (ix := []))))) (dss_one (ds_expr (de_call (takes_of rfl rfl rfl rfl) G_check_letters (hr.mono (by decide)) (by rfl) T.g_check_letters T.F_check_letters.kp T.b_check_letters (da_cons (de_var 1 (pv 1)) (da_cons (de_var 2 (pv 2)) da_nil)))))))
  (dss_cons (ds_set (ps_set (i := 3) sc_made_records.nd rfl (by first | exact Or.inl rfl | exact Or.inr rfl) (de_max1 rfl (by rfl) T.z_max (da_cons (de_f (df_lc (pe_lc (own := [("row", 2)]) (by rfl) sc_made_records.nd (di_seq (de_var 0 (pv 0))) (blkOk_by (N := ["rows", "x", "row", "longest"]) (sc := defScope st_made_records) (by decide +kernel)) (fun _ _ _ _ _ => (dg_name (pg_name (i := 2) sc_made_records.nd rfl (by first | exact Or.inl rfl | exact Or.inr rfl)))) (fun _ _ _ _ _ => dts_nil) (fun _ _ _ _ _ => (de_len rfl (by rfl) T.z_len (da_cons (de_var 2 (pv 2)) da_nil)))))) da_nil))))
  (dss_cons (ds_for (ps_for (passes_of rfl) rfl (di_enum (by rfl) T.z_enumerate (da_cons (de_var 0 (pv 0)) da_nil)) (dg_tup (by rfl) (dgs_cons (dg_name (pg_name (i := 1) sc_made_records.nd rfl (by first | exact Or.inl rfl | exact Or.inr rfl))) (dgs_cons (dg_name (pg_name (i := 2) sc_made_records.nd rfl (by first | exact Or.inl rfl | exact Or.inr rfl))) (dgs_nil (ix := []))))) (dss_one (ds_if (PW.pt (dw_and (dt_cmp (op_notInA (hu65 hr)) (l_notIn rfl) (de_c (v := .int (-1)) (pe_glob (by rfl) T.c_LOSES ⟨_, rfl⟩) (fun _ _ => by simp only [Rep])) (de_var 2 (pv 2)) (by rfl)) (dw_and1 (dt_cmp (op_neD hr.units) (l_ne rfl) (de_len rfl (by rfl) T.z_len (da_cons (de_var 2 (pv 2)) da_nil)) (de_var 3 (pv 3)) (nomark _))))) (dss_one (ds_raise rfl (T.e_er "BadRecord" (by decide)) T.ti_ini G_INI (hr.mono (by decide)) T.b_ini rfl (takes_of rfl rfl rfl rfl) (by rfl) T.gC_BadRecord (de_tup (da_cons (de_var 1 (pv 1)) (da_cons (de_neg de_int) da_nil))) passL)) dss_nil))))
  (dss_cons (ds_expr (de_call (takes_of rfl rfl rfl rfl) G_check_rounds (hr.mono (by decide)) (by rfl) T.g_check_rounds T.F_check_rounds.kp T.b_check_rounds (da_cons (de_var 0 (pv 0)) (da_cons (de_var 3 (pv 3)) da_nil))))
  (dss_one (ds_ret (de_var 0 (pv 0)))))))))) math_made_records
theorem ok_is_records {P : Program} {w : World} {K : PySem.W.Frag} {mg : Str → Option Value} {base : Heap} {CA : Str → Addr} (T : Txt K mg CA) (G_are_rows : FnOk P w K mg base (L2.CX P w) 9 T.f_are_rows T.fd_are_rows ["value"] (lSp ⟨K, CA, T.TA⟩ sp_are_rows)) (G_made_records : FnOk P w K mg base (L2.CX P w) 4 T.f_made_records T.fd_made_records ["rows"] (lSp ⟨K, CA, T.TA⟩ sp_made_records)) : FnOk P w K mg base (L2.CX P w) 10 T.f_is_records T.fd_is_records ["rows"] (lSp ⟨K, CA, T.TA⟩ sp_is_records) :=
  fn_ok (td := td_is_records) T.F_is_records sc_is_records ⟨K, CA, T.TA⟩ len_is_records (by decide) (fun cdv A outer s H E hr => (dss_cons (ds_if (dt_not (dt_tru rfl (de_call (takes_of rfl rfl rfl rfl) G_are_rows (hr.mono (by decide)) (by rfl) T.g_are_rows T.F_are_rows.kp T.b_are_rows (da_cons (de_var 0 (pv 0)) da_nil)))) (dss_one (ds_ret de_bl)) dss_nil)
  (dss_cons (ds_try rfl rfl (takes_of rfl rfl rfl rfl) (fun W pn xe tk _ => (dss_one (ds_expr (de_call tk G_made_records (hr.mono (by decide)) (by rfl) T.g_made_records T.F_made_records.kp T.b_made_records (da_cons (de_var 0 (pv 0)) da_nil))))) (fun c hc q hq => T.em_er c hc q.2.1 (by simp only [List.mem_cons, List.not_mem_nil, or_false] at hq; subst hq; simp [HC_])) (.un ⟨by rfl, by decide, .inl T.gC_Refused⟩ (fun a oe cls d pn hz hf => suite_ok fun dd c hc ec ed => (dss_one (ds_ret de_bl))) .nil))
  (dss_one (ds_ret de_bl))))) math_is_records
theorem ok__law_pool {P : Program} {w : World} {K : PySem.W.Frag} {mg : Str → Option Value} {base : Heap} {CA : Str → Addr} (T : Txt K mg CA) : FnOk P w K mg base (L2.CX P w) 1 T.f__law_pool T.fd__law_pool ["_law_script", "_law_k"] (lSpF ⟨K, CA, T.TA⟩ sp__law_pool) :=
  fn_okF (td := td__law_pool) T.F__law_pool sc__law_pool ⟨K, CA, T.TA⟩ len__law_pool (by decide) (fun cdv A outer s H E hr => ⟨_, (pss_cons (ds_set (ps_set (i := 2) sc__law_pool.nd rfl (by first | exact Or.inl rfl | exact Or.inr rfl) de_int))
  (pss_cons (ds_if (dt_cmp op_lt (fun _ _ _ _ h => lI2b h) (de_var 1 (pv 1)) (de_len rfl (by rfl) T.z_len (da_cons (de_var 0 (pv 0)) da_nil)) (nomark _)) (dss_one (ds_set (ps_set (i := 2) sc__law_pool.nd rfl (by first | exact Or.inl rfl | exact Or.inr rfl) (de_ix rfl (de_var 0 (pv 0)) (de_var 1 (pv 1)) (fun _ _ => rfl))))) (dss_one (ds_if (dt_tru rfl (de_var 0 (pv 0))) (dss_one (ds_set (ps_set (i := 2) sc__law_pool.nd rfl (by first | exact Or.inl rfl | exact Or.inr rfl) (de_ix rfl (de_var 0 (pv 0)) de_int (fun _ _ => rfl))))) dss_nil)))
  (pss_cons (ds_set (ps_set (i := 3) sc__law_pool.nd rfl (by first | exact Or.inl rfl | exact Or.inr rfl) (de_max2 rfl (by rfl) T.z_max (da_cons (de_intc (by rfl) T.z_int (da_cons (de_var 2 (pv 2)) da_nil)) (da_cons (de_intc (by rfl) T.z_int (da_cons (de_sub (de_neg de_int) (de_var 2 (pv 2))) da_nil)) da_nil)))))
  (pss_cons (ds_set (ps_set (i := 4) sc__law_pool.nd rfl (by first | exact Or.inl rfl | exact Or.inr rfl) (de_mod (de_intc (by rfl) T.z_int (da_cons (de_mul (de_add (de_add (de_add (de_mod (de_intc (by rfl) T.z_int (da_cons (de_var 3 (pv 3)) da_nil)) de_int) (de_mul (de_mul de_int (de_var 1 (pv 1))) (de_var 1 (pv 1)))) (de_mul de_int (de_var 1 (pv 1)))) de_int) de_int) da_nil)) de_int)))
  (pss_one (ps_ret (df_lst (da_cons (de_mul (de_var 3 (pv 3)) (de_intc (by rfl) T.z_int (da_cons (de_cmp op_ge (fun _ _ _ _ h => lI2b h) (de_var 3 (pv 3)) (de_pow de_int de_int) (nomark _)) da_nil))) (da_cons (de_var 4 (pv 4)) da_nil))))))))), (rf_cons (rf_cons (rf_cons (rf_cons rf_ret))))⟩) math__law_pool
theorem ok__law_take {P : Program} {w : World} {K : PySem.W.Frag} {mg : Str → Option Value} {base : Heap} {CA : Str → Addr} (T : Txt K mg CA) : FnOk P w K mg base (L2.CX P w) 1 T.f__law_take T.fd__law_take ["_law_source", "_law_top"] (lSp ⟨K, CA, T.TA⟩ sp__law_take) :=
  fn_ok (td := td__law_take) T.F__law_take sc__law_take ⟨K, CA, T.TA⟩ len__law_take (by decide) (fun cdv A outer s H E hr => (dss_cons (ds_if (dt_cmp op_gt (fun _ _ _ _ h => lI2b h) (de_ixC 0 (pv 0) de_int (fun _ _ => rfl)) de_int (nomark _)) (dss_cons (ds_set (ps_set (i := 2) sc__law_take.nd rfl (by first | exact Or.inl rfl | exact Or.inr rfl) (de_mod (de_intc (by rfl) T.z_int (da_cons (de_ixC 0 (pv 0) de_int (fun _ _ => rfl)) da_nil)) (de_var 1 (pv 1)))))
  (dss_cons (ds_setIx 0 (ps_asg (de_div (de_ixC 0 (pv 0) de_int (fun _ _ => rfl)) (de_var 1 (pv 1))) (pg_sub (pv 0) de_int set_list)))
  (dss_one (ds_ret (de_var 2 (pv 2)))))) dss_nil)
  (dss_cons (ds_setIx 0 (ps_asg (de_mod (de_intc (by rfl) T.z_int (da_cons (de_add (de_mul (de_ixC 0 (pv 0) de_int (fun _ _ => rfl)) de_int) de_int) da_nil)) de_int) (pg_sub (pv 0) de_int set_list)))
  (dss_one (ds_ret (de_mod (de_intc (by rfl) T.z_int (da_cons (de_div (de_mod (de_intc (by rfl) T.z_int (da_cons (de_mul (de_ixC 0 (pv 0) de_int (fun _ _ => rfl)) (de_ixC 0 (pv 0) de_int (fun _ _ => rfl))) da_nil)) de_int) de_int) da_nil)) (de_var 1 (pv 1)))))))) math__law_take
theorem ok__law_one {P : Program} {w : World} {K : PySem.W.Frag} {mg : Str → Option Value} {base : Heap} {CA : Str → Addr} (T : Txt K mg CA) (G__law_take : FnOk P w K mg base (L2.CX P w) 1 T.f__law_take T.fd__law_take ["_law_source", "_law_top"] (lSp ⟨K, CA, T.TA⟩ sp__law_take)) : FnOk P w K mg base (L2.CX P w) 2 T.f__law_one T.fd__law_one ["_law_source", "_law_things"] (lSp ⟨K, CA, T.TA⟩ sp__law_one) :=
  fn_ok (td := td__law_one) T.F__law_one sc__law_one ⟨K, CA, T.TA⟩ len__law_one (by decide) (fun cdv A outer s H E hr => (dss_one (ds_ret (de_ix rfl (de_var 1 (pv 1)) (de_call (takes_of rfl rfl rfl rfl) G__law_take (hr.mono (by decide)) (by rfl) T.g__law_take T.F__law_take.kp T.b__law_take (da_consC 0 (pv 0) (da_cons (de_len rfl (by rfl) T.z_len (da_cons (de_var 1 (pv 1)) da_nil)) da_nil))) (fun _ _ => rfl))))) math__law_one
theorem ok__law_shuffled {P : Program} {w : World} {K : PySem.W.Frag} {mg : Str → Option Value} {base : Heap} {CA : Str → Addr} (T : Txt K mg CA) (G__law_take : FnOk P w K mg base (L2.CX P w) 1 T.f__law_take T.fd__law_take ["_law_source", "_law_top"] (lSp ⟨K, CA, T.TA⟩ sp__law_take)) : FnOk P w K mg base (L2.CX P w) 2 T.f__law_shuffled T.fd__law_shuffled ["_law_source", "_law_count"] (lSp ⟨K, CA, T.TA⟩ sp__law_shuffled) :=
  fn_ok (td := td__law_shuffled) T.F__law_shuffled sc__law_shuffled ⟨K, CA, T.TA⟩ len__law_shuffled (by decide) (fun cdv A outer s H E hr => (dss_cons (ds_parG (ps_par (i := 2) (j := 3) (by rfl) sc__law_shuffled.nd rfl rfl (by decide) rfl rfl (dag_consF (df_lc (pe_lc (own := [("_law_x", 4)]) (by rfl) sc__law_shuffled.nd (di_range1 (by rfl) T.z_range (da_cons (de_var 1 (pv 1)) da_nil)) (blkOk_by (N := ["_law_source", "_law_count", "_law_left", "_law_found", "_law_x", "_law_turn"]) (sc := defScope st__law_shuffled) (by decide +kernel)) (fun _ _ _ _ _ => (dg_name (pg_name (i := 4) sc__law_shuffled.nd rfl (by first | exact Or.inl rfl | exact Or.inr rfl)))) (fun _ _ _ _ _ => dts_nil) (fun _ _ _ _ _ => (de_var 4 (pv 4))))) (dag_consF (df_lst da_nil) dag_nil)) (by rfl)))
  (dss_cons (ds_for (ps_for (passes_of rfl) rfl (di_range1 (by rfl) T.z_range (da_cons (de_var 1 (pv 1)) da_nil)) (dg_name (pg_name (i := 5) sc__law_shuffled.nd rfl (by first | exact Or.inl rfl | exact Or.inr rfl))) (dss_one (ds_expr (de_append 3 (pe_bm PySem.F.plainAttrs_list PySem.F.slot_list_append PySem.F.type_list_append mt_append (pv 3) (pa_cons (de_popAt 2 (pe_bm PySem.F.plainAttrs_list PySem.F.slot_list_pop PySem.F.type_list_pop mt_popAt (pv 2) (pa_cons (de_call (takes_of rfl rfl rfl rfl) G__law_take (hr.mono (by decide)) (by rfl) T.g__law_take T.F__law_take.kp T.b__law_take (da_consC 0 (pv 0) (da_cons (de_len rfl (by rfl) T.z_len (da_consC 2 (pv 2) da_nil)) da_nil))) pa_nil))) pa_nil)))))))
  (dss_freeze 3 (dss_one (ds_ret (de_var 3 (pv 3)))))))) math__law_shuffled
theorem ok__law_figures {P : Program} {w : World} {K : PySem.W.Frag} {mg : Str → Option Value} {base : Heap} {CA : Str → Addr} (T : Txt K mg CA) (G__law_take : FnOk P w K mg base (L2.CX P w) 1 T.f__law_take T.fd__law_take ["_law_source", "_law_top"] (lSp ⟨K, CA, T.TA⟩ sp__law_take)) (G__law_shuffled : FnOk P w K mg base (L2.CX P w) 2 T.f__law_shuffled T.fd__law_shuffled ["_law_source", "_law_count"] (lSp ⟨K, CA, T.TA⟩ sp__law_shuffled)) : FnOk P w K mg base (L2.CX P w) 3 T.f__law_figures T.fd__law_figures ["_law_source", "_law_n"] (lSp ⟨K, CA, T.TA⟩ sp__law_figures) :=
  fn_ok (td := td__law_figures) T.F__law_figures sc__law_figures ⟨K, CA, T.TA⟩ len__law_figures (by decide) (fun cdv A outer s H E hr => (dss_cons (ds_set (ps_set (i := 2) sc__law_figures.nd rfl (by first | exact Or.inl rfl | exact Or.inr rfl) (de_call (takes_of rfl rfl rfl rfl) G__law_take (hr.mono (by decide)) (by rfl) T.g__law_take T.F__law_take.kp T.b__law_take (da_consC 0 (pv 0) (da_cons de_int da_nil)))))
  (dss_cons (ds_if (dt_cmp (op_eqD hr.units) (l_eq rfl) (de_var 2 (pv 2)) de_int (nomark _)) (dss_cons (ds_set (ps_set (i := 3) sc__law_figures.nd rfl (by first | exact Or.inl rfl | exact Or.inr rfl) (de_tuple (by rfl) T.z_tuple (da_cons (de_call (takes_of rfl rfl rfl rfl) G__law_shuffled (hr.mono (by decide)) (by rfl) T.g__law_shuffled T.F__law_shuffled.kp T.b__law_shuffled (da_consC 0 (pv 0) (da_cons (de_var 1 (pv 1)) da_nil))) da_nil))))
  (dss_one (ds_ret (de_tup (da_cons (de_var 3 (pv 3)) (da_cons (de_var 3 (pv 3)) da_nil)))))) dss_nil)
  (dss_cons (ds_set (ps_set (i := 4) sc__law_figures.nd rfl (by first | exact Or.inl rfl | exact Or.inr rfl) (de_tuple (by rfl) T.z_tuple (da_cons (de_f (df_lc (pe_lc (own := [("_law_x", 5)]) (by rfl) sc__law_figures.nd (di_range1 (by rfl) T.z_range (da_cons (de_var 1 (pv 1)) da_nil)) (blkOk_by (N := ["_law_source", "_law_n", "_law_kind", "_law_row", "_law_ranks", "_law_x"]) (sc := defScope st__law_figures) (by decide +kernel)) (fun _ _ _ _ _ => (dg_name (pg_name (i := 5) sc__law_figures.nd rfl (by first | exact Or.inl rfl | exact Or.inr rfl)))) (fun _ _ _ _ _ => dts_nil) (fun _ _ _ _ _ => (de_call takes0 G__law_take (hr.mono (by decide)) (by rfl) T.g__law_take T.F__law_take.kp T.b__law_take (da_consC 0 (pv 0) (da_cons de_int da_nil))))))) da_nil))))
  (dss_cons (ds_if (dt_cmp (op_eqD hr.units) (l_eq rfl) (de_var 2 (pv 2)) de_int (nomark _)) (dss_one (ds_ret (de_tup (da_cons (de_var 4 (pv 4)) (da_cons (de_var 4 (pv 4)) da_nil))))) dss_nil)
  (dss_one (ds_ret (de_tup (da_cons (de_var 4 (pv 4)) (da_cons (de_tuple (by rfl) T.z_tuple (da_cons (de_f (df_lc (pe_lc (own := [("_law_x", 5)]) (by rfl) sc__law_figures.nd (di_range1 (by rfl) T.z_range (da_cons (de_var 1 (pv 1)) da_nil)) (blkOk_by (N := ["_law_source", "_law_n", "_law_kind", "_law_row", "_law_ranks", "_law_x"]) (sc := defScope st__law_figures) (by decide +kernel)) (fun _ _ _ _ _ => (dg_name (pg_name (i := 5) sc__law_figures.nd rfl (by first | exact Or.inl rfl | exact Or.inr rfl)))) (fun _ _ _ _ _ => dts_nil) (fun _ _ _ _ _ => (de_sub (de_call takes0 G__law_take (hr.mono (by decide)) (by rfl) T.g__law_take T.F__law_take.kp T.b__law_take (da_consC 0 (pv 0) (da_cons de_int da_nil))) de_int))))) da_nil)) da_nil)))))))))) math__law_figures
theorem ok__law_may {P : Program} {w : World} {K : PySem.W.Frag} {mg : Str → Option Value} {base : Heap} {CA : Str → Addr} (T : Txt K mg CA) : FnOk P w K mg base (L2.CX P w) 1 T.f__law_may T.fd__law_may ["_law_figures_here", "_law_y", "_law_x"] (lSp ⟨K, CA, T.TA⟩ sp__law_may) :=
  fn_ok (td := td__law_may) T.F__law_may sc__law_may ⟨K, CA, T.TA⟩ len__law_may (by decide) (fun cdv A outer s H E hr => (dss_one (ds_ret (de_and (de_cmp (op_neD hr.units) (l_ne rfl) (de_var 1 (pv 1)) (de_var 2 (pv 2)) (nomark _)) (de_one (de_cmp op_ge (fun _ _ _ _ h => lI2b h) (de_ix rfl (de_ix rfl (de_var 0 (pv 0)) de_int (fun _ _ => rfl)) (de_var 1 (pv 1)) (fun _ _ => rfl)) (de_ix rfl (de_ix rfl (de_var 0 (pv 0)) de_int (fun _ _ => rfl)) (de_var 2 (pv 2)) (fun _ _ => rfl)) (nomark _))))))) math__law_may
theorem ok__law_stair {P : Program} {w : World} {K : PySem.W.Frag} {mg : Str → Option Value} {base : Heap} {CA : Str → Addr} (T : Txt K mg CA) : FnOk P w K mg base (L2.CX P w) 1 T.f__law_stair T.fd__law_stair ["_law_figures_here", "_law_sides"] (lSp ⟨K, CA, T.TA⟩ sp__law_stair) :=
  fn_ok (td := td__law_stair) T.F__law_stair sc__law_stair ⟨K, CA, T.TA⟩ len__law_stair (by decide) (fun cdv A outer s H E hr => (dss_one (ds_ret (de_f (df_lc (pe_lc (own := [("_law_guard", 2), ("_law_x", 3)]) (by rfl) sc__law_stair.nd (di_seq (de_sorted (by rfl) T.z_sorted (da_cons (de_f (df_lc (pe_lc (own := [("_law_x", 3)]) (by rfl) sc__law_stair.nd (di_seq (de_var 1 (pv 1))) (blkOk_by (N := ["_law_figures_here", "_law_sides", "_law_guard", "_law_x"]) (sc := defScope st__law_stair) (by decide +kernel)) (fun _ _ _ _ _ => (dg_name (pg_name (i := 3) sc__law_stair.nd rfl (by first | exact Or.inl rfl | exact Or.inr rfl)))) (fun _ _ _ _ _ => dts_nil) (fun _ _ _ _ _ => (de_tup (da_cons (de_neg (de_ix rfl (de_ix rfl (de_var 0 (pv 0)) de_int (fun _ _ => rfl)) (de_var 3 (pv 3)) (fun _ _ => rfl))) (da_cons (de_var 3 (pv 3)) da_nil))))))) da_nil))) (blkOk_by (N := ["_law_figures_here", "_law_sides", "_law_guard", "_law_x"]) (sc := defScope st__law_stair) (by decide +kernel)) (fun _ _ _ _ _ => (dg_tup (by rfl) (dgs_cons (dg_name (pg_name (i := 2) sc__law_stair.nd rfl (by first | exact Or.inl rfl | exact Or.inr rfl))) (dgs_cons (dg_name (pg_name (i := 3) sc__law_stair.nd rfl (by first | exact Or.inl rfl | exact Or.inr rfl))) (dgs_nil (ix := [])))))) (fun _ _ _ _ _ => dts_nil) (fun _ _ _ _ _ => (de_var 3 (pv 3))))))))) math__law_stair
theorem ok__law_drawn_round {P : Program} {w : World} {K : PySem.W.Frag} {mg : Str → Option Value} {base : Heap} {CA : Str → Addr} (T : Txt K mg CA) (G__law_shuffled : FnOk P w K mg base (L2.CX P w) 2 T.f__law_shuffled T.fd__law_shuffled ["_law_source", "_law_count"] (lSp ⟨K, CA, T.TA⟩ sp__law_shuffled)) (G__law_take : FnOk P w K mg base (L2.CX P w) 1 T.f__law_take T.fd__law_take ["_law_source", "_law_top"] (lSp ⟨K, CA, T.TA⟩ sp__law_take)) (G__law_stair : FnOk P w K mg base (L2.CX P w) 1 T.f__law_stair T.fd__law_stair ["_law_figures_here", "_law_sides"] (lSp ⟨K, CA, T.TA⟩ sp__law_stair)) (G__law_may : FnOk P w K mg base (L2.CX P w) 1 T.f__law_may T.fd__law_may ["_law_figures_here", "_law_y", "_law_x"] (lSp ⟨K, CA, T.TA⟩ sp__law_may)) (G__law_one : FnOk P w K mg base (L2.CX P w) 2 T.f__law_one T.fd__law_one ["_law_source", "_law_things"] (lSp ⟨K, CA, T.TA⟩ sp__law_one)) : FnOk P w K mg base (L2.CX P w) 3 T.f__law_drawn_round T.fd__law_drawn_round ["_law_source", "_law_figures_here", "_law_left", "_law_is_full"] (lSp ⟨K, CA, T.TA⟩ sp__law_drawn_round) :=
  fn_ok (td := td__law_drawn_round) T.F__law_drawn_round sc__law_drawn_round ⟨K, CA, T.TA⟩ len__law_drawn_round (by decide) (fun cdv A outer s H E hr => (dss_cons (ds_set (ds_fe (ds_lc (ps_setLc (i := 4) (own := [("_law_k", 5)]) (by rfl) sc__law_drawn_round.nd rfl rfl (sw_true rfl rfl rfl (by decide +kernel)) (di_seq (de_call (takes_of rfl rfl rfl rfl) G__law_shuffled (hr.mono (by decide)) (by rfl) T.g__law_shuffled T.F__law_shuffled.kp T.b__law_shuffled (da_consC 0 (pv 0) (da_cons (de_len rfl (by rfl) T.z_len (da_consC 2 (pv 2) da_nil)) da_nil)))) (blkOk_by (N := ["_law_source", "_law_figures_here", "_law_left", "_law_is_full", "_law_names", "_law_k", "_law_many", "_law_seats", "_law_found", "_law_x", "_law_may_here", "_law_y"]) (sc := defScope st__law_drawn_round) (by decide +kernel)) (fun _ _ _ _ _ => (dg_name (pg_name (i := 5) sc__law_drawn_round.nd rfl (by first | exact Or.inl rfl | exact Or.inr rfl)))) (fun _ _ _ _ _ => dts_nil) (fun _ _ _ _ _ => (de_ixC 2 (pv 2) (de_var 5 (pv 5)) (fun _ _ => rfl)))))))
  (dss_cons (ds_set (ps_set (i := 6) sc__law_drawn_round.nd rfl (by first | exact Or.inl rfl | exact Or.inr rfl) (de_div (de_len rfl (by rfl) T.z_len (da_consC 2 (pv 2) da_nil)) de_int)))
  (dss_cons (ds_if (dt_not (dt_tru rfl (de_var 3 (pv 3)))) (dss_one (ds_set (ps_set (i := 6) sc__law_drawn_round.nd rfl (by first | exact Or.inl rfl | exact Or.inr rfl) (de_call (takes_of rfl rfl rfl rfl) G__law_take (hr.mono (by decide)) (by rfl) T.g__law_take T.F__law_take.kp T.b__law_take (da_consC 0 (pv 0) (da_cons (de_add (de_var 6 (pv 6)) de_int) da_nil)))))) dss_nil)
  (dss_cons (ds_parG (ps_par (i := 7) (j := 8) (by rfl) sc__law_drawn_round.nd rfl rfl (by decide) rfl rfl (dag_consF (df_slice (de_var 4 (pv 4)) (do_some (de_var 6 (pv 6))) do_none) (dag_consF (df_lst da_nil) dag_nil)) (by rfl)))
  (dss_cons (ds_for (ps_for (passes_of rfl) rfl (di_seq (de_call (takes_of rfl rfl rfl rfl) G__law_stair (hr.mono (by decide)) (by rfl) T.g__law_stair T.F__law_stair.kp T.b__law_stair (da_cons (de_var 1 (pv 1)) (da_cons (de_slice (de_var 4 (pv 4)) do_none (do_some (de_var 6 (pv 6)))) da_nil)))) (dg_name (pg_name (i := 9) sc__law_drawn_round.nd rfl (by first | exact Or.inl rfl | exact Or.inr rfl))) (dss_cons (ds_set (ds_fe (ds_lend 7 (ds_lc (ps_setLc (i := 10) (own := [("_law_y", 11)]) (by rfl) sc__law_drawn_round.nd rfl rfl (sw_true rfl rfl rfl (by decide +kernel)) (di_seq (de_var 7 (pv 7))) (blkOk_by (N := ["_law_source", "_law_figures_here", "_law_left", "_law_is_full", "_law_names", "_law_k", "_law_many", "_law_seats", "_law_found", "_law_x", "_law_may_here", "_law_y"]) (sc := defScope st__law_drawn_round) (by decide +kernel)) (fun _ _ _ _ _ => (dg_name (pg_name (i := 11) sc__law_drawn_round.nd rfl (by first | exact Or.inl rfl | exact Or.inr rfl)))) (fun _ _ _ _ _ => (dts_one (dt_tru rfl (de_call takes0 G__law_may (hr.mono (by decide)) (by rfl) T.g__law_may T.F__law_may.kp T.b__law_may (da_cons (de_var 1 (pv 1)) (da_cons (de_var 11 (pv 11)) (da_cons (de_var 9 (pv 9)) da_nil))))))) (fun _ _ _ _ _ => (de_var 11 (pv 11))))))))
  (dss_one (ds_if (dt_tru rfl (de_var 10 (pv 10))) (dss_cons (ds_set (ps_set (i := 11) sc__law_drawn_round.nd rfl (by first | exact Or.inl rfl | exact Or.inr rfl) (de_call (takes_of rfl rfl rfl rfl) G__law_one (hr.mono (by decide)) (by rfl) T.g__law_one T.F__law_one.kp T.b__law_one (da_consC 0 (pv 0) (da_cons (de_var 10 (pv 10)) da_nil)))))
  (dss_cons (ds_expr (de_remove 7 (pe_bm PySem.F.plainAttrs_list PySem.F.slot_list_remove PySem.F.type_list_remove mt_remove (pv 7) (pa_cons (de_var 11 (pv 11)) pa_nil))))
  (dss_one (ds_expr (de_append 8 (pe_bm PySem.F.plainAttrs_list PySem.F.slot_list_append PySem.F.type_list_append mt_append (pv 8) (pa_cons (de_tup (da_cons (de_var 9 (pv 9)) (da_cons (de_var 11 (pv 11)) da_nil))) pa_nil))))))) dss_nil)))))
  (dss_freeze 8 (dss_one (ds_ret (de_var 8 (pv 8))))))))))) math__law_drawn_round
theorem ok__law_cup {P : Program} {w : World} {K : PySem.W.Frag} {mg : Str → Option Value} {base : Heap} {CA : Str → Addr} (T : Txt K mg CA) (G__law_take : FnOk P w K mg base (L2.CX P w) 1 T.f__law_take T.fd__law_take ["_law_source", "_law_top"] (lSp ⟨K, CA, T.TA⟩ sp__law_take)) (G__law_drawn_round : FnOk P w K mg base (L2.CX P w) 3 T.f__law_drawn_round T.fd__law_drawn_round ["_law_source", "_law_figures_here", "_law_left", "_law_is_full"] (lSp ⟨K, CA, T.TA⟩ sp__law_drawn_round)) : FnOk P w K mg base (L2.CX P w) 4 T.f__law_cup T.fd__law_cup ["_law_source", "_law_figures_here"] (lSp ⟨K, CA, T.TA⟩ sp__law_cup) :=
  fn_ok (td := td__law_cup) T.F__law_cup sc__law_cup ⟨K, CA, T.TA⟩ len__law_cup (by decide) (fun cdv A outer s H E hr => (dss_cons (ds_set (ps_set (i := 2) sc__law_cup.nd rfl (by first | exact Or.inl rfl | exact Or.inr rfl) (de_len rfl (by rfl) T.z_len (da_cons (de_ix rfl (de_var 1 (pv 1)) de_int (fun _ _ => rfl)) da_nil))))
  (dss_cons (ds_parG3 (ps_par3 (i := 3) (j := 4) (l := 5) (by rfl) sc__law_cup.nd rfl rfl rfl (by decide) (by decide) (by decide) rfl rfl rfl (dag_consF (df_mul (de_f (df_lst (da_cons (de_tup (da_cons de_int (da_cons (de_neg de_int) da_nil))) da_nil))) (de_var 2 (pv 2))) (dag_consF (df_lc (pe_lc (own := [("_law_x", 6)]) (by rfl) sc__law_cup.nd (di_range1 (by rfl) T.z_range (da_cons (de_var 2 (pv 2)) da_nil)) (blkOk_by (N := ["_law_source", "_law_figures_here", "_law_n", "_law_row", "_law_left", "_law_is_full", "_law_x", "_law_r", "_law_found", "_law_y"]) (sc := defScope st__law_cup) (by decide +kernel)) (fun _ _ _ _ _ => (dg_name (pg_name (i := 6) sc__law_cup.nd rfl (by first | exact Or.inl rfl | exact Or.inr rfl)))) (fun _ _ _ _ _ => dts_nil) (fun _ _ _ _ _ => (de_var 6 (pv 6))))) (dag_cons (de_cmp (op_eqD hr.units) (l_eq rfl) (de_call (takes_of rfl rfl rfl rfl) G__law_take (hr.mono (by decide)) (by rfl) T.g__law_take T.F__law_take.kp T.b__law_take (da_consC 0 (pv 0) (da_cons de_int da_nil))) de_int (nomark _)) dag_nil))) (by rfl)))
  (dss_cons (ds_for (ps_for (passes_of rfl) rfl (di_range2 (by rfl) T.z_range (da_cons de_int (da_cons (de_var 2 (pv 2)) da_nil))) (dg_name (pg_name (i := 7) sc__law_cup.nd rfl (by first | exact Or.inl rfl | exact Or.inr rfl))) (dss_cons (ds_set (ps_set (i := 8) sc__law_cup.nd rfl (by first | exact Or.inl rfl | exact Or.inr rfl) (de_call2 (takes_of rfl rfl rfl rfl) G__law_drawn_round (hr.mono (by decide)) (by rfl) T.g__law_drawn_round T.F__law_drawn_round.kp T.b__law_drawn_round (da_consC 0 (pv 0) (da_cons (de_var 1 (pv 1)) (da_consC 4 (pv 4) (da_cons (de_or (de_var 5 (pv 5)) (de_one (de_cmp op_gt (fun _ _ _ _ h => lI2b h) (de_call (takes_of rfl rfl rfl rfl) G__law_take (hr.mono (by decide)) (by rfl) T.g__law_take T.F__law_take.kp T.b__law_take (da_consC 0 (pv 0) (da_cons de_int da_nil))) de_int (nomark _)))) da_nil)))))))
  (dss_cons (ds_if (dt_not (dt_tru rfl (de_var 8 (pv 8)))) (dss_one ds_break) dss_nil)
  (dss_one (ds_for (ps_for (passes_of rfl) rfl (di_seq (de_var 8 (pv 8))) (dg_tup (by rfl) (dgs_cons (dg_name (pg_name (i := 6) sc__law_cup.nd rfl (by first | exact Or.inl rfl | exact Or.inr rfl))) (dgs_cons (dg_name (pg_name (i := 9) sc__law_cup.nd rfl (by first | exact Or.inl rfl | exact Or.inr rfl))) (dgs_nil (ix := []))))) (dss_cons (ds_setIx 3 (ps_asg (de_tup (da_cons (de_var 7 (pv 7)) (da_cons (de_var 9 (pv 9)) da_nil))) (pg_sub (pv 3) (de_var 6 (pv 6)) set_list)))
  (dss_one (ds_expr (de_remove 4 (pe_bm PySem.F.plainAttrs_list PySem.F.slot_list_remove PySem.F.type_list_remove mt_remove (pv 4) (pa_cons (de_var 6 (pv 6)) pa_nil)))))))))))))
  (dss_freeze 3 (dss_one (ds_ret (de_tuple (by rfl) T.z_tuple (da_cons (de_var 3 (pv 3)) da_nil))))))))) math__law_cup
theorem ok__law_rounds {P : Program} {w : World} {K : PySem.W.Frag} {mg : Str → Option Value} {base : Heap} {CA : Str → Addr} (T : Txt K mg CA) : FnOk P w K mg base (L2.CX P w) 1 T.f__law_rounds T.fd__law_rounds ["_law_cup_here"] (lSp ⟨K, CA, T.TA⟩ sp__law_rounds) :=
  fn_ok (td := td__law_rounds) T.F__law_rounds sc__law_rounds ⟨K, CA, T.TA⟩ len__law_rounds (by decide) (fun cdv A outer s H E hr => (dss_one (ds_ret (de_max1 rfl (by rfl) T.z_max (da_cons (de_f (df_lc (pe_lc (own := [("_law_pair", 1)]) (by rfl) sc__law_rounds.nd (di_seq (de_var 0 (pv 0))) (blkOk_by (N := ["_law_cup_here", "_law_pair"]) (sc := defScope st__law_rounds) (by decide +kernel)) (fun _ _ _ _ _ => (dg_name (pg_name (i := 1) sc__law_rounds.nd rfl (by first | exact Or.inl rfl | exact Or.inr rfl)))) (fun _ _ _ _ _ => dts_nil) (fun _ _ _ _ _ => (de_ix rfl (de_var 1 (pv 1)) de_int (fun _ _ => rfl)))))) da_nil))))) math__law_rounds
theorem ok__law_letters {P : Program} {w : World} {K : PySem.W.Frag} {mg : Str → Option Value} {base : Heap} {CA : Str → Addr} (T : Txt K mg CA) (G__law_rounds : FnOk P w K mg base (L2.CX P w) 1 T.f__law_rounds T.fd__law_rounds ["_law_cup_here"] (lSp ⟨K, CA, T.TA⟩ sp__law_rounds)) : FnOk P w K mg base (L2.CX P w) 2 T.f__law_letters T.fd__law_letters ["_law_cup_here"] (lSp ⟨K, CA, T.TA⟩ sp__law_letters) :=
  fn_ok (td := td__law_letters) T.F__law_letters sc__law_letters ⟨K, CA, T.TA⟩ len__law_letters (by decide) (fun cdv A outer s H E hr => (dss_cons (ds_parG (ps_par (i := 1) (j := 2) (by rfl) sc__law_letters.nd rfl rfl (by decide) rfl rfl (dag_consF (df_lst da_nil) (dag_cons (de_call (takes_of rfl rfl rfl rfl) G__law_rounds (hr.mono (by decide)) (by rfl) T.g__law_rounds T.F__law_rounds.kp T.b__law_rounds (da_cons (de_var 0 (pv 0)) da_nil)) dag_nil)) (by rfl)))
  (dss_cons (ds_for (ps_for (passes_of rfl) rfl (di_range1 (by rfl) T.z_range (da_cons (de_len rfl (by rfl) T.z_len (da_cons (de_var 0 (pv 0)) da_nil)) da_nil)) (dg_name (pg_name (i := 3) sc__law_letters.nd rfl (by first | exact Or.inl rfl | exact Or.inr rfl))) (dss_cons (ds_set (ps_set (i := 4) sc__law_letters.nd rfl (by first | exact Or.inl rfl | exact Or.inr rfl) (de_if (dt_cmp op_gt (fun _ _ _ _ h => lI2b h) (de_ix rfl (de_ix rfl (de_var 0 (pv 0)) (de_var 3 (pv 3)) (fun _ _ => rfl)) de_int (fun _ _ => rfl)) de_int (nomark _)) (de_ix rfl (de_ix rfl (de_var 0 (pv 0)) (de_var 3 (pv 3)) (fun _ _ => rfl)) de_int (fun _ _ => rfl)) (de_var 2 (pv 2)))))
  (dss_cons (ds_setF (ds_lc (ps_setLc (i := 5) (own := [("_law_r", 6)]) (by rfl) sc__law_letters.nd rfl rfl (sw_true rfl rfl rfl (by decide +kernel)) (di_range2 (by rfl) T.z_range (da_cons de_int (da_cons (de_add (de_var 4 (pv 4)) de_int) da_nil))) (blkOk_by (N := ["_law_cup_here", "_law_rows", "_law_top", "_law_x", "_law_last", "_law_row", "_law_r", "_law_z"]) (sc := defScope st__law_letters) (by decide +kernel)) (fun _ _ _ _ _ => (dg_name (pg_name (i := 6) sc__law_letters.nd rfl (by first | exact Or.inl rfl | exact Or.inr rfl)))) (fun _ _ _ _ _ => dts_nil) (fun _ _ _ _ _ => (de_len rfl (by rfl) T.z_len (da_cons (de_f (df_lc (pe_lc (own := [("_law_z", 7)]) (by rfl) sc__law_letters.nd (di_range1 (by rfl) T.z_range (da_cons (de_len rfl (by rfl) T.z_len (da_cons (de_var 0 (pv 0)) da_nil)) da_nil)) (by exact blkOk_by (by rfl)) (fun _ _ _ _ _ => (dg_name (pg_name (i := 7) sc__law_letters.nd rfl (by first | exact Or.inl rfl | exact Or.inr rfl)))) (fun _ _ _ _ _ => (dts_one (dt_cmp (op_eqD hr.units) (l_eq rfl) (de_ix rfl (de_var 0 (pv 0)) (de_var 7 (pv 7)) (fun _ _ => rfl)) (de_tup (da_cons (de_var 6 (pv 6)) (da_cons (de_var 3 (pv 3)) da_nil))) (nomark _)))) (fun _ _ _ _ _ => (de_var 7 (pv 7)))))) da_nil))))))
  (dss_cons (ds_if (dt_cmp op_gt (fun _ _ _ _ h => lI2b h) (de_ix rfl (de_ix rfl (de_var 0 (pv 0)) (de_var 3 (pv 3)) (fun _ _ => rfl)) de_int (fun _ _ => rfl)) de_int (nomark _)) (dss_one (ds_setIx 5 (ps_asg (de_neg de_int) (pg_sub (pv 5) (de_neg de_int) set_list)))) dss_nil)
  (dss_freeze 5 (dss_one (ds_expr (de_append 1 (pe_bm PySem.F.plainAttrs_list PySem.F.slot_list_append PySem.F.type_list_append mt_append (pv 1) (pa_cons (de_tuple (by rfl) T.z_tuple (da_cons (de_var 5 (pv 5)) da_nil)) pa_nil)))))))))))
  (dss_freeze 1 (dss_one (ds_ret (de_tuple (by rfl) T.z_tuple (da_cons (de_var 1 (pv 1)) da_nil)))))))) math__law_letters
theorem ok__law_due {P : Program} {w : World} {K : PySem.W.Frag} {mg : Str → Option Value} {base : Heap} {CA : Str → Addr} (T : Txt K mg CA) : FnOk P w K mg base (L2.CX P w) 1 T.f__law_due T.fd__law_due ["_law_rows"] (lSp ⟨K, CA, T.TA⟩ sp__law_due) :=
  fn_ok (td := td__law_due) T.F__law_due sc__law_due ⟨K, CA, T.TA⟩ len__law_due (by decide) (fun cdv A outer s H E hr => (dss_cons (ds_if (dt_not (dt_chain (pt_chain op_le op_le de_int (de_len rfl (by rfl) T.z_len (da_cons (de_var 0 (pv 0)) da_nil)) de_int) (fun _ _ _ _ h => lI2b h) (fun _ _ _ _ h => lI2b h))) (dss_one (ds_ret (de_tup (da_cons de_str (da_cons (de_len rfl (by rfl) T.z_len (da_cons (de_var 0 (pv 0)) da_nil)) da_nil))))) dss_nil)
  (dss_cons (ds_for (ps_for (passes_of rfl) rfl (di_range1 (by rfl) T.z_range (da_cons (de_len rfl (by rfl) T.z_len (da_cons (de_var 0 (pv 0)) da_nil)) da_nil)) (dg_name (pg_name (i := 1) sc__law_due.nd rfl (by first | exact Or.inl rfl | exact Or.inr rfl))) (dss_one (ds_for (ps_for (passes_of rfl) rfl (di_range1 (by rfl) T.z_range (da_cons (de_len rfl (by rfl) T.z_len (da_cons (de_ix rfl (de_var 0 (pv 0)) (de_var 1 (pv 1)) (fun _ _ => rfl)) da_nil)) da_nil)) (dg_name (pg_name (i := 2) sc__law_due.nd rfl (by first | exact Or.inl rfl | exact Or.inr rfl))) (dss_one (ds_if (PW.pt (dw_or (dt_not (dt_chain (pt_chain op_le op_le (de_neg de_int) (de_ix rfl (de_ix rfl (de_var 0 (pv 0)) (de_var 1 (pv 1)) (fun _ _ => rfl)) (de_var 2 (pv 2)) (fun _ _ => rfl)) de_int) (fun _ _ _ _ h => lI2b h) (fun _ _ _ _ h => lI2b h))) (dw_or1 (dt_cmp (op_inA (hu65 hr)) (l_in rfl) (de_neg de_int) (de_slice (de_ix rfl (de_var 0 (pv 0)) (de_var 1 (pv 1)) (fun _ _ => rfl)) do_none (do_some (de_var 2 (pv 2)))) (by rfl))))) (dss_one (ds_ret (de_tup (da_cons de_str (da_cons (de_tup (da_cons (de_var 1 (pv 1)) (da_cons (de_var 2 (pv 2)) da_nil))) da_nil))))) dss_nil)))))))
  (dss_cons (ds_set (ps_set (i := 3) sc__law_due.nd rfl (by first | exact Or.inl rfl | exact Or.inr rfl) (de_max1 rfl (by rfl) T.z_max (da_cons (de_f (df_lc (pe_lc (own := [("_law_row", 4)]) (by rfl) sc__law_due.nd (di_seq (de_var 0 (pv 0))) (blkOk_by (N := ["_law_rows", "_law_x", "_law_i", "_law_longest", "_law_row", "_law_r", "_law_letters_here"]) (sc := defScope st__law_due) (by decide +kernel)) (fun _ _ _ _ _ => (dg_name (pg_name (i := 4) sc__law_due.nd rfl (by first | exact Or.inl rfl | exact Or.inr rfl)))) (fun _ _ _ _ _ => dts_nil) (fun _ _ _ _ _ => (de_len rfl (by rfl) T.z_len (da_cons (de_var 4 (pv 4)) da_nil)))))) da_nil))))
  (dss_cons (ds_for (ps_for (passes_of rfl) rfl (di_range1 (by rfl) T.z_range (da_cons (de_len rfl (by rfl) T.z_len (da_cons (de_var 0 (pv 0)) da_nil)) da_nil)) (dg_name (pg_name (i := 1) sc__law_due.nd rfl (by first | exact Or.inl rfl | exact Or.inr rfl))) (dss_one (ds_if (PW.pt (dw_and (dt_cmp (op_notInA (hu65 hr)) (l_notIn rfl) (de_neg de_int) (de_ix rfl (de_var 0 (pv 0)) (de_var 1 (pv 1)) (fun _ _ => rfl)) (by rfl)) (dw_and1 (dt_cmp op_lt (fun _ _ _ _ h => lI2b h) (de_len rfl (by rfl) T.z_len (da_cons (de_ix rfl (de_var 0 (pv 0)) (de_var 1 (pv 1)) (fun _ _ => rfl)) da_nil)) (de_var 3 (pv 3)) (nomark _))))) (dss_one (ds_ret (de_tup (da_cons de_str (da_cons (de_tup (da_cons (de_var 1 (pv 1)) (da_cons (de_neg de_int) da_nil))) da_nil))))) dss_nil))))
  (dss_cons (ds_for (ps_for (passes_of rfl) rfl (di_range1 (by rfl) T.z_range (da_cons (de_var 3 (pv 3)) da_nil)) (dg_name (pg_name (i := 5) sc__law_due.nd rfl (by first | exact Or.inl rfl | exact Or.inr rfl))) (dss_cons (ds_set (ds_fe (ds_lc (ps_setLc (i := 6) (own := [("_law_row", 4)]) (by rfl) sc__law_due.nd rfl rfl (sw_true rfl rfl rfl (by decide +kernel)) (di_seq (de_var 0 (pv 0))) (blkOk_by (N := ["_law_rows", "_law_x", "_law_i", "_law_longest", "_law_row", "_law_r", "_law_letters_here"]) (sc := defScope st__law_due) (by decide +kernel)) (fun _ _ _ _ _ => (dg_name (pg_name (i := 4) sc__law_due.nd rfl (by first | exact Or.inl rfl | exact Or.inr rfl)))) (fun _ _ _ _ _ => (dts_one (dt_cmp op_gt (fun _ _ _ _ h => lI2b h) (de_len rfl (by rfl) T.z_len (da_cons (de_var 4 (pv 4)) da_nil)) (de_var 5 (pv 5)) (nomark _)))) (fun _ _ _ _ _ => (de_ix rfl (de_var 4 (pv 4)) (de_var 5 (pv 5)) (fun _ _ => rfl)))))))
  (dss_one (ds_if (PW.pt (dw_or (dt_cmp (op_notInA (hu65 hr)) (l_notIn rfl) (de_neg de_int) (de_var 6 (pv 6)) (by rfl)) (dw_or1 (dt_cmp (op_neD hr.units) (l_ne rfl) (de_count (pe_bm PySem.F.plainAttrs_list PySem.F.slot_list_count PySem.F.type_list_count mt_lcount (de_var 6 (pv 6)) (pa_cons de_int pa_nil))) (de_count (pe_bm PySem.F.plainAttrs_list PySem.F.slot_list_count PySem.F.type_list_count mt_lcount (de_var 6 (pv 6)) (pa_cons (de_neg de_int) pa_nil))) (nomark _))))) (dss_one (ds_ret (de_tup (da_cons de_str (da_cons (de_add (de_var 5 (pv 5)) de_int) da_nil))))) dss_nil)))))
  (dss_one (ds_ret (de_tup (da_cons de_str (da_cons (de_var 0 (pv 0)) da_nil))))))))))) math__law_due
theorem ok__law_told {P : Program} {w : World} {K : PySem.W.Frag} {mg : Str → Option Value} {base : Heap} {CA : Str → Addr} (T : Txt K mg CA) (G_made_records : FnOk P w K mg base (L2.CX P w) 4 T.f_made_records T.fd_made_records ["rows"] (lSp ⟨K, CA, T.TA⟩ sp_made_records)) : FnOk P w K mg base (L2.CX P w) 5 T.f__law_told T.fd__law_told ["_law_rows"] (lSp ⟨K, CA, T.TA⟩ sp__law_told) :=
  fn_ok (td := td__law_told) T.F__law_told sc__law_told ⟨K, CA, T.TA⟩ len__law_told (by decide) (fun cdv A outer s H E hr => (dss_cons (ds_try rfl rfl (takes_of rfl rfl rfl rfl) (fun W pn xe tk _ => (dss_one (ds_set (ps_set (i := 1) sc__law_told.nd rfl (by first | exact Or.inl rfl | exact Or.inr rfl) (de_call tk G_made_records (hr.mono (by decide)) (by rfl) T.g_made_records T.F_made_records.kp T.b_made_records (da_cons (de_var 0 (pv 0)) da_nil)))))) (fun c hc q hq => T.em_er c hc q.2.1 (by simp only [List.mem_cons, List.not_mem_nil, or_false] at hq; rcases hq with rfl | rfl | rfl | rfl <;> simp [HC_])) (.nm ⟨by rfl, by decide, .inl T.gC_BadSize⟩ sc__law_told.nd (by rfl) (by rfl) (fun a oe cls d pn hz hf => suite_ok fun dd c hc ec ed => (dss_one (ds_ret (de_tup (da_cons de_str (da_cons (de_what 2 (T.e_er c hc) hz hf ec ed (pv 2)) da_nil)))))) (.nm ⟨by rfl, by decide, .inl T.gC_BadRecord⟩ sc__law_told.nd (by rfl) (by rfl) (fun a oe cls d pn hz hf => suite_ok fun dd c hc ec ed => (dss_one (ds_ret (de_tup (da_cons de_str (da_cons (de_what 2 (T.e_er c hc) hz hf ec ed (pv 2)) da_nil)))))) (.nm ⟨by rfl, by decide, .inl T.gC_BadRounds⟩ sc__law_told.nd (by rfl) (by rfl) (fun a oe cls d pn hz hf => suite_ok fun dd c hc ec ed => (dss_one (ds_ret (de_tup (da_cons de_str (da_cons (de_what 2 (T.e_er c hc) hz hf ec ed (pv 2)) da_nil)))))) (.un ⟨by rfl, by decide, .inl T.gC_Refused⟩ (fun a oe cls d pn hz hf => suite_ok fun dd c hc ec ed => (dss_one (ds_ret (de_tup (da_cons de_str (da_cons de_int da_nil)))))) .nil)))))
  (dss_one (ds_ret (de_tup (da_cons de_str (da_cons (de_var 1 (pv 1)) da_nil))))))) math__law_told
theorem ok__law_bent {P : Program} {w : World} {K : PySem.W.Frag} {mg : Str → Option Value} {base : Heap} {CA : Str → Addr} (T : Txt K mg CA) (G__law_take : FnOk P w K mg base (L2.CX P w) 1 T.f__law_take T.fd__law_take ["_law_source", "_law_top"] (lSp ⟨K, CA, T.TA⟩ sp__law_take)) (G__law_one : FnOk P w K mg base (L2.CX P w) 2 T.f__law_one T.fd__law_one ["_law_source", "_law_things"] (lSp ⟨K, CA, T.TA⟩ sp__law_one)) : FnOk P w K mg base (L2.CX P w) 3 T.f__law_bent T.fd__law_bent ["_law_source", "_law_rows"] (lSp ⟨K, CA, T.TA⟩ sp__law_bent) :=
  fn_ok (td := td__law_bent) T.F__law_bent sc__law_bent ⟨K, CA, T.TA⟩ len__law_bent (by decide) (fun cdv A outer s H E hr => (dss_cons (ds_setF (ds_lc (ps_setLc (i := 2) (own := [("_law_row", 3)]) (by rfl) sc__law_bent.nd rfl rfl (sw_true rfl rfl rfl (by decide +kernel)) (di_seq (de_var 1 (pv 1))) (blkOk_by (N := ["_law_source", "_law_rows", "_law_new", "_law_row", "_law_turn", "_law_x", "_law_letter", "_law_at", "_law_way", "_law_y"]) (sc := defScope st__law_bent) (by decide +kernel)) (fun _ _ _ _ _ => (dg_name (pg_name (i := 3) sc__law_bent.nd rfl (by first | exact Or.inl rfl | exact Or.inr rfl)))) (fun _ _ _ _ _ => dts_nil) (fun _ _ _ _ _ => (de_var 3 (pv 3))))))
  (dss_cons (ds_for (ps_for (passes_of rfl) rfl (di_range1 (by rfl) T.z_range (da_cons (de_add de_int (de_call (takes_of rfl rfl rfl rfl) G__law_take (hr.mono (by decide)) (by rfl) T.g__law_take T.F__law_take.kp T.b__law_take (da_consC 0 (pv 0) (da_cons de_int da_nil)))) da_nil)) (dg_name (pg_name (i := 4) sc__law_bent.nd rfl (by first | exact Or.inl rfl | exact Or.inr rfl))) (dss_cons (ds_parG (ps_par (i := 5) (j := 6) (by rfl) sc__law_bent.nd rfl rfl (by decide) rfl rfl (dag_cons (de_call (takes_of rfl rfl rfl rfl) G__law_take (hr.mono (by decide)) (by rfl) T.g__law_take T.F__law_take.kp T.b__law_take (da_consC 0 (pv 0) (da_cons (de_len rfl (by rfl) T.z_len (da_consC 2 (pv 2) da_nil)) da_nil))) (dag_cons (de_call (takes_of rfl rfl rfl rfl) G__law_one (hr.mono (by decide)) (by rfl) T.g__law_one T.F__law_one.kp T.b__law_one (da_consC 0 (pv 0) (da_cons (de_f (df_lst (da_cons de_int (da_cons de_int (da_cons (de_neg de_int) (da_cons (de_neg de_int) (da_cons de_int (da_cons (de_neg de_int) (da_cons (de_pow de_int de_int) da_nil))))))))) da_nil))) dag_nil)) (by rfl)))
  (dss_cons (ds_parG (ps_par (i := 7) (j := 8) (by rfl) sc__law_bent.nd rfl rfl (by decide) rfl rfl (dag_cons (de_call (takes_of rfl rfl rfl rfl) G__law_take (hr.mono (by decide)) (by rfl) T.g__law_take T.F__law_take.kp T.b__law_take (da_consC 0 (pv 0) (da_cons (de_add (de_len rfl (by rfl) T.z_len (da_cons (de_ixC 2 (pv 2) (de_var 5 (pv 5)) (fun _ _ => rfl)) da_nil)) de_int) da_nil))) (dag_cons (de_call (takes_of rfl rfl rfl rfl) G__law_take (hr.mono (by decide)) (by rfl) T.g__law_take T.F__law_take.kp T.b__law_take (da_consC 0 (pv 0) (da_cons de_int da_nil))) dag_nil)) (by rfl)))
  (dss_cons (ds_if (dt_cmp (op_eqD hr.units) (l_eq rfl) (de_var 8 (pv 8)) de_int (nomark _)) (dss_one (ds_setIx 2 (ps_asg (de_add (de_add (de_slice (de_ixC 2 (pv 2) (de_var 5 (pv 5)) (fun _ _ => rfl)) do_none (do_some (de_var 7 (pv 7)))) (de_tup (da_cons (de_var 6 (pv 6)) da_nil))) (de_slice (de_ixC 2 (pv 2) (de_var 5 (pv 5)) (fun _ _ => rfl)) (do_some (de_add (de_var 7 (pv 7)) de_int)) do_none)) (pg_sub (pv 2) (de_var 5 (pv 5)) set_list)))) dss_nil)
  (dss_cons (ds_if (dt_cmp (op_eqD hr.units) (l_eq rfl) (de_var 8 (pv 8)) de_int (nomark _)) (dss_one (ds_setIx 2 (ps_asg (de_add (de_add (de_slice (de_ixC 2 (pv 2) (de_var 5 (pv 5)) (fun _ _ => rfl)) do_none (do_some (de_var 7 (pv 7)))) (de_tup (da_cons (de_var 6 (pv 6)) da_nil))) (de_slice (de_ixC 2 (pv 2) (de_var 5 (pv 5)) (fun _ _ => rfl)) (do_some (de_var 7 (pv 7))) do_none)) (pg_sub (pv 2) (de_var 5 (pv 5)) set_list)))) dss_nil)
  (dss_cons (ds_if (dt_cmp (op_eqD hr.units) (l_eq rfl) (de_var 8 (pv 8)) de_int (nomark _)) (dss_one (ds_setIx 2 (ps_asg (de_add (de_slice (de_ixC 2 (pv 2) (de_var 5 (pv 5)) (fun _ _ => rfl)) do_none (do_some (de_var 7 (pv 7)))) (de_slice (de_ixC 2 (pv 2) (de_var 5 (pv 5)) (fun _ _ => rfl)) (do_some (de_add (de_var 7 (pv 7)) de_int)) do_none)) (pg_sub (pv 2) (de_var 5 (pv 5)) set_list)))) dss_nil)
  (dss_one (ds_if (dt_cmp (op_eqD hr.units) (l_eq rfl) (de_var 8 (pv 8)) de_int (nomark _)) (dss_cons (ds_set (ps_set (i := 9) sc__law_bent.nd rfl (by first | exact Or.inl rfl | exact Or.inr rfl) (de_call (takes_of rfl rfl rfl rfl) G__law_take (hr.mono (by decide)) (by rfl) T.g__law_take T.F__law_take.kp T.b__law_take (da_consC 0 (pv 0) (da_cons (de_len rfl (by rfl) T.z_len (da_consC 2 (pv 2) da_nil)) da_nil)))))
  (dss_one (ds_asgM (ps_asg (de_tup (da_cons (de_ixC 2 (pv 2) (de_var 9 (pv 9)) (fun _ _ => rfl)) (da_cons (de_ixC 2 (pv 2) (de_var 5 (pv 5)) (fun _ _ => rfl)) da_nil))) (dm_tup (by rfl) (dms_cons (dm_sub 2 (pg_sub (pv 2) (de_var 5 (pv 5)) set_list)) (dms_cons (dm_sub 2 (pg_sub (pv 2) (de_var 9 (pv 9)) set_list)) dms_nil))))))) dss_nil)))))))))
  (dss_cons (ds_set (ps_set (i := 8) sc__law_bent.nd rfl (by first | exact Or.inl rfl | exact Or.inr rfl) (de_call (takes_of rfl rfl rfl rfl) G__law_take (hr.mono (by decide)) (by rfl) T.g__law_take T.F__law_take.kp T.b__law_take (da_consC 0 (pv 0) (da_cons de_int da_nil)))))
  (dss_cons (ds_if (dt_cmp (op_eqD hr.units) (l_eq rfl) (de_var 8 (pv 8)) de_int (nomark _)) (dss_one (ds_expr (de_popAt 2 (pe_bm PySem.F.plainAttrs_list PySem.F.slot_list_pop PySem.F.type_list_pop mt_popAt (pv 2) (pa_cons (de_call (takes_of rfl rfl rfl rfl) G__law_take (hr.mono (by decide)) (by rfl) T.g__law_take T.F__law_take.kp T.b__law_take (da_consC 0 (pv 0) (da_cons (de_len rfl (by rfl) T.z_len (da_consC 2 (pv 2) da_nil)) da_nil))) pa_nil))))) dss_nil)
  (dss_cons (ds_if (dt_cmp (op_eqD hr.units) (l_eq rfl) (de_var 8 (pv 8)) de_int (nomark _)) (dss_one (ds_expr (de_append 2 (pe_bm PySem.F.plainAttrs_list PySem.F.slot_list_append PySem.F.type_list_append mt_append (pv 2) (pa_cons (de_lend 2 (de_call (takes_of rfl rfl rfl rfl) G__law_one (hr.mono (by decide)) (by rfl) T.g__law_one T.F__law_one.kp T.b__law_one (da_consC 0 (pv 0) (da_cons (de_var 2 (pv 2)) da_nil)))) pa_nil))))) dss_nil)
  (dss_freeze 2 (dss_one (ds_ret (de_tuple (by rfl) T.z_tuple (da_cons (de_var 2 (pv 2)) da_nil))))))))))) math__law_bent
theorem ok__law_right {P : Program} {w : World} {K : PySem.W.Frag} {mg : Str → Option Value} {base : Heap} {CA : Str → Addr} (T : Txt K mg CA) (G__law_due : FnOk P w K mg base (L2.CX P w) 1 T.f__law_due T.fd__law_due ["_law_rows"] (lSp ⟨K, CA, T.TA⟩ sp__law_due)) (G_is_records : FnOk P w K mg base (L2.CX P w) 10 T.f_is_records T.fd_is_records ["rows"] (lSp ⟨K, CA, T.TA⟩ sp_is_records)) (G__law_told : FnOk P w K mg base (L2.CX P w) 5 T.f__law_told T.fd__law_told ["_law_rows"] (lSp ⟨K, CA, T.TA⟩ sp__law_told)) : FnOk P w K mg base (L2.CX P w) 11 T.f__law_right T.fd__law_right ["_law_rows"] (lSp ⟨K, CA, T.TA⟩ sp__law_right) :=
  fn_ok (td := td__law_right) T.F__law_right sc__law_right ⟨K, CA, T.TA⟩ len__law_right (by decide) (fun cdv A outer s H E hr => (dss_cons (ds_parG (ps_par (i := 1) (j := 2) (by rfl) sc__law_right.nd rfl rfl (by decide) rfl rfl (dag_cons (de_call (takes_of rfl rfl rfl rfl) G__law_due (hr.mono (by decide)) (by rfl) T.g__law_due T.F__law_due.kp T.b__law_due (da_cons (de_var 0 (pv 0)) da_nil)) (dag_cons (de_call (takes_of rfl rfl rfl rfl) G_is_records (hr.mono (by decide)) (by rfl) T.g_is_records T.F_is_records.kp T.b_is_records (da_cons (de_var 0 (pv 0)) da_nil)) dag_nil)) (by rfl)))
  (dss_one (ds_ret (de_and (de_cmp (op_eqD hr.units) (l_eq rfl) (de_call (takes_of rfl rfl rfl rfl) G__law_told (hr.mono (by decide)) (by rfl) T.g__law_told T.F__law_told.kp T.b__law_told (da_cons (de_var 0 (pv 0)) da_nil)) (de_var 1 (pv 1)) (nomark _)) (de_and (de_isT kit_bool (by simp) (by rfl) T.z_isinstance (de_var 2 (pv 2)) (pe_bltn (by rfl) T.z_bool (by decide +kernel) rfl)) (de_one (de_cmp (op_eqD hr.units) (l_eq rfl) (de_var 2 (pv 2)) (de_cmp (op_eqD hr.units) (l_eq rfl) (de_ix rfl (de_var 1 (pv 1)) de_int (fun _ _ => rfl)) de_str (nomark _)) (nomark _))))))))) math__law_right
theorem ok_law {P : Program} {w : World} {K : PySem.W.Frag} {mg : Str → Option Value} {base : Heap} {CA : Str → Addr} (T : Txt K mg CA) (G__law_pool : FnOk P w K mg base (L2.CX P w) 1 T.f__law_pool T.fd__law_pool ["_law_script", "_law_k"] (lSpF ⟨K, CA, T.TA⟩ sp__law_pool)) (G__law_take : FnOk P w K mg base (L2.CX P w) 1 T.f__law_take T.fd__law_take ["_law_source", "_law_top"] (lSp ⟨K, CA, T.TA⟩ sp__law_take)) (G__law_letters : FnOk P w K mg base (L2.CX P w) 2 T.f__law_letters T.fd__law_letters ["_law_cup_here"] (lSp ⟨K, CA, T.TA⟩ sp__law_letters)) (G__law_cup : FnOk P w K mg base (L2.CX P w) 4 T.f__law_cup T.fd__law_cup ["_law_source", "_law_figures_here"] (lSp ⟨K, CA, T.TA⟩ sp__law_cup)) (G__law_figures : FnOk P w K mg base (L2.CX P w) 3 T.f__law_figures T.fd__law_figures ["_law_source", "_law_n"] (lSp ⟨K, CA, T.TA⟩ sp__law_figures)) (G__law_due : FnOk P w K mg base (L2.CX P w) 1 T.f__law_due T.fd__law_due ["_law_rows"] (lSp ⟨K, CA, T.TA⟩ sp__law_due)) (G__law_bent : FnOk P w K mg base (L2.CX P w) 3 T.f__law_bent T.fd__law_bent ["_law_source", "_law_rows"] (lSp ⟨K, CA, T.TA⟩ sp__law_bent)) (G__law_right : FnOk P w K mg base (L2.CX P w) 11 T.f__law_right T.fd__law_right ["_law_rows"] (lSp ⟨K, CA, T.TA⟩ sp__law_right)) (G__law_one : FnOk P w K mg base (L2.CX P w) 2 T.f__law_one T.fd__law_one ["_law_source", "_law_things"] (lSp ⟨K, CA, T.TA⟩ sp__law_one)) (G_is_records : FnOk P w K mg base (L2.CX P w) 10 T.f_is_records T.fd_is_records ["rows"] (lSp ⟨K, CA, T.TA⟩ sp_is_records)) : FnOk P w K mg base (L2.CX P w) 12 T.f_law T.fd_law ["_law_script"] (lSp ⟨K, CA, T.TA⟩ sp_law) :=
  fn_ok (td := td_law) T.F_law sc_law ⟨K, CA, T.TA⟩ len_law (by decide) (fun cdv A outer s H E hr => (dss_cons (ds_for (ps_for (passes_of rfl) rfl (di_range1 (by rfl) T.z_range (da_cons (de_max2 rfl (by rfl) T.z_max (da_cons de_int (da_cons (de_min2 rfl (by rfl) T.z_min (da_cons (de_len rfl (by rfl) T.z_len (da_cons (de_var 0 (pv 0)) da_nil)) (da_cons de_int da_nil))) da_nil))) da_nil)) (dg_name (pg_name (i := 1) sc_law.nd rfl (by first | exact Or.inl rfl | exact Or.inr rfl))) (dss_cons (ds_setF (ps_set (i := 2) sc_law.nd rfl (by first | exact Or.inl rfl | exact Or.inr rfl) (df_call (takes_of rfl rfl rfl rfl) G__law_pool (hr.mono (by decide)) (by rfl) T.g__law_pool T.F__law_pool.kp T.b__law_pool (da_cons (de_var 0 (pv 0)) (da_cons (de_var 1 (pv 1)) da_nil)))))
  (dss_cons (ds_set (ps_set (i := 3) sc_law.nd rfl (by first | exact Or.inl rfl | exact Or.inr rfl) (de_add de_int (de_call (takes_of rfl rfl rfl rfl) G__law_take (hr.mono (by decide)) (by rfl) T.g__law_take T.F__law_take.kp T.b__law_take (da_consC 2 (pv 2) (da_cons de_int da_nil))))))
  (dss_cons (ds_if (dt_cmp (op_eqD hr.units) (l_eq rfl) (de_call (takes_of rfl rfl rfl rfl) G__law_take (hr.mono (by decide)) (by rfl) T.g__law_take T.F__law_take.kp T.b__law_take (da_consC 2 (pv 2) (da_cons de_int da_nil))) de_int (nomark _)) (dss_one (ds_set (ps_set (i := 3) sc_law.nd rfl (by first | exact Or.inl rfl | exact Or.inr rfl) de_int))) dss_nil)
  (dss_cons (ds_set (ps_set (i := 4) sc_law.nd rfl (by first | exact Or.inl rfl | exact Or.inr rfl) (de_call (takes_of rfl rfl rfl rfl) G__law_letters (hr.mono (by decide)) (by rfl) T.g__law_letters T.F__law_letters.kp T.b__law_letters (da_cons (de_call (takes_of rfl rfl rfl rfl) G__law_cup (hr.mono (by decide)) (by rfl) T.g__law_cup T.F__law_cup.kp T.b__law_cup (da_consC 2 (pv 2) (da_cons (de_call (takes_of rfl rfl rfl rfl) G__law_figures (hr.mono (by decide)) (by rfl) T.g__law_figures T.F__law_figures.kp T.b__law_figures (da_consC 2 (pv 2) (da_cons (de_var 3 (pv 3)) da_nil))) da_nil))) da_nil))))
  (dss_cons (ds_if (dt_cmp (op_neD hr.units) (l_ne rfl) (de_call (takes_of rfl rfl rfl rfl) G__law_due (hr.mono (by decide)) (by rfl) T.g__law_due T.F__law_due.kp T.b__law_due (da_cons (de_var 4 (pv 4)) da_nil)) (de_tup (da_cons de_str (da_cons (de_var 4 (pv 4)) da_nil))) (nomark _)) (dss_one (ds_ret de_bl)) dss_nil)
  (dss_cons (ds_for (ps_for (passes_of rfl) rfl (di_seq (de_f (df_lst (da_cons (de_var 4 (pv 4)) (da_cons (de_call (takes_of rfl rfl rfl rfl) G__law_bent (hr.mono (by decide)) (by rfl) T.g__law_bent T.F__law_bent.kp T.b__law_bent (da_consC 2 (pv 2) (da_cons (de_var 4 (pv 4)) da_nil))) (da_cons (de_call (takes_of rfl rfl rfl rfl) G__law_bent (hr.mono (by decide)) (by rfl) T.g__law_bent T.F__law_bent.kp T.b__law_bent (da_consC 2 (pv 2) (da_cons (de_var 4 (pv 4)) da_nil))) (da_cons (de_call (takes_of rfl rfl rfl rfl) G__law_bent (hr.mono (by decide)) (by rfl) T.g__law_bent T.F__law_bent.kp T.b__law_bent (da_consC 2 (pv 2) (da_cons (de_var 4 (pv 4)) da_nil))) (da_cons (de_tup da_nil) (da_cons (de_mulT (de_tup (da_cons (de_tup da_nil) da_nil)) de_int) (da_cons (de_tup (da_cons (de_tup da_nil) da_nil)) da_nil)))))))))) (dg_name (pg_name (i := 5) sc_law.nd rfl (by first | exact Or.inl rfl | exact Or.inr rfl))) (dss_one (ds_if (dt_not (dt_tru rfl (de_call (takes_of rfl rfl rfl rfl) G__law_right (hr.mono (by decide)) (by rfl) T.g__law_right T.F__law_right.kp T.b__law_right (da_cons (de_var 5 (pv 5)) da_nil)))) (dss_one (ds_ret de_bl)) dss_nil))))
  (dss_cons (ds_parG (ps_par (i := 6) (j := 7) (by rfl) sc_law.nd rfl rfl (by decide) rfl rfl (dag_cons (de_call (takes_of rfl rfl rfl rfl) G__law_take (hr.mono (by decide)) (by rfl) T.g__law_take T.F__law_take.kp T.b__law_take (da_consC 2 (pv 2) (da_cons (de_var 3 (pv 3)) da_nil))) (dag_cons (de_call (takes_of rfl rfl rfl rfl) G__law_one (hr.mono (by decide)) (by rfl) T.g__law_one T.F__law_one.kp T.b__law_one (da_consC 2 (pv 2) (da_cons (de_f (df_lst (da_cons de_non (da_cons de_str (da_cons de_str (da_cons de_int (da_cons (de_tup (da_cons de_str da_nil)) (da_cons (de_tup (da_cons de_non da_nil)) (da_cons (de_tup (da_cons (de_tup da_nil) da_nil)) (da_cons (de_tup (da_cons (de_tup (da_cons de_int da_nil)) da_nil)) (da_cons (de_tup (da_cons de_int (da_cons de_str da_nil))) da_nil))))))))))) da_nil))) dag_nil)) (by rfl)))
  (dss_one (ds_for (ps_for (passes_of rfl) rfl (di_seq (de_f (df_lst (da_cons de_non (da_cons de_str (da_cons de_str (da_cons de_int (da_cons (de_tup (da_cons de_non da_nil)) (da_cons (de_tup (da_cons de_int da_nil)) (da_cons (de_tup (da_cons de_str da_nil)) (da_cons (de_tup (da_cons (de_var 4 (pv 4)) da_nil)) (da_cons (de_add (de_add (de_slice (de_var 4 (pv 4)) do_none (do_some (de_var 6 (pv 6)))) (de_tup (da_cons (de_var 7 (pv 7)) da_nil))) (de_slice (de_var 4 (pv 4)) (do_some (de_add (de_var 6 (pv 6)) de_int)) do_none)) da_nil)))))))))))) (dg_name (pg_name (i := 8) sc_law.nd rfl (by first | exact Or.inl rfl | exact Or.inr rfl))) (dss_one (ds_if (dt_cmp op_notB l_isB (de_call (takes_of rfl rfl rfl rfl) G_is_records (hr.mono (by decide)) (by rfl) T.g_is_records T.F_is_records.kp T.b_is_records (da_cons (de_var 8 (pv 8)) da_nil)) de_bl (nomark _)) (dss_one (ds_ret de_bl)) dss_nil))))))))))))))
  (dss_one (ds_ret de_bl)))) math_law
theorem all_mk {l : PySem.W.OpenLaw} {w : World} {K : PySem.W.Frag} {h : Heap} {mg : Str → Option Value} {fa : Addr} {f_is_number f_are_numbers f_are_rows f_check_letters f_check_rounds f_made_records f_is_records f__law_pool f__law_take f__law_one f__law_shuffled f__law_figures f__law_may f__law_stair f__law_drawn_round f__law_cup f__law_rounds f__law_letters f__law_due f__law_told f__law_bent f__law_right f_law cc_are_numbers cc_are_rows : Addr} {q : Program} {lo : List Str} {mean : ExcName → Option Value} {mb : Str → Option Value} (TOP : PyProof.Rows.Top q lo mean mg mb h) (X : K.In h) (G : h.Ns mainGlobals mg) (hfa : mg "law" = some (.ref fa))
    {od_is_number an_is_number od_are_numbers an_are_numbers od_are_rows an_are_rows od_check_letters an_check_letters od_check_rounds an_check_rounds od_made_records an_made_records od_is_records an_is_records od__law_pool an__law_pool od__law_take an__law_take od__law_one an__law_one od__law_shuffled an__law_shuffled od__law_figures an__law_figures od__law_may an__law_may od__law_stair an__law_stair od__law_drawn_round an__law_drawn_round od__law_cup an__law_cup od__law_rounds an__law_rounds od__law_letters an__law_letters od__law_due an__law_due od__law_told an__law_told od__law_bent an__law_bent od__law_right an__law_right od_law an_law : Option Addr} {sl_is_number sl_are_numbers sl_are_rows sl_check_letters sl_check_rounds sl_made_records sl_is_records sl__law_pool sl__law_take sl__law_one sl__law_shuffled sl__law_figures sl__law_may sl__law_stair sl__law_drawn_round sl__law_cup sl__law_rounds sl__law_letters sl__law_due sl__law_told sl__law_bent sl__law_right sl_law : Array (Option Value)} {oc_is_number kV_is_number dc_is_number pm_is_number cd_is_number ct_is_number oc_are_numbers kV_are_numbers dc_are_numbers pm_are_numbers ct_are_numbers oc_are_rows kV_are_rows dc_are_rows pm_are_rows ct_are_rows oc_check_letters kV_check_letters dc_check_letters pm_check_letters cd_check_letters ct_check_letters oc_check_rounds kV_check_rounds dc_check_rounds pm_check_rounds cd_check_rounds ct_check_rounds oc_made_records kV_made_records dc_made_records pm_made_records cd_made_records ct_made_records oc_is_records kV_is_records dc_is_records pm_is_records cd_is_records ct_is_records oc__law_pool kV__law_pool dc__law_pool pm__law_pool cd__law_pool ct__law_pool oc__law_take kV__law_take dc__law_take pm__law_take cd__law_take ct__law_take oc__law_one kV__law_one dc__law_one pm__law_one cd__law_one ct__law_one oc__law_shuffled kV__law_shuffled dc__law_shuffled pm__law_shuffled cd__law_shuffled ct__law_shuffled oc__law_figures kV__law_figures dc__law_figures pm__law_figures cd__law_figures ct__law_figures oc__law_may kV__law_may dc__law_may pm__law_may cd__law_may ct__law_may oc__law_stair kV__law_stair dc__law_stair pm__law_stair cd__law_stair ct__law_stair oc__law_drawn_round kV__law_drawn_round dc__law_drawn_round pm__law_drawn_round cd__law_drawn_round ct__law_drawn_round oc__law_cup kV__law_cup dc__law_cup pm__law_cup cd__law_cup ct__law_cup oc__law_rounds kV__law_rounds dc__law_rounds pm__law_rounds cd__law_rounds ct__law_rounds oc__law_letters kV__law_letters dc__law_letters pm__law_letters cd__law_letters ct__law_letters oc__law_due kV__law_due dc__law_due pm__law_due cd__law_due ct__law_due oc__law_told kV__law_told dc__law_told pm__law_told cd__law_told ct__law_told oc__law_bent kV__law_bent dc__law_bent pm__law_bent cd__law_bent ct__law_bent oc__law_right kV__law_right dc__law_right pm__law_right cd__law_right ct__law_right oc_law kV_law dc_law pm_law cd_law ct_law : Value}
    {t_LOSES t_MOST_SIDES t_RESTS t_WINS : Tok}
    {f_ini C_Refused C_BadSize C_BadRounds C_BadRecord : Addr} {od_ini an_ini : Option Addr} {sl_ini : Array (Option Value)} {oc_ini kV_ini dc_ini pm_ini cd_ini ct_ini : Value}
    {nm_BadRecord qn_BadRecord : Str} {N_BadRecord : Addr} {bs_BadRecord bm_BadRecord : List Value} {sn_BadRecord : List Str} {sub_BadRecord : List Value} {ab_BadRecord : Bool} {col_BadRecord : Option Bool} {dd_BadRecord : Option Addr} {m0_BadRecord m1_BadRecord m2_BadRecord m3_BadRecord m5_BadRecord : Option Value}
    {nm_BadRounds qn_BadRounds : Str} {N_BadRounds : Addr} {bs_BadRounds bm_BadRounds : List Value} {sn_BadRounds : List Str} {sub_BadRounds : List Value} {ab_BadRounds : Bool} {col_BadRounds : Option Bool} {dd_BadRounds : Option Addr} {m0_BadRounds m1_BadRounds m2_BadRounds m3_BadRounds m5_BadRounds : Option Value}
    {nm_BadSize qn_BadSize : Str} {N_BadSize : Addr} {bs_BadSize bm_BadSize : List Value} {sn_BadSize : List Str} {sub_BadSize : List Value} {ab_BadSize : Bool} {col_BadSize : Option Bool} {dd_BadSize : Option Addr} {m0_BadSize m1_BadSize m2_BadSize m3_BadSize m5_BadSize : Option Value}
    (l_ini : K.lookup f_ini = some ⟨oc_ini, od_ini, .func (PySem.W.fnOf "__init__" "Refused.__init__" (defArgs st_ini) (defBody st_ini) (defScope st_ini) .none kV_ini dc_ini pm_ini an_ini cd_ini ct_ini), sl_ini⟩) (c_ini : PySem.W.codeIn K cd_ini "Refused.__init__" = true) (k_ini : PySem.W.keepIn K (.ref f_ini) = true) (t_ini : PySem.W.typeIn K (.ref f_ini) = some (.type "function"))
    (aC_Refused : PySem.W.nsIn K mainGlobals "Refused" = some (some (.ref C_Refused)))
    (aC_BadSize : PySem.W.nsIn K mainGlobals "BadSize" = some (some (.ref C_BadSize)))
    (aC_BadRounds : PySem.W.nsIn K mainGlobals "BadRounds" = some (some (.ref C_BadRounds)))
    (aC_BadRecord : PySem.W.nsIn K mainGlobals "BadRecord" = some (some (.ref C_BadRecord)))
    (xL_BadRecord : K.lookup C_BadRecord = some (excClassObj nm_BadRecord qn_BadRecord C_BadRecord N_BadRecord bs_BadRecord bm_BadRecord true sn_BadRecord sub_BadRecord ab_BadRecord col_BadRecord dd_BadRecord m0_BadRecord m1_BadRecord m2_BadRecord m3_BadRecord m5_BadRecord "ValueError.__new__")) (rv_BadRecord : PySem.HandSPX.refsVE bm_BadRecord = true)
    (sa_BadRecord : PySem.W.findIn K (.ref C_BadRecord) "__setattr__" = some (some (.builtin "object.__setattr__"))) (kC_BadRecord : PySem.W.keepIn K (.ref C_BadRecord) = true)
    (nw_BadRecord : PySem.W.findIn K (.ref C_BadRecord) "what" = some none) (iC_BadRecord : PySem.W.findIn K (.ref C_BadRecord) "__init__" = some (some (.ref f_ini))) (ga_BadRecord : PySem.W.findIn K (.ref C_BadRecord) "__getattribute__" = some (some (.builtin "BaseException.__getattribute__"))) (gg_BadRecord : PySem.W.findIn K (.ref C_BadRecord) "__getattr__" = some none) (hC_BadRecord : PySem.W.hasDictIn K C_BadRecord = true)
    (su_BadRecord_Refused : PySem.W.subIn K (.ref C_BadRecord) (.ref C_Refused) = some true)
    (su_BadRecord_BadSize : PySem.W.subIn K (.ref C_BadRecord) (.ref C_BadSize) = some false)
    (su_BadRecord_BadRecord : PySem.W.subIn K (.ref C_BadRecord) (.ref C_BadRecord) = some true)
    (su_BadRecord_BadRounds : PySem.W.subIn K (.ref C_BadRecord) (.ref C_BadRounds) = some false)
    (xL_BadRounds : K.lookup C_BadRounds = some (excClassObj nm_BadRounds qn_BadRounds C_BadRounds N_BadRounds bs_BadRounds bm_BadRounds true sn_BadRounds sub_BadRounds ab_BadRounds col_BadRounds dd_BadRounds m0_BadRounds m1_BadRounds m2_BadRounds m3_BadRounds m5_BadRounds "ValueError.__new__")) (rv_BadRounds : PySem.HandSPX.refsVE bm_BadRounds = true)
    (sa_BadRounds : PySem.W.findIn K (.ref C_BadRounds) "__setattr__" = some (some (.builtin "object.__setattr__"))) (kC_BadRounds : PySem.W.keepIn K (.ref C_BadRounds) = true)
    (nw_BadRounds : PySem.W.findIn K (.ref C_BadRounds) "what" = some none) (iC_BadRounds : PySem.W.findIn K (.ref C_BadRounds) "__init__" = some (some (.ref f_ini))) (ga_BadRounds : PySem.W.findIn K (.ref C_BadRounds) "__getattribute__" = some (some (.builtin "BaseException.__getattribute__"))) (gg_BadRounds : PySem.W.findIn K (.ref C_BadRounds) "__getattr__" = some none) (hC_BadRounds : PySem.W.hasDictIn K C_BadRounds = true)
    (su_BadRounds_Refused : PySem.W.subIn K (.ref C_BadRounds) (.ref C_Refused) = some true)
    (su_BadRounds_BadSize : PySem.W.subIn K (.ref C_BadRounds) (.ref C_BadSize) = some false)
    (su_BadRounds_BadRecord : PySem.W.subIn K (.ref C_BadRounds) (.ref C_BadRecord) = some false)
    (su_BadRounds_BadRounds : PySem.W.subIn K (.ref C_BadRounds) (.ref C_BadRounds) = some true)
    (xL_BadSize : K.lookup C_BadSize = some (excClassObj nm_BadSize qn_BadSize C_BadSize N_BadSize bs_BadSize bm_BadSize true sn_BadSize sub_BadSize ab_BadSize col_BadSize dd_BadSize m0_BadSize m1_BadSize m2_BadSize m3_BadSize m5_BadSize "ValueError.__new__")) (rv_BadSize : PySem.HandSPX.refsVE bm_BadSize = true)
    (sa_BadSize : PySem.W.findIn K (.ref C_BadSize) "__setattr__" = some (some (.builtin "object.__setattr__"))) (kC_BadSize : PySem.W.keepIn K (.ref C_BadSize) = true)
    (nw_BadSize : PySem.W.findIn K (.ref C_BadSize) "what" = some none) (iC_BadSize : PySem.W.findIn K (.ref C_BadSize) "__init__" = some (some (.ref f_ini))) (ga_BadSize : PySem.W.findIn K (.ref C_BadSize) "__getattribute__" = some (some (.builtin "BaseException.__getattribute__"))) (gg_BadSize : PySem.W.findIn K (.ref C_BadSize) "__getattr__" = some none) (hC_BadSize : PySem.W.hasDictIn K C_BadSize = true)
    (su_BadSize_Refused : PySem.W.subIn K (.ref C_BadSize) (.ref C_Refused) = some true)
    (su_BadSize_BadSize : PySem.W.subIn K (.ref C_BadSize) (.ref C_BadSize) = some true)
    (su_BadSize_BadRecord : PySem.W.subIn K (.ref C_BadSize) (.ref C_BadRecord) = some false)
    (su_BadSize_BadRounds : PySem.W.subIn K (.ref C_BadSize) (.ref C_BadRounds) = some false)
    (eC_Refused : PySem.W.subIn K (.ref C_Refused) (.type "BaseException") = some true) (tC_Refused : PySem.W.typeIn K (.ref C_Refused) = some (.type "type")) (oC_Refused : PySem.W.isClsIn K C_Refused = true)
    (eC_BadSize : PySem.W.subIn K (.ref C_BadSize) (.type "BaseException") = some true) (tC_BadSize : PySem.W.typeIn K (.ref C_BadSize) = some (.type "type")) (oC_BadSize : PySem.W.isClsIn K C_BadSize = true)
    (eC_BadRounds : PySem.W.subIn K (.ref C_BadRounds) (.type "BaseException") = some true) (tC_BadRounds : PySem.W.typeIn K (.ref C_BadRounds) = some (.type "type")) (oC_BadRounds : PySem.W.isClsIn K C_BadRounds = true)
    (eC_BadRecord : PySem.W.subIn K (.ref C_BadRecord) (.type "BaseException") = some true) (tC_BadRecord : PySem.W.typeIn K (.ref C_BadRecord) = some (.type "type")) (oC_BadRecord : PySem.W.isClsIn K C_BadRecord = true)
    (a_is_number : PySem.W.nsIn K mainGlobals "is_number" = some (some (.ref f_is_number))) (l_is_number : K.lookup f_is_number = some ⟨oc_is_number, od_is_number, .func (PySem.W.fnOf "is_number" "is_number" (defArgs st_is_number) (defBody st_is_number) (defScope st_is_number) .none kV_is_number dc_is_number pm_is_number an_is_number cd_is_number ct_is_number), sl_is_number⟩) (c_is_number : PySem.W.codeIn K cd_is_number "is_number" = true) (k_is_number : PySem.W.keepIn K (.ref f_is_number) = true)
    (a_are_numbers : PySem.W.nsIn K mainGlobals "are_numbers" = some (some (.ref f_are_numbers))) (l_are_numbers : K.lookup f_are_numbers = some ⟨oc_are_numbers, od_are_numbers, .func (PySem.W.fnOf "are_numbers" "are_numbers" (defArgs st_are_numbers) (defBody st_are_numbers) (defScope st_are_numbers) .none kV_are_numbers dc_are_numbers pm_are_numbers an_are_numbers (.ref cc_are_numbers) ct_are_numbers), sl_are_numbers⟩) (c_are_numbers : PySem.W.codeIn K (.ref cc_are_numbers) "are_numbers" = true) (k_are_numbers : PySem.W.keepIn K (.ref f_are_numbers) = true)
    (rq_are_numbers : ((PyProof.Rows.recsOf q).find? (fun e => e.name == ("are_numbers" : Str))).isSome = true) (ti_are_numbers : (PySem.W.tabIn K "are_numbers").isSome = true)
    (a_are_rows : PySem.W.nsIn K mainGlobals "are_rows" = some (some (.ref f_are_rows))) (l_are_rows : K.lookup f_are_rows = some ⟨oc_are_rows, od_are_rows, .func (PySem.W.fnOf "are_rows" "are_rows" (defArgs st_are_rows) (defBody st_are_rows) (defScope st_are_rows) .none kV_are_rows dc_are_rows pm_are_rows an_are_rows (.ref cc_are_rows) ct_are_rows), sl_are_rows⟩) (c_are_rows : PySem.W.codeIn K (.ref cc_are_rows) "are_rows" = true) (k_are_rows : PySem.W.keepIn K (.ref f_are_rows) = true)
    (rq_are_rows : ((PyProof.Rows.recsOf q).find? (fun e => e.name == ("are_rows" : Str))).isSome = true) (ti_are_rows : (PySem.W.tabIn K "are_rows").isSome = true)
    (a_check_letters : PySem.W.nsIn K mainGlobals "check_letters" = some (some (.ref f_check_letters))) (l_check_letters : K.lookup f_check_letters = some ⟨oc_check_letters, od_check_letters, .func (PySem.W.fnOf "check_letters" "check_letters" (defArgs st_check_letters) (defBody st_check_letters) (defScope st_check_letters) .none kV_check_letters dc_check_letters pm_check_letters an_check_letters cd_check_letters ct_check_letters), sl_check_letters⟩) (c_check_letters : PySem.W.codeIn K cd_check_letters "check_letters" = true) (k_check_letters : PySem.W.keepIn K (.ref f_check_letters) = true)
    (a_check_rounds : PySem.W.nsIn K mainGlobals "check_rounds" = some (some (.ref f_check_rounds))) (l_check_rounds : K.lookup f_check_rounds = some ⟨oc_check_rounds, od_check_rounds, .func (PySem.W.fnOf "check_rounds" "check_rounds" (defArgs st_check_rounds) (defBody st_check_rounds) (defScope st_check_rounds) .none kV_check_rounds dc_check_rounds pm_check_rounds an_check_rounds cd_check_rounds ct_check_rounds), sl_check_rounds⟩) (c_check_rounds : PySem.W.codeIn K cd_check_rounds "check_rounds" = true) (k_check_rounds : PySem.W.keepIn K (.ref f_check_rounds) = true)
    (a_made_records : PySem.W.nsIn K mainGlobals "made_records" = some (some (.ref f_made_records))) (l_made_records : K.lookup f_made_records = some ⟨oc_made_records, od_made_records, .func (PySem.W.fnOf "made_records" "made_records" (defArgs st_made_records) (defBody st_made_records) (defScope st_made_records) .none kV_made_records dc_made_records pm_made_records an_made_records cd_made_records ct_made_records), sl_made_records⟩) (c_made_records : PySem.W.codeIn K cd_made_records "made_records" = true) (k_made_records : PySem.W.keepIn K (.ref f_made_records) = true)
    (a_is_records : PySem.W.nsIn K mainGlobals "is_records" = some (some (.ref f_is_records))) (l_is_records : K.lookup f_is_records = some ⟨oc_is_records, od_is_records, .func (PySem.W.fnOf "is_records" "is_records" (defArgs st_is_records) (defBody st_is_records) (defScope st_is_records) .none kV_is_records dc_is_records pm_is_records an_is_records cd_is_records ct_is_records), sl_is_records⟩) (c_is_records : PySem.W.codeIn K cd_is_records "is_records" = true) (k_is_records : PySem.W.keepIn K (.ref f_is_records) = true)
    (a__law_pool : PySem.W.nsIn K mainGlobals "_law_pool" = some (some (.ref f__law_pool))) (l__law_pool : K.lookup f__law_pool = some ⟨oc__law_pool, od__law_pool, .func (PySem.W.fnOf "_law_pool" "_law_pool" (defArgs st__law_pool) (defBody st__law_pool) (defScope st__law_pool) .none kV__law_pool dc__law_pool pm__law_pool an__law_pool cd__law_pool ct__law_pool), sl__law_pool⟩) (c__law_pool : PySem.W.codeIn K cd__law_pool "_law_pool" = true) (k__law_pool : PySem.W.keepIn K (.ref f__law_pool) = true)
    (a__law_take : PySem.W.nsIn K mainGlobals "_law_take" = some (some (.ref f__law_take))) (l__law_take : K.lookup f__law_take = some ⟨oc__law_take, od__law_take, .func (PySem.W.fnOf "_law_take" "_law_take" (defArgs st__law_take) (defBody st__law_take) (defScope st__law_take) .none kV__law_take dc__law_take pm__law_take an__law_take cd__law_take ct__law_take), sl__law_take⟩) (c__law_take : PySem.W.codeIn K cd__law_take "_law_take" = true) (k__law_take : PySem.W.keepIn K (.ref f__law_take) = true)
    (a__law_one : PySem.W.nsIn K mainGlobals "_law_one" = some (some (.ref f__law_one))) (l__law_one : K.lookup f__law_one = some ⟨oc__law_one, od__law_one, .func (PySem.W.fnOf "_law_one" "_law_one" (defArgs st__law_one) (defBody st__law_one) (defScope st__law_one) .none kV__law_one dc__law_one pm__law_one an__law_one cd__law_one ct__law_one), sl__law_one⟩) (c__law_one : PySem.W.codeIn K cd__law_one "_law_one" = true) (k__law_one : PySem.W.keepIn K (.ref f__law_one) = true)
    (a__law_shuffled : PySem.W.nsIn K mainGlobals "_law_shuffled" = some (some (.ref f__law_shuffled))) (l__law_shuffled : K.lookup f__law_shuffled = some ⟨oc__law_shuffled, od__law_shuffled, .func (PySem.W.fnOf "_law_shuffled" "_law_shuffled" (defArgs st__law_shuffled) (defBody st__law_shuffled) (defScope st__law_shuffled) .none kV__law_shuffled dc__law_shuffled pm__law_shuffled an__law_shuffled cd__law_shuffled ct__law_shuffled), sl__law_shuffled⟩) (c__law_shuffled : PySem.W.codeIn K cd__law_shuffled "_law_shuffled" = true) (k__law_shuffled : PySem.W.keepIn K (.ref f__law_shuffled) = true)
    (a__law_figures : PySem.W.nsIn K mainGlobals "_law_figures" = some (some (.ref f__law_figures))) (l__law_figures : K.lookup f__law_figures = some ⟨oc__law_figures, od__law_figures, .func (PySem.W.fnOf "_law_figures" "_law_figures" (defArgs st__law_figures) (defBody st__law_figures) (defScope st__law_figures) .none kV__law_figures dc__law_figures pm__law_figures an__law_figures cd__law_figures ct__law_figures), sl__law_figures⟩) (c__law_figures : PySem.W.codeIn K cd__law_figures "_law_figures" = true) (k__law_figures : PySem.W.keepIn K (.ref f__law_figures) = true)
    (a__law_may : PySem.W.nsIn K mainGlobals "_law_may" = some (some (.ref f__law_may))) (l__law_may : K.lookup f__law_may = some ⟨oc__law_may, od__law_may, .func (PySem.W.fnOf "_law_may" "_law_may" (defArgs st__law_may) (defBody st__law_may) (defScope st__law_may) .none kV__law_may dc__law_may pm__law_may an__law_may cd__law_may ct__law_may), sl__law_may⟩) (c__law_may : PySem.W.codeIn K cd__law_may "_law_may" = true) (k__law_may : PySem.W.keepIn K (.ref f__law_may) = true)
    (a__law_stair : PySem.W.nsIn K mainGlobals "_law_stair" = some (some (.ref f__law_stair))) (l__law_stair : K.lookup f__law_stair = some ⟨oc__law_stair, od__law_stair, .func (PySem.W.fnOf "_law_stair" "_law_stair" (defArgs st__law_stair) (defBody st__law_stair) (defScope st__law_stair) .none kV__law_stair dc__law_stair pm__law_stair an__law_stair cd__law_stair ct__law_stair), sl__law_stair⟩) (c__law_stair : PySem.W.codeIn K cd__law_stair "_law_stair" = true) (k__law_stair : PySem.W.keepIn K (.ref f__law_stair) = true)
    (a__law_drawn_round : PySem.W.nsIn K mainGlobals "_law_drawn_round" = some (some (.ref f__law_drawn_round))) (l__law_drawn_round : K.lookup f__law_drawn_round = some ⟨oc__law_drawn_round, od__law_drawn_round, .func (PySem.W.fnOf "_law_drawn_round" "_law_drawn_round" (defArgs st__law_drawn_round) (defBody st__law_drawn_round) (defScope st__law_drawn_round) .none kV__law_drawn_round dc__law_drawn_round pm__law_drawn_round an__law_drawn_round cd__law_drawn_round ct__law_drawn_round), sl__law_drawn_round⟩) (c__law_drawn_round : PySem.W.codeIn K cd__law_drawn_round "_law_drawn_round" = true) (k__law_drawn_round : PySem.W.keepIn K (.ref f__law_drawn_round) = true)
    (a__law_cup : PySem.W.nsIn K mainGlobals "_law_cup" = some (some (.ref f__law_cup))) (l__law_cup : K.lookup f__law_cup = some ⟨oc__law_cup, od__law_cup, .func (PySem.W.fnOf "_law_cup" "_law_cup" (defArgs st__law_cup) (defBody st__law_cup) (defScope st__law_cup) .none kV__law_cup dc__law_cup pm__law_cup an__law_cup cd__law_cup ct__law_cup), sl__law_cup⟩) (c__law_cup : PySem.W.codeIn K cd__law_cup "_law_cup" = true) (k__law_cup : PySem.W.keepIn K (.ref f__law_cup) = true)
    (a__law_rounds : PySem.W.nsIn K mainGlobals "_law_rounds" = some (some (.ref f__law_rounds))) (l__law_rounds : K.lookup f__law_rounds = some ⟨oc__law_rounds, od__law_rounds, .func (PySem.W.fnOf "_law_rounds" "_law_rounds" (defArgs st__law_rounds) (defBody st__law_rounds) (defScope st__law_rounds) .none kV__law_rounds dc__law_rounds pm__law_rounds an__law_rounds cd__law_rounds ct__law_rounds), sl__law_rounds⟩) (c__law_rounds : PySem.W.codeIn K cd__law_rounds "_law_rounds" = true) (k__law_rounds : PySem.W.keepIn K (.ref f__law_rounds) = true)
    (a__law_letters : PySem.W.nsIn K mainGlobals "_law_letters" = some (some (.ref f__law_letters))) (l__law_letters : K.lookup f__law_letters = some ⟨oc__law_letters, od__law_letters, .func (PySem.W.fnOf "_law_letters" "_law_letters" (defArgs st__law_letters) (defBody st__law_letters) (defScope st__law_letters) .none kV__law_letters dc__law_letters pm__law_letters an__law_letters cd__law_letters ct__law_letters), sl__law_letters⟩) (c__law_letters : PySem.W.codeIn K cd__law_letters "_law_letters" = true) (k__law_letters : PySem.W.keepIn K (.ref f__law_letters) = true)
    (a__law_due : PySem.W.nsIn K mainGlobals "_law_due" = some (some (.ref f__law_due))) (l__law_due : K.lookup f__law_due = some ⟨oc__law_due, od__law_due, .func (PySem.W.fnOf "_law_due" "_law_due" (defArgs st__law_due) (defBody st__law_due) (defScope st__law_due) .none kV__law_due dc__law_due pm__law_due an__law_due cd__law_due ct__law_due), sl__law_due⟩) (c__law_due : PySem.W.codeIn K cd__law_due "_law_due" = true) (k__law_due : PySem.W.keepIn K (.ref f__law_due) = true)
    (a__law_told : PySem.W.nsIn K mainGlobals "_law_told" = some (some (.ref f__law_told))) (l__law_told : K.lookup f__law_told = some ⟨oc__law_told, od__law_told, .func (PySem.W.fnOf "_law_told" "_law_told" (defArgs st__law_told) (defBody st__law_told) (defScope st__law_told) .none kV__law_told dc__law_told pm__law_told an__law_told cd__law_told ct__law_told), sl__law_told⟩) (c__law_told : PySem.W.codeIn K cd__law_told "_law_told" = true) (k__law_told : PySem.W.keepIn K (.ref f__law_told) = true)
    (a__law_bent : PySem.W.nsIn K mainGlobals "_law_bent" = some (some (.ref f__law_bent))) (l__law_bent : K.lookup f__law_bent = some ⟨oc__law_bent, od__law_bent, .func (PySem.W.fnOf "_law_bent" "_law_bent" (defArgs st__law_bent) (defBody st__law_bent) (defScope st__law_bent) .none kV__law_bent dc__law_bent pm__law_bent an__law_bent cd__law_bent ct__law_bent), sl__law_bent⟩) (c__law_bent : PySem.W.codeIn K cd__law_bent "_law_bent" = true) (k__law_bent : PySem.W.keepIn K (.ref f__law_bent) = true)
    (a__law_right : PySem.W.nsIn K mainGlobals "_law_right" = some (some (.ref f__law_right))) (l__law_right : K.lookup f__law_right = some ⟨oc__law_right, od__law_right, .func (PySem.W.fnOf "_law_right" "_law_right" (defArgs st__law_right) (defBody st__law_right) (defScope st__law_right) .none kV__law_right dc__law_right pm__law_right an__law_right cd__law_right ct__law_right), sl__law_right⟩) (c__law_right : PySem.W.codeIn K cd__law_right "_law_right" = true) (k__law_right : PySem.W.keepIn K (.ref f__law_right) = true)
    (a_law : PySem.W.nsIn K mainGlobals "law" = some (some (.ref f_law))) (l_law : K.lookup f_law = some ⟨oc_law, od_law, .func (PySem.W.fnOf "law" "law" (defArgs st_law) (defBody st_law) (defScope st_law) .none kV_law dc_law pm_law an_law cd_law ct_law), sl_law⟩) (c_law : PySem.W.codeIn K cd_law "law" = true) (k_law : PySem.W.keepIn K (.ref f_law) = true)
    (nt_ : PySem.W.noTabs K = true)
    (z_all : PySem.W.nsIn K mainGlobals "all" = some none)
    (z_bool : PySem.W.nsIn K mainGlobals "bool" = some none)
    (z_enumerate : PySem.W.nsIn K mainGlobals "enumerate" = some none)
    (z_int : PySem.W.nsIn K mainGlobals "int" = some none)
    (z_isinstance : PySem.W.nsIn K mainGlobals "isinstance" = some none)
    (z_len : PySem.W.nsIn K mainGlobals "len" = some none)
    (z_max : PySem.W.nsIn K mainGlobals "max" = some none)
    (z_min : PySem.W.nsIn K mainGlobals "min" = some none)
    (z_range : PySem.W.nsIn K mainGlobals "range" = some none)
    (z_sorted : PySem.W.nsIn K mainGlobals "sorted" = some none)
    (z_tuple : PySem.W.nsIn K mainGlobals "tuple" = some none)
    (v_LOSES : PySem.W.nsIn K mainGlobals "LOSES" = some (some (.int (-1) t_LOSES)))
    (v_MOST_SIDES : PySem.W.nsIn K mainGlobals "MOST_SIDES" = some (some (.int 32 t_MOST_SIDES)))
    (v_RESTS : PySem.W.nsIn K mainGlobals "RESTS" = some (some (.int 0 t_RESTS)))
    (v_WINS : PySem.W.nsIn K mainGlobals "WINS" = some (some (.int 1 t_WINS)))
    : LamX.LawAtS l w K (L2.CX l.prog w) 12 63 "_law_script" mg fa h := by
  have e := hfa.symm.trans (PySem.W.mg_of X G a_law)
  cases e
  obtain ⟨⟨cq_are_numbers, tt_are_numbers⟩, eq_are_numbers⟩ := Option.isSome_iff_exists.mp ti_are_numbers
  obtain ⟨dq_are_numbers, rq2_are_numbers⟩ := Option.isSome_iff_exists.mp rq_are_numbers
  have TQ_are_numbers := PySem.W.tab_of TOP X rq2_are_numbers eq_are_numbers
  have CQ_are_numbers : (PySem.Value.ref cc_are_numbers) = .ref cq_are_numbers := PySem.W.law_code X G eq_are_numbers (PySem.W.mg_of X G a_are_numbers) (X _ _ l_are_numbers) rfl
  cases CQ_are_numbers
  obtain ⟨⟨cq_are_rows, tt_are_rows⟩, eq_are_rows⟩ := Option.isSome_iff_exists.mp ti_are_rows
  obtain ⟨dq_are_rows, rq2_are_rows⟩ := Option.isSome_iff_exists.mp rq_are_rows
  have TQ_are_rows := PySem.W.tab_of TOP X rq2_are_rows eq_are_rows
  have CQ_are_rows : (PySem.Value.ref cc_are_rows) = .ref cq_are_rows := PySem.W.law_code X G eq_are_rows (PySem.W.mg_of X G a_are_rows) (X _ _ l_are_rows) rfl
  cases CQ_are_rows
  have ca_Refused : caOf K "Refused" = C_Refused := by simp only [caOf, aC_Refused]
  have ca_BadSize : caOf K "BadSize" = C_BadSize := by simp only [caOf, aC_BadSize]
  have ca_BadRounds : caOf K "BadRounds" = C_BadRounds := by simp only [caOf, aC_BadRounds]
  have ca_BadRecord : caOf K "BadRecord" = C_BadRecord := by simp only [caOf, aC_BadRecord]
  have eer : ∀ c ∈ LC_, ErrC K (caOf K c) f_ini := by
    intro c hc
    simp only [LC_, List.mem_cons, List.not_mem_nil, or_false] at hc
    rcases hc with rfl | rfl | rfl
    · rw [ca_BadRecord]; exact ⟨⟨⟨nm_BadRecord, qn_BadRecord, N_BadRecord, bs_BadRecord, bm_BadRecord, sn_BadRecord, sub_BadRecord, ab_BadRecord, col_BadRecord, dd_BadRecord, m0_BadRecord, m1_BadRecord, m2_BadRecord, m3_BadRecord, m5_BadRecord, xL_BadRecord, rv_BadRecord⟩, sa_BadRecord, eC_BadRecord, tC_BadRecord, kC_BadRecord⟩, nw_BadRecord, iC_BadRecord, ⟨ga_BadRecord, gg_BadRecord, eC_BadRecord, hC_BadRecord⟩⟩
    · rw [ca_BadRounds]; exact ⟨⟨⟨nm_BadRounds, qn_BadRounds, N_BadRounds, bs_BadRounds, bm_BadRounds, sn_BadRounds, sub_BadRounds, ab_BadRounds, col_BadRounds, dd_BadRounds, m0_BadRounds, m1_BadRounds, m2_BadRounds, m3_BadRounds, m5_BadRounds, xL_BadRounds, rv_BadRounds⟩, sa_BadRounds, eC_BadRounds, tC_BadRounds, kC_BadRounds⟩, nw_BadRounds, iC_BadRounds, ⟨ga_BadRounds, gg_BadRounds, eC_BadRounds, hC_BadRounds⟩⟩
    · rw [ca_BadSize]; exact ⟨⟨⟨nm_BadSize, qn_BadSize, N_BadSize, bs_BadSize, bm_BadSize, sn_BadSize, sub_BadSize, ab_BadSize, col_BadSize, dd_BadSize, m0_BadSize, m1_BadSize, m2_BadSize, m3_BadSize, m5_BadSize, xL_BadSize, rv_BadSize⟩, sa_BadSize, eC_BadSize, tC_BadSize, kC_BadSize⟩, nw_BadSize, iC_BadSize, ⟨ga_BadSize, gg_BadSize, eC_BadSize, hC_BadSize⟩⟩
  have emer : ∀ c ∈ LC_, ∀ C ∈ HC_, PySem.W.exmOne K (.ref (caOf K c)) (.ref (caOf K C)) = some (subE c C) := by
    intro c hc C hC
    simp only [LC_, HC_, List.mem_cons, List.not_mem_nil, or_false] at hc hC
    rcases hc with rfl | rfl | rfl <;> rcases hC with rfl | rfl | rfl | rfl
    · rw [ca_BadRecord, ca_Refused]; exact (exm_mk eC_Refused oC_Refused tC_Refused su_BadRecord_Refused).trans (by decide)
    · rw [ca_BadRecord, ca_BadSize]; exact (exm_mk eC_BadSize oC_BadSize tC_BadSize su_BadRecord_BadSize).trans (by decide)
    · rw [ca_BadRecord]; exact (exm_mk eC_BadRecord oC_BadRecord tC_BadRecord su_BadRecord_BadRecord).trans (by decide)
    · rw [ca_BadRecord, ca_BadRounds]; exact (exm_mk eC_BadRounds oC_BadRounds tC_BadRounds su_BadRecord_BadRounds).trans (by decide)
    · rw [ca_BadRounds, ca_Refused]; exact (exm_mk eC_Refused oC_Refused tC_Refused su_BadRounds_Refused).trans (by decide)
    · rw [ca_BadRounds, ca_BadSize]; exact (exm_mk eC_BadSize oC_BadSize tC_BadSize su_BadRounds_BadSize).trans (by decide)
    · rw [ca_BadRounds, ca_BadRecord]; exact (exm_mk eC_BadRecord oC_BadRecord tC_BadRecord su_BadRounds_BadRecord).trans (by decide)
    · rw [ca_BadRounds]; exact (exm_mk eC_BadRounds oC_BadRounds tC_BadRounds su_BadRounds_BadRounds).trans (by decide)
    · rw [ca_BadSize, ca_Refused]; exact (exm_mk eC_Refused oC_Refused tC_Refused su_BadSize_Refused).trans (by decide)
    · rw [ca_BadSize]; exact (exm_mk eC_BadSize oC_BadSize tC_BadSize su_BadSize_BadSize).trans (by decide)
    · rw [ca_BadSize, ca_BadRecord]; exact (exm_mk eC_BadRecord oC_BadRecord tC_BadRecord su_BadSize_BadRecord).trans (by decide)
    · rw [ca_BadSize, ca_BadRounds]; exact (exm_mk eC_BadRounds oC_BadRounds tC_BadRounds su_BadSize_BadRounds).trans (by decide)
  let T : Txt K mg (caOf K) := { f_ini := f_ini, fd_ini := _, F_ini := fun_mk (st := st_ini) l_ini c_ini k_ini, b_ini := (fun_mk (st := st_ini) l_ini c_ini k_ini).binds (ps := ["self", "what"]) (fun _ _ _ _ _ _ us hl => match us, hl with | [_, _], _ => rfl), ti_ini := t_ini, e_er := eer, em_er := emer, gC_Refused := by rw [ca_Refused]; exact PySem.W.mg_of X G aC_Refused, gC_BadSize := by rw [ca_BadSize]; exact PySem.W.mg_of X G aC_BadSize, gC_BadRounds := by rw [ca_BadRounds]; exact PySem.W.mg_of X G aC_BadRounds, gC_BadRecord := by rw [ca_BadRecord]; exact PySem.W.mg_of X G aC_BadRecord, f_is_number := f_is_number, fd_is_number := _, F_is_number := fun_mk (st := st_is_number) l_is_number c_is_number k_is_number, b_is_number := (fun_mk (st := st_is_number) l_is_number c_is_number k_is_number).binds (ps := ["value"]) (fun _ _ _ _ _ _ us hl => match us, hl with | [_], _ => rfl), g_is_number := PySem.W.mg_of X G a_is_number, f_are_numbers := f_are_numbers, fd_are_numbers := _, F_are_numbers := fun_mk (st := st_are_numbers) l_are_numbers c_are_numbers k_are_numbers, b_are_numbers := (fun_mk (st := st_are_numbers) l_are_numbers c_are_numbers k_are_numbers).binds (ps := ["value"]) (fun _ _ _ _ _ _ us hl => match us, hl with | [_], _ => rfl), g_are_numbers := PySem.W.mg_of X G a_are_numbers, cc_are_numbers := cc_are_numbers, tt_are_numbers := tt_are_numbers, FC_are_numbers := funC_mk (st := st_are_numbers) l_are_numbers c_are_numbers, f_are_rows := f_are_rows, fd_are_rows := _, F_are_rows := fun_mk (st := st_are_rows) l_are_rows c_are_rows k_are_rows, b_are_rows := (fun_mk (st := st_are_rows) l_are_rows c_are_rows k_are_rows).binds (ps := ["value"]) (fun _ _ _ _ _ _ us hl => match us, hl with | [_], _ => rfl), g_are_rows := PySem.W.mg_of X G a_are_rows, cc_are_rows := cc_are_rows, tt_are_rows := tt_are_rows, FC_are_rows := funC_mk (st := st_are_rows) l_are_rows c_are_rows, f_check_letters := f_check_letters, fd_check_letters := _, F_check_letters := fun_mk (st := st_check_letters) l_check_letters c_check_letters k_check_letters, b_check_letters := (fun_mk (st := st_check_letters) l_check_letters c_check_letters k_check_letters).binds (ps := ["x", "row"]) (fun _ _ _ _ _ _ us hl => match us, hl with | [_, _], _ => rfl), g_check_letters := PySem.W.mg_of X G a_check_letters, f_check_rounds := f_check_rounds, fd_check_rounds := _, F_check_rounds := fun_mk (st := st_check_rounds) l_check_rounds c_check_rounds k_check_rounds, b_check_rounds := (fun_mk (st := st_check_rounds) l_check_rounds c_check_rounds k_check_rounds).binds (ps := ["rows", "longest"]) (fun _ _ _ _ _ _ us hl => match us, hl with | [_, _], _ => rfl), g_check_rounds := PySem.W.mg_of X G a_check_rounds, f_made_records := f_made_records, fd_made_records := _, F_made_records := fun_mk (st := st_made_records) l_made_records c_made_records k_made_records, b_made_records := (fun_mk (st := st_made_records) l_made_records c_made_records k_made_records).binds (ps := ["rows"]) (fun _ _ _ _ _ _ us hl => match us, hl with | [_], _ => rfl), g_made_records := PySem.W.mg_of X G a_made_records, f_is_records := f_is_records, fd_is_records := _, F_is_records := fun_mk (st := st_is_records) l_is_records c_is_records k_is_records, b_is_records := (fun_mk (st := st_is_records) l_is_records c_is_records k_is_records).binds (ps := ["rows"]) (fun _ _ _ _ _ _ us hl => match us, hl with | [_], _ => rfl), g_is_records := PySem.W.mg_of X G a_is_records, f__law_pool := f__law_pool, fd__law_pool := _, F__law_pool := fun_mk (st := st__law_pool) l__law_pool c__law_pool k__law_pool, b__law_pool := (fun_mk (st := st__law_pool) l__law_pool c__law_pool k__law_pool).binds (ps := ["_law_script", "_law_k"]) (fun _ _ _ _ _ _ us hl => match us, hl with | [_, _], _ => rfl), g__law_pool := PySem.W.mg_of X G a__law_pool, f__law_take := f__law_take, fd__law_take := _, F__law_take := fun_mk (st := st__law_take) l__law_take c__law_take k__law_take, b__law_take := (fun_mk (st := st__law_take) l__law_take c__law_take k__law_take).binds (ps := ["_law_source", "_law_top"]) (fun _ _ _ _ _ _ us hl => match us, hl with | [_, _], _ => rfl), g__law_take := PySem.W.mg_of X G a__law_take, f__law_one := f__law_one, fd__law_one := _, F__law_one := fun_mk (st := st__law_one) l__law_one c__law_one k__law_one, b__law_one := (fun_mk (st := st__law_one) l__law_one c__law_one k__law_one).binds (ps := ["_law_source", "_law_things"]) (fun _ _ _ _ _ _ us hl => match us, hl with | [_, _], _ => rfl), g__law_one := PySem.W.mg_of X G a__law_one, f__law_shuffled := f__law_shuffled, fd__law_shuffled := _, F__law_shuffled := fun_mk (st := st__law_shuffled) l__law_shuffled c__law_shuffled k__law_shuffled, b__law_shuffled := (fun_mk (st := st__law_shuffled) l__law_shuffled c__law_shuffled k__law_shuffled).binds (ps := ["_law_source", "_law_count"]) (fun _ _ _ _ _ _ us hl => match us, hl with | [_, _], _ => rfl), g__law_shuffled := PySem.W.mg_of X G a__law_shuffled, f__law_figures := f__law_figures, fd__law_figures := _, F__law_figures := fun_mk (st := st__law_figures) l__law_figures c__law_figures k__law_figures, b__law_figures := (fun_mk (st := st__law_figures) l__law_figures c__law_figures k__law_figures).binds (ps := ["_law_source", "_law_n"]) (fun _ _ _ _ _ _ us hl => match us, hl with | [_, _], _ => rfl), g__law_figures := PySem.W.mg_of X G a__law_figures, f__law_may := f__law_may, fd__law_may := _, F__law_may := fun_mk (st := st__law_may) l__law_may c__law_may k__law_may, b__law_may := (fun_mk (st := st__law_may) l__law_may c__law_may k__law_may).binds (ps := ["_law_figures_here", "_law_y", "_law_x"]) (fun _ _ _ _ _ _ us hl => match us, hl with | [_, _, _], _ => rfl), g__law_may := PySem.W.mg_of X G a__law_may, f__law_stair := f__law_stair, fd__law_stair := _, F__law_stair := fun_mk (st := st__law_stair) l__law_stair c__law_stair k__law_stair, b__law_stair := (fun_mk (st := st__law_stair) l__law_stair c__law_stair k__law_stair).binds (ps := ["_law_figures_here", "_law_sides"]) (fun _ _ _ _ _ _ us hl => match us, hl with | [_, _], _ => rfl), g__law_stair := PySem.W.mg_of X G a__law_stair, f__law_drawn_round := f__law_drawn_round, fd__law_drawn_round := _, F__law_drawn_round := fun_mk (st := st__law_drawn_round) l__law_drawn_round c__law_drawn_round k__law_drawn_round, b__law_drawn_round := (fun_mk (st := st__law_drawn_round) l__law_drawn_round c__law_drawn_round k__law_drawn_round).binds (ps := ["_law_source", "_law_figures_here", "_law_left", "_law_is_full"]) (fun _ _ _ _ _ _ us hl => match us, hl with | [_, _, _, _], _ => rfl), g__law_drawn_round := PySem.W.mg_of X G a__law_drawn_round, f__law_cup := f__law_cup, fd__law_cup := _, F__law_cup := fun_mk (st := st__law_cup) l__law_cup c__law_cup k__law_cup, b__law_cup := (fun_mk (st := st__law_cup) l__law_cup c__law_cup k__law_cup).binds (ps := ["_law_source", "_law_figures_here"]) (fun _ _ _ _ _ _ us hl => match us, hl with | [_, _], _ => rfl), g__law_cup := PySem.W.mg_of X G a__law_cup, f__law_rounds := f__law_rounds, fd__law_rounds := _, F__law_rounds := fun_mk (st := st__law_rounds) l__law_rounds c__law_rounds k__law_rounds, b__law_rounds := (fun_mk (st := st__law_rounds) l__law_rounds c__law_rounds k__law_rounds).binds (ps := ["_law_cup_here"]) (fun _ _ _ _ _ _ us hl => match us, hl with | [_], _ => rfl), g__law_rounds := PySem.W.mg_of X G a__law_rounds, f__law_letters := f__law_letters, fd__law_letters := _, F__law_letters := fun_mk (st := st__law_letters) l__law_letters c__law_letters k__law_letters, b__law_letters := (fun_mk (st := st__law_letters) l__law_letters c__law_letters k__law_letters).binds (ps := ["_law_cup_here"]) (fun _ _ _ _ _ _ us hl => match us, hl with | [_], _ => rfl), g__law_letters := PySem.W.mg_of X G a__law_letters, f__law_due := f__law_due, fd__law_due := _, F__law_due := fun_mk (st := st__law_due) l__law_due c__law_due k__law_due, b__law_due := (fun_mk (st := st__law_due) l__law_due c__law_due k__law_due).binds (ps := ["_law_rows"]) (fun _ _ _ _ _ _ us hl => match us, hl with | [_], _ => rfl), g__law_due := PySem.W.mg_of X G a__law_due, f__law_told := f__law_told, fd__law_told := _, F__law_told := fun_mk (st := st__law_told) l__law_told c__law_told k__law_told, b__law_told := (fun_mk (st := st__law_told) l__law_told c__law_told k__law_told).binds (ps := ["_law_rows"]) (fun _ _ _ _ _ _ us hl => match us, hl with | [_], _ => rfl), g__law_told := PySem.W.mg_of X G a__law_told, f__law_bent := f__law_bent, fd__law_bent := _, F__law_bent := fun_mk (st := st__law_bent) l__law_bent c__law_bent k__law_bent, b__law_bent := (fun_mk (st := st__law_bent) l__law_bent c__law_bent k__law_bent).binds (ps := ["_law_source", "_law_rows"]) (fun _ _ _ _ _ _ us hl => match us, hl with | [_, _], _ => rfl), g__law_bent := PySem.W.mg_of X G a__law_bent, f__law_right := f__law_right, fd__law_right := _, F__law_right := fun_mk (st := st__law_right) l__law_right c__law_right k__law_right, b__law_right := (fun_mk (st := st__law_right) l__law_right c__law_right k__law_right).binds (ps := ["_law_rows"]) (fun _ _ _ _ _ _ us hl => match us, hl with | [_], _ => rfl), g__law_right := PySem.W.mg_of X G a__law_right, f_law := fa, fd_law := _, F_law := fun_mk (st := st_law) l_law c_law k_law, b_law := (fun_mk (st := st_law) l_law c_law k_law).binds (ps := ["_law_script"]) (fun _ _ _ _ _ _ us hl => match us, hl with | [_], _ => rfl), g_law := PySem.W.mg_of X G a_law, z_all := PySem.W.mg_none_of X G z_all, z_bool := PySem.W.mg_none_of X G z_bool, z_enumerate := PySem.W.mg_none_of X G z_enumerate, z_int := PySem.W.mg_none_of X G z_int, z_isinstance := PySem.W.mg_none_of X G z_isinstance, z_len := PySem.W.mg_none_of X G z_len, z_max := PySem.W.mg_none_of X G z_max, z_min := PySem.W.mg_none_of X G z_min, z_range := PySem.W.mg_none_of X G z_range, z_sorted := PySem.W.mg_none_of X G z_sorted, z_tuple := PySem.W.mg_none_of X G z_tuple, t_LOSES := t_LOSES, c_LOSES := PySem.W.mg_of X G v_LOSES, t_MOST_SIDES := t_MOST_SIDES, c_MOST_SIDES := PySem.W.mg_of X G v_MOST_SIDES, t_RESTS := t_RESTS, c_RESTS := PySem.W.mg_of X G v_RESTS, t_WINS := t_WINS, c_WINS := PySem.W.mg_of X G v_WINS }
  refine ⟨PySem.W.fnOf "law" "law" (defArgs st_law) (defBody st_law) (defScope st_law) .none kV_law dc_law pm_law an_law cd_law ct_law, [(cc_are_numbers, tt_are_numbers), (cc_are_rows, tt_are_rows)], lSp ⟨K, caOf K, [tt_are_numbers, tt_are_rows]⟩ sp_law, List.forall_mem_cons.mpr ⟨TQ_are_numbers.2, List.forall_mem_cons.mpr ⟨TQ_are_rows.2, fun _ hp => absurd hp List.not_mem_nil⟩⟩, List.forall_mem_cons.mpr ⟨DL.notab X nt_ TQ_are_numbers.2, List.forall_mem_cons.mpr ⟨DL.notab X nt_ TQ_are_rows.2, fun _ hp => absurd hp List.not_mem_nil⟩⟩, List.forall_mem_cons.mpr ⟨TQ_are_numbers.1, List.forall_mem_cons.mpr ⟨TQ_are_rows.1, fun _ hp => absurd hp List.not_mem_nil⟩⟩, fun s v => .of_eq rfl, fun H a ns hl _ hT hS => DL.sp_start hS (fun P hP => LawP.start_law hl hP) (DL.tabs_empty (cs := [(cc_are_numbers, tt_are_numbers), (cc_are_rows, tt_are_rows)]) hT), fun base _ _ hTB => ?_⟩
  have TB_are_numbers : GxR.TabB base mg cc_are_numbers tt_are_numbers := DL.tabB_of (hTB (cc_are_numbers, tt_are_numbers) (by simp))
  have TB_are_rows : GxR.TabB base mg cc_are_rows tt_are_rows := DL.tabB_of (hTB (cc_are_rows, tt_are_rows) (by simp))
  have G_INI := ok_INI (P := l.prog) (w := w) (base := base) (CA := caOf K) T
  have G_is_number := ok_is_number (P := l.prog) (w := w) (base := base) (CA := caOf K) T
  have G__law_pool := ok__law_pool (P := l.prog) (w := w) (base := base) (CA := caOf K) T
  have G__law_take := ok__law_take (P := l.prog) (w := w) (base := base) (CA := caOf K) T
  have G__law_may := ok__law_may (P := l.prog) (w := w) (base := base) (CA := caOf K) T
  have G__law_stair := ok__law_stair (P := l.prog) (w := w) (base := base) (CA := caOf K) T
  have G__law_rounds := ok__law_rounds (P := l.prog) (w := w) (base := base) (CA := caOf K) T
  have G__law_due := ok__law_due (P := l.prog) (w := w) (base := base) (CA := caOf K) T
  have G__law_one := ok__law_one (P := l.prog) (w := w) (base := base) (CA := caOf K) T G__law_take
  have G__law_shuffled := ok__law_shuffled (P := l.prog) (w := w) (base := base) (CA := caOf K) T G__law_take
  have G__law_letters := ok__law_letters (P := l.prog) (w := w) (base := base) (CA := caOf K) T G__law_rounds
  have G_check_letters := ok_check_letters (P := l.prog) (w := w) (base := base) (CA := caOf K) T G_INI
  have G_check_rounds := ok_check_rounds (P := l.prog) (w := w) (base := base) (CA := caOf K) T G_INI
  have G__law_figures := ok__law_figures (P := l.prog) (w := w) (base := base) (CA := caOf K) T G__law_take G__law_shuffled
  have G__law_drawn_round := ok__law_drawn_round (P := l.prog) (w := w) (base := base) (CA := caOf K) T G__law_shuffled G__law_take G__law_stair G__law_may G__law_one
  have G__law_bent := ok__law_bent (P := l.prog) (w := w) (base := base) (CA := caOf K) T G__law_take G__law_one
  have G_made_records := ok_made_records (P := l.prog) (w := w) (base := base) (CA := caOf K) T G_INI G_check_letters G_check_rounds
  have G__law_cup := ok__law_cup (P := l.prog) (w := w) (base := base) (CA := caOf K) T G__law_take G__law_drawn_round
  have G_are_numbers := ok_are_numbers (P := l.prog) (w := w) (base := base) (CA := caOf K) T TB_are_numbers G_is_number
  have G__law_told := ok__law_told (P := l.prog) (w := w) (base := base) (CA := caOf K) T G_made_records
  have G_are_rows := ok_are_rows (P := l.prog) (w := w) (base := base) (CA := caOf K) T TB_are_rows G_are_numbers
  have G_is_records := ok_is_records (P := l.prog) (w := w) (base := base) (CA := caOf K) T G_are_rows G_made_records
  have G__law_right := ok__law_right (P := l.prog) (w := w) (base := base) (CA := caOf K) T G__law_due G_is_records G__law_told
  exact ok_law (P := l.prog) (w := w) (base := base) (CA := caOf K) T G__law_pool G__law_take G__law_letters G__law_cup G__law_figures G__law_due G__law_bent G__law_right G__law_one G_is_records
end LawP
open PySem PySem.W PyProof.Rows
set_option maxHeartbeats 0 in
theorem PySem.Challenge.cw_boutstairs_k19_tables_of_records_holds : PySem.Challenge.rw_boutstairs_k19_tables_of_records.Holds := by
  w_on; o_law; k_head; (case hw => w_witness2)
  k_fill
  refine DL.walk_gen (l := PySem.Challenge.rw_boutstairs_k19_tables_of_records) (n := 63) (k := 12) (x := "_law_script") (CX := fun w => L2.CX PySem.Challenge.rw_boutstairs_k19_tables_of_records.prog w) rfl (by decide) rfl ⟨rfl, by decide, by decide⟩ (fun w h Y => PySem.W.kIn_of Y) ?F (fun _ _ _ _ _ h => ?C)
  case C =>
    obtain ⟨_, _, _, _, _, _, _, _, _, _, _, _, z⟩ := h
    exact z.elim
  case F =>
    rintro w mg mb fa h ⟨lo, mean, TOP⟩ Y KX G hmg
    refine' LawP.all_mk TOP KX G hmg ?l_ini ?c_ini ?k_ini ?t_ini ?aC_Refused ?aC_BadSize ?aC_BadRounds ?aC_BadRecord ?xL_BadRecord ?rv_BadRecord ?sa_BadRecord ?kC_BadRecord ?nw_BadRecord ?iC_BadRecord ?ga_BadRecord ?gg_BadRecord ?hC_BadRecord ?su_BadRecord_Refused ?su_BadRecord_BadSize ?su_BadRecord_BadRecord ?su_BadRecord_BadRounds ?xL_BadRounds ?rv_BadRounds ?sa_BadRounds ?kC_BadRounds ?nw_BadRounds ?iC_BadRounds ?ga_BadRounds ?gg_BadRounds ?hC_BadRounds ?su_BadRounds_Refused ?su_BadRounds_BadSize ?su_BadRounds_BadRecord ?su_BadRounds_BadRounds ?xL_BadSize ?rv_BadSize ?sa_BadSize ?kC_BadSize ?nw_BadSize ?iC_BadSize ?ga_BadSize ?gg_BadSize ?hC_BadSize ?su_BadSize_Refused ?su_BadSize_BadSize ?su_BadSize_BadRecord ?su_BadSize_BadRounds ?eC_Refused ?tC_Refused ?oC_Refused ?eC_BadSize ?tC_BadSize ?oC_BadSize ?eC_BadRounds ?tC_BadRounds ?oC_BadRounds ?eC_BadRecord ?tC_BadRecord ?oC_BadRecord ?a_is_number ?l_is_number ?c_is_number ?k_is_number ?a_are_numbers ?l_are_numbers ?c_are_numbers ?k_are_numbers ?rq_are_numbers ?ti_are_numbers ?a_are_rows ?l_are_rows ?c_are_rows ?k_are_rows ?rq_are_rows ?ti_are_rows ?a_check_letters ?l_check_letters ?c_check_letters ?k_check_letters ?a_check_rounds ?l_check_rounds ?c_check_rounds ?k_check_rounds ?a_made_records ?l_made_records ?c_made_records ?k_made_records ?a_is_records ?l_is_records ?c_is_records ?k_is_records ?a__law_pool ?l__law_pool ?c__law_pool ?k__law_pool ?a__law_take ?l__law_take ?c__law_take ?k__law_take ?a__law_one ?l__law_one ?c__law_one ?k__law_one ?a__law_shuffled ?l__law_shuffled ?c__law_shuffled ?k__law_shuffled ?a__law_figures ?l__law_figures ?c__law_figures ?k__law_figures ?a__law_may ?l__law_may ?c__law_may ?k__law_may ?a__law_stair ?l__law_stair ?c__law_stair ?k__law_stair ?a__law_drawn_round ?l__law_drawn_round ?c__law_drawn_round ?k__law_drawn_round ?a__law_cup ?l__law_cup ?c__law_cup ?k__law_cup ?a__law_rounds ?l__law_rounds ?c__law_rounds ?k__law_rounds ?a__law_letters ?l__law_letters ?c__law_letters ?k__law_letters ?a__law_due ?l__law_due ?c__law_due ?k__law_due ?a__law_told ?l__law_told ?c__law_told ?k__law_told ?a__law_bent ?l__law_bent ?c__law_bent ?k__law_bent ?a__law_right ?l__law_right ?c__law_right ?k__law_right ?a_law ?l_law ?c_law ?k_law ?nt_ ?z_all ?z_bool ?z_enumerate ?z_int ?z_isinstance ?z_len ?z_max ?z_min ?z_range ?z_sorted ?z_tuple ?v_LOSES ?v_MOST_SIDES ?v_RESTS ?v_WINS
    (case aC_Refused => k_is); (case aC_BadSize => k_is); (case aC_BadRounds => k_is); (case aC_BadRecord => k_is); (case iC_BadRecord => k_is); (case iC_BadRounds => k_is); (case iC_BadSize => k_is); (case l_ini => k_is); (case c_ini => k_is); (case k_ini => k_is); (case t_ini => k_is); (case xL_BadRecord => k_is); (case rv_BadRecord => decide +kernel); (case sa_BadRecord => k_is); (case kC_BadRecord => k_is); (case nw_BadRecord => k_is); (case ga_BadRecord => k_is); (case gg_BadRecord => k_is); (case hC_BadRecord => k_is); (case su_BadRecord_Refused => k_is); (case su_BadRecord_BadSize => k_is); (case su_BadRecord_BadRecord => k_is); (case su_BadRecord_BadRounds => k_is); (case xL_BadRounds => k_is); (case rv_BadRounds => decide +kernel); (case sa_BadRounds => k_is); (case kC_BadRounds => k_is); (case nw_BadRounds => k_is); (case ga_BadRounds => k_is); (case gg_BadRounds => k_is); (case hC_BadRounds => k_is); (case su_BadRounds_Refused => k_is); (case su_BadRounds_BadSize => k_is); (case su_BadRounds_BadRecord => k_is); (case su_BadRounds_BadRounds => k_is); (case xL_BadSize => k_is); (case rv_BadSize => decide +kernel); (case sa_BadSize => k_is); (case kC_BadSize => k_is); (case nw_BadSize => k_is); (case ga_BadSize => k_is); (case gg_BadSize => k_is); (case hC_BadSize => k_is); (case su_BadSize_Refused => k_is); (case su_BadSize_BadSize => k_is); (case su_BadSize_BadRecord => k_is); (case su_BadSize_BadRounds => k_is); (case eC_Refused => k_is); (case tC_Refused => k_is); (case oC_Refused => k_is); (case eC_BadSize => k_is); (case tC_BadSize => k_is); (case oC_BadSize => k_is); (case eC_BadRounds => k_is); (case tC_BadRounds => k_is); (case oC_BadRounds => k_is); (case eC_BadRecord => k_is); (case tC_BadRecord => k_is); (case oC_BadRecord => k_is); (case a_is_number => k_is); (case l_is_number => k_is); (case c_is_number => k_is); (case k_is_number => k_is); (case a_are_numbers => k_is); (case l_are_numbers => k_is); (case c_are_numbers => k_is); (case k_are_numbers => k_is); (case rq_are_numbers => kernel_rfl); (case ti_are_numbers => kernel_rfl); (case a_are_rows => k_is); (case l_are_rows => k_is); (case c_are_rows => k_is); (case k_are_rows => k_is); (case rq_are_rows => kernel_rfl); (case ti_are_rows => kernel_rfl); (case a_check_letters => k_is); (case l_check_letters => k_is); (case c_check_letters => k_is); (case k_check_letters => k_is); (case a_check_rounds => k_is); (case l_check_rounds => k_is); (case c_check_rounds => k_is); (case k_check_rounds => k_is); (case a_made_records => k_is); (case l_made_records => k_is); (case c_made_records => k_is); (case k_made_records => k_is); (case a_is_records => k_is); (case l_is_records => k_is); (case c_is_records => k_is); (case k_is_records => k_is); (case a__law_pool => k_is); (case l__law_pool => k_is); (case c__law_pool => k_is); (case k__law_pool => k_is); (case a__law_take => k_is); (case l__law_take => k_is); (case c__law_take => k_is); (case k__law_take => k_is); (case a__law_one => k_is); (case l__law_one => k_is); (case c__law_one => k_is); (case k__law_one => k_is); (case a__law_shuffled => k_is); (case l__law_shuffled => k_is); (case c__law_shuffled => k_is); (case k__law_shuffled => k_is); (case a__law_figures => k_is); (case l__law_figures => k_is); (case c__law_figures => k_is); (case k__law_figures => k_is); (case a__law_may => k_is); (case l__law_may => k_is); (case c__law_may => k_is); (case k__law_may => k_is); (case a__law_stair => k_is); (case l__law_stair => k_is); (case c__law_stair => k_is); (case k__law_stair => k_is); (case a__law_drawn_round => k_is); (case l__law_drawn_round => k_is); (case c__law_drawn_round => k_is); (case k__law_drawn_round => k_is); (case a__law_cup => k_is); (case l__law_cup => k_is); (case c__law_cup => k_is); (case k__law_cup => k_is); (case a__law_rounds => k_is); (case l__law_rounds => k_is); (case c__law_rounds => k_is); (case k__law_rounds => k_is); (case a__law_letters => k_is); (case l__law_letters => k_is); (case c__law_letters => k_is); (case k__law_letters => k_is); (case a__law_due => k_is); (case l__law_due => k_is); (case c__law_due => k_is); (case k__law_due => k_is); (case a__law_told => k_is); (case l__law_told => k_is); (case c__law_told => k_is); (case k__law_told => k_is); (case a__law_bent => k_is); (case l__law_bent => k_is); (case c__law_bent => k_is); (case k__law_bent => k_is); (case a__law_right => k_is); (case l__law_right => k_is); (case c__law_right => k_is); (case k__law_right => k_is); (case a_law => k_is); (case l_law => k_is); (case c_law => k_is); (case k_law => k_is); (case nt_ => kernel_rfl); (case z_all => k_is); (case z_bool => k_is); (case z_enumerate => k_is); (case z_int => k_is); (case z_isinstance => k_is); (case z_len => k_is); (case z_max => k_is); (case z_min => k_is); (case z_range => k_is); (case z_sorted => k_is); (case z_tuple => k_is); (case v_LOSES => k_is); (case v_MOST_SIDES => k_is); (case v_RESTS => k_is); (case v_WINS => k_is)
